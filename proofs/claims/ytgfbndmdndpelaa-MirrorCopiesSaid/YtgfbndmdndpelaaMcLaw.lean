/- MirrorCopies' walk over the contracts. -/
import Derived.Test.YtgfbndmdndpelaaMdLaw
import Derived.Test.YtgfbndmdndpelaaMirE
import Derived.Test.YtgfbndmdndpelaaStepB
import Derived.Deep.DeepCutAuto
import Derived.Deep.CutRange
namespace Go.Proofs.Ytgfbndmdndpelaa
open Go.RowKit
set_option linter.unusedVariables false
theorem mask2 (v : Int) : ∃ N : Nat, bits .and .i64 v 3 = (N : Int) ∧ N < 4 := by
  have h := i64_mask v 2 (by decide)
  have h2 : bits .and .i64 v 3 = v % 4 := h
  exact ⟨(v % 4).toNat, by rw [h2]; omega, by omega⟩
theorem ok_is {ok dx dy : Bool} {R : Prop} (h : ok = true ↔ R ∧ dx = false ∧ dy = false) (hR : R) : ok = (!dx && !dy) := by
  cases ok <;> cases dx <;> cases dy <;> simp_all
set_option maxRecDepth 100000 in
set_option maxHeartbeats 8000000 in
theorem mirrorCopies_walk (K : MirK) (xd xk yd yk n m dead : Int) (w : World) :
    Calls Try.prog 7 #[.agg #[.int .i64 xd, .int .i64 xk], .agg #[.int .i64 yd, .int .i64 yk], .int .i64 n, .int .i64 m, .int .i64 dead] w fun e w' => e = .returned (.bool true) ∧ Below w.heap.size w w' := by
  have HSH := hide (fun w => shown12_any K w)
  obtain ⟨q, hq, hq4⟩ := mask2 dead
  go_enter Try.func7, Try.ntmps7
  go_upto_region 1 with (first
    | ((with_reducible refine at_slot 5 ?_); refine wpList_box_blk rfl 33 _ rfl (.agg #[.int .i64 xd, .int .i64 xk]) rfl ?_; intro z1 hbq hl1 hs1; have HX1 : Hid (Blk z1 w.heap.size 33 (plL xd xk).toArray) := hide hbq; have HL1 := hide hl1; clear hbq hl1 hs1)
    | ((with_reducible refine at_slot 6 ?_); refine wpList_box_blk rfl 33 _ rfl (.agg #[.int .i64 yd, .int .i64 yk]) rfl ?_; intro z2 hbq hl2 hs2; have HY2 : Hid (Blk z2 z1.heap.size 33 (plL yd yk).toArray) := hide hbq; have HX2 := hide (HX1.out.below hl2 HX1.out.lt); have HL2 := hide (HL1.out.trans (hl2.mono HL1.out.size)); clear hbq hl2 hs2))
  have HXB := hide (show w.heap.size < z2.heap.size from HX2.out.lt)
  have HYB := hide (show z1.heap.size < z2.heap.size from HY2.out.lt)
  go_wp2_with (first
    | (go_at_call 9; refine (HSH.out _).mono ?_; rintro _ y1 ⟨rfl, hlq⟩; have HL_y1 := hide (hlq); clear hlq)
    | (go_at_call 10; refine (sit_laid z2 y1 HL_y1.out 2 (by decide)).mono ?_; rintro _ y2 ⟨rfl, hsq⟩; have HS_y2 : Hid (Sit z2 y2 y1.heap.size y2.heap.size (LaidN 2) []) := hide hsq; clear hsq))
  have HQ0 := hide (show Qui (LaidN 2) ∧ (LaidN 2).dead 0 = false ∧ (LaidN 2).dead 1 = false from ⟨qui_laid, (laid_live 0 (by decide)).1, (laid_live 1 (by decide)).1⟩)
  have HW0 := hide laid_plain.2.2.2
  go_loopw [13] (fun s13 wr => ∃ (k : Nat) (S : Bank), s13 = .int .i64 (k : Int) ∧ k ≤ 24 ∧ Hid (Qui S ∧ S.dead 0 = false ∧ S.dead 1 = false) ∧ Hid (S.writes ≤ k) ∧ Hid (Sit z2 wr y1.heap.size y2.heap.size S [])) (fun s13 _ => 24 - (intOf s13).toNat)
  case atStart => exact ⟨0, _, rfl, by decide, HQ0, hide (by rw [HW0.out]; decide), HS_y2⟩
  case round =>
    obtain ⟨k, S, rfl, hk24, HQ, HW, HS_z3⟩ := hrel
    obtain ⟨z3, rfl⟩ : ∃ z3, z3 = wr := ⟨_, rfl⟩
    by_cases hkw : (k : Int) < 24
    · obtain ⟨a, ha⟩ : ∃ a, a = secOf ((k : Int) + 1) := ⟨_, rfl⟩
      have HA := hide (fun w => ha ▸ sector_any ((k : Int) + 1) w)
      have hp : S.place (k / 12) (k % 12) = 0 := HQ.out.1.place_zero.2 ⟨by omega, by
        have h2 : k / 12 = 0 ∨ k / 12 = 1 := by omega
        rcases h2 with h2 | h2 <;> rw [h2]
        · exact HQ.out.2.1
        · exact HQ.out.2.2, by omega⟩
      have he := HQ.out.1.write_ok hp a
      obtain ⟨S1, hS1⟩ : ∃ S1, S1 = (S.write (k / 12) (k % 12) a).2 := ⟨_, rfl⟩
      have HE1 := hide (congrArg Prod.fst he : (S.write (k / 12) (k % 12) a).1 = 0)
      have HS1 := hide hS1
      have HQ1 : Hid (Qui S1 ∧ S1.dead 0 = false ∧ S1.dead 1 = false) := hide (by rw [hS1, he]; exact ⟨HQ.out.1.wrote.put _ _ _, HQ.out.2.1, HQ.out.2.2⟩)
      have HW1 := hide (show S1.writes ≤ k + 1 by rw [hS1]; have := write_few S (k / 12) (k % 12) a; have := HW.out; omega)
      clear hp he hS1 ha
      go_wp2_with (first
        | (go_at_call 23; (with_reducible refine (HA.out _).mono ?_); rintro _ y3 ⟨rfl, hlq⟩; have HS_y3 : Hid (Sit z2 y3 y1.heap.size y2.heap.size S []) := hide (HS_z3.out.later hlq); clear hlq)
        | (go_at_call 29; (with_reducible refine (HS_y3.out.write (by have := HW.out; omega) (di := (k : Int) / 12) (ki := (k : Int) % 12) (d := k / 12) (k := k % 12) (div12 k) (mod12 k) a).mono ?_); rintro _ y4 ⟨rfl, hsq⟩; rw [← HS1.out] at hsq; rw [HE1.out]; have HS_y4 : Hid (Sit z2 y4 y1.heap.size y2.heap.size S1 []) := hide (hsq); clear hsq))
      go_roundw
      case rel => exact ⟨k + 1, S1, by simp, by omega, HQ1, HW1, HS_y4⟩
      case measure => simp [intOf]; omega
    · obtain rfl : k = 24 := by omega
      have HX3 := hide (HX2.out.below HS_z3.out.low HXB.out)
      have HY3 := hide (HY2.out.below HS_z3.out.low HYB.out)
      have x0 : z3.cell? ⟨w.heap.size, 0, none⟩ = some (.int .i64 xd) := HX3.out.cell 0
      have x1 : z3.cell? ⟨w.heap.size, 1, none⟩ = some (.int .i64 xk) := HX3.out.cell 1
      have y0 : z3.cell? ⟨z1.heap.size, 0, none⟩ = some (.int .i64 yd) := HY3.out.cell 0
      have y1' : z3.cell? ⟨z1.heap.size, 1, none⟩ = some (.int .i64 yk) := HY3.out.cell 1
      go_upto_region 10 with fail
      go_cut [14] (fun v14 wx => z3 = wx ∧ v14 = .bool (decide (Right xd xk yd yk)))
      case first =>
        by_cases c0 : 0 ≤ xd
        · by_cases c1 : xd < 2
          · by_cases c2 : 0 ≤ xk
            · by_cases c3 : xk < 12
              · by_cases c4 : 0 ≤ yd
                · by_cases c5 : yd < 2
                  · by_cases c6 : 0 ≤ yk
                    · by_cases c7 : yk < 12
                      · go_wp2_with fail
                        go_meet
                        case rel => exact ⟨rfl, by rw [decide_eq_true (show Right xd xk yd yk from ⟨c0, c1, c2, c3, c4, c5, c6, c7⟩)]⟩
                      · go_wp2_with fail
                        go_meet
                        case rel => exact ⟨rfl, by rw [decide_eq_false (fun h => by unfold Right at h; omega)]⟩
                    · go_wp2_with fail
                      go_meet
                      case rel => exact ⟨rfl, by rw [decide_eq_false (fun h => by unfold Right at h; omega)]⟩
                  · go_wp2_with fail
                    go_meet
                    case rel => exact ⟨rfl, by rw [decide_eq_false (fun h => by unfold Right at h; omega)]⟩
                · go_wp2_with fail
                  go_meet
                  case rel => exact ⟨rfl, by rw [decide_eq_false (fun h => by unfold Right at h; omega)]⟩
              · go_wp2_with fail
                go_meet
                case rel => exact ⟨rfl, by rw [decide_eq_false (fun h => by unfold Right at h; omega)]⟩
            · go_wp2_with fail
              go_meet
              case rel => exact ⟨rfl, by rw [decide_eq_false (fun h => by unfold Right at h; omega)]⟩
          · go_wp2_with fail
            go_meet
            case rel => exact ⟨rfl, by rw [decide_eq_false (fun h => by unfold Right at h; omega)]⟩
        · go_wp2_with fail
          go_meet
          case rel => exact ⟨rfl, by rw [decide_eq_false (fun h => by unfold Right at h; omega)]⟩
      case rest =>
        obtain ⟨rfl, rfl⟩ := hcut
        obtain ⟨R, hR⟩ : ∃ R : Bool, decide (Right xd xk yd yk) = R := ⟨_, rfl⟩
        rw [hR]
        have HR := hide hR
        clear hR x0 x1 y0 y1'
        go_upto_if 79 with fail
        go_cut [] (fun wx => ∃ S : Bank, Hid (Qui S) ∧ Hid (S.writes ≤ 26) ∧ Hid (Sit z2 wx y1.heap.size y2.heap.size S []))
        case first =>
          cases R with
          | true =>
            obtain ⟨b, hb⟩ : ∃ b, b = secOf n := ⟨_, rfl⟩
            have HB := hide (fun w => hb ▸ sector_any n w)
            obtain ⟨c, hc⟩ : ∃ c, c = secOf m := ⟨_, rfl⟩
            have HC := hide (fun w => hc ▸ sector_any m w)
            clear hb hc
            go_wp2_with fail
            refine wp_region_held_drew (S := (fun W => Below z2.heap.size z2 W)) (by kernel_rfl) ?_ (fun hHeld => ?_)
            · exact HS_z3.out.drew.low
            have HS_dz3 := hide (HS_z3.out.drew)
            refine heldTake (i := 0) (v := ?_) rfl (by kernel_rfl) (by kernel_rfl) (by kernel_rfl) (fun _ _ _ h => h) (Or.inl ⟨by rfl, ?_⟩) (by assumption) ?_
            rotate_left
            · intro w hSw; (try dsimp only at hSw); go_simp <;> (with_reducible rfl)
            try simp only [Act.put, List.setIfInBounds_toArray, List.set_cons_zero, List.set_cons_succ]
            refine heldTake (i := 1) (v := .agg (plL xd xk).toArray) rfl (by kernel_rfl) (by kernel_rfl) (by kernel_rfl) (fun _ _ _ h => h) (yieldsIf_load_mid (by rfl) _ _ rfl _ _ rfl (plL xd xk) _ (fun W hW => (fun (j : Nat) (v : Value) hj => by rw [Nat.zero_add, (HX2.out.below hW HXB.out).cell j]; simpa using hj)) Try.underlying33 rfl mplace_info) (by assumption) ?_
            try simp only [Act.put, List.setIfInBounds_toArray, List.set_cons_zero, List.set_cons_succ]
            refine heldTake (i := 2) (v := ?_) rfl (by kernel_rfl) (by kernel_rfl) (by kernel_rfl) (fun _ _ _ h => h) (Or.inl ⟨by rfl, ?_⟩) (by assumption) ?_
            rotate_left
            · intro w hSw; (try dsimp only at hSw); go_simp <;> (with_reducible rfl)
            try simp only [Act.put, List.setIfInBounds_toArray, List.set_cons_zero, List.set_cons_succ]
            refine wpAnyH_ready (rs := [3]) (by kernel_rfl) (by simp) ?_
            refine heldCons (i := 3) rfl (fun Kq hKq => ?_) AllReadyH.nil
            go_simp
            go_at_call 23
            (with_reducible refine (HB.out _).mono ?_)
            rintro _ y41 ⟨rfl, hlq⟩
            have HS_y41 := hide (HS_dz3.out.later hlq)
            clear hlq
            first | (refine hKq.out _ _ HS_y41.out.low (fun hHeld => ?_)) | (go_wp2_with fail; refine hKq.out _ _ HS_y41.out.low (fun hHeld => ?_))
            clear hKq Kq
            try simp only [Act.put, List.setIfInBounds_toArray, List.set_cons_zero, List.set_cons_succ]
            refine wpAnyH_ready (rs := [4]) (by kernel_rfl) (by simp) ?_
            refine heldCons (i := 4) rfl (fun Kq hKq => ?_) AllReadyH.nil
            go_simp
            go_at_call 29
            (with_reducible refine (HS_y41.out.write (by have := HW.out; have := write_few S (nI xd) (nI xk) b; omega) (di := xd) (ki := xk) rfl rfl b).mono ?_)
            rintro _ y42 ⟨rfl, hsq⟩
            have HS_y42 := hide hsq
            clear hsq
            first | (refine hKq.out _ _ HS_y42.out.low (fun hHeld => ?_)) | (go_wp2_with fail; refine hKq.out _ _ HS_y42.out.low (fun hHeld => ?_))
            clear hKq Kq
            try simp only [Act.put, List.setIfInBounds_toArray, List.set_cons_zero, List.set_cons_succ]
            refine wpAnyH_done (by kernel_rfl) ?_ _
            clear hHeld
            go_wp2_with fail
            refine wp_region_held_drew (S := (fun W => Below z2.heap.size z2 W)) (by kernel_rfl) ?_ (fun hHeld => ?_)
            · exact HS_y42.out.drew.low
            have HS_dy42 := hide (HS_y42.out.drew)
            refine heldTake (i := 0) (v := ?_) rfl (by kernel_rfl) (by kernel_rfl) (by kernel_rfl) (fun _ _ _ h => h) (Or.inl ⟨by rfl, ?_⟩) (by assumption) ?_
            rotate_left
            · intro w hSw; (try dsimp only at hSw); go_simp <;> (with_reducible rfl)
            try simp only [Act.put, List.setIfInBounds_toArray, List.set_cons_zero, List.set_cons_succ]
            refine heldTake (i := 1) (v := .agg (plL yd yk).toArray) rfl (by kernel_rfl) (by kernel_rfl) (by kernel_rfl) (fun _ _ _ h => h) (yieldsIf_load_mid (by rfl) _ _ rfl _ _ rfl (plL yd yk) _ (fun W hW => (fun (j : Nat) (v : Value) hj => by rw [Nat.zero_add, (HY2.out.below hW HYB.out).cell j]; simpa using hj)) Try.underlying33 rfl mplace_info) (by assumption) ?_
            try simp only [Act.put, List.setIfInBounds_toArray, List.set_cons_zero, List.set_cons_succ]
            refine heldTake (i := 2) (v := ?_) rfl (by kernel_rfl) (by kernel_rfl) (by kernel_rfl) (fun _ _ _ h => h) (Or.inl ⟨by rfl, ?_⟩) (by assumption) ?_
            rotate_left
            · intro w hSw; (try dsimp only at hSw); go_simp <;> (with_reducible rfl)
            try simp only [Act.put, List.setIfInBounds_toArray, List.set_cons_zero, List.set_cons_succ]
            refine wpAnyH_ready (rs := [3]) (by kernel_rfl) (by simp) ?_
            refine heldCons (i := 3) rfl (fun Kq hKq => ?_) AllReadyH.nil
            go_simp
            go_at_call 23
            (with_reducible refine (HC.out _).mono ?_)
            rintro _ y43 ⟨rfl, hlq⟩
            have HS_y43 := hide (HS_dy42.out.later hlq)
            clear hlq
            first | (refine hKq.out _ _ HS_y43.out.low (fun hHeld => ?_)) | (go_wp2_with fail; refine hKq.out _ _ HS_y43.out.low (fun hHeld => ?_))
            clear hKq Kq
            try simp only [Act.put, List.setIfInBounds_toArray, List.set_cons_zero, List.set_cons_succ]
            refine wpAnyH_ready (rs := [4]) (by kernel_rfl) (by simp) ?_
            refine heldCons (i := 4) rfl (fun Kq hKq => ?_) AllReadyH.nil
            go_simp
            go_at_call 29
            (with_reducible refine (HS_y43.out.write (by have := HW.out; have := write_few S (nI xd) (nI xk) b; omega) (di := yd) (ki := yk) rfl rfl c).mono ?_)
            rintro _ y44 ⟨rfl, hsq⟩
            have HS_y44 := hide hsq
            clear hsq
            first | (refine hKq.out _ _ HS_y44.out.low (fun hHeld => ?_)) | (go_wp2_with fail; refine hKq.out _ _ HS_y44.out.low (fun hHeld => ?_))
            clear hKq Kq
            try simp only [Act.put, List.setIfInBounds_toArray, List.set_cons_zero, List.set_cons_succ]
            refine wpAnyH_done (by kernel_rfl) ?_ _
            go_wp2_with fail
            go_meet
            case rel => exact ⟨_, hide ((HQ.out.1.write _ _ _).write _ _ _), hide (by have := HW.out; have := write_few S (nI xd) (nI xk) b; have := write_few (S.write (nI xd) (nI xk) b).2 (nI yd) (nI yk) c; omega), HS_y44⟩
          | false =>
            go_wp2_with fail
            go_meet
            case rel => exact ⟨S, hide HQ.out.1, hide (by have := HW.out; omega), HS_z3⟩
        case rest =>
          obtain ⟨S4, HQ4, HW4, HS_z4⟩ := hcut
          obtain ⟨z4, rfl⟩ : ∃ z4, z4 = wc := ⟨_, rfl⟩
          clear HX3 HY3 HQ HW HS_z3
          go_upto_if 92 with fail
          go_cut [] (fun wx => ∃ S : Bank, Hid (Qui S) ∧ Hid (S.writes ≤ 26) ∧ Hid (Sit z2 wx y1.heap.size y2.heap.size S []))
          case first =>
            by_cases hq2 : (q : Int) < 2
            · go_wp2_with (go_at_call 30; (with_reducible refine (HS_z4.out.fail (di := (q : Int)) q rfl (by rw [HQ4.out.n]; omega)).mono ?_); rintro _ z5 ⟨rfl, hsq⟩; have HS_z5 := hide hsq; clear hsq)
              go_meet
              case rel => exact ⟨_, hide (HQ4.out.fail q), HW4, HS_z5⟩
            · go_wp2_with fail
              go_meet
              case rel => exact ⟨S4, HQ4, HW4, HS_z4⟩
          case rest =>
            obtain ⟨S6, HQ6, HW6, HS_z6⟩ := hcut
            obtain ⟨z6, rfl⟩ : ∃ z6, z6 = wc := ⟨_, rfl⟩
            clear HQ4 HW4 HS_z4
            go_wp2_with (first
              | ((with_reducible refine at_slot 15 ?_); refine wpList_alloc_blk rfl 65 rfl _ (arr24_zero _) ?_; intro y61 hbq hl1 hs1; have HS_y61 : Hid (Sit z2 y61 y1.heap.size y2.heap.size S6 [(z6.heap.size, 65, rowS (fun _ => zeroSec) 24)]) := hide (HS_z6.out.var hl1 (Nat.le_refl _) hbq); clear hbq hl1 hs1))
            go_loopw [16] (fun s16 wr => ∃ (k : Nat) (T : Nat → Sec), s16 = .int .i64 (k : Int) ∧ k ≤ 24 ∧ Hid (∀ j, j < k → T j = S6.readS (j / 12) (j % 12)) ∧ Hid (Sit z2 wr y1.heap.size y2.heap.size S6 [(z6.heap.size, 65, rowS T 24)])) (fun s16 _ => 24 - (intOf s16).toNat)
            case atStart => exact ⟨0, _, rfl, by decide, hide (fun j hj => absurd hj (Nat.not_lt_zero j)), HS_y61⟩
            case round =>
              obtain ⟨k, T, rfl, hk24, HT, HS_z7⟩ := hrel
              obtain ⟨z7, rfl⟩ : ∃ z7, z7 = wr := ⟨_, rfl⟩
              by_cases hkw : (k : Int) < 24
              · have hk : k < 24 := by omega
                obtain ⟨s, hs⟩ : ∃ s, S6.readS (k / 12) (k % 12) = s := ⟨_, rfl⟩
                obtain ⟨e, he⟩ : ∃ e, S6.place (k / 12) (k % 12) = e := ⟨_, rfl⟩
                have HSE := hide (And.intro hs he)
                have HT1 := hide (show ∀ j, j < k + 1 → upd T k s j = S6.readS (j / 12) (j % 12) from fun j hj => by
                  by_cases ej : j = k
                  · subst ej; rw [upd_self]; exact hs.symm
                  · rw [upd_ne _ _ ej]; exact HT.out j (by omega))
                have HLN := hide (show k * 64 + (secL s).length ≤ (rowS T 24).toArray.size by rw [secL_length, rowS_size]; omega)
                have HRP := hide (rowS_put T s k 24 hk)
                clear hs he
                go_wp2_with (first
                  | (go_at_call 17; (with_reducible refine (HS_z7.out.read (di := (k : Int) / 12) (ki := (k : Int) % 12) (d := k / 12) (k := k % 12) (div12 k) (mod12 k)).mono ?_); rintro _ y62 ⟨rfl, hsq⟩; rw [HSE.out.1, HSE.out.2]; have HS_y62 : Hid (Sit z2 y62 y1.heap.size y2.heap.size S6 [(z6.heap.size, 65, rowS T 24)]) := hide (hsq); clear hsq)
                  | ((with_reducible refine at_store 112 ?_); refine wpList_store_blk rfl 43 (.tmp 112) (.tmp 110) rfl z6.heap.size (k * 64) 65 _ (HS_y62.out.own.blk 0 rfl) rfl (secL s) rfl (msec_size _) HLN.out (secL_one _) ?_; intro y63 hbz hg hs; have hbw : Blk y63 z6.heap.size 65 (rowS (upd T k s) 24).toArray := (by rw [← HRP.out]; exact hbz); have HS_y63 : Hid (Sit z2 y63 y1.heap.size y2.heap.size S6 [(z6.heap.size, 65, rowS (upd T k s) 24)]) := hide (HS_y62.out.poke 0 rfl hbw hg); clear hs hg hbz hbw))
                go_roundw
                case rel => exact ⟨k + 1, _, by simp, by omega, HT1, HS_y63⟩
                case measure => simp [intOf]; omega
              · obtain rfl : k = 24 := by omega
                obtain ⟨ok, e, S2, he, hS2, hok1, hok2, hn2, hd2, hrd⟩ := HQ6.out.copy xd xk yd yk
                have HE := hide he
                have HS2 := hide hS2
                have HOK1 := hide hok1
                have HOK2 := hide hok2
                have HN2 := hide hn2
                have HD2 := hide hd2
                have HRD := hide hrd
                clear he hS2 hok1 hok2 hn2 hd2 hrd
                go_upto_region 22 with (first
                  | ((with_reducible refine at_slot 114 ?_); refine when_load rfl 33 (.tmp 5) rfl w.heap.size 0 33 _ (HX2.out.below HS_z7.out.low HXB.out) rfl (plL xd xk) _ (fun j v hj => by rw [Nat.zero_add]; simpa using hj) Try.underlying33 rfl mplace_info ?_)
                  | ((with_reducible refine at_slot 115 ?_); refine when_load rfl 33 (.tmp 6) rfl z1.heap.size 0 33 _ (HY2.out.below HS_z7.out.low HYB.out) rfl (plL yd yk) _ (fun j v hj => by rw [Nat.zero_add]; simpa using hj) Try.underlying33 rfl mplace_info ?_)
                  | (go_at_call 31; (with_reducible refine (HS_z7.out.mcopy K (by have := HW6.out; omega) rfl rfl rfl rfl).mono ?_); rintro _ y81 ⟨rfl, hsq⟩; rw [HS2.out] at hsq; rw [HE.out]; have HS_y81 : Hid (Sit z2 y81 y1.heap.size y2.heap.size S2 [(z6.heap.size, 65, rowS T 24)]) := hide (hsq); clear hsq))
                have x0 : y81.cell? ⟨w.heap.size, 0, none⟩ = some (.int .i64 xd) := (HX2.out.below HS_y81.out.low HXB.out).cell 0
                have y0 : y81.cell? ⟨z1.heap.size, 0, none⟩ = some (.int .i64 yd) := (HY2.out.below HS_y81.out.low HYB.out).cell 0
                go_cut [18] (fun v18 wx => y81 = wx ∧ v18 = .bool ok)
                case first =>
                  cases R with
                  | true =>
                    have hRt := of_decide_eq_true HR.out
                    obtain ⟨i1, i2, i3, i4⟩ := hRt.is
                    have px : xd = (nI xd : Int) := (nI_pos hRt.1).symm
                    have py : yd = (nI yd : Int) := (nI_pos hRt.2.2.2.2.1).symm
                    have HDX := hide (HS_y81.out.dead (di := xd) (nI xd) px (by rw [HN2.out]; exact i1))
                    have HDY := hide (HS_y81.out.dead (di := yd) (nI yd) py (by rw [HN2.out]; exact i3))
                    clear px py i1 i2 i3 i4
                    obtain ⟨dx, hdx⟩ : ∃ b, S2.dead (nI xd) = b := ⟨_, rfl⟩
                    obtain ⟨dy, hdy⟩ : ∃ b, S2.dead (nI yd) = b := ⟨_, rfl⟩
                    rw [hdx] at HDX
                    rw [hdy] at HDY
                    have hokv : ok = (!dx && !dy) := by
                      have h := HOK2.out
                      rw [← HD2.out, hdx, hdy] at h
                      exact ok_is h hRt
                    clear hdx hdy
                    cases dx with
                    | true =>
                      go_wp2_with (go_at_call 32; (with_reducible refine HDX.out.mono ?_); rintro _ _ ⟨rfl, rfl⟩)
                      go_meet
                      case rel => exact ⟨rfl, by rw [hokv]; rfl⟩
                    | false =>
                      cases dy with
                      | true =>
                        go_wp2_with (first
                          | ((with_reducible refine at_slot 122 ?_); go_at_call 32; (with_reducible refine HDX.out.mono ?_); rintro _ _ ⟨rfl, rfl⟩)
                          | (go_at_call 32; (with_reducible refine HDX.out.mono ?_); rintro _ _ ⟨rfl, rfl⟩)
                          | (go_at_call 32; (with_reducible refine HDY.out.mono ?_); rintro _ _ ⟨rfl, rfl⟩))
                        go_meet
                        case rel => exact ⟨rfl, by rw [hokv]; rfl⟩
                      | false =>
                        go_wp2_with (first
                          | (go_at_call 32; (with_reducible refine HDX.out.mono ?_); rintro _ _ ⟨rfl, rfl⟩)
                          | (go_at_call 32; (with_reducible refine HDY.out.mono ?_); rintro _ _ ⟨rfl, rfl⟩))
                        go_meet
                        case rel => exact ⟨rfl, by rw [hokv]; rfl⟩
                  | false =>
                    have hokf : ok = false := by
                      cases ok with
                      | false => rfl
                      | true => exact absurd (HOK2.out.1 rfl).1 (of_decide_eq_false HR.out)
                    go_wp2_with fail
                    go_meet
                    case rel => exact ⟨rfl, by rw [hokf]⟩
                case rest =>
                  obtain ⟨rfl, rfl⟩ := hcut
                  clear x0 y0
                  go_upto_region 23 with fail
                  go_cut [135] (fun v135 wx => y81 = wx ∧ v135 = .bool false)
                  case first =>
                    cases ok with
                    | true =>
                      have he0 : e = 0 := HOK1.out.1 rfl
                      subst he0
                      go_wp2_with fail
                      go_meet
                      case rel => exact ⟨rfl, rfl⟩
                    | false =>
                      have hne : ¬ ((e : Int) = 0) := fun h => by
                        have h2 := HOK1.out.2 (by omega)
                        cases h2
                      go_wp2_with fail
                      go_meet
                      case rel => exact ⟨rfl, by rw [show ((e : Int) == 0) = false by simpa using hne]⟩
                  case rest =>
                    obtain ⟨rfl, rfl⟩ := hcut
                    go_upto_if 136 with fail
                    go_cut [] (fun wx => ∃ T' : Nat → Sec, Hid (∀ j, j < 24 → T' j = S2.readS (j / 12) (j % 12)) ∧ Hid (Sit z2 wx y1.heap.size y2.heap.size S2 [(z6.heap.size, 65, rowS T' 24)]))
                    case first =>
                      cases ok with
                      | false =>
                        go_wp2_with fail
                        go_meet
                        case rel => exact ⟨T, hide (fun j hj => by rw [HRD.out _ _ (by omega) (by omega), if_neg (fun q => by cases q.1)]; exact HT.out j hj), HS_y81⟩
                      | true =>
                        have hRt := (HOK2.out.1 rfl).1
                        obtain ⟨r1, r2, r3, r4, r5, r6, r7, r8⟩ := hRt
                        obtain ⟨d, hd⟩ : ∃ d : Nat, xd = (d : Int) := ⟨xd.toNat, by omega⟩
                        obtain ⟨k, hk⟩ : ∃ k : Nat, xk = (k : Int) := ⟨xk.toNat, by omega⟩
                        obtain ⟨d', hd'⟩ : ∃ d : Nat, yd = (d : Int) := ⟨yd.toNat, by omega⟩
                        obtain ⟨k', hk'⟩ : ∃ k : Nat, yk = (k : Int) := ⟨yk.toNat, by omega⟩
                        subst hd hk hd' hk'
                        have HTN := hide (row_copy (S := S6) (S2 := S2) (T := T) (xd := d) (xk := k) (yd := d') (yk := k') (by omega) (by omega) (by omega) (fun j hj => HT.out j hj) (fun i j hi hj => by have h := HRD.out i j hi hj; rw [nI_nat, nI_nat, nI_nat, nI_nat] at h; exact h))
                        have q1 : 12 * d + k < 24 := by omega
                        have q2 : 12 * d' + k' < 24 := by omega
                        clear r1 r2 r3 r4 r5 r6 r7 r8
                        have hw1 : IntKind.i64.wrap (12 * (d : Int)) = 12 * (d : Int) := IntWalk.i64_in _ (by omega)
                        have hw2 : IntKind.i64.wrap (12 * (d : Int) + (k : Int)) = 12 * (d : Int) + (k : Int) := IntWalk.i64_in _ (by omega)
                        have hw3 : IntKind.i64.wrap (12 * (d' : Int)) = 12 * (d' : Int) := IntWalk.i64_in _ (by omega)
                        have hw4 : IntKind.i64.wrap (12 * (d' : Int) + (k' : Int)) = 12 * (d' : Int) + (k' : Int) := IntWalk.i64_in _ (by omega)
                        have ht1 : (12 * (d : Int) + (k : Int)).toNat = 12 * d + k := by omega
                        have ht2 : (12 * (d' : Int) + (k' : Int)).toNat = 12 * d' + k' := by omega
                        have hb1 : 12 * (d : Int) + (k : Int) < 24 := by omega
                        have hb2 : 12 * (d' : Int) + (k' : Int) < 24 := by omega
                        have hb3 : 0 ≤ 12 * (d : Int) + (k : Int) := by omega
                        have hb4 : 0 ≤ 12 * (d' : Int) + (k' : Int) := by omega
                        go_wp2_with fail
                        refine wp_region_held_drew (S := (fun W => Below z2.heap.size z2 W)) (by kernel_rfl) ?_ (fun hHeld => ?_)
                        · exact HS_y81.out.drew.low
                        have HSd := hide (HS_y81.out.drew)
                        refine heldTake (i := 0) (v := ?_) rfl (by kernel_rfl) (by kernel_rfl) (by kernel_rfl) (fun _ _ _ h => h) (Or.inl ⟨by rfl, ?_⟩) (by assumption) ?_
                        rotate_left
                        · intro w hSw; (try dsimp only at hSw); go_simp <;> (with_reducible rfl)
                        try simp only [Act.put, List.setIfInBounds_toArray, List.set_cons_zero, List.set_cons_succ]
                        refine heldTake (i := 1) (v := .int .i64 (d' : Int)) rfl (by kernel_rfl) (by kernel_rfl) (by kernel_rfl) (fun _ _ _ h => h) (Or.inl ⟨by rfl, fun W hW => ?_⟩) (by assumption) ?_
                        · have hc : W.cell? ⟨z1.heap.size, 0, none⟩ = some (.int .i64 (d' : Int)) := (HY2.out.below hW HYB.out).cell 0
                          go_simp <;> rfl
                        try simp only [Act.put, List.setIfInBounds_toArray, List.set_cons_zero, List.set_cons_succ]
                        refine heldTake (i := 2) (v := ?_) rfl (by kernel_rfl) (by kernel_rfl) (by kernel_rfl) (fun _ _ _ h => h) (Or.inl ⟨by rfl, ?_⟩) (by assumption) ?_
                        rotate_left
                        · intro w hSw; (try dsimp only at hSw); go_simp <;> (with_reducible rfl)
                        try simp only [Act.put, List.setIfInBounds_toArray, List.set_cons_zero, List.set_cons_succ]
                        refine heldTake (i := 3) (v := ?_) rfl (by kernel_rfl) (by kernel_rfl) (by kernel_rfl) (fun _ _ _ h => h) (Or.inl ⟨by rfl, ?_⟩) (by assumption) ?_
                        rotate_left
                        · intro w hSw; (try dsimp only at hSw); go_simp <;> (with_reducible rfl)
                        try simp only [Act.put, List.setIfInBounds_toArray, List.set_cons_zero, List.set_cons_succ]
                        refine heldTake (i := 4) (v := .int .i64 (k' : Int)) rfl (by kernel_rfl) (by kernel_rfl) (by kernel_rfl) (fun _ _ _ h => h) (Or.inl ⟨by rfl, fun W hW => ?_⟩) (by assumption) ?_
                        · have hc : W.cell? ⟨z1.heap.size, 1, none⟩ = some (.int .i64 (k' : Int)) := (HY2.out.below hW HYB.out).cell 1
                          go_simp <;> rfl
                        try simp only [Act.put, List.setIfInBounds_toArray, List.set_cons_zero, List.set_cons_succ]
                        refine heldTake (i := 5) (v := ?_) rfl (by kernel_rfl) (by kernel_rfl) (by kernel_rfl) (fun _ _ _ h => h) (Or.inl ⟨by rfl, ?_⟩) (by assumption) ?_
                        rotate_left
                        · intro w hSw; (try dsimp only at hSw); go_simp <;> (with_reducible rfl)
                        try simp only [Act.put, List.setIfInBounds_toArray, List.set_cons_zero, List.set_cons_succ]
                        refine heldTake (i := 6) (v := ?_) rfl (by kernel_rfl) (by kernel_rfl) (by kernel_rfl) (fun _ _ _ h => h) (Or.inl ⟨by rfl, ?_⟩) (by assumption) ?_
                        rotate_left
                        · intro w hSw; (try dsimp only at hSw); go_simp <;> (with_reducible rfl)
                        try simp only [Act.put, List.setIfInBounds_toArray, List.set_cons_zero, List.set_cons_succ]
                        refine heldTake (i := 7) (v := .int .i64 (d : Int)) rfl (by kernel_rfl) (by kernel_rfl) (by kernel_rfl) (fun _ _ _ h => h) (Or.inl ⟨by rfl, fun W hW => ?_⟩) (by assumption) ?_
                        · have hc : W.cell? ⟨w.heap.size, 0, none⟩ = some (.int .i64 (d : Int)) := (HX2.out.below hW HXB.out).cell 0
                          go_simp <;> rfl
                        try simp only [Act.put, List.setIfInBounds_toArray, List.set_cons_zero, List.set_cons_succ]
                        refine heldTake (i := 8) (v := ?_) rfl (by kernel_rfl) (by kernel_rfl) (by kernel_rfl) (fun _ _ _ h => h) (Or.inl ⟨by rfl, ?_⟩) (by assumption) ?_
                        rotate_left
                        · intro w hSw; (try dsimp only at hSw); go_simp <;> (with_reducible rfl)
                        try simp only [Act.put, List.setIfInBounds_toArray, List.set_cons_zero, List.set_cons_succ]
                        refine heldTake (i := 9) (v := ?_) rfl (by kernel_rfl) (by kernel_rfl) (by kernel_rfl) (fun _ _ _ h => h) (Or.inl ⟨by rfl, ?_⟩) (by assumption) ?_
                        rotate_left
                        · intro w hSw; (try dsimp only at hSw); go_simp <;> (with_reducible rfl)
                        try simp only [Act.put, List.setIfInBounds_toArray, List.set_cons_zero, List.set_cons_succ]
                        refine heldTake (i := 10) (v := .int .i64 (k : Int)) rfl (by kernel_rfl) (by kernel_rfl) (by kernel_rfl) (fun _ _ _ h => h) (Or.inl ⟨by rfl, fun W hW => ?_⟩) (by assumption) ?_
                        · have hc : W.cell? ⟨w.heap.size, 1, none⟩ = some (.int .i64 (k : Int)) := (HX2.out.below hW HXB.out).cell 1
                          go_simp <;> rfl
                        try simp only [Act.put, List.setIfInBounds_toArray, List.set_cons_zero, List.set_cons_succ]
                        refine heldTake (i := 11) (v := ?_) rfl (by kernel_rfl) (by kernel_rfl) (by kernel_rfl) (fun _ _ _ h => h) (Or.inl ⟨by rfl, ?_⟩) (by assumption) ?_
                        rotate_left
                        · intro w hSw; (try dsimp only at hSw); go_simp <;> (with_reducible rfl)
                        try simp only [Act.put, List.setIfInBounds_toArray, List.set_cons_zero, List.set_cons_succ]
                        refine heldTake (i := 12) (v := ?_) rfl (by kernel_rfl) (by kernel_rfl) (by kernel_rfl) (fun _ _ _ h => h) (Or.inl ⟨by rfl, ?_⟩) (by assumption) ?_
                        rotate_left
                        · intro w hSw; (try dsimp only at hSw); go_simp <;> (with_reducible rfl)
                        try simp only [Act.put, List.setIfInBounds_toArray, List.set_cons_zero, List.set_cons_succ]
                        refine wpAnyH_ready (rs := [13]) (by kernel_rfl) (by simp) ?_
                        refine heldCons (i := 13) rfl (fun Kq hKq => ?_) AllReadyH.nil
                        refine step_load_blk rfl 43 (.tmp 149) rfl z6.heap.size ((12 * d + k) * 64) 65 _ (HSd.out.own.blk 0 rfl) rfl (secL (T (12 * d + k))) _ (row_cells T q1) Try.underlying43 rfl (msec_size _) ?_
                        refine hKq.out _ _ HSd.out.low (fun hHeld => ?_)
                        clear hKq Kq
                        try simp only [Act.put, List.setIfInBounds_toArray, List.set_cons_zero, List.set_cons_succ]
                        refine heldTake (i := 14) (v := ?_) rfl (by kernel_rfl) (by kernel_rfl) (by kernel_rfl) (fun _ _ _ h => h) (Or.inl ⟨by rfl, ?_⟩) (by assumption) ?_
                        rotate_left
                        · intro w hSw; (try dsimp only at hSw); go_simp <;> (with_reducible rfl)
                        try simp only [Act.put, List.setIfInBounds_toArray, List.set_cons_zero, List.set_cons_succ]
                        refine wpAnyH_ready (rs := [15]) (by kernel_rfl) (by simp) ?_
                        refine heldCons (i := 15) rfl (fun Kq hKq => ?_) AllReadyH.nil
                        refine step_store_blk rfl 43 (.tmp 151) (.tmp 150) rfl z6.heap.size ((12 * d' + k') * 64) 65 _ (HSd.out.own.blk 0 rfl) rfl (secL (T (12 * d + k))) rfl (msec_size _) (by rw [secL_length, rowS_size]; omega) (secL_one _) ?_
                        intro wq hbz hg hs
                        have hbw : Blk wq z6.heap.size 65 (rowS (upd T (12 * d' + k') (T (12 * d + k))) 24).toArray := by rw [← rowS_put T (T (12 * d + k)) (12 * d' + k') 24 q2]; exact hbz
                        have HSq : Hid (Sit z2 wq y1.heap.size y2.heap.size S2 [(z6.heap.size, 65, rowS (upd T (12 * d' + k') (T (12 * d + k))) 24)]) := hide (HSd.out.poke 0 rfl hbw hg)
                        refine hKq.out _ _ HSq.out.low (fun hHeld => ?_)
                        clear hKq Kq
                        try simp only [Act.put]
                        refine wpAnyH_done (by kernel_rfl) ?_ _
                        go_wp2_with fail
                        go_meet
                        case rel => exact ⟨_, HTN, HSq⟩
                    case rest =>
                      obtain ⟨T', HT', HS_z9⟩ := hcut
                      obtain ⟨z9, rfl⟩ : ∃ z9, z9 = wc := ⟨_, rfl⟩
                      go_wp2_with fail
                      go_loopw [19] (fun s19 wr => ∃ k : Nat, s19 = .int .i64 (k : Int) ∧ k ≤ 24 ∧ Hid (Sit z2 wr y1.heap.size y2.heap.size S2 [(z6.heap.size, 65, rowS T' 24)])) (fun s19 _ => 24 - (intOf s19).toNat)
                      case atStart => exact ⟨0, rfl, by decide, HS_z9⟩
                      case round =>
                        obtain ⟨k, rfl, hk24, HS_z10⟩ := hrel
                        obtain ⟨z10, rfl⟩ : ∃ z10, z10 = wr := ⟨_, rfl⟩
                        by_cases hkw : (k : Int) < 24
                        · have hk : k < 24 := by omega
                          obtain ⟨s, hs⟩ : ∃ s, S2.readS (k / 12) (k % 12) = s := ⟨_, rfl⟩
                          obtain ⟨e', he'⟩ : ∃ e, S2.place (k / 12) (k % 12) = e := ⟨_, rfl⟩
                          have HSE := hide (And.intro hs he')
                          have HTK := hide ((HT'.out k hk).trans hs)
                          clear hs he'
                          go_wp2_with (first
                            | (go_at_call 17; (with_reducible refine (HS_z10.out.read (di := (k : Int) / 12) (ki := (k : Int) % 12) (d := k / 12) (k := k % 12) (div12 k) (mod12 k)).mono ?_); rintro _ y121 ⟨rfl, hsq⟩; rw [HSE.out.1, HSE.out.2]; have HS_y121 : Hid (Sit z2 y121 y1.heap.size y2.heap.size S2 [(z6.heap.size, 65, rowS T' 24)]) := hide (hsq); clear hsq)
                            | ((with_reducible refine at_slot 20 ?_); refine wpList_alloc_blk rfl 43 rfl _ (sec_zero _) ?_; intro y122 hbq hl1 hs1; clear hs1)
                            | ((with_reducible refine at_store 20 ?_); refine wpList_store_all rfl 43 (.tmp 20) (.tmp 164) rfl y121.heap.size 43 _ hbq rfl (secL s) rfl (msec_size _) (msec_len _ _) (secL_one _) ?_; intro y123 hbz hg hs; have HS_y123 : Hid (Sit z2 y123 y1.heap.size y2.heap.size S2 [(z6.heap.size, 65, rowS T' 24), (y121.heap.size, 43, secL s)]) := hide (HS_y121.out.new hl1 hg hbz); clear hs hbq hl1 hg hbz))
                          refine wp_region_held_drew (S := (fun W => OwnV W y2.heap.size [(z6.heap.size, 65, rowS T' 24), (y121.heap.size, 43, secL s)])) (by kernel_rfl) ?_ (fun hHeld => ?_)
                          · exact HS_y123.out.drew.own
                          have HS_dy123 := hide (HS_y123.out.drew)
                          refine heldTake (i := 0) (v := .agg (secL s).toArray) rfl (by kernel_rfl) (by kernel_rfl) (by kernel_rfl) (fun _ _ _ h => h) (yieldsIf_load_mid (by rfl) _ _ rfl _ _ rfl (secL s) _ (fun W hW => hW.range 1 rfl) Try.underlying43 rfl (msec_size _)) (by assumption) ?_
                          try simp only [Act.put, List.setIfInBounds_toArray, List.set_cons_zero, List.set_cons_succ]
                          refine heldTake (i := 1) (v := ?_) rfl (by kernel_rfl) (by kernel_rfl) (by kernel_rfl) (fun _ _ _ h => h) (Or.inl ⟨by rfl, ?_⟩) (by assumption) ?_
                          rotate_left
                          · intro w hSw; (try dsimp only at hSw); go_simp <;> (with_reducible rfl)
                          try simp only [Act.put, List.setIfInBounds_toArray, List.set_cons_zero, List.set_cons_succ]
                          refine heldTake (i := 2) (v := ?_) rfl (by kernel_rfl) (by kernel_rfl) (by kernel_rfl) (fun _ _ _ h => h) (Or.inl ⟨by rfl, ?_⟩) (by assumption) ?_
                          rotate_left
                          · intro w hSw; (try dsimp only at hSw); go_simp <;> (with_reducible rfl)
                          try simp only [Act.put, List.setIfInBounds_toArray, List.set_cons_zero, List.set_cons_succ]
                          refine heldTake (i := 3) (v := .agg (secL s).toArray) rfl (by kernel_rfl) (by kernel_rfl) (by kernel_rfl) (fun _ _ _ h => h) (Or.inl ⟨by rfl, fun W hW => by rw [← HTK.out]; exact run_load_row W _ (.tmp 168) rfl z6.heap.size k 24 65 T' (hW.blk 0 rfl) hk rfl⟩) (by assumption) ?_
                          try simp only [Act.put, List.setIfInBounds_toArray, List.set_cons_zero, List.set_cons_succ]
                          refine heldTake (i := 4) (v := .bool false) rfl (by kernel_rfl) (by kernel_rfl) (by kernel_rfl) (fun _ _ _ h => h) (Or.inl ⟨by rfl, fun W hW => run_neS W _ (.tmp 166) (.tmp 169) _ rfl s s rfl rfl false (by simp)⟩) (by assumption) ?_
                          try simp only [Act.put, List.setIfInBounds_toArray, List.set_cons_zero, List.set_cons_succ]
                          refine wpAnyH_done (by kernel_rfl) ?_ _
                          go_wp2_with fail
                          go_roundw
                          case rel => exact ⟨k + 1, by simp, by omega, hide (HS_dy123.out.cut 1)⟩
                          case measure => simp [intOf]; omega
                        · obtain rfl : k = 24 := by omega
                          go_wp2_with fail
                          go_ret
                          exact ⟨rfl, HL2.out.trans (HS_z10.out.low.mono HL2.out.size)⟩
#print axioms mirrorCopies_walk
end Go.Proofs.Ytgfbndmdndpelaa
