/- MirrorLives' walk over the contracts. -/
import Derived.Test.YtgfbndmdndpelaaMdLaw
import Derived.Test.YtgfbndmdndpelaaPoke
import Derived.Deep.DeepCutAuto
namespace Go.Proofs.Ytgfbndmdndpelaa
open Go.RowKit
set_option linter.unusedVariables false
theorem mask6 (v : Int) : ∃ N : Nat, bits .and .i64 v 63 = (N : Int) ∧ N < 64 := by
  have h := i64_mask v 6 (by decide)
  have h2 : bits .and .i64 v 63 = v % 64 := h
  exact ⟨(v % 64).toNat, by rw [h2]; omega, by omega⟩
set_option maxRecDepth 100000 in
set_option maxHeartbeats 8000000 in
theorem mirrorLives_walk (K : MirK) (A : Option Addr) (n cp : Nat) (l : List Int) (who when_ : Int) (w : World) (hr : Reads w w.heap.size 1 A n (I64 l)) (hc : n ≤ cp) (hc2 : cp ≤ 9223372036854775807) :
    Calls Try.prog 5 #[.slice A n cp, .int .i64 who, .int .i64 when_] w fun e w' => e = .returned (.bool true) ∧ Below w.heap.size w w' := by
  obtain ⟨q, hq, hq1⟩ := mask1 who
  obtain ⟨x, hx, hx1⟩ := mask1 (who / 2)
  obtain ⟨y, hy, hy64⟩ := mask6 when_
  have HSH := hide (fun w => shown12_any K w)
  have HR := hide hr
  clear hr
  go_enter Try.func5, Try.ntmps5
  go_upto_if 27 with (first
    | (go_at_call 9; refine (HSH.out _).mono ?_; rintro _ y1 ⟨rfl, hlq⟩; have HL_y1 := hide (hlq); clear hlq)
    | (go_at_call 10; refine (sit_laid w y1 HL_y1.out 2 (by decide)).mono ?_; rintro _ y2 ⟨rfl, hsq⟩; have HS_y2 : Hid (Sit w y2 y1.heap.size y2.heap.size (LaidN 2) []) := hide hsq; clear hsq))
  go_cut [] (fun wx => ∃ (S : Bank) (xx : Nat), Hid (Liv S xx noS) ∧ Hid (S.writes = 0) ∧ Hid (Sit w wx y1.heap.size y2.heap.size S []))
  case first =>
    by_cases hqq : q = 1
    · subst hqq
      have HX := hide (show ((1 + y : Nat) : Int) = if 0 < 1 + (y : Int) then 1 + (y : Int) else 0 by rw [if_pos (by omega)]; omega)
      go_wp2_with (go_at_call 21; refine (HS_y2.out.failAt (di := (x : Int)) x rfl (by rw [laid_plain.1]; omega) (1 + (y : Int)) (1 + y) HX.out (by omega)).mono ?_; rintro _ z1 ⟨rfl, hsq⟩; have HSZ := hide hsq; clear hsq)
      go_meet
      case rel => exact ⟨_, x, hide ((liv_laid x).will _), hide laid_plain.2.2.2, HSZ⟩
    · obtain rfl : q = 0 := by omega
      go_wp2_with fail
      go_meet
      case rel => exact ⟨_, 2, hide (liv_laid 2), hide laid_plain.2.2.2, HS_y2⟩
  case rest =>
    obtain ⟨S, xx, HLV, HW, HS_z2⟩ := hcut
    obtain ⟨z2, rfl⟩ : ∃ z2, z2 = wc := ⟨_, rfl⟩
    go_wp2_with (first
      | ((with_reducible refine at_slot 9 ?_); refine wpList_alloc_blk rfl 54 rfl _ (arr8_zero _) ?_; intro y3 hbq hl1 hs1; have HS_y3 : Hid (Sit w y3 y1.heap.size y2.heap.size S [(z2.heap.size, 54, I64 (List.replicate 8 0))]) := hide (HS_z2.out.var hl1 (Nat.le_refl _) hbq); clear hbq hl1 hs1))
    have HLL := hide LivL.zero
    go_loopw [10] (fun s10 wr => ∃ (i : Nat) (S : Bank) (g : Nat → Nat → Sec) (L : List Int), s10 = .int .i64 (i : Int) ∧ i ≤ 60 ∧ Hid (Liv S xx g) ∧ Hid (LivL L g) ∧ Hid (S.writes ≤ 2 * i) ∧ Hid (Sit w wr y1.heap.size y2.heap.size S [(z2.heap.size, 54, I64 L)])) (fun s10 _ => 60 - (intOf s10).toNat)
    case atStart => exact ⟨0, S, noS, _, rfl, by decide, HLV, HLL, hide (by rw [HW.out]; decide), HS_y3⟩
    case round =>
      obtain ⟨i, S, g, L, rfl, hi60, HLV, HLL, HW, HS_z3⟩ := hrel
      obtain ⟨z3, rfl⟩ : ∃ z3, z3 = wr := ⟨_, rfl⟩
      by_cases h60 : (i : Int) < 60
      · by_cases hin : (i : Int) < (n : Int)
        · obtain ⟨ad, v, hA, hab, hv, hcell⟩ := (HR.out.below HS_z3.out.low).i64_at (k := i) (by omega)
          subst hA
          obtain ⟨k, hk, hk8⟩ := mask3 v
          have hk8w : (k : Int) < 8 := by omega
          obtain ⟨a, ha⟩ : ∃ a, a = secOf ((i : Int) + 1) := ⟨_, rfl⟩
          have HA := hide (fun w => ha ▸ sector_any ((i : Int) + 1) w)
          have hw1 : IntKind.i64.wrap ((i : Int) + 1) = (i : Int) + 1 := IntWalk.i64_in _ (by omega)
          have HNK := hide (show nI (11 - (k : Int)) = 11 - k by rw [show (11 - (k : Int)) = ((11 - k : Nat) : Int) by omega, nI_nat])
          obtain ⟨hl1, he1, hw2⟩ := HLV.out.mwrite (k := k) (k' := 11 - k) (by omega) (by omega) a
          have hll := HLL.out.put hk8 ((i : Int) + 1)
          rw [← ha] at hll
          obtain ⟨S1, hS1⟩ : ∃ S1, S1 = (S.mwrite 0 k 1 (11 - k) a).2 := ⟨_, rfl⟩
          have HS1 := hide hS1
          rw [← hS1] at hl1 hw2
          obtain ⟨g1, hg1⟩ : ∃ g1, g1 = upd2 (upd2 g 0 k a) 1 (11 - k) a := ⟨_, rfl⟩
          rw [← hg1] at hl1 hll
          have HL1 := hide hl1
          have HE1 := hide he1
          have HLL1 := hide hll
          have HW1 := hide (show S1.writes ≤ 2 * (i + 1) by have := HW.out; omega)
          have HLEN := hide HLL.out.len
          clear hl1 he1 hw2 hll hS1 hg1 hv ha
          go_wp2_with (first
            | ((with_reducible refine at_slot 12 ?_); refine wpList_alloc_blk rfl 33 rfl _ (mplace_zero _) ?_; intro y4 hbq hl1 hs1; clear hs1)
            | ((with_reducible refine at_store 12 ?_); refine wpList_store_all rfl 33 (.tmp 12) (.tmp 52) rfl z3.heap.size 33 _ hbq rfl (plL (0) ((k : Int))) rfl mplace_info rfl (mplace_one _ _) ?_; intro y5 hbz hg hs; have HS_y5 : Hid (Sit w y5 y1.heap.size y2.heap.size S [(z2.heap.size, 54, I64 L), (z3.heap.size, 33, plL (0) ((k : Int)))]) := hide (HS_z3.out.new hl1 hg hbz); clear hs hbq hl1 hg hbz)
            | ((with_reducible refine at_slot 13 ?_); refine wpList_alloc_blk rfl 33 rfl _ (mplace_zero _) ?_; intro y6 hbq hl1 hs1; clear hs1)
            | ((with_reducible refine at_store 13 ?_); refine wpList_store_all rfl 33 (.tmp 13) (.tmp 55) rfl y5.heap.size 33 _ hbq rfl (plL (1) (11 - (k : Int))) rfl mplace_info rfl (mplace_one _ _) ?_; intro y7 hbz hg hs; have HS_y7 : Hid (Sit w y7 y1.heap.size y2.heap.size S [(z2.heap.size, 54, I64 L), (z3.heap.size, 33, plL (0) ((k : Int))), (y5.heap.size, 33, plL (1) (11 - (k : Int)))]) := hide (HS_y5.out.new hl1 hg hbz); clear hs hbq hl1 hg hbz))
          refine wp_region_held_drew (S := (fun W => OwnV W y2.heap.size [(z2.heap.size, 54, I64 L), (z3.heap.size, 33, plL (0) ((k : Int))), (y5.heap.size, 33, plL (1) (11 - (k : Int)))])) (by kernel_rfl) ?_ (fun hHeld => ?_)
          · exact HS_y7.out.drew.own
          have HS_dy7 := hide (HS_y7.out.drew)
          refine heldTake (i := 0) (v := ?_) rfl (by kernel_rfl) (by kernel_rfl) (by kernel_rfl) (fun _ _ _ h => h) (Or.inl ⟨by rfl, ?_⟩) (by assumption) ?_
          rotate_left
          · intro w hSw; (try dsimp only at hSw); go_simp <;> (with_reducible rfl)
          try simp only [Act.put, List.setIfInBounds_toArray, List.set_cons_zero, List.set_cons_succ]
          refine heldTake (i := 1) (v := .agg (plL (0) ((k : Int))).toArray) rfl (by kernel_rfl) (by kernel_rfl) (by kernel_rfl) (fun _ _ _ h => h) (yieldsIf_load_mid (by rfl) _ _ rfl _ _ rfl (plL (0) ((k : Int))) _ (fun W hW => hW.range 1 rfl) Try.underlying33 rfl mplace_info) (by assumption) ?_
          try simp only [Act.put, List.setIfInBounds_toArray, List.set_cons_zero, List.set_cons_succ]
          refine heldTake (i := 2) (v := .agg (plL (1) (11 - (k : Int))).toArray) rfl (by kernel_rfl) (by kernel_rfl) (by kernel_rfl) (fun _ _ _ h => h) (yieldsIf_load_mid (by rfl) _ _ rfl _ _ rfl (plL (1) (11 - (k : Int))) _ (fun W hW => hW.range 2 rfl) Try.underlying33 rfl mplace_info) (by assumption) ?_
          try simp only [Act.put, List.setIfInBounds_toArray, List.set_cons_zero, List.set_cons_succ]
          refine heldTake (i := 3) (v := ?_) rfl (by kernel_rfl) (by kernel_rfl) (by kernel_rfl) (fun _ _ _ h => h) (Or.inl ⟨by rfl, ?_⟩) (by assumption) ?_
          rotate_left
          · intro w hSw; (try dsimp only at hSw); go_simp <;> (with_reducible rfl)
          try simp only [Act.put, List.setIfInBounds_toArray, List.set_cons_zero, List.set_cons_succ]
          refine heldTake (i := 4) (v := ?_) rfl (by kernel_rfl) (by kernel_rfl) (by kernel_rfl) (fun _ _ _ h => h) (Or.inl ⟨by rfl, ?_⟩) (by assumption) ?_
          rotate_left
          · intro w hSw; (try dsimp only at hSw); go_simp <;> (with_reducible rfl)
          try simp only [Act.put, List.setIfInBounds_toArray, List.set_cons_zero, List.set_cons_succ]
          refine wpAnyH_ready (rs := [5]) (by kernel_rfl) (by simp) ?_
          refine heldCons (i := 5) rfl (fun Kq hKq => ?_) AllReadyH.nil
          go_simp
          go_at_call 23
          (with_reducible refine (HA.out _).mono ?_)
          rintro _ y8 ⟨rfl, hlq⟩
          have HS_y8 : Hid (Sit w y8 y1.heap.size y2.heap.size S [(z2.heap.size, 54, I64 L), (z3.heap.size, 33, plL (0) ((k : Int))), (y5.heap.size, 33, plL (1) (11 - (k : Int)))]) := hide (HS_dy7.out.later hlq)
          clear hlq
          first | (refine hKq.out _ _ HS_y8.out.own (fun hHeld => ?_)) | (go_wp2_with fail; refine hKq.out _ _ HS_y8.out.own (fun hHeld => ?_))
          clear hKq Kq
          try simp only [Act.put, List.setIfInBounds_toArray, List.set_cons_zero, List.set_cons_succ]
          refine wpAnyH_ready (rs := [6]) (by kernel_rfl) (by simp) ?_
          refine heldCons (i := 6) rfl (fun Kq hKq => ?_) AllReadyH.nil
          go_simp
          go_at_call 22
          (with_reducible refine (HS_y8.out.mwrite K (by have := HW.out; omega) (d := 0) (k := k) (d' := 1) (k' := 11 - k) rfl (nI_nat k) rfl HNK.out a).mono ?_)
          rintro _ y9 ⟨rfl, hsq⟩
          rw [← HS1.out] at hsq
          rw [HE1.out]
          have HS_y9 : Hid (Sit w y9 y1.heap.size y2.heap.size S1 [(z2.heap.size, 54, I64 L), (z3.heap.size, 33, plL (0) ((k : Int))), (y5.heap.size, 33, plL (1) (11 - (k : Int)))]) := hide (hsq)
          clear hsq
          first | (refine hKq.out _ _ HS_y9.out.own (fun hHeld => ?_)) | (go_wp2_with fail; refine hKq.out _ _ HS_y9.out.own (fun hHeld => ?_))
          clear hKq Kq
          try simp only [Act.put, List.setIfInBounds_toArray, List.set_cons_zero, List.set_cons_succ]
          refine heldTake (i := 7) (v := ?_) rfl (by kernel_rfl) (by kernel_rfl) (by kernel_rfl) (fun _ _ _ h => h) (Or.inl ⟨by rfl, ?_⟩) (by assumption) ?_
          rotate_left
          · intro w hSw; (try dsimp only at hSw); go_simp <;> (with_reducible rfl)
          try simp only [Act.put, List.setIfInBounds_toArray, List.set_cons_zero, List.set_cons_succ]
          refine wpAnyH_done (by kernel_rfl) ?_ _
          clear hHeld
          go_wp2_with (first
            | ((with_reducible refine at_store 67 ?_); refine wpList_poke rfl 3 (.tmp 67) (.tmp 66) rfl z2.heap.size k 54 _ (HS_y9.out.own.blk 0 rfl) rfl (.int .i64 (((i : Int) + 1))) rfl rfl int_one1 (by rw [i64_size HLEN.out]; exact hk8) ?_; intro y10 hbz hg hs; rw [i64_set] at hbz; have HS_y10 : Hid (Sit w y10 y1.heap.size y2.heap.size S1 [(z2.heap.size, 54, I64 (L.set k ((i : Int) + 1))), (z3.heap.size, 33, plL (0) ((k : Int))), (y5.heap.size, 33, plL (1) (11 - (k : Int)))]) := hide (HS_y9.out.poke 0 rfl hbz hg); clear hs hg hbz))
          obtain ⟨L1, hL1⟩ : ∃ L1, L1 = L.set k ((i : Int) + 1) := ⟨_, rfl⟩
          rw [← hL1] at HLL1 HS_y10
          clear hcell hw1 HA HNK hk hk8w hL1 HLL HLV HW
          go_loopw [14] (fun s14 wr => ∃ (j : Nat) (u v : Int), s14 = .int .i64 (j : Int) ∧ j ≤ 8 ∧ Hid (Sit w wr y1.heap.size y2.heap.size S1 [(z2.heap.size, 54, I64 L1), (z3.heap.size, 33, plL 0 u), (y5.heap.size, 33, plL 1 v)])) (fun s14 _ => 8 - (intOf s14).toNat)
          case atStart => exact ⟨0, _, _, rfl, by decide, HS_y10⟩
          case round =>
            obtain ⟨j, u, v, rfl, hj8, HS_z4⟩ := hrel
            obtain ⟨z4, rfl⟩ : ∃ z4, z4 = wr := ⟨_, rfl⟩
            by_cases hj : (j : Int) < 8
            · obtain ⟨t, ht, ht0, ht1⟩ := HLL1.out.is j (by omega)
              obtain ⟨b, hb⟩ : ∃ b, b = secOf t := ⟨_, rfl⟩
              have HB := hide (fun w => hb ▸ sector_any t w)
              rw [← hb] at ht0 ht1
              have HNJ := hide (show nI (11 - (j : Int)) = 11 - j by rw [show (11 - (j : Int)) = ((11 - j : Nat) : Int) by omega, nI_nat])
              have hr1 := HL1.out.mread (d := 0) (d' := 1) (k := j) (k' := 11 - j) (by decide) (by decide) (by decide) (by omega) (by omega) (ht0.trans ht1.symm)
              have hr2 := HL1.out.mread (d := 1) (d' := 0) (k := 11 - j) (k' := j) (by decide) (by decide) (by decide) (by omega) (by omega) (ht1.trans ht0.symm)
              have hal := HL1.out.malike (d := 0) (d' := 1) (k := j) (k' := 11 - j) (by decide) (by decide) (by decide) (by omega) (by omega) (ht0.trans ht1.symm)
              rw [ht0] at hr1
              rw [ht1] at hr2
              have HR1 := hide (And.intro (congrArg Prod.fst hr1 : (S1.mread 0 j 1 (11 - j)).1 = b) (congrArg Prod.snd hr1 : (S1.mread 0 j 1 (11 - j)).2 = 0))
              have HR2 := hide (And.intro (congrArg Prod.fst hr2 : (S1.mread 1 (11 - j) 0 j).1 = b) (congrArg Prod.snd hr2 : (S1.mread 1 (11 - j) 0 j).2 = 0))
              have HAL := hide (show (S1.malike 0 j 1 (11 - j)).1.1 = false ∧ (S1.malike 0 j 1 (11 - j)).1.2 = 0 ∧ (S1.malike 0 j 1 (11 - j)).2 = S1 by rw [hal]; exact ⟨rfl, rfl, rfl⟩)
              have HT := hide ht
              clear hr1 hr2 hal ht ht0 ht1 hb
              go_upto_region 22 with (first
                | ((with_reducible refine at_store 12 ?_); refine wpList_store_all rfl 33 (.tmp 12) (.tmp 73) rfl z3.heap.size 33 _ (HS_z4.out.own.blk 1 rfl) rfl (plL 0 (j : Int)) rfl mplace_info rfl (mplace_one _ _) ?_; intro y11 hbz hg hs; have HS_y11 : Hid (Sit w y11 y1.heap.size y2.heap.size S1 [(z2.heap.size, 54, I64 L1), (z3.heap.size, 33, plL 0 (j : Int)), (y5.heap.size, 33, plL 1 v)]) := hide (HS_z4.out.poke 1 rfl hbz hg); clear hs hg hbz)
                | ((with_reducible refine at_store 13 ?_); refine wpList_store_all rfl 33 (.tmp 13) (.tmp 76) rfl y5.heap.size 33 _ (HS_y11.out.own.blk 2 rfl) rfl (plL 1 (11 - (j : Int))) rfl mplace_info rfl (mplace_one _ _) ?_; intro y12 hbz hg hs; have HS_y12 : Hid (Sit w y12 y1.heap.size y2.heap.size S1 [(z2.heap.size, 54, I64 L1), (z3.heap.size, 33, plL 0 (j : Int)), (y5.heap.size, 33, plL 1 (11 - (j : Int)))]) := hide (HS_y11.out.poke 2 rfl hbz hg); clear hs hg hbz))
              go_upto_region 23 with (first
                | ((with_reducible refine at_slot 79 ?_); refine when_own rfl (.tmp 12) rfl HS_y12.out.own 1 rfl rfl Try.underlying33 rfl mplace_info ?_)
                | ((with_reducible refine at_slot 80 ?_); refine when_own rfl (.tmp 13) rfl HS_y12.out.own 2 rfl rfl Try.underlying33 rfl mplace_info ?_)
                | (go_at_call 24; (with_reducible refine (HS_y12.out.mread K (d := 0) (k := j) (d' := 1) (k' := 11 - j) rfl (nI_nat j) rfl HNJ.out).mono ?_); rintro _ y13 ⟨rfl, hsq⟩; rw [HR1.out.1, HR1.out.2]; have HS_y13 : Hid (Sit w y13 y1.heap.size y2.heap.size S1 [(z2.heap.size, 54, I64 L1), (z3.heap.size, 33, plL 0 (j : Int)), (y5.heap.size, 33, plL 1 (11 - (j : Int)))]) := hide (hsq); clear hsq)
                | ((with_reducible refine at_slot 15 ?_); refine wpList_alloc_blk rfl 43 rfl _ (sec_zero _) ?_; intro y14 hbq hl1 hs1; clear hs1)
                | ((with_reducible refine at_store 15 ?_); refine wpList_store_all rfl 43 (.tmp 15) (.tmp 82) rfl y13.heap.size 43 _ hbq rfl (secL b) rfl (msec_size _) (msec_len _ _) (secL_one _) ?_; intro y15 hbz hg hs; have HS_y15 : Hid (Sit w y15 y1.heap.size y2.heap.size S1 [(z2.heap.size, 54, I64 L1), (z3.heap.size, 33, plL 0 (j : Int)), (y5.heap.size, 33, plL 1 (11 - (j : Int))), (y13.heap.size, 43, secL b)]) := hide (HS_y13.out.new hl1 hg hbz); clear hs hbq hl1 hg hbz))
              go_upto_region 24 with (first
                | ((with_reducible refine at_slot 86 ?_); refine when_own rfl (.tmp 13) rfl HS_y15.out.own 2 rfl rfl Try.underlying33 rfl mplace_info ?_)
                | ((with_reducible refine at_slot 87 ?_); refine when_own rfl (.tmp 12) rfl HS_y15.out.own 1 rfl rfl Try.underlying33 rfl mplace_info ?_)
                | (go_at_call 24; (with_reducible refine (HS_y15.out.mread K (d := 1) (k := 11 - j) (d' := 0) (k' := j) rfl HNJ.out rfl (nI_nat j)).mono ?_); rintro _ y16 ⟨rfl, hsq⟩; rw [HR2.out.1, HR2.out.2]; have HS_y16 : Hid (Sit w y16 y1.heap.size y2.heap.size S1 [(z2.heap.size, 54, I64 L1), (z3.heap.size, 33, plL 0 (j : Int)), (y5.heap.size, 33, plL 1 (11 - (j : Int))), (y13.heap.size, 43, secL b)]) := hide (hsq); clear hsq)
                | ((with_reducible refine at_slot 17 ?_); refine wpList_alloc_blk rfl 43 rfl _ (sec_zero _) ?_; intro y17 hbq hl1 hs1; clear hs1)
                | ((with_reducible refine at_store 17 ?_); refine wpList_store_all rfl 43 (.tmp 17) (.tmp 89) rfl y16.heap.size 43 _ hbq rfl (secL b) rfl (msec_size _) (msec_len _ _) (secL_one _) ?_; intro y18 hbz hg hs; have HS_y18 : Hid (Sit w y18 y1.heap.size y2.heap.size S1 [(z2.heap.size, 54, I64 L1), (z3.heap.size, 33, plL 0 (j : Int)), (y5.heap.size, 33, plL 1 (11 - (j : Int))), (y13.heap.size, 43, secL b), (y16.heap.size, 43, secL b)]) := hide (HS_y16.out.new hl1 hg hbz); clear hs hbq hl1 hg hbz))
              go_upto_region 25 with (first
                | ((with_reducible refine at_slot 93 ?_); refine when_own rfl (.tmp 12) rfl HS_y18.out.own 1 rfl rfl Try.underlying33 rfl mplace_info ?_)
                | ((with_reducible refine at_slot 94 ?_); refine when_own rfl (.tmp 13) rfl HS_y18.out.own 2 rfl rfl Try.underlying33 rfl mplace_info ?_)
                | (go_at_call 25; (with_reducible refine (HS_y18.out.malike K (by have := HW1.out; omega) (d := 0) (k := j) (d' := 1) (k' := 11 - j) rfl (nI_nat j) rfl HNJ.out).mono ?_); rintro _ y19 ⟨rfl, hsq⟩; rw [HAL.out.2.2] at hsq; rw [HAL.out.1, HAL.out.2.1]; have HS_y19 : Hid (Sit w y19 y1.heap.size y2.heap.size S1 [(z2.heap.size, 54, I64 L1), (z3.heap.size, 33, plL 0 (j : Int)), (y5.heap.size, 33, plL 1 (11 - (j : Int))), (y13.heap.size, 43, secL b), (y16.heap.size, 43, secL b)]) := hide (hsq); clear hsq))
              refine wp_region_held_drew (S := (fun W => OwnV W y2.heap.size [(z2.heap.size, 54, I64 L1), (z3.heap.size, 33, plL 0 (j : Int)), (y5.heap.size, 33, plL 1 (11 - (j : Int))), (y13.heap.size, 43, secL b), (y16.heap.size, 43, secL b)])) (by kernel_rfl) ?_ (fun hHeld => ?_)
              · exact HS_y19.out.drew.own
              have HS_dy19 := hide (HS_y19.out.drew)
              refine heldTake (i := 0) (v := .agg (secL b).toArray) rfl (by kernel_rfl) (by kernel_rfl) (by kernel_rfl) (fun _ _ _ h => h) (yieldsIf_load_mid (by rfl) _ _ rfl _ _ rfl (secL b) _ (fun W hW => hW.range 3 rfl) Try.underlying43 rfl (msec_size _)) (by assumption) ?_
              try simp only [Act.put, List.setIfInBounds_toArray, List.set_cons_zero, List.set_cons_succ]
              refine heldTake (i := 1) (v := ?_) rfl (by kernel_rfl) (by kernel_rfl) (by kernel_rfl) (fun _ _ _ h => h) (Or.inl ⟨by rfl, ?_⟩) (by assumption) ?_
              rotate_left
              · intro w hSw; (try dsimp only at hSw); go_simp <;> (with_reducible rfl)
              try simp only [Act.put, List.setIfInBounds_toArray, List.set_cons_zero, List.set_cons_succ]
              refine heldTake (i := 2) (v := ?_) rfl (by kernel_rfl) (by kernel_rfl) (by kernel_rfl) (fun _ _ _ h => h) (Or.inl ⟨by rfl, ?_⟩) (by assumption) ?_
              rotate_left
              · intro w hSw; (try dsimp only at hSw); go_simp <;> (with_reducible rfl)
              try simp only [Act.put, List.setIfInBounds_toArray, List.set_cons_zero, List.set_cons_succ]
              refine heldTake (i := 3) (v := .int .i64 t) rfl (by kernel_rfl) (by kernel_rfl) (by kernel_rfl) (fun _ _ _ h => h) (Or.inl ⟨by rfl, fun W hW => ?_⟩) (by assumption) ?_
              · have hc : W.cell? ⟨z2.heap.size, j, none⟩ = some (.int .i64 t) := ((hW.blk 0 rfl).cell _).trans (i64_cell HT.out)
                go_simp <;> rfl
              try simp only [Act.put, List.setIfInBounds_toArray, List.set_cons_zero, List.set_cons_succ]
              refine wpAnyH_ready (rs := [4]) (by kernel_rfl) (by simp) ?_
              refine heldCons (i := 4) rfl (fun Kq hKq => ?_) AllReadyH.nil
              go_simp
              go_at_call 23
              (with_reducible refine (HB.out _).mono ?_)
              rintro _ y20 ⟨rfl, hlq⟩
              have HS_y20 : Hid (Sit w y20 y1.heap.size y2.heap.size S1 [(z2.heap.size, 54, I64 L1), (z3.heap.size, 33, plL 0 (j : Int)), (y5.heap.size, 33, plL 1 (11 - (j : Int))), (y13.heap.size, 43, secL b), (y16.heap.size, 43, secL b)]) := hide (HS_dy19.out.later hlq)
              clear hlq
              first | (refine hKq.out _ _ HS_y20.out.own (fun hHeld => ?_)) | (go_wp2_with fail; refine hKq.out _ _ HS_y20.out.own (fun hHeld => ?_))
              clear hKq Kq
              try simp only [Act.put, List.setIfInBounds_toArray, List.set_cons_zero, List.set_cons_succ]
              refine heldTake (i := 5) (v := .bool false) rfl (by kernel_rfl) (by kernel_rfl) (by kernel_rfl) (fun _ _ _ h => h) (Or.inl ⟨by rfl, fun W hW => run_neS W _ (.tmp 98) (.tmp 102) _ rfl b b rfl rfl false (by simp)⟩) (by assumption) ?_
              try simp only [Act.put, List.setIfInBounds_toArray, List.set_cons_zero, List.set_cons_succ]
              refine heldTake (i := 6) (v := ?_) rfl (by kernel_rfl) (by kernel_rfl) (by kernel_rfl) (fun _ _ _ h => h) (Or.inl ⟨by rfl, ?_⟩) (by assumption) ?_
              rotate_left
              · intro w hSw; (try dsimp only at hSw); go_simp <;> (with_reducible rfl)
              try simp only [Act.put, List.setIfInBounds_toArray, List.set_cons_zero, List.set_cons_succ]
              refine heldTake (i := 7) (v := .agg (secL b).toArray) rfl (by kernel_rfl) (by kernel_rfl) (by kernel_rfl) (fun _ _ _ h => h) (yieldsIf_load_mid (by rfl) _ _ rfl _ _ rfl (secL b) _ (fun W hW => hW.range 4 rfl) Try.underlying43 rfl (msec_size _)) (by assumption) ?_
              try simp only [Act.put, List.setIfInBounds_toArray, List.set_cons_zero, List.set_cons_succ]
              refine heldTake (i := 8) (v := .agg (secL b).toArray) rfl (by kernel_rfl) (by kernel_rfl) (by kernel_rfl) (fun _ _ _ h => h) (yieldsIf_load_mid (by rfl) _ _ rfl _ _ rfl (secL b) _ (fun W hW => hW.range 3 rfl) Try.underlying43 rfl (msec_size _)) (by assumption) ?_
              try simp only [Act.put, List.setIfInBounds_toArray, List.set_cons_zero, List.set_cons_succ]
              refine heldTake (i := 9) (v := .bool false) rfl (by kernel_rfl) (by kernel_rfl) (by kernel_rfl) (fun _ _ _ h => h) (Or.inl ⟨by rfl, fun W hW => run_neS W _ (.tmp 105) (.tmp 106) _ rfl b b rfl rfl false (by simp)⟩) (by assumption) ?_
              try simp only [Act.put, List.setIfInBounds_toArray, List.set_cons_zero, List.set_cons_succ]
              refine heldTake (i := 10) (v := ?_) rfl (by kernel_rfl) (by kernel_rfl) (by kernel_rfl) (fun _ _ _ h => h) (Or.inl ⟨by rfl, ?_⟩) (by assumption) ?_
              rotate_left
              · intro w hSw; (try dsimp only at hSw); go_simp <;> (with_reducible rfl)
              try simp only [Act.put, List.setIfInBounds_toArray, List.set_cons_zero, List.set_cons_succ]
              refine heldTake (i := 11) (v := ?_) rfl (by kernel_rfl) (by kernel_rfl) (by kernel_rfl) (fun _ _ _ h => h) (Or.inl ⟨by rfl, ?_⟩) (by assumption) ?_
              rotate_left
              · intro w hSw; (try dsimp only at hSw); go_simp <;> (with_reducible rfl)
              try simp only [Act.put, List.setIfInBounds_toArray, List.set_cons_zero, List.set_cons_succ]
              refine heldTake (i := 12) (v := ?_) rfl (by kernel_rfl) (by kernel_rfl) (by kernel_rfl) (fun _ _ _ h => h) (Or.inl ⟨by rfl, ?_⟩) (by assumption) ?_
              rotate_left
              · intro w hSw; (try dsimp only at hSw); go_simp <;> (with_reducible rfl)
              try simp only [Act.put, List.setIfInBounds_toArray, List.set_cons_zero, List.set_cons_succ]
              refine heldTake (i := 13) (v := ?_) rfl (by kernel_rfl) (by kernel_rfl) (by kernel_rfl) (fun _ _ _ h => h) (Or.inl ⟨by rfl, ?_⟩) (by assumption) ?_
              rotate_left
              · intro w hSw; (try dsimp only at hSw); go_simp <;> (with_reducible rfl)
              try simp only [Act.put, List.setIfInBounds_toArray, List.set_cons_zero, List.set_cons_succ]
              refine heldTake (i := 14) (v := ?_) rfl (by kernel_rfl) (by kernel_rfl) (by kernel_rfl) (fun _ _ _ h => h) (Or.inl ⟨by rfl, ?_⟩) (by assumption) ?_
              rotate_left
              · intro w hSw; (try dsimp only at hSw); go_simp <;> (with_reducible rfl)
              try simp only [Act.put, List.setIfInBounds_toArray, List.set_cons_zero, List.set_cons_succ]
              refine heldTake (i := 15) (v := ?_) rfl (by kernel_rfl) (by kernel_rfl) (by kernel_rfl) (fun _ _ _ h => h) (Or.inl ⟨by rfl, ?_⟩) (by assumption) ?_
              rotate_left
              · intro w hSw; (try dsimp only at hSw); go_simp <;> (with_reducible rfl)
              try simp only [Act.put, List.setIfInBounds_toArray, List.set_cons_zero, List.set_cons_succ]
              refine heldTake (i := 16) (v := ?_) rfl (by kernel_rfl) (by kernel_rfl) (by kernel_rfl) (fun _ _ _ h => h) (Or.inl ⟨by rfl, ?_⟩) (by assumption) ?_
              rotate_left
              · intro w hSw; (try dsimp only at hSw); go_simp <;> (with_reducible rfl)
              try simp only [Act.put, List.setIfInBounds_toArray, List.set_cons_zero, List.set_cons_succ]
              refine heldTake (i := 17) (v := ?_) rfl (by kernel_rfl) (by kernel_rfl) (by kernel_rfl) (fun _ _ _ h => h) (Or.inl ⟨by rfl, ?_⟩) (by assumption) ?_
              rotate_left
              · intro w hSw; (try dsimp only at hSw); go_simp <;> (with_reducible rfl)
              try simp only [Act.put, List.setIfInBounds_toArray, List.set_cons_zero, List.set_cons_succ]
              refine heldTake (i := 18) (v := ?_) rfl (by kernel_rfl) (by kernel_rfl) (by kernel_rfl) (fun _ _ _ h => h) (Or.inl ⟨by rfl, ?_⟩) (by assumption) ?_
              rotate_left
              · intro w hSw; (try dsimp only at hSw); go_simp <;> (with_reducible rfl)
              try simp only [Act.put, List.setIfInBounds_toArray, List.set_cons_zero, List.set_cons_succ]
              refine heldTake (i := 19) (v := ?_) rfl (by kernel_rfl) (by kernel_rfl) (by kernel_rfl) (fun _ _ _ h => h) (Or.inl ⟨by rfl, ?_⟩) (by assumption) ?_
              rotate_left
              · intro w hSw; (try dsimp only at hSw); go_simp <;> (with_reducible rfl)
              try simp only [Act.put, List.setIfInBounds_toArray, List.set_cons_zero, List.set_cons_succ]
              refine heldTake (i := 20) (v := ?_) rfl (by kernel_rfl) (by kernel_rfl) (by kernel_rfl) (fun _ _ _ h => h) (Or.inl ⟨by rfl, ?_⟩) (by assumption) ?_
              rotate_left
              · intro w hSw; (try dsimp only at hSw); go_simp <;> (with_reducible rfl)
              try simp only [Act.put, List.setIfInBounds_toArray, List.set_cons_zero, List.set_cons_succ]
              refine heldTake (i := 21) (v := ?_) rfl (by kernel_rfl) (by kernel_rfl) (by kernel_rfl) (fun _ _ _ h => h) (Or.inl ⟨by rfl, ?_⟩) (by assumption) ?_
              rotate_left
              · intro w hSw; (try dsimp only at hSw); go_simp <;> (with_reducible rfl)
              try simp only [Act.put, List.setIfInBounds_toArray, List.set_cons_zero, List.set_cons_succ]
              refine heldTake (i := 22) (v := ?_) rfl (by kernel_rfl) (by kernel_rfl) (by kernel_rfl) (fun _ _ _ h => h) (Or.inl ⟨by rfl, ?_⟩) (by assumption) ?_
              rotate_left
              · intro w hSw; (try dsimp only at hSw); go_simp <;> (with_reducible rfl)
              try simp only [Act.put, List.setIfInBounds_toArray, List.set_cons_zero, List.set_cons_succ]
              refine heldTake (i := 23) (v := ?_) rfl (by kernel_rfl) (by kernel_rfl) (by kernel_rfl) (fun _ _ _ h => h) (Or.inl ⟨by rfl, ?_⟩) (by assumption) ?_
              rotate_left
              · intro w hSw; (try dsimp only at hSw); go_simp <;> (with_reducible rfl)
              try simp only [Act.put, List.setIfInBounds_toArray, List.set_cons_zero, List.set_cons_succ]
              refine heldTake (i := 24) (v := ?_) rfl (by kernel_rfl) (by kernel_rfl) (by kernel_rfl) (fun _ _ _ h => h) (Or.inl ⟨by rfl, ?_⟩) (by assumption) ?_
              rotate_left
              · intro w hSw; (try dsimp only at hSw); go_simp <;> (with_reducible rfl)
              try simp only [Act.put, List.setIfInBounds_toArray, List.set_cons_zero, List.set_cons_succ]
              refine heldTake (i := 25) (v := ?_) rfl (by kernel_rfl) (by kernel_rfl) (by kernel_rfl) (fun _ _ _ h => h) (Or.inl ⟨by rfl, ?_⟩) (by assumption) ?_
              rotate_left
              · intro w hSw; (try dsimp only at hSw); go_simp <;> (with_reducible rfl)
              try simp only [Act.put, List.setIfInBounds_toArray, List.set_cons_zero, List.set_cons_succ]
              refine wpAnyH_done (by kernel_rfl) ?_ _
              clear hHeld
              go_wp2_with fail
              go_roundw
              case rel => exact ⟨j + 1, _, _, by simp, by omega, hide (HS_y20.out.cut 3)⟩
              case measure => simp [intOf]; omega
            · obtain rfl : j = 8 := by omega
              go_wp2_with fail
              go_roundw
              case rel => exact ⟨i + 1, S1, g1, L1, by simp, by omega, HL1, HLL1, HW1, hide (HS_z4.out.cut 1)⟩
              case measure => simp [intOf]; omega
        · go_wp2_with fail
          go_ret
          exact ⟨rfl, HS_z3.out.low⟩
      · by_cases hin : (i : Int) < (n : Int)
        · go_wp2_with fail
          go_ret
          exact ⟨rfl, HS_z3.out.low⟩
        · go_wp2_with fail
          go_ret
          exact ⟨rfl, HS_z3.out.low⟩
#print axioms mirrorLives_walk
end Go.Proofs.Ytgfbndmdndpelaa
