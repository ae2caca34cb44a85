/- StripeTwo's walk over the contracts. -/
import Derived.Test.YtjafhlljigaibaaLump3
import Derived.Test.YtjafhlljigaibaaLump1
import Derived.Deep.DeepCutAuto
import Derived.Deep.CutBlock
namespace Go.Proofs.Ytjafhlljigaibaa
open Go.RowKit
set_option linter.unusedVariables false
/-- What StripeTwo writes. -/
def twoD (u : Nat) (t : Nat) : List Sec := (List.range u).map fun (i : Nat) => secOf ((t * u + i + 1 : Nat) : Int)
theorem twoD_length (u t : Nat) : (twoD u t).length = u := by unfold twoD; simp
theorem twoD_at {u t i : Nat} (h : i < u) : (twoD u t)[i]? = some (secOf ((t * u + i + 1 : Nat) : Int)) := by unfold twoD; simp [h]
theorem twoD_slot {u s : Nat} (h : 0 < u) : (twoD u (s / u))[s % u]? = some (secOf ((s + 1 : Nat) : Int)) := by
  rw [twoD_at (Nat.mod_lt _ h)]
  have h1 : s / u * u + s % u = s := by rw [Nat.mul_comm]; exact Nat.div_add_mod s u
  rw [h1]
set_option maxRecDepth 100000 in
set_option maxHeartbeats 8000000 in
theorem stripeTwo_walk (K : StrK) (v who other : Int) (w : World) :
    Calls Try.prog 6 #[.int .i64 v, .int .i64 who, .int .i64 other] w fun e w' => e = .returned (.bool true) ∧ Below w.heap.size w w' := by
  obtain ⟨N, hN, hN2⟩ := mask16 v
  obtain ⟨N1, hM1, hM2⟩ := mask16 who
  obtain ⟨N3, hM3, hM4⟩ := mask16 other
  obtain ⟨Q, hQ⟩ : ∃ Q, Q = 3 + N % 4 := ⟨_, rfl⟩
  have HQ := hide (show (3 + (N : Int) % 4) = (Q : Int) by omega)
  have hQ3 : 3 ≤ Q := by omega
  have hQ6 : Q ≤ 6 := by omega
  obtain ⟨u, hu⟩ : ∃ u, Q = u + 1 := ⟨Q - 1, by omega⟩
  have HQU := hide hu
  have hu1 : 2 ≤ u := by omega
  have hu5 : u ≤ 5 := by omega
  have hqu : (Q : Int) - 1 = (u : Int) := by omega
  have HSH := hide (fun w => shown13_any K w)
  have HM1 := hide hM1
  have HM3 := hide hM3
  have HN1 := hide hM2
  have HN3 := hide hM4
  clear hN2 hQ hu hM1 hM2 hM3 hM4
  go_enter Try.func6, Try.ntmps6
  go_upto_region 2 with (first
    | (go_at_call 9; refine (HSH.out _).mono ?_; rintro _ x1 ⟨rfl, hlq⟩; have HX1 := hide hlq; clear hlq))
  go_cut [0] (fun v0 wx => x1 = wx ∧ v0 = .int .i64 (Q : Int))
  case first =>
    go_wp2_with fail
    go_meet
    case rel => exact ⟨rfl, by rw [HQ.out]⟩
  obtain ⟨rfl, rfl⟩ := hcut
  clear hN
  go_wp2_with (first
    | (go_at_call 22; refine (sit_laid13 w x1 HX1.out Q (by omega)).mono ?_; rintro _ y1 ⟨rfl, hsq⟩; have HS_y1 : Hid (Sux w y1 x1.heap.size y1.heap.size (LaidS Q) [] none 0 0 ([]) none 0 0 ([]) none 0 0 ([])) := hide hsq.up.up; clear hsq)
    | (go_at_call 23; refine (HS_y1.out.sox.sit.row Q (by omega)).mono ?_; rintro _ y2 ⟨A_y2, c_y2, rfl, hsq⟩; have HS_y2 : Hid (Sux w y2 x1.heap.size y1.heap.size (LaidS Q) [] A_y2 Q c_y2 (rowX idN Q) none 0 0 ([]) none 0 0 ([])) := hide hsq.up; clear hsq))
  go_loopw [10] (fun s10 wr => ∃ (T : Nat) (S : Bank), s10 = .int .i64 (T : Int) ∧ T ≤ 8 ∧ Hid (Sux w wr x1.heap.size (y1.heap.size) S [] A_y2 Q c_y2 (rowX idN Q) none 0 0 [] none 0 0 []) ∧ Hid (LivN Q 20 S Q (gridG Q (twoD u) T)) ∧ Hid (S.writes ≤ T * 12)) (fun s10 _ => 8 - (intOf s10).toNat)
  case atStart => exact ⟨0, LaidS Q, rfl, by decide, HS_y2, hide (livN_laid Q Q _), hide (by rw [(laidS_plain Q).2.2]; exact Nat.zero_le _)⟩
  case round =>
    obtain ⟨T, S, rfl, hT, HX, HL, HWR⟩ := hrel
    by_cases hT8 : T < 8
    · have hTi : (T : Int) < 8 := by omega
      obtain ⟨P, hP⟩ : ∃ P, T * u = P := ⟨_, rfl⟩
      have hPb : P ≤ 40 := by rw [← hP]; exact Nat.mul_le_mul (show T ≤ 8 by omega) hu5
      have hPi : (T : Int) * (u : Int) = (P : Int) := by rw [← hP]; exact (Int.natCast_mul T u).symm
      have HP := hide hP
      clear hP
      go_wp2_with fail
      go_loopw [11, 12] (fun s11 s12 wr => ∃ (i : Nat) (A2 : Option Addr) (c2 : Nat), s11 = .slice A2 i c2 ∧ s12 = .int .i64 (i : Int) ∧ i ≤ u ∧ Hid (Sux w wr x1.heap.size (y1.heap.size) S [] A_y2 Q c_y2 (rowX idN Q) none 0 0 [] A2 i c2 ((twoD u T).take i))) (fun _ s12 _ => u - (intOf s12).toNat)
      case atStart => exact ⟨0, none, 0, rfl, rfl, Nat.zero_le _, HX⟩
      case round =>
        obtain ⟨i, A2, c2, rfl, rfl, hi, HY⟩ := hrel
        clear HX
        by_cases hiu : i < u
        · have hii : (i : Int) < (u : Int) := by omega
          obtain ⟨e, he⟩ : ∃ e, secOf ((P : Int) + (i : Int) + 1) = e := ⟨_, rfl⟩
          have HE := hide he
          have HTK := hide (show (twoD u T).take i ++ [e] = (twoD u T).take (i + 1) from by
            rw [List.take_add_one, twoD_at hiu, HP.out, show ((P + i + 1 : Nat) : Int) = (P : Int) + (i : Int) + 1 by omega, he]
            rfl)
          clear he
          go_wp2_with (first
            | (go_at_call 26; refine (sector_any ((P : Int) + (i : Int) + 1) _).mono ?_; rintro _ z1 ⟨rfl, hlq⟩; rw [HE.out]; have HZ1 := hide (HY.out.later hlq); clear hlq)
            | ((with_reducible refine at_slot 53 ?_); refine wpList_oneD rfl (.tmp 52) rfl e rfl ?_)
            | ((with_reducible refine at_slot 54 ?_); refine wpList_pushD rfl (.tmp 44) (.tmp 53) rfl e HZ1.out rfl rfl rfl (by omega) ?_; intro A3 c3 z3 hsq; have HZ3 := hide (HTK.out ▸ hsq); clear hsq))
          go_roundw
          case rel => exact ⟨i + 1, A3, c3, rfl, by simp, by omega, HZ3⟩
          case measure => simp [intOf]; omega
        · have hii : ¬ (i : Int) < (u : Int) := by omega
          obtain rfl : u = i := by omega
          have HZ0 := hide (show Sux w wr x1.heap.size (y1.heap.size) S [] A_y2 Q c_y2 (rowX idN Q) none 0 0 [] A2 u c2 (twoD u T) from (by have h := HY.out; rw [List.take_of_length_le (by rw [twoD_length]; exact Nat.le_refl _)] at h; exact h))
          clear HY
          have hf := LivN.full (D := twoD u) HL.out (by omega) (by omega) hT8 (by rw [twoD_length]; have := HQU.out; omega)
          have HF := hide hf
          clear hf
          go_wp2_with (first
            | (go_at_call 27; refine (HZ0.out.sfull K (by have := HWR.out; omega) (T : Int) ⟨by omega, by omega⟩ (by omega)).mono ?_; rintro _ z1 ⟨rfl, hsq⟩; rw [HF.out.1]; have HZ1 := hide hsq.secs0; clear hsq))
          go_roundw
          case rel => exact ⟨T + 1, _, by simp, by omega, HZ1, hide HF.out.2.1, hide (by rw [HF.out.2.2]; have := HWR.out; omega)⟩
          case measure => simp [intOf]; omega
    · have hTi : ¬ (T : Int) < 8 := by omega
      have hL8 : LivN Q 20 S Q (gridG Q (twoD u) 8) := (show T = 8 by omega) ▸ HL.out
      obtain ⟨x, hx⟩ : ∃ x, N1 % Q = x := ⟨_, rfl⟩
      have hxQ : x < Q := by rw [← hx]; exact Nat.mod_lt _ (by omega)
      obtain ⟨z0, hz0⟩ : ∃ z, N3 % u = z := ⟨_, rfl⟩
      have hz0u : z0 < u := by rw [← hz0]; exact Nat.mod_lt _ (by omega)
      obtain ⟨y, hy⟩ : ∃ y, (x + 1 + z0) % Q = y := ⟨_, rfl⟩
      have hyQ : y < Q := by rw [← hy]; exact Nat.mod_lt _ (by omega)
      have hyx : y ≠ x := by
        have := HQU.out
        rcases Nat.lt_or_ge (x + 1 + z0) Q with h | h
        · rw [Nat.mod_eq_of_lt h] at hy; omega
        · rw [Nat.mod_eq_sub_mod h, Nat.mod_eq_of_lt (by omega)] at hy; omega
      have hxm : (N1 : Int).tmod (Q : Int) = (x : Int) := by rw [Int.tmod_eq_emod_of_nonneg (by omega), ← hx]; rfl
      have hzm : (N3 : Int).tmod (u : Int) = (z0 : Int) := by rw [Int.tmod_eq_emod_of_nonneg (by omega), ← hz0]; rfl
      have hym : ((x : Int) + 1 + (z0 : Int)).tmod (Q : Int) = (y : Int) := by rw [Int.tmod_eq_emod_of_nonneg (by omega), ← hy]; rfl
      have hQ0 : ¬ (Q : Int) = 0 := by omega
      have hu0 : ¬ (u : Int) = 0 := by omega
      have HXM := hide hxm
      have HZM := hide hzm
      have HYM := hide hym
      obtain ⟨S2, hS2⟩ : ∃ S2, (S.failI x).failI y = S2 := ⟨_, rfl⟩
      have HS2 := hide hS2
      have HD := hide (show DedN Q 20 S2 (upd (upd (fun _ => false) x true) y true) (gridG Q (twoD u) 8) from hS2 ▸ ((hL8.ded (Nat.le_refl _)).fail hxQ).fail hyQ)
      have hfw : ∀ (Z : Bank) (d : Nat), (Z.failI d).writes = Z.writes := fun Z d => by
        unfold Bank.failI
        split <;> rfl
      have HW2 := hide (show S2.writes ≤ 100 from by
        rw [← hS2, hfw, hfw]
        have := HWR.out
        omega)
      clear hfw
      have HDX := hide (show upd (upd (fun _ => false) x true) y true x = true by rw [upd_ne _ _ (Ne.symm hyx), upd_self])
      have HDY := hide (show upd (upd (fun _ => false) x true) y true y = true from upd_self _ _ _)
      have HDN := hide (show ∀ d, d ≠ x → d ≠ y → upd (upd (fun _ => false) x true) y true d = false from fun d h1 h2 => by rw [upd_ne _ _ h2, upd_ne _ _ h1])
      obtain ⟨M, hM⟩ : ∃ M, slotsN Q = M := ⟨_, rfl⟩
      have hMb : M ≤ 100 := by rw [← hM]; unfold slotsN; omega
      have HM := hide hM
      have HXQ := hide hxQ
      have HYQ := hide hyQ
      clear hx hz0 hy hxm hzm hym hS2 hM hL8 HL hxQ hyQ
      go_upto_region 17 with fail
      go_cut [13] (fun v0 wx => wr = wx ∧ v0 = .int .i64 (x : Int))
      case first =>
        have h1 := HM1.out
        have h2 := HXM.out
        have h3 := HN1.out
        go_wp2_with fail
        go_meet
        case rel => exact ⟨rfl, rfl⟩
      obtain ⟨rfl, rfl⟩ := hcut
      go_upto_region 18 with fail
      go_cut [14] (fun v0 wx => wr = wx ∧ v0 = .int .i64 (y : Int))
      case first =>
        have h1 := HM3.out
        have h2 := HZM.out
        have h3 := HN3.out
        have h4 := HYM.out
        have h5 := HXQ.out
        go_wp2_with fail
        go_meet
        case rel => exact ⟨rfl, rfl⟩
      obtain ⟨rfl, rfl⟩ := hcut
      go_upto_region 19 with fail
      go_upto_region 20 with (first
        | (go_at_call 25; refine (HX.out.fail (x : Int)).mono ?_; rintro _ y101 ⟨_, rfl, hsq⟩; rw [nI_nat] at hsq; have HS_y101 : Hid (Sux w y101 x1.heap.size y1.heap.size (S.failI x) [] A_y2 Q c_y2 (rowX idN Q) none 0 0 ([]) none 0 0 ([])) := hide (hsq); clear hsq))
      go_wp2_with (first
        | (go_at_call 25; refine (HS_y101.out.fail (y : Int)).mono ?_; rintro _ y102 ⟨_, rfl, hsq⟩; rw [nI_nat, HS2.out] at hsq; have HS_y102 : Hid (Sux w y102 x1.heap.size y1.heap.size S2 [] A_y2 Q c_y2 (rowX idN Q) none 0 0 ([]) none 0 0 ([])) := hide (hsq); clear hsq))
      clear HX hTi hT HWR
      go_loopw [15] (fun s15 wr => ∃ s : Nat, s15 = .int .i64 (s : Int) ∧ s ≤ M ∧ Hid (Sux w wr x1.heap.size (y1.heap.size) S2 [] A_y2 Q c_y2 (rowX idN Q) none 0 0 [] none 0 0 [])) (fun s15 _ => M - (intOf s15).toNat)
      case atStart => exact ⟨0, rfl, Nat.zero_le _, HS_y102⟩
      case round =>
        obtain ⟨s, rfl, hs, HS_v⟩ := hrel
        clear HS_y102
        obtain ⟨v1, hv1⟩ : ∃ v1, v1 = wr := ⟨_, rfl⟩
        rw [← hv1] at HS_v ⊢
        clear hv1
        by_cases hsM : s < M
        · have hsi : (s : Int) < (M : Int) := by omega
          have HSM := hide hsM
          have hQ1 : Q - 1 = u := by have := HQU.out; omega
          have he0 : homeE Q (s : Int) = 0 := homeE_in (by omega) (by rw [HM.out]; exact hsM)
          obtain ⟨dk, hdk⟩ : ∃ dk, skipN (strH Q (s / u)) (s % u) = dk := ⟨_, rfl⟩
          obtain ⟨pz, hpz⟩ : ∃ z : Int, idN dk + ((s / u : Nat) : Int) = z := ⟨_, rfl⟩
          have HP := hide (show homeR (rowX idN Q) Q (s : Int) = ((dk : Int), pz) ∧ homeE Q (s : Int) = 0 from ⟨by
            unfold homeR
            rw [if_pos he0, Int.toNat_natCast, row_home idN (n := Q) (slot := s) (by omega), hQ1, hdk, hpz], he0⟩)
          have HRD := hide (show S2.sread (rowX idN Q) (s : Int) = if upd (upd (fun _ => false) x true) y true dk then (zeroSec, 5) else (secOf ((s + 1 : Nat) : Int), 0) from (by
            have h := HD.out.sread (slot := s) (s := secOf ((s + 1 : Nat) : Int)) (by omega) (by omega) HXQ.out HYQ.out (Ne.symm hyx) HDX.out HDY.out (by rw [HM.out]; exact hsM) (by rw [hQ1]; exact twoD_slot (by omega))
            rw [hQ1, hdk] at h
            exact h))
          obtain ⟨e, he⟩ : ∃ e, secOf ((s + 1 : Nat) : Int) = e := ⟨_, rfl⟩
          have HE := hide (show secOf ((s : Int) + 1) = e from he)
          rw [he] at HRD
          have hyi : ¬ (y : Int) = (x : Int) := by omega
          have hyj : ((y : Int) == (x : Int)) = false := beq_eq_false_iff_ne.mpr hyi
          clear he he0 hdk hpz hQ1
          by_cases hnx : dk = x
          · have hnx2 := hnx.symm
            clear hnx
            subst hnx2
            have hws : IntKind.i64.wrap ((s : Int) + 1) = (s : Int) + 1 := IntWalk.i64_in _ (by omega)
            have HRE := hide (show S2.sread (rowX idN Q) (s : Int) = (zeroSec, 5) by rw [HRD.out, HDX.out]; rfl)
            clear HRD
            go_upto_region 24 with (first
              | (go_at_call 15; refine (HS_v.out.slots K (Q : Int) (by omega) (by omega)).mono ?_; rintro _ y101 ⟨rfl, hsq⟩; rw [Int.toNat_natCast, HM.out]; have HS_y101 : Hid (Sux w y101 x1.heap.size y1.heap.size S2 [] A_y2 Q c_y2 (rowX idN Q) none 0 0 ([]) none 0 0 ([])) := hide (hsq); clear hsq))
            go_upto_region 25 with (first
              | (go_at_call 11; refine (HS_y101.out.home K (s : Int) ⟨by omega, by omega⟩).mono ?_; rintro _ y102 ⟨rfl, hsq⟩; rw [HP.out.1, HP.out.2]; have HS_y102 : Hid (Sux w y102 x1.heap.size y1.heap.size S2 [] A_y2 Q c_y2 (rowX idN Q) none 0 0 ([]) none 0 0 ([])) := hide (hsq); clear hsq)
              | ((with_reducible refine at_slot 16 ?_); refine wpList_alloc_blk rfl 26 rfl _ (mplace_zero _) ?_; intro y103 hbq hl1 hs1; clear hs1)
              | ((with_reducible refine at_store 16 ?_); refine wpList_store_all rfl 26 (.tmp 16) (.tmp 91) rfl y102.heap.size 26 _ hbq rfl (plC (((x : Int), pz))) rfl mplace_info rfl (plC_one _) ?_; intro y104 hbz hg hs; have HS_y104 : Hid (Sux w y104 x1.heap.size y1.heap.size S2 [(y102.heap.size, 26, plC (((x : Int), pz)))] A_y2 Q c_y2 (rowX idN Q) none 0 0 ([]) none 0 0 ([])) := hide (HS_y102.out.new hl1 hg hbz); clear hs hbq hl1 hg hbz))
            go_upto_region 26 with (first
              | (go_at_call 30; refine (HS_y104.out.sread K (s : Int) ⟨by omega, by omega⟩).mono ?_; rintro _ y105 ⟨rfl, hsq⟩; rw [HRE.out]; have HS_y105 : Hid (Sux w y105 x1.heap.size y1.heap.size S2 [(y102.heap.size, 26, plC (((x : Int), pz)))] A_y2 Q c_y2 (rowX idN Q) none 0 0 ([]) none 0 0 ([])) := hide (hsq); clear hsq)
              | ((with_reducible refine at_slot 18 ?_); refine wpList_alloc_blk rfl 49 rfl _ (sec_zero _) ?_; intro y106 hbq hl1 hs1; clear hs1)
              | ((with_reducible refine at_store 18 ?_); refine wpList_store_all rfl 49 (.tmp 18) (.tmp 98) rfl y105.heap.size 49 _ hbq rfl (secL zeroSec) rfl (msec_size _) (msec_len _ _) (secL_one _) ?_; intro y107 hbz hg hs; have HS_y107 : Hid (Sux w y107 x1.heap.size y1.heap.size S2 [(y102.heap.size, 26, plC (((x : Int), pz))), (y105.heap.size, 49, secL zeroSec)] A_y2 Q c_y2 (rowX idN Q) none 0 0 ([]) none 0 0 ([])) := hide (HS_y105.out.new hl1 hg hbz); clear hs hbq hl1 hg hbz))
            have c0 : y107.cell? ⟨y102.heap.size, 0, none⟩ = some (.int .i64 (x : Int)) := ((HS_y107.out.own.blk 0 rfl).cell 0).trans rfl
            go_upto_region 27 with fail
            clear c0
            refine wp_region_held_drew (S := (fun W => OwnV W y1.heap.size [(y102.heap.size, 26, plC (((x : Int), pz))), (y105.heap.size, 49, secL zeroSec)])) (by kernel_rfl) ?_ (fun hHeld => ?_)
            · exact HS_y107.out.drew.own
            have HS_dy107 := hide (HS_y107.out.drew)
            refine heldTake (i := 0) (v := ?_) rfl (by kernel_rfl) (by kernel_rfl) (by kernel_rfl) (fun _ _ _ h => h) (Or.inl ⟨by rfl, ?_⟩) (by assumption) ?_
            rotate_left
            · intro w hSw; (try dsimp only at hSw); go_simp <;> (with_reducible rfl)
            try simp only [Act.put, List.setIfInBounds_toArray, List.set_cons_zero, List.set_cons_succ]
            refine heldTake (i := 1) (v := ?_) rfl (by kernel_rfl) (by kernel_rfl) (by kernel_rfl) (fun _ _ _ h => h) (Or.inl ⟨by rfl, ?_⟩) (by assumption) ?_
            rotate_left
            · intro w hSw; (try dsimp only at hSw); go_simp <;> (with_reducible rfl)
            try simp only [Act.put, List.setIfInBounds_toArray, List.set_cons_zero, List.set_cons_succ]
            refine heldTake (i := 2) (v := ?_) rfl (by kernel_rfl) (by kernel_rfl) (by kernel_rfl) (fun _ _ _ h => h) (Or.inl ⟨by rfl, ?_⟩) (by assumption) ?_
            rotate_left
            · intro w hSw; (try dsimp only at hSw); go_simp <;> (with_reducible rfl)
            try simp only [Act.put, List.setIfInBounds_toArray, List.set_cons_zero, List.set_cons_succ]
            refine heldTake (i := 3) (v := ?_) rfl (by kernel_rfl) (by kernel_rfl) (by kernel_rfl) (fun _ _ _ h => h) (Or.inl ⟨by rfl, ?_⟩) (by assumption) ?_
            rotate_left
            · intro w hSw; (try dsimp only at hSw); go_simp <;> (with_reducible rfl)
            try simp only [Act.put, List.setIfInBounds_toArray, List.set_cons_zero, List.set_cons_succ]
            refine heldTake (i := 4) (v := ?_) rfl (by kernel_rfl) (by kernel_rfl) (by kernel_rfl) (fun _ _ _ h => h) (Or.inl ⟨by rfl, ?_⟩) (by assumption) ?_
            rotate_left
            · intro w hSw; (try dsimp only at hSw); go_simp <;> (with_reducible rfl)
            try simp only [Act.put, List.setIfInBounds_toArray, List.set_cons_zero, List.set_cons_succ]
            refine heldTake (i := 5) (v := .agg (secL zeroSec).toArray) rfl (by kernel_rfl) (by kernel_rfl) (by kernel_rfl) (fun _ _ _ h => h) (yieldsIf_load_mid (by rfl) _ _ rfl _ _ rfl (secL zeroSec) _ (fun W hW => hW.range 1 rfl) Try.underlying49 rfl (msec_size _)) (by assumption) ?_
            try simp only [Act.put, List.setIfInBounds_toArray, List.set_cons_zero, List.set_cons_succ]
            refine heldTake (i := 6) (v := .agg (secL zeroSec).toArray) rfl (by kernel_rfl) (by kernel_rfl) (by kernel_rfl) (fun _ _ _ h => h) (Or.inl ⟨by rfl, fun W hW => run_zeroS W _ rfl⟩) (by assumption) ?_
            try simp only [Act.put, List.setIfInBounds_toArray, List.set_cons_zero, List.set_cons_succ]
            refine heldTake (i := 7) (v := .bool false) rfl (by kernel_rfl) (by kernel_rfl) (by kernel_rfl) (fun _ _ _ h => h) (Or.inl ⟨by rfl, fun W hW => run_neS W _ (.tmp 115) (.tmp 116) _ rfl zeroSec zeroSec rfl rfl false (by simp)⟩) (by assumption) ?_
            try simp only [Act.put, List.setIfInBounds_toArray, List.set_cons_zero, List.set_cons_succ]
            refine heldTake (i := 8) (v := ?_) rfl (by kernel_rfl) (by kernel_rfl) (by kernel_rfl) (fun _ _ _ h => h) (Or.inl ⟨by rfl, ?_⟩) (by assumption) ?_
            rotate_left
            · intro w hSw; (try dsimp only at hSw); go_simp <;> (with_reducible rfl)
            try simp only [Act.put, List.setIfInBounds_toArray, List.set_cons_zero, List.set_cons_succ]
            refine heldTake (i := 9) (v := ?_) rfl (by kernel_rfl) (by kernel_rfl) (by kernel_rfl) (fun _ _ _ h => h) (Or.inl ⟨by rfl, ?_⟩) (by assumption) ?_
            rotate_left
            · intro w hSw; (try dsimp only at hSw); go_simp <;> (with_reducible rfl)
            try simp only [Act.put, List.setIfInBounds_toArray, List.set_cons_zero, List.set_cons_succ]
            refine heldTake (i := 10) (v := ?_) rfl (by kernel_rfl) (by kernel_rfl) (by kernel_rfl) (fun _ _ _ h => h) (Or.inl ⟨by rfl, ?_⟩) (by assumption) ?_
            rotate_left
            · intro w hSw; (try dsimp only at hSw); go_simp <;> (with_reducible rfl)
            try simp only [Act.put, List.setIfInBounds_toArray, List.set_cons_zero, List.set_cons_succ]
            refine heldTake (i := 11) (v := ?_) rfl (by kernel_rfl) (by kernel_rfl) (by kernel_rfl) (fun _ _ _ h => h) (Or.inl ⟨by rfl, ?_⟩) (by assumption) ?_
            rotate_left
            · intro w hSw; (try dsimp only at hSw); go_simp <;> (with_reducible rfl)
            try simp only [Act.put, List.setIfInBounds_toArray, List.set_cons_zero, List.set_cons_succ]
            refine heldTake (i := 12) (v := ?_) rfl (by kernel_rfl) (by kernel_rfl) (by kernel_rfl) (fun _ _ _ h => h) (Or.inl ⟨by rfl, ?_⟩) (by assumption) ?_
            rotate_left
            · intro w hSw; (try dsimp only at hSw); go_simp <;> (with_reducible rfl)
            try simp only [Act.put, List.setIfInBounds_toArray, List.set_cons_zero, List.set_cons_succ]
            refine heldTake (i := 13) (v := ?_) rfl (by kernel_rfl) (by kernel_rfl) (by kernel_rfl) (fun _ _ _ h => h) (Or.inl ⟨by rfl, ?_⟩) (by assumption) ?_
            rotate_left
            · intro w hSw; (try dsimp only at hSw); go_simp <;> (with_reducible rfl)
            try simp only [Act.put, List.setIfInBounds_toArray, List.set_cons_zero, List.set_cons_succ]
            refine heldTake (i := 14) (v := undef) rfl (by kernel_rfl) (by kernel_rfl) (by kernel_rfl) (fun _ _ _ h => h) (Or.inr ⟨by rfl, rfl⟩) (by assumption) ?_
            try simp only [Act.put, List.setIfInBounds_toArray, List.set_cons_zero, List.set_cons_succ]
            refine heldTake (i := 15) (v := undef) rfl (by kernel_rfl) (by kernel_rfl) (by kernel_rfl) (fun _ _ _ h => h) (Or.inr ⟨by rfl, rfl⟩) (by assumption) ?_
            try simp only [Act.put, List.setIfInBounds_toArray, List.set_cons_zero, List.set_cons_succ]
            refine heldTake (i := 16) (v := undef) rfl (by kernel_rfl) (by kernel_rfl) (by kernel_rfl) (fun _ _ _ h => h) (Or.inr ⟨by rfl, rfl⟩) (by assumption) ?_
            try simp only [Act.put, List.setIfInBounds_toArray, List.set_cons_zero, List.set_cons_succ]
            refine heldTake (i := 17) (v := undef) rfl (by kernel_rfl) (by kernel_rfl) (by kernel_rfl) (fun _ _ _ h => h) (Or.inr ⟨by rfl, rfl⟩) (by assumption) ?_
            try simp only [Act.put, List.setIfInBounds_toArray, List.set_cons_zero, List.set_cons_succ]
            refine heldTake (i := 18) (v := undef) rfl (by kernel_rfl) (by kernel_rfl) (by kernel_rfl) (fun _ _ _ h => h) (Or.inr ⟨by rfl, rfl⟩) (by assumption) ?_
            try simp only [Act.put, List.setIfInBounds_toArray, List.set_cons_zero, List.set_cons_succ]
            refine heldTake (i := 19) (v := undef) rfl (by kernel_rfl) (by kernel_rfl) (by kernel_rfl) (fun _ _ _ h => h) (Or.inr ⟨by rfl, rfl⟩) (by assumption) ?_
            try simp only [Act.put, List.setIfInBounds_toArray, List.set_cons_zero, List.set_cons_succ]
            refine heldTake (i := 20) (v := undef) rfl (by kernel_rfl) (by kernel_rfl) (by kernel_rfl) (fun _ _ _ h => h) (Or.inr ⟨by rfl, rfl⟩) (by assumption) ?_
            try simp only [Act.put, List.setIfInBounds_toArray, List.set_cons_zero, List.set_cons_succ]
            refine heldTake (i := 21) (v := undef) rfl (by kernel_rfl) (by kernel_rfl) (by kernel_rfl) (fun _ _ _ h => h) (Or.inr ⟨by rfl, rfl⟩) (by assumption) ?_
            try simp only [Act.put, List.setIfInBounds_toArray, List.set_cons_zero, List.set_cons_succ]
            refine heldTake (i := 22) (v := undef) rfl (by kernel_rfl) (by kernel_rfl) (by kernel_rfl) (fun _ _ _ h => h) (Or.inr ⟨by rfl, rfl⟩) (by assumption) ?_
            try simp only [Act.put, List.setIfInBounds_toArray, List.set_cons_zero, List.set_cons_succ]
            refine heldTake (i := 23) (v := ?_) rfl (by kernel_rfl) (by kernel_rfl) (by kernel_rfl) (fun _ _ _ h => h) (Or.inl ⟨by rfl, ?_⟩) (by assumption) ?_
            rotate_left
            · intro w hSw; (try dsimp only at hSw); go_simp <;> (with_reducible rfl)
            try simp only [Act.put, List.setIfInBounds_toArray, List.set_cons_zero, List.set_cons_succ]
            refine heldTake (i := 24) (v := ?_) rfl (by kernel_rfl) (by kernel_rfl) (by kernel_rfl) (fun _ _ _ h => h) (Or.inl ⟨by rfl, ?_⟩) (by assumption) ?_
            rotate_left
            · intro w hSw; (try dsimp only at hSw); go_simp <;> (with_reducible rfl)
            try simp only [Act.put, List.setIfInBounds_toArray, List.set_cons_zero, List.set_cons_succ]
            refine wpAnyH_done (by kernel_rfl) ?_ _
            clear hws
            go_wp2_with fail
            go_roundw
            case rel => exact ⟨s + 1, by simp, by omega, hide (HS_dy107.out.cut 0)⟩
            case measure => simp [intOf]; omega
          · by_cases hny : dk = y
            · have hny2 := hny.symm
              clear hny
              subst hny2
              have hws : IntKind.i64.wrap ((s : Int) + 1) = (s : Int) + 1 := IntWalk.i64_in _ (by omega)
              have HRE := hide (show S2.sread (rowX idN Q) (s : Int) = (zeroSec, 5) by rw [HRD.out, HDY.out]; rfl)
              clear HRD
              go_upto_region 24 with (first
                | (go_at_call 15; refine (HS_v.out.slots K (Q : Int) (by omega) (by omega)).mono ?_; rintro _ y101 ⟨rfl, hsq⟩; rw [Int.toNat_natCast, HM.out]; have HS_y101 : Hid (Sux w y101 x1.heap.size y1.heap.size S2 [] A_y2 Q c_y2 (rowX idN Q) none 0 0 ([]) none 0 0 ([])) := hide (hsq); clear hsq))
              go_upto_region 25 with (first
                | (go_at_call 11; refine (HS_y101.out.home K (s : Int) ⟨by omega, by omega⟩).mono ?_; rintro _ y102 ⟨rfl, hsq⟩; rw [HP.out.1, HP.out.2]; have HS_y102 : Hid (Sux w y102 x1.heap.size y1.heap.size S2 [] A_y2 Q c_y2 (rowX idN Q) none 0 0 ([]) none 0 0 ([])) := hide (hsq); clear hsq)
                | ((with_reducible refine at_slot 16 ?_); refine wpList_alloc_blk rfl 26 rfl _ (mplace_zero _) ?_; intro y103 hbq hl1 hs1; clear hs1)
                | ((with_reducible refine at_store 16 ?_); refine wpList_store_all rfl 26 (.tmp 16) (.tmp 91) rfl y102.heap.size 26 _ hbq rfl (plC (((y : Int), pz))) rfl mplace_info rfl (plC_one _) ?_; intro y104 hbz hg hs; have HS_y104 : Hid (Sux w y104 x1.heap.size y1.heap.size S2 [(y102.heap.size, 26, plC (((y : Int), pz)))] A_y2 Q c_y2 (rowX idN Q) none 0 0 ([]) none 0 0 ([])) := hide (HS_y102.out.new hl1 hg hbz); clear hs hbq hl1 hg hbz))
              go_upto_region 26 with (first
                | (go_at_call 30; refine (HS_y104.out.sread K (s : Int) ⟨by omega, by omega⟩).mono ?_; rintro _ y105 ⟨rfl, hsq⟩; rw [HRE.out]; have HS_y105 : Hid (Sux w y105 x1.heap.size y1.heap.size S2 [(y102.heap.size, 26, plC (((y : Int), pz)))] A_y2 Q c_y2 (rowX idN Q) none 0 0 ([]) none 0 0 ([])) := hide (hsq); clear hsq)
                | ((with_reducible refine at_slot 18 ?_); refine wpList_alloc_blk rfl 49 rfl _ (sec_zero _) ?_; intro y106 hbq hl1 hs1; clear hs1)
                | ((with_reducible refine at_store 18 ?_); refine wpList_store_all rfl 49 (.tmp 18) (.tmp 98) rfl y105.heap.size 49 _ hbq rfl (secL zeroSec) rfl (msec_size _) (msec_len _ _) (secL_one _) ?_; intro y107 hbz hg hs; have HS_y107 : Hid (Sux w y107 x1.heap.size y1.heap.size S2 [(y102.heap.size, 26, plC (((y : Int), pz))), (y105.heap.size, 49, secL zeroSec)] A_y2 Q c_y2 (rowX idN Q) none 0 0 ([]) none 0 0 ([])) := hide (HS_y105.out.new hl1 hg hbz); clear hs hbq hl1 hg hbz))
              have c0 : y107.cell? ⟨y102.heap.size, 0, none⟩ = some (.int .i64 (y : Int)) := ((HS_y107.out.own.blk 0 rfl).cell 0).trans rfl
              go_upto_region 27 with fail
              clear c0
              refine wp_region_held_drew (S := (fun W => OwnV W y1.heap.size [(y102.heap.size, 26, plC (((y : Int), pz))), (y105.heap.size, 49, secL zeroSec)])) (by kernel_rfl) ?_ (fun hHeld => ?_)
              · exact HS_y107.out.drew.own
              have HS_dy107 := hide (HS_y107.out.drew)
              refine heldTake (i := 0) (v := ?_) rfl (by kernel_rfl) (by kernel_rfl) (by kernel_rfl) (fun _ _ _ h => h) (Or.inl ⟨by rfl, ?_⟩) (by assumption) ?_
              rotate_left
              · intro w hSw; (try dsimp only at hSw); go_simp <;> (with_reducible rfl)
              try simp only [Act.put, List.setIfInBounds_toArray, List.set_cons_zero, List.set_cons_succ]
              refine heldTake (i := 1) (v := ?_) rfl (by kernel_rfl) (by kernel_rfl) (by kernel_rfl) (fun _ _ _ h => h) (Or.inl ⟨by rfl, ?_⟩) (by assumption) ?_
              rotate_left
              · intro w hSw; (try dsimp only at hSw); go_simp <;> (with_reducible rfl)
              try simp only [Act.put, List.setIfInBounds_toArray, List.set_cons_zero, List.set_cons_succ]
              refine heldTake (i := 2) (v := ?_) rfl (by kernel_rfl) (by kernel_rfl) (by kernel_rfl) (fun _ _ _ h => h) (Or.inl ⟨by rfl, ?_⟩) (by assumption) ?_
              rotate_left
              · intro w hSw; (try dsimp only at hSw); go_simp <;> (with_reducible rfl)
              try simp only [Act.put, List.setIfInBounds_toArray, List.set_cons_zero, List.set_cons_succ]
              refine heldTake (i := 3) (v := ?_) rfl (by kernel_rfl) (by kernel_rfl) (by kernel_rfl) (fun _ _ _ h => h) (Or.inl ⟨by rfl, ?_⟩) (by assumption) ?_
              rotate_left
              · intro w hSw; (try dsimp only at hSw); go_simp <;> (with_reducible rfl)
              try simp only [Act.put, List.setIfInBounds_toArray, List.set_cons_zero, List.set_cons_succ]
              refine heldTake (i := 4) (v := ?_) rfl (by kernel_rfl) (by kernel_rfl) (by kernel_rfl) (fun _ _ _ h => h) (Or.inl ⟨by rfl, ?_⟩) (by assumption) ?_
              rotate_left
              · intro w hSw; (try dsimp only at hSw); go_simp <;> (with_reducible rfl)
              try simp only [Act.put, List.setIfInBounds_toArray, List.set_cons_zero, List.set_cons_succ]
              refine heldTake (i := 5) (v := .agg (secL zeroSec).toArray) rfl (by kernel_rfl) (by kernel_rfl) (by kernel_rfl) (fun _ _ _ h => h) (yieldsIf_load_mid (by rfl) _ _ rfl _ _ rfl (secL zeroSec) _ (fun W hW => hW.range 1 rfl) Try.underlying49 rfl (msec_size _)) (by assumption) ?_
              try simp only [Act.put, List.setIfInBounds_toArray, List.set_cons_zero, List.set_cons_succ]
              refine heldTake (i := 6) (v := .agg (secL zeroSec).toArray) rfl (by kernel_rfl) (by kernel_rfl) (by kernel_rfl) (fun _ _ _ h => h) (Or.inl ⟨by rfl, fun W hW => run_zeroS W _ rfl⟩) (by assumption) ?_
              try simp only [Act.put, List.setIfInBounds_toArray, List.set_cons_zero, List.set_cons_succ]
              refine heldTake (i := 7) (v := .bool false) rfl (by kernel_rfl) (by kernel_rfl) (by kernel_rfl) (fun _ _ _ h => h) (Or.inl ⟨by rfl, fun W hW => run_neS W _ (.tmp 115) (.tmp 116) _ rfl zeroSec zeroSec rfl rfl false (by simp)⟩) (by assumption) ?_
              try simp only [Act.put, List.setIfInBounds_toArray, List.set_cons_zero, List.set_cons_succ]
              refine heldTake (i := 8) (v := ?_) rfl (by kernel_rfl) (by kernel_rfl) (by kernel_rfl) (fun _ _ _ h => h) (Or.inl ⟨by rfl, ?_⟩) (by assumption) ?_
              rotate_left
              · intro w hSw; (try dsimp only at hSw); go_simp <;> (with_reducible rfl)
              try simp only [Act.put, List.setIfInBounds_toArray, List.set_cons_zero, List.set_cons_succ]
              refine heldTake (i := 9) (v := ?_) rfl (by kernel_rfl) (by kernel_rfl) (by kernel_rfl) (fun _ _ _ h => h) (Or.inl ⟨by rfl, ?_⟩) (by assumption) ?_
              rotate_left
              · intro w hSw; (try dsimp only at hSw); go_simp <;> (with_reducible rfl)
              try simp only [Act.put, List.setIfInBounds_toArray, List.set_cons_zero, List.set_cons_succ]
              refine heldTake (i := 10) (v := ?_) rfl (by kernel_rfl) (by kernel_rfl) (by kernel_rfl) (fun _ _ _ h => h) (Or.inl ⟨by rfl, ?_⟩) (by assumption) ?_
              rotate_left
              · intro w hSw; (try dsimp only at hSw); go_simp <;> (with_reducible rfl)
              try simp only [Act.put, List.setIfInBounds_toArray, List.set_cons_zero, List.set_cons_succ]
              refine heldTake (i := 11) (v := ?_) rfl (by kernel_rfl) (by kernel_rfl) (by kernel_rfl) (fun _ _ _ h => h) (Or.inl ⟨by rfl, ?_⟩) (by assumption) ?_
              rotate_left
              · intro w hSw; (try dsimp only at hSw); go_simp <;> (with_reducible rfl)
              try simp only [Act.put, List.setIfInBounds_toArray, List.set_cons_zero, List.set_cons_succ]
              refine heldTake (i := 12) (v := ?_) rfl (by kernel_rfl) (by kernel_rfl) (by kernel_rfl) (fun _ _ _ h => h) (Or.inl ⟨by rfl, ?_⟩) (by assumption) ?_
              rotate_left
              · intro w hSw; (try dsimp only at hSw); go_simp <;> (with_reducible rfl)
              try simp only [Act.put, List.setIfInBounds_toArray, List.set_cons_zero, List.set_cons_succ]
              refine heldTake (i := 13) (v := ?_) rfl (by kernel_rfl) (by kernel_rfl) (by kernel_rfl) (fun _ _ _ h => h) (Or.inl ⟨by rfl, ?_⟩) (by assumption) ?_
              rotate_left
              · intro w hSw; (try dsimp only at hSw); go_simp <;> (with_reducible rfl)
              try simp only [Act.put, List.setIfInBounds_toArray, List.set_cons_zero, List.set_cons_succ]
              refine heldTake (i := 14) (v := undef) rfl (by kernel_rfl) (by kernel_rfl) (by kernel_rfl) (fun _ _ _ h => h) (Or.inr ⟨by rfl, rfl⟩) (by assumption) ?_
              try simp only [Act.put, List.setIfInBounds_toArray, List.set_cons_zero, List.set_cons_succ]
              refine heldTake (i := 15) (v := undef) rfl (by kernel_rfl) (by kernel_rfl) (by kernel_rfl) (fun _ _ _ h => h) (Or.inr ⟨by rfl, rfl⟩) (by assumption) ?_
              try simp only [Act.put, List.setIfInBounds_toArray, List.set_cons_zero, List.set_cons_succ]
              refine heldTake (i := 16) (v := undef) rfl (by kernel_rfl) (by kernel_rfl) (by kernel_rfl) (fun _ _ _ h => h) (Or.inr ⟨by rfl, rfl⟩) (by assumption) ?_
              try simp only [Act.put, List.setIfInBounds_toArray, List.set_cons_zero, List.set_cons_succ]
              refine heldTake (i := 17) (v := undef) rfl (by kernel_rfl) (by kernel_rfl) (by kernel_rfl) (fun _ _ _ h => h) (Or.inr ⟨by rfl, rfl⟩) (by assumption) ?_
              try simp only [Act.put, List.setIfInBounds_toArray, List.set_cons_zero, List.set_cons_succ]
              refine heldTake (i := 18) (v := undef) rfl (by kernel_rfl) (by kernel_rfl) (by kernel_rfl) (fun _ _ _ h => h) (Or.inr ⟨by rfl, rfl⟩) (by assumption) ?_
              try simp only [Act.put, List.setIfInBounds_toArray, List.set_cons_zero, List.set_cons_succ]
              refine heldTake (i := 19) (v := undef) rfl (by kernel_rfl) (by kernel_rfl) (by kernel_rfl) (fun _ _ _ h => h) (Or.inr ⟨by rfl, rfl⟩) (by assumption) ?_
              try simp only [Act.put, List.setIfInBounds_toArray, List.set_cons_zero, List.set_cons_succ]
              refine heldTake (i := 20) (v := undef) rfl (by kernel_rfl) (by kernel_rfl) (by kernel_rfl) (fun _ _ _ h => h) (Or.inr ⟨by rfl, rfl⟩) (by assumption) ?_
              try simp only [Act.put, List.setIfInBounds_toArray, List.set_cons_zero, List.set_cons_succ]
              refine heldTake (i := 21) (v := undef) rfl (by kernel_rfl) (by kernel_rfl) (by kernel_rfl) (fun _ _ _ h => h) (Or.inr ⟨by rfl, rfl⟩) (by assumption) ?_
              try simp only [Act.put, List.setIfInBounds_toArray, List.set_cons_zero, List.set_cons_succ]
              refine heldTake (i := 22) (v := undef) rfl (by kernel_rfl) (by kernel_rfl) (by kernel_rfl) (fun _ _ _ h => h) (Or.inr ⟨by rfl, rfl⟩) (by assumption) ?_
              try simp only [Act.put, List.setIfInBounds_toArray, List.set_cons_zero, List.set_cons_succ]
              refine heldTake (i := 23) (v := ?_) rfl (by kernel_rfl) (by kernel_rfl) (by kernel_rfl) (fun _ _ _ h => h) (Or.inl ⟨by rfl, ?_⟩) (by assumption) ?_
              rotate_left
              · intro w hSw; (try dsimp only at hSw); go_simp <;> (with_reducible rfl)
              try simp only [Act.put, List.setIfInBounds_toArray, List.set_cons_zero, List.set_cons_succ]
              refine heldTake (i := 24) (v := ?_) rfl (by kernel_rfl) (by kernel_rfl) (by kernel_rfl) (fun _ _ _ h => h) (Or.inl ⟨by rfl, ?_⟩) (by assumption) ?_
              rotate_left
              · intro w hSw; (try dsimp only at hSw); go_simp <;> (with_reducible rfl)
              try simp only [Act.put, List.setIfInBounds_toArray, List.set_cons_zero, List.set_cons_succ]
              refine wpAnyH_done (by kernel_rfl) ?_ _
              clear hws
              go_wp2_with fail
              go_roundw
              case rel => exact ⟨s + 1, by simp, by omega, hide (HS_dy107.out.cut 0)⟩
              case measure => simp [intOf]; omega
            · skip
              have hws : IntKind.i64.wrap ((s : Int) + 1) = (s : Int) + 1 := IntWalk.i64_in _ (by omega)
              have HRE := hide (show S2.sread (rowX idN Q) (s : Int) = (e, 0) by rw [HRD.out, HDN.out dk hnx hny]; rfl)
              clear HRD
              have hnxi : ((dk : Int) == (x : Int)) = false := beq_eq_false_iff_ne.mpr (by omega)
              have hnyi : ((dk : Int) == (y : Int)) = false := beq_eq_false_iff_ne.mpr (by omega)
              have hnxj : ¬ (dk : Int) = (x : Int) := by omega
              have hnyj : ¬ (dk : Int) = (y : Int) := by omega
              go_upto_region 24 with (first
                | (go_at_call 15; refine (HS_v.out.slots K (Q : Int) (by omega) (by omega)).mono ?_; rintro _ y101 ⟨rfl, hsq⟩; rw [Int.toNat_natCast, HM.out]; have HS_y101 : Hid (Sux w y101 x1.heap.size y1.heap.size S2 [] A_y2 Q c_y2 (rowX idN Q) none 0 0 ([]) none 0 0 ([])) := hide (hsq); clear hsq))
              go_upto_region 25 with (first
                | (go_at_call 11; refine (HS_y101.out.home K (s : Int) ⟨by omega, by omega⟩).mono ?_; rintro _ y102 ⟨rfl, hsq⟩; rw [HP.out.1, HP.out.2]; have HS_y102 : Hid (Sux w y102 x1.heap.size y1.heap.size S2 [] A_y2 Q c_y2 (rowX idN Q) none 0 0 ([]) none 0 0 ([])) := hide (hsq); clear hsq)
                | ((with_reducible refine at_slot 16 ?_); refine wpList_alloc_blk rfl 26 rfl _ (mplace_zero _) ?_; intro y103 hbq hl1 hs1; clear hs1)
                | ((with_reducible refine at_store 16 ?_); refine wpList_store_all rfl 26 (.tmp 16) (.tmp 91) rfl y102.heap.size 26 _ hbq rfl (plC (((dk : Int), pz))) rfl mplace_info rfl (plC_one _) ?_; intro y104 hbz hg hs; have HS_y104 : Hid (Sux w y104 x1.heap.size y1.heap.size S2 [(y102.heap.size, 26, plC (((dk : Int), pz)))] A_y2 Q c_y2 (rowX idN Q) none 0 0 ([]) none 0 0 ([])) := hide (HS_y102.out.new hl1 hg hbz); clear hs hbq hl1 hg hbz))
              go_upto_region 26 with (first
                | (go_at_call 30; refine (HS_y104.out.sread K (s : Int) ⟨by omega, by omega⟩).mono ?_; rintro _ y105 ⟨rfl, hsq⟩; rw [HRE.out]; have HS_y105 : Hid (Sux w y105 x1.heap.size y1.heap.size S2 [(y102.heap.size, 26, plC (((dk : Int), pz)))] A_y2 Q c_y2 (rowX idN Q) none 0 0 ([]) none 0 0 ([])) := hide (hsq); clear hsq)
                | ((with_reducible refine at_slot 18 ?_); refine wpList_alloc_blk rfl 49 rfl _ (sec_zero _) ?_; intro y106 hbq hl1 hs1; clear hs1)
                | ((with_reducible refine at_store 18 ?_); refine wpList_store_all rfl 49 (.tmp 18) (.tmp 98) rfl y105.heap.size 49 _ hbq rfl (secL e) rfl (msec_size _) (msec_len _ _) (secL_one _) ?_; intro y107 hbz hg hs; have HS_y107 : Hid (Sux w y107 x1.heap.size y1.heap.size S2 [(y102.heap.size, 26, plC (((dk : Int), pz))), (y105.heap.size, 49, secL e)] A_y2 Q c_y2 (rowX idN Q) none 0 0 ([]) none 0 0 ([])) := hide (HS_y105.out.new hl1 hg hbz); clear hs hbq hl1 hg hbz))
              have c0 : y107.cell? ⟨y102.heap.size, 0, none⟩ = some (.int .i64 (dk : Int)) := ((HS_y107.out.own.blk 0 rfl).cell 0).trans rfl
              go_upto_region 27 with fail
              clear c0
              refine wp_region_held_drew (S := (fun W => OwnV W y1.heap.size [(y102.heap.size, 26, plC (((dk : Int), pz))), (y105.heap.size, 49, secL e)])) (by kernel_rfl) ?_ (fun hHeld => ?_)
              · exact HS_y107.out.drew.own
              have HS_dy107 := hide (HS_y107.out.drew)
              refine heldTake (i := 0) (v := ?_) rfl (by kernel_rfl) (by kernel_rfl) (by kernel_rfl) (fun _ _ _ h => h) (Or.inl ⟨by rfl, ?_⟩) (by assumption) ?_
              rotate_left
              · intro w hSw; (try dsimp only at hSw); go_simp <;> (with_reducible rfl)
              try simp only [Act.put, List.setIfInBounds_toArray, List.set_cons_zero, List.set_cons_succ]
              refine heldTake (i := 1) (v := ?_) rfl (by kernel_rfl) (by kernel_rfl) (by kernel_rfl) (fun _ _ _ h => h) (Or.inl ⟨by rfl, ?_⟩) (by assumption) ?_
              rotate_left
              · intro w hSw; (try dsimp only at hSw); go_simp <;> (with_reducible rfl)
              try simp only [Act.put, List.setIfInBounds_toArray, List.set_cons_zero, List.set_cons_succ]
              refine heldTake (i := 2) (v := undef) rfl (by kernel_rfl) (by kernel_rfl) (by kernel_rfl) (fun _ _ _ h => h) (Or.inr ⟨by rfl, rfl⟩) (by assumption) ?_
              try simp only [Act.put, List.setIfInBounds_toArray, List.set_cons_zero, List.set_cons_succ]
              refine heldTake (i := 3) (v := undef) rfl (by kernel_rfl) (by kernel_rfl) (by kernel_rfl) (fun _ _ _ h => h) (Or.inr ⟨by rfl, rfl⟩) (by assumption) ?_
              try simp only [Act.put, List.setIfInBounds_toArray, List.set_cons_zero, List.set_cons_succ]
              refine heldTake (i := 4) (v := undef) rfl (by kernel_rfl) (by kernel_rfl) (by kernel_rfl) (fun _ _ _ h => h) (Or.inr ⟨by rfl, rfl⟩) (by assumption) ?_
              try simp only [Act.put, List.setIfInBounds_toArray, List.set_cons_zero, List.set_cons_succ]
              refine heldTake (i := 5) (v := undef) rfl (by kernel_rfl) (by kernel_rfl) (by kernel_rfl) (fun _ _ _ h => h) (Or.inr ⟨by rfl, rfl⟩) (by assumption) ?_
              try simp only [Act.put, List.setIfInBounds_toArray, List.set_cons_zero, List.set_cons_succ]
              refine heldTake (i := 6) (v := undef) rfl (by kernel_rfl) (by kernel_rfl) (by kernel_rfl) (fun _ _ _ h => h) (Or.inr ⟨by rfl, rfl⟩) (by assumption) ?_
              try simp only [Act.put, List.setIfInBounds_toArray, List.set_cons_zero, List.set_cons_succ]
              refine heldTake (i := 7) (v := undef) rfl (by kernel_rfl) (by kernel_rfl) (by kernel_rfl) (fun _ _ _ h => h) (Or.inr ⟨by rfl, rfl⟩) (by assumption) ?_
              try simp only [Act.put, List.setIfInBounds_toArray, List.set_cons_zero, List.set_cons_succ]
              refine heldTake (i := 8) (v := undef) rfl (by kernel_rfl) (by kernel_rfl) (by kernel_rfl) (fun _ _ _ h => h) (Or.inr ⟨by rfl, rfl⟩) (by assumption) ?_
              try simp only [Act.put, List.setIfInBounds_toArray, List.set_cons_zero, List.set_cons_succ]
              refine heldTake (i := 9) (v := ?_) rfl (by kernel_rfl) (by kernel_rfl) (by kernel_rfl) (fun _ _ _ h => h) (Or.inl ⟨by rfl, ?_⟩) (by assumption) ?_
              rotate_left
              · intro w hSw; (try dsimp only at hSw); go_simp <;> (with_reducible rfl)
              try simp only [Act.put, List.setIfInBounds_toArray, List.set_cons_zero, List.set_cons_succ]
              refine heldTake (i := 10) (v := ?_) rfl (by kernel_rfl) (by kernel_rfl) (by kernel_rfl) (fun _ _ _ h => h) (Or.inl ⟨by rfl, ?_⟩) (by assumption) ?_
              rotate_left
              · intro w hSw; (try dsimp only at hSw); go_simp <;> (with_reducible rfl)
              try simp only [Act.put, List.setIfInBounds_toArray, List.set_cons_zero, List.set_cons_succ]
              refine heldTake (i := 11) (v := ?_) rfl (by kernel_rfl) (by kernel_rfl) (by kernel_rfl) (fun _ _ _ h => h) (Or.inl ⟨by rfl, ?_⟩) (by assumption) ?_
              rotate_left
              · intro w hSw; (try dsimp only at hSw); go_simp <;> (with_reducible rfl)
              try simp only [Act.put, List.setIfInBounds_toArray, List.set_cons_zero, List.set_cons_succ]
              refine heldTake (i := 12) (v := ?_) rfl (by kernel_rfl) (by kernel_rfl) (by kernel_rfl) (fun _ _ _ h => h) (Or.inl ⟨by rfl, ?_⟩) (by assumption) ?_
              rotate_left
              · intro w hSw; (try dsimp only at hSw); go_simp <;> (with_reducible rfl)
              try simp only [Act.put, List.setIfInBounds_toArray, List.set_cons_zero, List.set_cons_succ]
              refine heldTake (i := 13) (v := ?_) rfl (by kernel_rfl) (by kernel_rfl) (by kernel_rfl) (fun _ _ _ h => h) (Or.inl ⟨by rfl, ?_⟩) (by assumption) ?_
              rotate_left
              · intro w hSw; (try dsimp only at hSw); go_simp <;> (with_reducible rfl)
              try simp only [Act.put, List.setIfInBounds_toArray, List.set_cons_zero, List.set_cons_succ]
              refine heldTake (i := 14) (v := ?_) rfl (by kernel_rfl) (by kernel_rfl) (by kernel_rfl) (fun _ _ _ h => h) (Or.inl ⟨by rfl, ?_⟩) (by assumption) ?_
              rotate_left
              · intro w hSw; (try dsimp only at hSw); go_simp <;> (with_reducible rfl)
              try simp only [Act.put, List.setIfInBounds_toArray, List.set_cons_zero, List.set_cons_succ]
              refine heldTake (i := 15) (v := ?_) rfl (by kernel_rfl) (by kernel_rfl) (by kernel_rfl) (fun _ _ _ h => h) (Or.inl ⟨by rfl, ?_⟩) (by assumption) ?_
              rotate_left
              · intro w hSw; (try dsimp only at hSw); go_simp <;> (with_reducible rfl)
              try simp only [Act.put, List.setIfInBounds_toArray, List.set_cons_zero, List.set_cons_succ]
              refine heldTake (i := 16) (v := ?_) rfl (by kernel_rfl) (by kernel_rfl) (by kernel_rfl) (fun _ _ _ h => h) (Or.inl ⟨by rfl, ?_⟩) (by assumption) ?_
              rotate_left
              · intro w hSw; (try dsimp only at hSw); go_simp <;> (with_reducible rfl)
              try simp only [Act.put, List.setIfInBounds_toArray, List.set_cons_zero, List.set_cons_succ]
              refine heldTake (i := 17) (v := .agg (secL e).toArray) rfl (by kernel_rfl) (by kernel_rfl) (by kernel_rfl) (fun _ _ _ h => h) (yieldsIf_load_mid (by rfl) _ _ rfl _ _ rfl (secL e) _ (fun W hW => hW.range 1 rfl) Try.underlying49 rfl (msec_size _)) (by assumption) ?_
              try simp only [Act.put, List.setIfInBounds_toArray, List.set_cons_zero, List.set_cons_succ]
              refine heldTake (i := 18) (v := ?_) rfl (by kernel_rfl) (by kernel_rfl) (by kernel_rfl) (fun _ _ _ h => h) (Or.inl ⟨by rfl, ?_⟩) (by assumption) ?_
              rotate_left
              · intro w hSw; (try dsimp only at hSw); go_simp <;> (with_reducible rfl)
              try simp only [Act.put, List.setIfInBounds_toArray, List.set_cons_zero, List.set_cons_succ]
              refine heldTake (i := 19) (v := ?_) rfl (by kernel_rfl) (by kernel_rfl) (by kernel_rfl) (fun _ _ _ h => h) (Or.inl ⟨by rfl, ?_⟩) (by assumption) ?_
              rotate_left
              · intro w hSw; (try dsimp only at hSw); go_simp <;> (with_reducible rfl)
              try simp only [Act.put, List.setIfInBounds_toArray, List.set_cons_zero, List.set_cons_succ]
              refine wpAnyH_ready (rs := [20]) (by kernel_rfl) (by simp) ?_
              refine heldCons (i := 20) rfl (fun Kq hKq => ?_) AllReadyH.nil
              go_simp
              go_at_call 26
              (with_reducible refine (sector_any ((s : Int) + 1) _).mono ?_)
              rintro _ y108 ⟨rfl, hlq⟩
              rw [HE.out]
              have HS_y108 : Hid (Sux w y108 x1.heap.size y1.heap.size S2 [(y102.heap.size, 26, plC (((dk : Int), pz))), (y105.heap.size, 49, secL e)] A_y2 Q c_y2 (rowX idN Q) none 0 0 ([]) none 0 0 ([])) := hide (HS_dy107.out.later hlq)
              clear hlq
              first | (refine hKq.out _ _ HS_y108.out.own (fun hHeld => ?_)) | (go_wp2_with fail; refine hKq.out _ _ HS_y108.out.own (fun hHeld => ?_))
              clear hKq Kq
              try simp only [Act.put, List.setIfInBounds_toArray, List.set_cons_zero, List.set_cons_succ]
              refine heldTake (i := 21) (v := .bool false) rfl (by kernel_rfl) (by kernel_rfl) (by kernel_rfl) (fun _ _ _ h => h) (Or.inl ⟨by rfl, fun W hW => run_neS W _ (.tmp 127) (.tmp 130) _ rfl e e rfl rfl false (by simp)⟩) (by assumption) ?_
              try simp only [Act.put, List.setIfInBounds_toArray, List.set_cons_zero, List.set_cons_succ]
              refine heldTake (i := 22) (v := ?_) rfl (by kernel_rfl) (by kernel_rfl) (by kernel_rfl) (fun _ _ _ h => h) (Or.inl ⟨by rfl, ?_⟩) (by assumption) ?_
              rotate_left
              · intro w hSw; (try dsimp only at hSw); go_simp <;> (with_reducible rfl)
              try simp only [Act.put, List.setIfInBounds_toArray, List.set_cons_zero, List.set_cons_succ]
              refine heldTake (i := 23) (v := ?_) rfl (by kernel_rfl) (by kernel_rfl) (by kernel_rfl) (fun _ _ _ h => h) (Or.inl ⟨by rfl, ?_⟩) (by assumption) ?_
              rotate_left
              · intro w hSw; (try dsimp only at hSw); go_simp <;> (with_reducible rfl)
              try simp only [Act.put, List.setIfInBounds_toArray, List.set_cons_zero, List.set_cons_succ]
              refine heldTake (i := 24) (v := ?_) rfl (by kernel_rfl) (by kernel_rfl) (by kernel_rfl) (fun _ _ _ h => h) (Or.inl ⟨by rfl, ?_⟩) (by assumption) ?_
              rotate_left
              · intro w hSw; (try dsimp only at hSw); go_simp <;> (with_reducible rfl)
              try simp only [Act.put, List.setIfInBounds_toArray, List.set_cons_zero, List.set_cons_succ]
              refine wpAnyH_done (by kernel_rfl) ?_ _
              clear hws
              go_wp2_with fail
              go_roundw
              case rel => exact ⟨s + 1, by simp, by omega, hide (HS_y108.out.cut 0)⟩
              case measure => simp [intOf]; omega
        · skip
          have hsi : ¬ (s : Int) < (M : Int) := by omega
          have HB := hide (show S2.srebuilt (rowX idN Q) (x : Int) 0 = (zeroSec, 5) from HD.out.srebuilt (t := 0) (by omega) (by omega) HXQ.out HYQ.out hyx HDY.out (by decide))
          have HW0 := hide (show (S2.sfull (rowX idN Q) 0 (List.replicate u zeroSec)).1 = 5 from HD.out.sfull (t := 0) (by omega) (by omega) HXQ.out HYQ.out (Ne.symm hyx) HDX.out HDY.out (by decide) (by rw [List.length_replicate]; have := HQU.out; omega))
          go_upto_region 30 with (first
            | (go_at_call 15; refine (HS_v.out.slots K (Q : Int) (by omega) (by omega)).mono ?_; rintro _ y101 ⟨rfl, hsq⟩; rw [Int.toNat_natCast, HM.out]; have HS_y101 : Hid (Sux w y101 x1.heap.size y1.heap.size S2 [] A_y2 Q c_y2 (rowX idN Q) none 0 0 ([]) none 0 0 ([])) := hide (hsq); clear hsq)
            | (go_at_call 33; refine (HS_y101.out.srebuilt K (x : Int) 0 ⟨by have := HXQ.out; omega, by have := HXQ.out; omega⟩ ⟨by decide, by decide⟩).mono ?_; rintro _ y102 ⟨rfl, hsq⟩; rw [HB.out]; have HS_y102 : Hid (Sux w y102 x1.heap.size y1.heap.size S2 [] A_y2 Q c_y2 (rowX idN Q) none 0 0 ([]) none 0 0 ([])) := hide (hsq); clear hsq)
            | ((with_reducible refine at_slot 21 ?_); refine wpList_alloc_blk rfl 49 rfl _ (sec_zero _) ?_; intro y103 hbq hl1 hs1; clear hs1)
            | ((with_reducible refine at_store 21 ?_); refine wpList_store_all rfl 49 (.tmp 21) (.tmp 140) rfl y102.heap.size 49 _ hbq rfl (secL zeroSec) rfl (msec_size _) (msec_len _ _) (secL_one _) ?_; intro y104 hbz hg hs; have HS_y104 : Hid (Sux w y104 x1.heap.size y1.heap.size S2 [(y102.heap.size, 49, secL zeroSec)] A_y2 Q c_y2 (rowX idN Q) none 0 0 ([]) none 0 0 ([])) := hide (HS_y102.out.new hl1 hg hbz); clear hs hbq hl1 hg hbz))
          go_wp2_with (first
            | ((with_reducible refine at_slot 152 ?_); go_loud (refine when_makeD rfl (.tmp 151) (.tmp 151) rfl u rfl rfl (by omega) ?_; intro y105 hbq hlq; have HS_y105 : Hid (Sux w y105 x1.heap.size y1.heap.size S2 [(y102.heap.size, 49, secL zeroSec)] A_y2 Q c_y2 (rowX idN Q) none 0 0 ([]) (some ⟨y104.heap.size, 0, none⟩) u u (List.replicate u zeroSec)) := hide (HS_y104.out.madeD (by omega) hbq hlq); clear hbq hlq))
            | (go_at_call 27; refine (HS_y105.out.sfull K (by have := HW2.out; omega) 0 ⟨by decide, by decide⟩ (by omega)).mono ?_; rintro _ q ⟨rfl, hsq⟩; rw [HW0.out]; have HZ := hide hsq; clear hsq))
          go_ret
          exact ⟨rfl, HZ.out.low⟩
#print axioms stripeTwo_walk
end Go.Proofs.Ytjafhlljigaibaa
