/- RecencyOldest's walk over the contracts. -/
import Derived.Test.YthodmhjlokfcaaaRcL
import Derived.Test.YthodmhjlokfcaaaArgI
import Derived.Deep.DeepCutAuto
import Derived.Deep.CutBlock
import Derived.Deep.LoopGhost
namespace Go.Proofs.Ythodmhjlokfcaaa
open Go.RowKit Go.Maps
set_option linter.unusedVariables false
set_option maxRecDepth 100000 in
set_option maxHeartbeats 16000000 in
theorem recencyOldest_walk (A : Option Addr) (n c : Nat) (l : List Int) (q : Int) (w : World) (hr : Reads w w.heap.size 1 A n (I64 l)) (hl : ∀ v ∈ l, -9223372036854775808 ≤ v ∧ v ≤ 9223372036854775807) (hnc : n ≤ c) (hcm : c ≤ 9223372036854775807) (hq1 : -9223372036854775808 ≤ q) (hq2 : q ≤ 9223372036854775807) :
    Calls Try.prog 7 #[.slice A n c, .int .i64 q] w fun e w' => e = .returned (.bool true) ∧ Below w.heap.size w w' := by
  have HS_w : Hid (Sta w w [] []) := hide (Sta.begin w)
  have HSH := hide (shown16_any)
  have HR := hide hr
  have HF := hide (fun v (hv : v ∈ l) => okS (hl v hv).1 (hl v hv).2)
  have heq := run_eql_rc
  obtain ⟨N, hN⟩ : ∃ N, N = min n 50 := ⟨_, rfl⟩
  have hN1 : N ≤ n := by omega
  have hN2 : N ≤ 50 := by omega
  have hN3 : n ≤ 50 → N = n := by omega
  have hN4 : 50 < n → N = 50 := by omega
  clear hr hl hN
  go_enter Try.func7, Try.ntmps7
  go_upto_block 0 with (first
    | (go_at_call 9; refine (HS_y1.out.mk_).mono ?_; rintro _ y2 ⟨m, rfl, hsq⟩; have HS_y2 : Hid (Sta w y2 [rcT m []] []) := hide hsq; clear hsq)
    | (go_at_call 8; refine (HSH.out _).mono ?_; rintro _ y1 ⟨rfl, hlq⟩; have HS_y1 : Hid (Sta w y1 [] []) := hide (HS_w.out.later hlq); clear hlq))
  go_cut [7] (fun _ wx => Hid (Sta w wx [rcT m (tchs (l.take N))] []))
  case first =>
    go_wp2_with fail
    go_loopw [7] (fun s7 wr => ∃ j : Nat, j ≤ N ∧ s7 = .int .i64 (j : Int) ∧ Hid (Sta w wr [rcT m (tchs (l.take j))] [])) (fun s7 _ => N - (intOf s7).toNat)
    case atStart => exact ⟨0, Nat.zero_le _, rfl, HS_y2⟩
    case round =>
      obtain ⟨j, hj, rfl, HS⟩ := hrel
      obtain ⟨z, rfl⟩ : ∃ z, z = wr := ⟨_, rfl⟩
      by_cases hjN : j < N
      · have hjn : (j : Int) < (n : Int) := by omega
        have hjl : (j : Int) < 50 := by omega
        obtain ⟨ad, x, rfl, hx, hcx⟩ := arg_num HR.out HS.out.low (k := j) (by omega)
        have HX := hide hx
        have HLM := hide (show (tchs (l.take j)).length ≤ 1000000 by have := tchs_take_len l j; omega)
        clear hx
        go_wp2_with (first
          | (go_at_call 20; refine (HS.out.touch_ 0 rfl x (HF.out x (List.mem_of_getElem? HX.out)) HLM.out).mono ?_; rintro _ w3 ⟨rfl, hsq⟩; rw [tchs_step HX.out] at hsq; have HS3 : Hid (Sta w w3 [rcT m (tchs (l.take (j + 1)))] []) := hide hsq; clear hsq))
        go_roundw
        case rel => exact ⟨j + 1, by omega, by go_num, HS3⟩
        case measure => simp [intOf]; omega
      · obtain rfl : j = N := by omega
        by_cases hnl : n ≤ 50
        · have hd : decide ((j : Int) < (n : Int)) = false := by simp; omega
          go_wp2_with fail
          go_meet
          exact HS
        · have hd0 : (j : Int) < (n : Int) := by omega
          have hd : decide ((j : Int) < 50) = false := by simp; omega
          go_wp2_with fail
          go_meet
          exact HS
  obtain ⟨z1, hz1⟩ : ∃ z, z = wc := ⟨_, rfl⟩
  subst hz1
  obtain ⟨L, hL⟩ : ∃ L, tchs (l.take N) = L := ⟨_, rfl⟩
  rw [hL] at hcut
  have hL50 : L.length ≤ 50 := by have := tchs_take_len l N; rw [hL] at this; omega
  have HS_z1 := hcut
  have HU := hide (show L.Nodup by rw [← hL]; exact tchs_nodup _)
  have HLF := hide (HS_z1.out.fits 0 rfl)
  clear hcut
  clear hL hN1 hN2 hN3 hN4
  obtain ⟨K, hK⟩ : ∃ K, K = min q.toNat L.length := ⟨_, rfl⟩
  have hKL : K ≤ L.length := by omega
  obtain ⟨mn, hmn⟩ : ∃ x, (if (L.length : Int) < q then (L.length : Int) else q) = x := ⟨_, rfl⟩
  have hKm : (if 0 < mn then mn else 0) = (K : Int) := by
    rw [← hmn]
    split <;> split <;> omega
  have hTe : L.take q.toNat = L.take K := by
    rcases Nat.le_total q.toNat L.length with h | h
    · rw [hK, Nat.min_eq_left h]
    · rw [hK, Nat.min_eq_right h, List.take_of_length_le h, List.take_of_length_le (Nat.le_refl _)]
  have HTE := hide hTe
  have HTL := hide (show (L.take K).length = K by rw [List.length_take]; omega)
  obtain ⟨D, hD⟩ : ∃ D, L.length = K + D := ⟨L.length - K, by omega⟩
  have HDL := hide (show (L.drop K).length = D by rw [List.length_drop]; omega)
  have hDI : (L.length : Int) - (K : Int) = (D : Int) := by omega
  obtain ⟨NL, hNL⟩ : ∃ x, L.length = x := ⟨_, rfl⟩
  have HNL := hide hNL
  rw [hNL] at hL50 hKL hD hDI hmn
  have HLIM := hide (show L.length ≤ 1000000 by omega)
  have HMN := hide hmn
  have HNK := hide (show NL - K = D by omega)
  have HKM := hide hKm
  have hDb : D ≤ 50 := by omega
  clear hTe hK hKm hNL hmn hD
  go_upto_block 2 with (first
    | (go_at_call 16; refine (HS_y2.out.numbers_ (by have h8 := (HS_y2.out.rds 2 rfl).2; exact h8) (by have h8 := (HS_y2.out.rds 1 rfl).2; exact rd_head h8 hKL) (by omega) (by omega)).mono ?_; rintro _ y3 ⟨rfl, hsq, hlq⟩; rw [show decide (L.take K = L.take K) = true from decide_eq_true rfl]; have HS_y3 : Hid (Sta w y3 [rcT m L, ilT (.slice A1 NL c1) L, ilT (.slice A2 K c2) (L.take K)] []) := hide hsq; clear hsq hlq)
    | ((with_reducible refine at_slot 49 ?_); refine when_gives rfl _ (run_cutI _ _ (.tmp 47) (.tmp 48) rfl A1 NL c1 K rfl rfl (by omega)) ?_)
    | ((with_reducible refine at_slot 45 ?_); refine when_gives rfl (.int .i64 (K : Int)) (by go_simp <;> (first | rfl | (rw [HKM.out]) | (simp [HKM.out]))) ?_)
    | ((with_reducible refine at_slot 44 ?_); refine when_gives rfl (.int .i64 mn) (by go_simp <;> (first | rfl | (rw [HMN.out]) | (simp [HMN.out]))) ?_)
    | (go_at_call 15; refine (HS_y1.out.oldest_ 0 rfl HLIM.out q (L.take K) HTE.out).mono ?_; rintro _ y2 ⟨A2, c2, rfl, hnA2, hcA2, hsq⟩; rw [HTL.out] at hnA2 hsq ⊢; have HS_y2 : Hid (Sta w y2 [rcT m L, ilT (.slice A1 NL c1) L, ilT (.slice A2 K c2) (L.take K)] []) := hide hsq; clear hsq)
    | (go_at_call 23; refine (HS_z1.out.all_ 0 rfl HLIM.out).mono ?_; rintro _ y1 ⟨A1, c1, rfl, hnA1, hcA1, hsq⟩; rw [HNL.out] at hnA1 hsq ⊢; have HS_y1 : Hid (Sta w y1 [rcT m L, ilT (.slice A1 NL c1) L] []) := hide hsq; clear hsq))
  go_cut [12] (fun _ wx => Hid (Sta w wx [rcT m (L.drop K), ilT (.slice A1 NL c1) L, ilT (.slice A2 K c2) (L.take K)] []))
  case first =>
    go_wp2_with fail
    go_loopw [12] (fun s12 wr => ∃ j : Nat, j ≤ K ∧ s12 = .int .i64 (j : Int) ∧ Hid (Sta w wr [rcT m (L.drop j), ilT (.slice A1 NL c1) L, ilT (.slice A2 K c2) (L.take K)] [])) (fun s12 _ => K - (intOf s12).toNat)
    case atStart => exact ⟨0, Nat.zero_le _, rfl, HS_y3⟩
    case round =>
      obtain ⟨j, hj, rfl, HS⟩ := hrel
      obtain ⟨z, rfl⟩ : ∃ z, z = wr := ⟨_, rfl⟩
      by_cases hjK : j < K
      · obtain ⟨x, hx⟩ : ∃ x, L[j]? = some x := ⟨_, List.getElem?_eq_getElem (by rw [HNL.out]; omega)⟩
        obtain ⟨g, rfl, _, hcx⟩ := HS.out.num 2 rfl (k := j) (x := x) (by rw [List.getElem?_take, if_pos hjK]; exact hx)
        have HX := hide hx
        have HD := hide (show decide (x ∈ L.drop j) = true from decide_eq_true (by rw [drop_at hx]; exact List.mem_cons_self ..))
        have hjj : (j : Int) < (K : Int) := by omega
        clear hx
        go_wp2_with (first
          | (go_at_call 11; refine (HS.out.drop_ 0 rfl x (HLF.out x (List.mem_of_getElem? HX.out))).mono ?_; rintro _ w3 ⟨rfl, hsq⟩; rw [HD.out]; rw [wo_drop HU.out HX.out] at hsq; have HS3 : Hid (Sta w w3 [rcT m (L.drop (j + 1)), ilT (.slice A1 NL c1) L, ilT (.slice (some ⟨g, 0, none⟩) K c2) (L.take K)] []) := hide hsq; clear hsq))
        go_roundw
        case rel => exact ⟨j + 1, by omega, by go_num, HS3⟩
        case measure => simp [intOf]; omega
      · obtain rfl : j = K := by omega
        have hd : decide ((j : Int) < (j : Int)) = false := by simp
        go_wp2_with fail
        go_meet
        exact HS
  obtain ⟨z2, hz2⟩ : ∃ z, z = wc := ⟨_, rfl⟩
  subst hz2
  have HS_z2 := hcut
  clear hcut
  obtain ⟨M, hM⟩ : ∃ M, L.drop K = M := ⟨_, rfl⟩
  rw [hM] at HS_z2 HDL
  have HMU := hide (HS_z2.out.uniq 0 rfl)
  have HMF := hide (HS_z2.out.fits 0 rfl)
  have HML := hide (show M.length ≤ 1000000 by have := HDL.out; omega)
  have HM := hide hM
  clear hM
  obtain ⟨AT, hAT⟩ : ∃ x, (if c1 = K then A1 else A1.map (·.add (K * 1))) = x := ⟨_, rfl⟩
  obtain ⟨cT, hcT⟩ : ∃ x, c1 - K = x := ⟨_, rfl⟩
  have HAT := hide hAT
  have HCT := hide hcT
  have HNC := hide hnA1
  clear hAT hcT hnA1
  go_upto_region 20 with fail
  refine wp_region_held_drew (S := (fun W => Below w.heap.size w W)) (by kernel_rfl) ?_ (fun hHeld => ?_)
  · exact HS_z2.out.drew.low
  have HS_d1 := hide HS_z2.out.drew
  refine heldTake (i := 0) (v := ?_) rfl (by kernel_rfl) (by kernel_rfl) (by kernel_rfl) (fun _ _ _ h => h) (Or.inl ⟨by rfl, ?_⟩) (by assumption) ?_
  rotate_left
  · intro w hSw; (try dsimp only at hSw); go_simp <;> (with_reducible rfl)
  try simp only [Act.put, List.setIfInBounds_toArray, List.set_cons_zero, List.set_cons_succ]
  refine heldTake (i := 2) (v := ?_) rfl (by kernel_rfl) (by kernel_rfl) (by kernel_rfl) (fun _ _ _ h => h) (Or.inl ⟨by rfl, ?_⟩) (by assumption) ?_
  rotate_left
  · intro w hSw; (try dsimp only at hSw); go_simp <;> (with_reducible rfl)
  try simp only [Act.put, List.setIfInBounds_toArray, List.set_cons_zero, List.set_cons_succ]
  refine heldTake (i := 3) (v := ?_) rfl (by kernel_rfl) (by kernel_rfl) (by kernel_rfl) (fun _ _ _ h => h) (Or.inl ⟨by rfl, ?_⟩) (by assumption) ?_
  rotate_left
  · intro w hSw; (try dsimp only at hSw); go_simp <;> (with_reducible rfl)
  try simp only [Act.put, List.setIfInBounds_toArray, List.set_cons_zero, List.set_cons_succ]
  refine heldTake (i := 4) (v := .slice AT D cT) rfl (by kernel_rfl) (by kernel_rfl) (by kernel_rfl) (fun _ _ _ h => h) (Or.inl ⟨by rfl, fun W hW => by refine (run_cutT W _ (.tmp 68) (.tmp 69) rfl A1 NL c1 K rfl rfl hKL).trans ?_; rw [HAT.out, HCT.out, HNK.out]⟩) (by assumption) ?_
  try simp only [Act.put, List.setIfInBounds_toArray, List.set_cons_zero, List.set_cons_succ]
  refine wpAnyH_ready (rs := [1]) (by kernel_rfl) (by simp) ?_
  refine heldCons (i := 1) rfl (fun Kq hKq => ?_) AllReadyH.nil
  go_simp
  go_at_call 23
  refine (HS_d1.out.all_ 0 rfl HML.out).mono ?_
  rintro _ z3 ⟨A3, c3, rfl, hn3, hc3, hsq⟩
  rw [HDL.out] at hn3 hsq ⊢
  have HS_z3 : Hid (Sta w z3 [rcT m M, ilT (.slice A1 NL c1) L, ilT (.slice A2 K c2) (L.take K), ilT (.slice A3 D c3) M] []) := hide hsq
  clear hsq
  first | (refine hKq.out _ _ HS_z3.out.low (fun hHeld => ?_)) | (go_wp2_with fail; refine hKq.out _ _ HS_z3.out.low (fun hHeld => ?_))
  clear hKq Kq
  try simp only [Act.put, List.setIfInBounds_toArray, List.set_cons_zero, List.set_cons_succ]
  refine wpAnyH_ready (rs := [5]) (by kernel_rfl) (by simp) ?_
  refine heldCons (i := 5) rfl (fun Kq hKq => ?_) AllReadyH.nil
  go_simp
  go_at_call 16
  refine (HS_z3.out.numbers_ (HS_z3.out.rds 3 rfl).2 (by have h8 := rd_tail (HS_z3.out.rds 1 rfl).2 hKL HNC.out; rw [HAT.out, HNK.out] at h8; exact h8) (by omega) (by omega)).mono ?_
  rintro _ z4 ⟨rfl, hsq, _⟩
  rw [show decide (M = L.drop K) = true from decide_eq_true HM.out.symm]
  have HS_z4 : Hid (Sta w z4 [rcT m M] []) := hide (hsq.fewer 1)
  clear hsq
  first | (refine hKq.out _ _ HS_z4.out.low (fun hHeld => ?_)) | (go_wp2_with fail; refine hKq.out _ _ HS_z4.out.low (fun hHeld => ?_))
  clear hKq Kq
  try simp only [Act.put, List.setIfInBounds_toArray, List.set_cons_zero, List.set_cons_succ]
  refine heldTake (i := 6) (v := ?_) rfl (by kernel_rfl) (by kernel_rfl) (by kernel_rfl) (fun _ _ _ h => h) (Or.inl ⟨by rfl, ?_⟩) (by assumption) ?_
  rotate_left
  · intro w hSw; (try dsimp only at hSw); go_simp <;> (with_reducible rfl)
  try simp only [Act.put, List.setIfInBounds_toArray, List.set_cons_zero, List.set_cons_succ]
  refine wpAnyH_done (by kernel_rfl) ?_ _
  go_upto_block 4 with (first
    | (go_at_call 22; refine (HS_z4.out.len_ 0 rfl).mono ?_; rintro _ _ ⟨rfl, rfl⟩; rw [HDL.out]))
  go_cut [14, 15] (fun _ _ wx => Hid (Sta w wx [rcT m []] []))
  case first =>
    go_wp2_with fail
    go_loopg [14, 15] D (fun k _ _ wr => ∃ j : Nat, k + j = D ∧ Hid (Sta w wr [rcT m (M.drop j)] []))
    case atStart => exact ⟨0, rfl, HS_z4⟩
    case round =>
      obtain ⟨j, hkj, HS⟩ := hrel
      obtain ⟨z, rfl⟩ : ∃ z, z = wr := ⟨_, rfl⟩
      have HLJ := hide (show (M.drop j).length = gk by rw [List.length_drop, HDL.out]; omega)
      by_cases hg : 0 < gk
      · obtain ⟨x, hx⟩ : ∃ x, M[j]? = some x := ⟨_, List.getElem?_eq_getElem (by rw [HDL.out]; omega)⟩
        have HX := hide hx
        have HE := hide (show (M.drop j).take (1 : Int).toNat = [x] by rw [drop_at hx]; rfl)
        have HD := hide (show decide (x ∈ M.drop j) = true from decide_eq_true (by rw [drop_at hx]; exact List.mem_cons_self ..))
        have HLJ2 := hide (show (M.drop (j + 1)).length = gk - 1 by rw [List.length_drop, HDL.out]; omega)
        have HLM := hide (show (M.drop j).length ≤ 1000000 by rw [HLJ.out]; omega)
        have hgg : (0 : Int) < (gk : Int) := by omega
        have hg1 : ((gk - 1 : Nat) : Int) = (gk : Int) - 1 := by omega
        clear hx
        go_wp2_with (first
          | (go_at_call 22; refine (HS4.out.len_ 0 rfl).mono ?_; rintro _ _ ⟨rfl, rfl⟩; rw [HLJ2.out, hg1])
          | (go_at_call 11; refine (HS3.out.drop_ 0 rfl x (HMF.out x (List.mem_of_getElem? HX.out))).mono ?_; rintro _ w4 ⟨rfl, hsq⟩; rw [HD.out]; rw [wo_drop HMU.out HX.out] at hsq; have HS4 : Hid (Sta w w4 [rcT m (M.drop (j + 1))] []) := hide (hsq.fewer 1); clear hsq)
          | (go_at_call 15; refine (HS.out.oldest_ 0 rfl HLM.out 1 [x] HE.out).mono ?_; rintro _ w3 ⟨A5, c5, rfl, _, _, hsq⟩; obtain ⟨g5, rfl, hx5⟩ := hsq.nums 1 rfl; have hcx := hx5 0 x rfl; have HS3 : Hid (Sta w w3 [rcT m (M.drop j), ilT (.slice (some ⟨g5, 0, none⟩) 1 c5) [x]] []) := hide hsq; clear hsq hx5)
          | (go_at_call 22; refine (HS.out.len_ 0 rfl).mono ?_; rintro _ _ ⟨rfl, rfl⟩; rw [HLJ.out]))
        go_roundg (gk - 1)
        case rel => exact ⟨j + 1, by omega, HS4⟩
        case measure => omega
      · obtain rfl : gk = 0 := by omega
        have e : M.drop j = [] := List.eq_nil_of_length_eq_zero HLJ.out
        have HS0 : Hid (Sta w z [rcT m []] []) := hide (by rw [← e]; exact HS.out)
        clear e
        go_wp2_with (first
          | (go_at_call 22; refine (HS.out.len_ 0 rfl).mono ?_; rintro _ _ ⟨rfl, rfl⟩; rw [HLJ.out]))
        go_meet
        exact HS0
  have HS_z5 := hcut
  obtain ⟨z5, hz5⟩ : ∃ z, z = wc := ⟨_, rfl⟩
  subst hz5
  clear hcut
  go_wp2_with (first
    | (go_at_call 23; refine (HS_z5.out.all_ 0 rfl (by simp)).mono ?_; rintro _ z6 ⟨A6, c6, rfl, _, _, hsq⟩; have HS_z6 := hide hsq.low; clear hsq))
  go_ret
  exact ⟨rfl, HS_z6.out⟩
#print axioms recencyOldest_walk
end Go.Proofs.Ythodmhjlokfcaaa
