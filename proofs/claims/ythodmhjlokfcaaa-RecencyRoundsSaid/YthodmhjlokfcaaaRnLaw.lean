/- RecencyRounds' walk over the contracts. -/
import Derived.Test.YthodmhjlokfcaaaRcL
import Derived.Test.YthodmhjlokfcaaaArgI
import Derived.Deep.DeepCutAuto
import Derived.Deep.CutBlock
import Derived.Deep.LoopGhost
namespace Go.Proofs.Ythodmhjlokfcaaa
open Go.RowKit Go.Maps
set_option linter.unusedVariables false
theorem maskN (v : Int) (k : Nat) (hk : k ≤ 16) : ∃ N : Nat, bits .and .i64 v (2 ^ k - 1) = (N : Int) ∧ N < 2 ^ k := by
  have h := i64_mask v k (by omega)
  have hp : (0 : Int) < 2 ^ k := Int.pow_pos (by decide)
  refine ⟨(v % 2 ^ k).toNat, ?_, ?_⟩
  · rw [h]
    have := Int.emod_nonneg v (Int.ne_of_gt hp)
    omega
  · have h1 := Int.emod_nonneg v (Int.ne_of_gt hp)
    have h2 := Int.emod_lt_of_pos v hp
    have h3 : (2 : Int) ^ k = ((2 ^ k : Nat) : Int) := by simp
    rw [h3] at h1 h2 ⊢
    omega
theorem mask_7 (v : Int) : ∃ N : Nat, bits .and .i64 v 7 = (N : Int) ∧ N < 8 := maskN v 3 (by decide)
set_option maxRecDepth 100000 in
set_option maxHeartbeats 16000000 in
theorem recencyRounds_walk (A : Option Addr) (n c : Nat) (l : List Int) (q : Int) (w : World) (hr : Reads w w.heap.size 1 A n (I64 l)) (hl : ∀ v ∈ l, -9223372036854775808 ≤ v ∧ v ≤ 9223372036854775807) (hnc : n ≤ c) (hcm : c ≤ 9223372036854775807) (hq1 : -9223372036854775808 ≤ q) (hq2 : q ≤ 9223372036854775807) :
    Calls Try.prog 6 #[.slice A n c, .int .i64 q] w fun e w' => e = .returned (.bool true) ∧ Below w.heap.size w w' := by
  have HS_w : Hid (Sta w w [] []) := hide (Sta.begin w)
  have HSH := hide (shown16_any)
  have HR := hide hr
  have HF := hide (fun v (hv : v ∈ l) => okS (hl v hv).1 (hl v hv).2)
  have heq := run_eql_rc
  obtain ⟨N, hN⟩ : ∃ N, N = min n 50 := ⟨_, rfl⟩
  have hN1 : N ≤ n := by omega
  have hN2 : N ≤ 50 := by omega
  have hN3 : n ≤ 50 → N = n := by omega
  have hN4 : 50 < n → N = 50 := by omega
  obtain ⟨Q, hQ, hQ4⟩ := mask_7 q
  clear hr hl hN
  go_enter Try.func6, Try.ntmps6
  go_upto_block 0 with (first
    | (go_at_call 9; refine (HS_y1.out.mk_).mono ?_; rintro _ y2 ⟨m, rfl, hsq⟩; have HS_y2 : Hid (Sta w y2 [rcT m []] []) := hide hsq; clear hsq)
    | (go_at_call 8; refine (HSH.out _).mono ?_; rintro _ y1 ⟨rfl, hlq⟩; have HS_y1 : Hid (Sta w y1 [] []) := hide (HS_w.out.later hlq); clear hlq))
  go_cut [7] (fun _ wx => Hid (Sta w wx [rcT m (tchs (l.take N))] []))
  case first =>
    go_wp2_with fail
    go_loopw [7] (fun s7 wr => ∃ j : Nat, j ≤ N ∧ s7 = .int .i64 (j : Int) ∧ Hid (Sta w wr [rcT m (tchs (l.take j))] [])) (fun s7 _ => N - (intOf s7).toNat)
    case atStart => exact ⟨0, Nat.zero_le _, rfl, HS_y2⟩
    case round =>
      obtain ⟨j, hj, rfl, HS⟩ := hrel
      obtain ⟨z, rfl⟩ : ∃ z, z = wr := ⟨_, rfl⟩
      by_cases hjN : j < N
      · have hjn : (j : Int) < (n : Int) := by omega
        have hjl : (j : Int) < 50 := by omega
        obtain ⟨ad, x, rfl, hx, hcx⟩ := arg_num HR.out HS.out.low (k := j) (by omega)
        have HX := hide hx
        have HLM := hide (show (tchs (l.take j)).length ≤ 1000000 by have := tchs_take_len l j; omega)
        clear hx
        go_wp2_with (first
          | (go_at_call 20; refine (HS.out.touch_ 0 rfl x (HF.out x (List.mem_of_getElem? HX.out)) HLM.out).mono ?_; rintro _ w3 ⟨rfl, hsq⟩; rw [tchs_step HX.out] at hsq; have HS3 : Hid (Sta w w3 [rcT m (tchs (l.take (j + 1)))] []) := hide hsq; clear hsq))
        go_roundw
        case rel => exact ⟨j + 1, by omega, by go_num, HS3⟩
        case measure => simp [intOf]; omega
      · obtain rfl : j = N := by omega
        by_cases hnl : n ≤ 50
        · have hd : decide ((j : Int) < (n : Int)) = false := by simp; omega
          go_wp2_with fail
          go_meet
          exact HS
        · have hd0 : (j : Int) < (n : Int) := by omega
          have hd : decide ((j : Int) < 50) = false := by simp; omega
          go_wp2_with fail
          go_meet
          exact HS
  obtain ⟨z1, hz1⟩ : ∃ z, z = wc := ⟨_, rfl⟩
  subst hz1
  obtain ⟨L, hL⟩ : ∃ L, tchs (l.take N) = L := ⟨_, rfl⟩
  rw [hL] at hcut
  have hL50 : L.length ≤ 50 := by have := tchs_take_len l N; rw [hL] at this; omega
  have HS_z1 := hcut
  have HU := hide (show L.Nodup by rw [← hL]; exact tchs_nodup _)
  have HLF := hide (HS_z1.out.fits 0 rfl)
  clear hcut
  clear hL hN1 hN2 hN3 hN4
  obtain ⟨NL, hNL⟩ : ∃ x, L.length = x := ⟨_, rfl⟩
  have HNL := hide hNL
  rw [hNL] at hL50
  have HLIM := hide (show L.length ≤ 1000000 by omega)
  have HRL := hide (fun j => show (L.drop j ++ L.take j).length ≤ 1000000 by rw [List.length_append, List.length_drop, List.length_take]; omega)
  have HFL := hide (fun j i => show (L.take j ++ (L.drop i).reverse).length ≤ 1000000 by rw [List.length_append, List.length_reverse, List.length_drop, List.length_take]; omega)
  have HRE := hide (show L.drop NL ++ L.take NL = L by rw [← hNL, List.drop_of_length_le (Nat.le_refl _), List.take_of_length_le (Nat.le_refl _)]; rfl)
  clear hNL
  go_upto_block 2 with (first
    | (go_at_call 23; refine (HS_z1.out.all_ 0 rfl HLIM.out).mono ?_; rintro _ y1 ⟨A1, c1, rfl, hnA1, hcA1, hsq⟩; rw [HNL.out] at hnA1 hsq ⊢; have HS_y1 : Hid (Sta w y1 [rcT m L, ilT (.slice A1 NL c1) L] []) := hide hsq; clear hsq))
  go_cut [9, 10, 11] (fun _ _ _ wx => Hid (Sta w wx [rcT m L, ilT (.slice A1 NL c1) L] []))
  case first =>
    go_wp2_with fail
    go_loopw [9, 10, 11] (fun s9 _ _ wr => ∃ k : Nat, k ≤ Q ∧ s9 = .int .i64 (k : Int) ∧ Hid (Sta w wr [rcT m L, ilT (.slice A1 NL c1) L] [])) (fun s9 _ _ _ => Q - (intOf s9).toNat)
    case atStart => exact ⟨0, Nat.zero_le _, rfl, HS_y1⟩
    case round =>
      obtain ⟨k, hk, rfl, HS⟩ := hrel
      obtain ⟨z, rfl⟩ : ∃ z, z = wr := ⟨_, rfl⟩
      by_cases hkQ : k < Q
      · have hkk : (k : Int) < (Q : Int) := by omega
        go_wp2_with fail
        go_loopw [10] (fun s10 wr => ∃ j : Nat, j ≤ NL ∧ s10 = .int .i64 (j : Int) ∧ Hid (Sta w wr [rcT m (L.drop j ++ L.take j), ilT (.slice A1 NL c1) L] [])) (fun s10 _ => NL - (intOf s10).toNat)
        case atStart => exact ⟨0, Nat.zero_le _, rfl, hide (by rw [show L.drop 0 ++ L.take 0 = L from List.append_nil L]; exact HS.out)⟩
        case round =>
          obtain ⟨j, hj, rfl, HJ⟩ := hrel
          obtain ⟨y, rfl⟩ : ∃ z, z = wr := ⟨_, rfl⟩
          by_cases hjN : j < NL
          · obtain ⟨x, hx⟩ : ∃ x, L[j]? = some x := ⟨_, List.getElem?_eq_getElem (by rw [HNL.out]; omega)⟩
            obtain ⟨g, rfl, _, hcx⟩ := HJ.out.num 1 rfl hx
            have HX := hide hx
            have HD := hide (show decide (x ∈ L.drop j ++ L.take j) = true from decide_eq_true (by rw [drop_at hx]; exact List.mem_append.2 (.inl (List.mem_cons_self ..))))
            have hjj : (j : Int) < (NL : Int) := by omega
            clear hx
            go_wp2_with (first
              | (go_at_call 20; refine (HJ.out.touch_ 0 rfl x (HLF.out x (List.mem_of_getElem? HX.out)) (HRL.out j)).mono ?_; rintro _ w3 ⟨rfl, hsq⟩; rw [rot_step HU.out HX.out] at hsq; have HS3 : Hid (Sta w w3 [rcT m (L.drop (j + 1) ++ L.take (j + 1)), ilT (.slice (some ⟨g, 0, none⟩) NL c1) L] []) := hide hsq; clear hsq)
              | (go_at_call 13; refine (HJ.out.has_ 0 rfl x (HLF.out x (List.mem_of_getElem? HX.out))).mono ?_; rintro _ _ ⟨rfl, rfl⟩; rw [HD.out]))
            go_roundw
            case rel => exact ⟨j + 1, by omega, by go_num, HS3⟩
            case measure => simp [intOf]; omega
          · obtain rfl : j = NL := by omega
            rw [HRE.out] at HJ
            have hd : decide ((j : Int) < (j : Int)) = false := by simp
            go_wp2_with (first
              | (go_at_call 16; refine (HS4.out.numbers_ (HS4.out.rds 2 rfl).2 (HS4.out.rds 1 rfl).2 (by omega) (by omega)).mono ?_; rintro _ w5 ⟨rfl, hsq, _⟩; rw [show decide (L = L) = true from decide_eq_true rfl]; have HS5 : Hid (Sta w w5 [rcT m L, ilT (.slice A1 j c1) L] []) := hide (hsq.fewer 2); clear hsq)
              | (go_at_call 23; refine (HJ.out.all_ 0 rfl HLIM.out).mono ?_; rintro _ w4 ⟨A4, c4, rfl, hn4, hc4, hsq⟩; rw [HNL.out] at hn4 hsq ⊢; have HS4 : Hid (Sta w w4 [rcT m L, ilT (.slice A1 j c1) L, ilT (.slice A4 j c4) L] []) := hide hsq; clear hsq))
            go_roundw
            case rel => exact ⟨k + 1, by omega, by go_num, HS5⟩
            case measure => simp [intOf]; omega
      · obtain rfl : k = Q := by omega
        have hd : decide ((k : Int) < (k : Int)) = false := by simp
        go_wp2_with fail
        go_meet
        exact HS
  obtain ⟨z2, hz2⟩ : ∃ z, z = wc := ⟨_, rfl⟩
  subst hz2
  have HS_z2 := hcut
  clear hcut hQ
  go_upto_block 6 with fail
  go_cut [12] (fun _ wx => Hid (Sta w wx [rcT m L.reverse, ilT (.slice A1 NL c1) L] []))
  case first =>
    go_wp2_with fail
    go_loopw [12] (fun s12 wr => ∃ j : Nat, j ≤ NL ∧ s12 = .int .i64 ((j : Int) - 1) ∧ Hid (Sta w wr [rcT m (L.take j ++ (L.drop j).reverse), ilT (.slice A1 NL c1) L] [])) (fun s12 _ => (intOf s12 + 1).toNat)
    case atStart => exact ⟨NL, Nat.le_refl _, rfl, hide (by rw [← HNL.out, List.take_of_length_le (Nat.le_refl _), List.drop_of_length_le (Nat.le_refl _), show L ++ ([] : List Int).reverse = L from List.append_nil L]; exact (by have h8 := HS_z2.out; rw [← HNL.out] at h8; exact h8))⟩
    case round =>
      obtain ⟨j, hj, rfl, HS⟩ := hrel
      obtain ⟨z, rfl⟩ : ∃ z, z = wr := ⟨_, rfl⟩
      rcases Nat.eq_zero_or_pos j with rfl | hj0
      · have hd : decide ((0 : Int) ≤ ((0 : Nat) : Int) - 1) = false := by decide
        have HS0 : Hid (Sta w z [rcT m L.reverse, ilT (.slice A1 NL c1) L] []) := hide (by have h8 := HS.out; rw [show L.take 0 ++ (L.drop 0).reverse = L.reverse from rfl] at h8; exact h8)
        go_wp2_with fail
        go_meet
        exact HS0
      · obtain ⟨i, rfl⟩ : ∃ i, j = i + 1 := ⟨j - 1, by omega⟩
        have hi : ((i + 1 : Nat) : Int) - 1 = (i : Int) := by omega
        rw [hi]
        obtain ⟨x, hx⟩ : ∃ x, L[i]? = some x := ⟨_, List.getElem?_eq_getElem (by rw [HNL.out]; omega)⟩
        obtain ⟨g, rfl, _, hcx⟩ := HS.out.num 1 rfl hx
        have HX := hide hx
        have hd : decide ((0 : Int) ≤ (i : Int)) = true := by simp
        have hiN : i < NL := by omega
        clear hx hi
        go_wp2_with (first
          | (go_at_call 20; refine (HS.out.touch_ 0 rfl x (HLF.out x (List.mem_of_getElem? HX.out)) (HFL.out _ _)).mono ?_; rintro _ w3 ⟨rfl, hsq⟩; rw [flip_step HU.out HX.out] at hsq; have HS3 : Hid (Sta w w3 [rcT m (L.take i ++ (L.drop i).reverse), ilT (.slice (some ⟨g, 0, none⟩) NL c1) L] []) := hide hsq; clear hsq))
        go_roundw
        case rel => exact ⟨i, by omega, by go_num, HS3⟩
        case measure => simp [intOf]
  obtain ⟨z3, hz3⟩ : ∃ z, z = wc := ⟨_, rfl⟩
  subst hz3
  have HS_z3 := hcut
  clear hcut
  have HRV := hide (show L.reverse.length = NL by rw [List.length_reverse]; exact HNL.out)
  have HRM := hide (show L.reverse.length ≤ 1000000 by rw [HRV.out]; omega)
  go_wp2_with (first
    | (go_at_call 23; refine (HS_z3.out.all_ 0 rfl HRM.out).mono ?_; rintro _ w4 ⟨A4, c4, rfl, hn4, hc4, hsq⟩; rw [HRV.out] at hn4 hsq ⊢; have HS4 : Hid (Sta w w4 [rcT m L.reverse, ilT (.slice A1 NL c1) L, ilT (.slice A4 NL c4) L.reverse] []) := hide hsq; clear hsq))
  go_loopw [14] (fun s14 wr => ∃ j : Nat, j ≤ NL ∧ s14 = .int .i64 (j : Int) ∧ Hid (Sta w wr [rcT m L.reverse, ilT (.slice A1 NL c1) L, ilT (.slice A4 NL c4) L.reverse] [])) (fun s14 _ => NL - (intOf s14).toNat)
  case atStart => exact ⟨0, Nat.zero_le _, rfl, HS4⟩
  case round =>
    obtain ⟨j, hj, rfl, HS⟩ := hrel
    obtain ⟨z, rfl⟩ : ∃ z, z = wr := ⟨_, rfl⟩
    by_cases hjN : j < NL
    · obtain ⟨p, hp⟩ : ∃ p, p + j + 1 = NL := ⟨NL - 1 - j, by omega⟩
      obtain ⟨x, hx⟩ : ∃ x, L[p]? = some x := ⟨_, List.getElem?_eq_getElem (by rw [HNL.out]; omega)⟩
      have hx2 : L.reverse[j]? = some x := by
        rw [rev_at (by rw [HNL.out]; exact hjN), HNL.out, show NL - 1 - j = p by omega]
        exact hx
      obtain ⟨g, rfl, _, hcx⟩ := HS.out.num 1 rfl hx
      obtain ⟨g2, rfl, _, hcx2⟩ := HS.out.num 2 rfl hx2
      have hjj : (j : Int) < (NL : Int) := by omega
      have hpN : (p : Int) < (NL : Int) := by omega
      have hpi : (NL : Int) - 1 - (j : Int) = (p : Int) := by omega
      have HP := hide hp
      clear hx hx2 hp
      go_wp2_with fail
      go_quiet (fail)
      go_wp2
      go_roundw
      case rel => exact ⟨j + 1, by omega, by go_num, hide HS.out.drewN_⟩
      case measure => simp [intOf]; omega
    · obtain rfl : j = NL := by omega
      have hd : decide ((j : Int) < (j : Int)) = false := by simp
      go_wp2_with fail
      go_ret
      exact ⟨rfl, HS.out.low⟩
#print axioms recencyRounds_walk
end Go.Proofs.Ythodmhjlokfcaaa
