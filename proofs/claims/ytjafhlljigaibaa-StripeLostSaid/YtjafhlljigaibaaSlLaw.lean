/- StripeLost, part the whole. -/
import Derived.Test.YtjafhlljigaibaaSlP
import Derived.Deep.DeepCutAuto
import Derived.Deep.CutBlock

namespace Go.Proofs.Ytjafhlljigaibaa
open Go.RowKit
set_option linter.unusedVariables false
set_option maxRecDepth 100000 in
set_option maxHeartbeats 8000000 in
theorem stripeLost_walk (K : StrK) (KC : CheckK) (v who when_ : Int) (AP : Option Addr) (np cp : Nat) (lp : List Int) (w : World) (hr : Reads w w.heap.size 1 AP np (I64 lp)) (hn : np ≤ cp) (hc : cp ≤ 9223372036854775807) :
    Calls Try.prog 5 #[.int .i64 v, .int .i64 who, .int .i64 when_, .slice AP np cp] w fun e w' => e = .returned (.bool true) ∧ Below w.heap.size w w' := by
  obtain ⟨N, hN, hN2⟩ := mask16 v
  obtain ⟨N1, hM1, hM2⟩ := mask16 who
  obtain ⟨r, hr1, hr2⟩ := mask7s when_
  obtain ⟨Q, hQ⟩ : ∃ Q, Q = 2 + N % 5 := ⟨_, rfl⟩
  have HQ := hide (show (2 + (N : Int) % 5) = (Q : Int) by omega)
  have hQ2 : 2 ≤ Q := by omega
  have hQ6 : Q ≤ 6 := by omega
  obtain ⟨u, hu⟩ : ∃ u, Q = u + 1 := ⟨Q - 1, by omega⟩
  have HQU := hide hu
  have hu1 : 1 ≤ u := by omega
  have hu5 : u ≤ 5 := by omega
  have hqu : (Q : Int) - 1 = (u : Int) := by omega
  have hll : lp.length = np := by have := hr.1; rw [I64_length] at this; omega
  obtain ⟨M, hM⟩ : ∃ M, slotsN Q = M := ⟨_, rfl⟩
  have hM8 : M = 8 * u := by rw [← hM, hu]; rfl
  have hMb : M ≤ 40 := by omega
  have hMi : (8 : Int) * (u : Int) = (M : Int) := by omega
  have HSH := hide (fun w => shown13_any K w)
  have HM := hide hM
  have HM8 := hide hM8
  have HM1 := hide hM1
  have HN1 := hide hM2
  have HR1 := hide hr1
  have HR2 := hide hr2
  have HRP := hide hr
  have HLL := hide hll
  clear hN2 hQ hu hM1 hM2 hr1 hr2 hr hc hll hM hM8
  go_enter Try.func5, Try.ntmps5
  go_upto_region 2 with (first
    | (go_at_call 9; refine (HSH.out _).mono ?_; rintro _ x1 ⟨rfl, hlq⟩; have HX1 := hide hlq; clear hlq))
  go_cut [0] (fun v0 wx => x1 = wx ∧ v0 = .int .i64 (Q : Int))
  case first =>
    go_wp2_with fail
    go_meet
    case rel => exact ⟨rfl, by rw [HQ.out]⟩
  obtain ⟨rfl, rfl⟩ := hcut
  clear hN
  go_wp2_with (first
    | (go_at_call 22; refine (sit_laid13 w x1 HX1.out Q (by omega)).mono ?_; rintro _ y1 ⟨rfl, hsq⟩; have HS_y1 : Hid (Sux w y1 x1.heap.size y1.heap.size (LaidS Q) [] none 0 0 ([]) none 0 0 ([]) none 0 0 ([])) := hide hsq.up.up; clear hsq)
    | (go_at_call 23; refine (HS_y1.out.sox.sit.row Q (by omega)).mono ?_; rintro _ y2 ⟨A_y2, c_y2, rfl, hsq⟩; have HS_y2 : Hid (Sux w y2 x1.heap.size y1.heap.size (LaidS Q) [] A_y2 Q c_y2 (rowX idN Q) none 0 0 ([]) none 0 0 ([])) := hide hsq.up; clear hsq)
    | (go_at_call 15; refine (HS_y2.out.slots K (Q : Int) (by omega) (by omega)).mono ?_; rintro _ y3 ⟨rfl, hsq⟩; rw [Int.toNat_natCast, HM.out]; have HS_y3 : Hid (Sux w y3 x1.heap.size y1.heap.size (LaidS Q) [] A_y2 Q c_y2 (rowX idN Q) none 0 0 ([]) none 0 0 ([])) := hide (hsq); clear hsq))
  go_loopw [13, 14] (fun s13 s14 wr => ∃ (i : Nat) (A2 : Option Addr) (c2 : Nat), s13 = .slice A2 i c2 ∧ s14 = .int .i64 (i : Int) ∧ i ≤ M ∧ Hid (Sux w wr x1.heap.size (y1.heap.size) (LaidS Q) [] A_y2 Q c_y2 (rowX idN Q) A2 i c2 (lostI i) none 0 0 [])) (fun _ s14 _ => M - (intOf s14).toNat)
  case atStart => exact ⟨0, none, 0, rfl, rfl, Nat.zero_le _, HS_y3⟩
  case round => as_aux_lemma =>
    obtain ⟨i, A2, c2, rfl, rfl, hi, HX⟩ := hrel
    clear HS_y3
    by_cases hiM : i < M
    · have hii : (i : Int) < (M : Int) := by omega
      go_wp2_with (first
        | ((with_reducible refine at_slot 65 ?_); go_loud (refine wpList_pushI rfl (.tmp 61) (.tmp 64) rfl ((i : Int) + 1) HX.out rfl rfl rfl (by omega) ?_; intro A3 c3 z3 hsq; have HZ3 := hide (lostI_succ i ▸ hsq); clear hsq)))
      go_roundw
      case rel => exact ⟨i + 1, A3, c3, rfl, by simp, by omega, HZ3⟩
      case measure => simp [intOf]; omega
    · have hii : ¬ (i : Int) < (M : Int) := by omega
      obtain rfl : M = i := by omega
      clear hiM hi
      obtain ⟨x, hx⟩ : ∃ x, N1 % (Q + 1) = x := ⟨_, rfl⟩
      have hxQ : x < Q + 1 := by rw [← hx]; exact Nat.mod_lt _ (by omega)
      have hxm : (N1 : Int).tmod ((Q : Int) + 1) = (x : Int) := by rw [Int.tmod_eq_emod_of_nonneg (by omega), ← hx]; rfl
      have HXM := hide hxm
      have HXQ := hide hxQ
      clear hx hxm hxQ
      go_upto_region 15 with fail
      go_cut [15] (fun v0 wx => wr = wx ∧ v0 = .int .i64 (x : Int))
      case first =>
        have h1 := HM1.out
        have h2 := HXM.out
        have h3 := HN1.out
        have h4 : ¬ (Q : Int) + 1 = 0 := by omega
        go_wp2_with fail
        go_meet
        case rel => exact ⟨rfl, rfl⟩
      obtain ⟨rfl, rfl⟩ := hcut
      go_upto_region 16 with fail
      obtain ⟨S0, hS0⟩ : ∃ S0, (if r = 0 then ((LaidS Q).willI x r).failI x else (LaidS Q).willI x r) = S0 := ⟨_, rfl⟩
      have hl0 : LivN Q 20 S0 x (gridG Q (lostD u (lostI M)) 0) := by
        rw [← hS0]
        split
        · exact ((livN_laid Q x _).willI r).failI
        · exact (livN_laid Q x _).willI r
      have hw0 : S0.writes ≤ 0 := by
        rw [← hS0]
        split
        · rw [failI_few, willI_few, (laidS_plain Q).2.2]; exact Nat.le_refl _
        · rw [willI_few, (laidS_plain Q).2.2]; exact Nat.le_refl _
      have HL0 := hide hl0
      have HW0 := hide hw0
      have HS0 := hide hS0
      clear hl0 hw0 hS0
      have hr1 := HR1.out
      have hr2 := HR2.out
      go_upto_region 17 with (first
        | (go_at_call 24; refine (HX.out.failAt (x : Int) (r : Int) r (by split <;> omega) (by omega)).mono ?_; rintro _ y101 ⟨rfl, hsq⟩; rw [nI_nat] at hsq; have HS_y101 : Hid (Sux w y101 x1.heap.size y1.heap.size ((LaidS Q).willI x r) [] A_y2 Q c_y2 (rowX idN Q) A2 M c2 (lostI M) none 0 0 ([])) := hide (hsq); clear hsq))
      go_cut [78] (fun v0 wx => y101 = wx ∧ ∃ q : Bool, v0 = .bool q ∧ Hid (q = true ↔ r = 0))
      case first =>
        by_cases hr0 : r = 0
        · have h0 : bits .and .i64 when_ 127 = 0 := by rw [hr1, hr0]; rfl
          clear hr1
          go_wp2_with fail
          go_meet
          case rel => exact ⟨rfl, true, rfl, hide ⟨fun _ => hr0, fun _ => rfl⟩⟩
        · have h0 : ¬ bits .and .i64 when_ 127 = 0 := by rw [hr1]; omega
          clear hr1
          go_wp2_with fail
          go_meet
          case rel => exact ⟨rfl, _, rfl, hide ⟨fun h => absurd (beq_iff_eq.mp h) h0, fun h => absurd h hr0⟩⟩
      obtain ⟨rfl, q6, rfl, hq6⟩ := hcut
      go_upto_if 78 with fail
      go_cut [15] (fun v0 wx => v0 = .int .i64 (x : Int) ∧ Hid (Sux w wx x1.heap.size (y1.heap.size) S0 [] A_y2 Q c_y2 (rowX idN Q) A2 M c2 (lostI M) none 0 0 []))
      case first =>
        cases q6 with
        | true =>
          have hr0 : r = 0 := hq6.out.1 rfl
          go_wp2_with (first
            | (go_at_call 25; refine (HS_y101.out.fail (x : Int)).mono ?_; rintro _ y151 ⟨_, rfl, hsq⟩; rw [nI_nat, show ((LaidS Q).willI x r).failI x = S0 from by have h := HS0.out; rw [if_pos hr0] at h; exact h] at hsq; have HS_y151 : Hid (Sux w y151 x1.heap.size y1.heap.size S0 [] A_y2 Q c_y2 (rowX idN Q) A2 M c2 (lostI M) none 0 0 ([])) := hide (hsq); clear hsq))
          go_meet
          case rel => exact ⟨rfl, HS_y151⟩
        | false =>
          have hr0 : ¬ r = 0 := fun h => absurd (hq6.out.2 h) (by decide)
          go_wp2_with fail
          go_meet
          case rel => exact ⟨rfl, hide (by have h := HS0.out; rw [if_neg hr0] at h; rw [← h]; exact HS_y101.out)⟩
      obtain ⟨rfl, HX0⟩ := hcut
      clear hr1 hr2
      go_wp2_with fail
      go_loopw [16] (fun s16 wr => ∃ (T : Nat) (S : Bank), s16 = .int .i64 (T : Int) ∧ T ≤ 8 ∧ Hid (Sux w wr x1.heap.size (y1.heap.size) S [] A_y2 Q c_y2 (rowX idN Q) A2 M c2 (lostI M) none 0 0 []) ∧ Hid (LivN Q 20 S x (gridG Q (lostD u (lostI M)) T)) ∧ Hid (S.writes ≤ T * 12)) (fun s16 _ => 8 - (intOf s16).toNat)
      case atStart => exact ⟨0, S0, rfl, by decide, HX0, HL0, hide (by have := HW0.out; omega)⟩
      case round => as_aux_lemma =>
        clear HX0 HX HL0 HW0 HS0 HS_y101
        obtain ⟨T, S, rfl, hT, HY, HL, HWR⟩ := hrel
        by_cases hT8 : T < 8
        · have hTi : (T : Int) < 8 := by omega
          obtain ⟨P, hP⟩ : ∃ P, T * u = P := ⟨_, rfl⟩
          have hPM : P + u ≤ M := by
            rw [← hP, HM8.out]
            have := Nat.mul_le_mul_right u (show T + 1 ≤ 8 by omega)
            rw [Nat.add_mul] at this
            omega
          have hPi : (T : Int) * (u : Int) = (P : Int) := by rw [← hP]; exact (Int.natCast_mul T u).symm
          have HP := hide hP
          clear hP
          go_wp2_with fail
          go_loopw [17, 18] (fun s17 s18 wr => ∃ (i : Nat) (A3 : Option Addr) (c3 : Nat), s17 = .slice A3 i c3 ∧ s18 = .int .i64 (i : Int) ∧ i ≤ u ∧ Hid (Sux w wr x1.heap.size (y1.heap.size) S [] A_y2 Q c_y2 (rowX idN Q) A2 M c2 (lostI M) A3 i c3 ((lostD u (lostI M) T).take i))) (fun _ s18 _ => u - (intOf s18).toNat)
          case atStart => exact ⟨0, none, 0, rfl, rfl, Nat.zero_le _, HY⟩
          case round => as_aux_lemma =>
            obtain ⟨i, A3, c3, rfl, rfl, hi, HZ⟩ := hrel
            clear HY
            obtain ⟨v1, hv1⟩ : ∃ v1, v1 = wr := ⟨_, rfl⟩
            rw [← hv1] at HZ ⊢
            clear hv1
            by_cases hiu : i < u
            · have hii : (i : Int) < (u : Int) := by omega
              obtain ⟨j, hj⟩ : ∃ j, P + i = j := ⟨_, rfl⟩
              have hji : (P : Int) + (i : Int) = (j : Int) := by omega
              have hjM : j < M := by omega
              have hjMi : (j : Int) < (M : Int) := by omega
              obtain ⟨e, he⟩ : ∃ e, secOf ((j : Int) + 1) = e := ⟨_, rfl⟩
              have HE := hide he
              have HTK := hide (show (lostD u (lostI M) T).take i ++ [e] = (lostD u (lostI M) T).take (i + 1) from by
                rw [List.take_add_one, lostD_at hiu (by rw [HP.out, hj]; exact lostI_at hjM), he]
                rfl)
              obtain ⟨gi, rfl, hcell⟩ := HZ.out.cellI (lostI_at hjM)
              clear he hj
              go_wp2_with (first
                | (go_at_call 26; refine (sector_any ((j : Int) + 1) _).mono ?_; rintro _ z1 ⟨rfl, hlq⟩; rw [HE.out]; have HZ1 := hide (HZ.out.later hlq); clear hlq)
                | ((with_reducible refine at_slot 103 ?_); refine wpList_oneD rfl (.tmp 102) rfl e rfl ?_)
                | ((with_reducible refine at_slot 104 ?_); refine wpList_pushD rfl (.tmp 92) (.tmp 103) rfl e HZ1.out rfl rfl rfl (by omega) ?_; intro A4 c4 z3 hsq; have HZ3 := hide (HTK.out ▸ hsq); clear hsq))
              go_roundw
              case rel => exact ⟨i + 1, A4, c4, rfl, by simp, by omega, HZ3⟩
              case measure => simp [intOf]; omega
            · have hii : ¬ (i : Int) < (u : Int) := by omega
              obtain rfl : u = i := by omega
              have HZ0 := hide (show Sux w v1 x1.heap.size (y1.heap.size) S [] A_y2 Q c_y2 (rowX idN Q) A2 M c2 (lostI M) A3 u c3 (lostD u (lostI M) T) from (by have h := HZ.out; rw [List.take_of_length_le (by rw [lostD_length]; exact Nat.le_refl _)] at h; exact h))
              clear HZ
              have hf := LivN.full (D := lostD u (lostI M)) HL.out (by omega) (by omega) hT8 (by rw [lostD_length]; have := HQU.out; omega)
              have HF := hide hf
              clear hf
              go_wp2_with (first
                | (go_at_call 27; refine (HZ0.out.sfull K (by have := HWR.out; omega) (T : Int) ⟨by omega, by omega⟩ (by omega)).mono ?_; rintro _ z1 ⟨rfl, hsq⟩; rw [HF.out.1]; have HZ1 := hide hsq.secs0; clear hsq))
              go_roundw
              case rel => exact ⟨T + 1, _, by simp, by omega, HZ1, hide HF.out.2.1, hide (by rw [HF.out.2.2]; have := HWR.out; omega)⟩
              case measure => simp [intOf]; omega
        · have hTi : ¬ (T : Int) < 8 := by omega
          obtain rfl : T = 8 := by omega
          clear hT hT8
          have HW96 := hide (show S.writes ≤ 96 by have := HWR.out; omega)
          rename ∀ (a : Act) (w : World), Code.wp _ _ _ a w → (_ : Act → World → Prop) a w => hKK
          have HKK := hide hKK
          clear hKK
          go_wp2_with fail
          refine HKK.out _ _ ?_
          exact slP K KC hQ2 hQ6 HQU HM HM8 (lostI_length M) HY HL HRP HW96
#print axioms stripeLost_walk
end Go.Proofs.Ytjafhlljigaibaa
