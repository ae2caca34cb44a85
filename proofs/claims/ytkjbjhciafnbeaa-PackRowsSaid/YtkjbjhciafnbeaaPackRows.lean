/- PackRows holds: for any two rows (their first sixty numbers) and any two widths, cut to widths from 1 to 6 and to numbers of these: written one behind the other they are read one behind the other as they were; no condition. -/
import Derived.Test.YtkjbjhciafnbeaaShown
import Derived.Test.YtkjbjhciafnbeaaArg
import Derived.Test.YtkjbjhciafnbeaaRow
import Derived.Test.YtkjbjhciafnbeaaSame
namespace Go.Proofs.Ytkjbjhciafnbeaa.PackRows
open Go.ChangeShapes Go.WideShapes Go.ChangeAt Go.RowKit
set_option linter.unusedVariables false

set_option maxRecDepth 100000 in
set_option maxHeartbeats 8000000 in
theorem walk (A : Option Addr) (n c : Nat) (l : List Int) (C : Option Addr) (m d : Nat) (r : List Int) (xw yw : Int) (w : World)
    (hr : Reads w w.heap.size 1 A n (I64 l)) (hlb : ∀ v ∈ l, -9223372036854775808 ≤ v ∧ v ≤ 9223372036854775807) (hc : n ≤ c) (hc2 : c ≤ 9223372036854775807)
    (hs : Reads w w.heap.size 1 C m (I64 r)) (hrb : ∀ v ∈ r, -9223372036854775808 ≤ v ∧ v ≤ 9223372036854775807) (hd : m ≤ d) (hd2 : d ≤ 9223372036854775807)
    (_h0 : -9223372036854775808 ≤ xw) (_h1 : xw ≤ 9223372036854775807) (_h2 : -9223372036854775808 ≤ yw) (_h3 : yw ≤ 9223372036854775807) :
    Calls Try.prog 10 #[.slice A n c, .slice C m d, .int .i64 xw, .int .i64 yw] w fun e w' => e = .returned (.bool true) ∧ Below w.heap.size w w' := by
  have hmx : bits .and .i64 xw 15 = xw % 16 := i64_mask xw 4 (by omega)
  have hmy : bits .and .i64 yw 15 = yw % 16 := i64_mask yw 4 (by omega)
  obtain ⟨k, hk⟩ : ∃ k : Nat, xw % 16 % 6 = k := ⟨(xw % 16 % 6).toNat, by omega⟩
  have hk6 : k ≤ 5 := by omega
  obtain ⟨h, hh⟩ : ∃ h : Nat, yw % 16 % 6 = h := ⟨(yw % 16 % 6).toNat, by omega⟩
  have hh6 : h ≤ 5 := by omega
  obtain ⟨M, hM, hM2, hM3, hM4, hbits⟩ := mask_is k hk6
  obtain ⟨K, hK, hK2, hK3, hK4, hkits⟩ := mask_is h hh6
  obtain ⟨i0, hi0, hz0, hz1, hz2⟩ := info_parts int_info
  have HM2 := hide hM2
  have HB := hide hbits
  have HK2 := hide hK2
  have HKB := hide hkits
  have HM := hide hM
  have HK := hide hK
  clear hbits hM2 hkits hK2 hM hK
  go_enter Try.func10, Try.ntmps10
  go_wp2_with fail
  refine (shown_any _).mono ?_
  rintro e w1 ⟨rfl, hb1⟩
  go_wp2_with fail
  have hr1 := (hr.below hb1)
  have hs1 := (hs.below hb1)
  clear hk hh hmx hmy
  go_loopw [10, 12] (fun r0 i wz => ∃ (j rn rc : Nat) (R : Option Addr), j ≤ n ∧ j ≤ 60 ∧ i = .int .i64 j ∧ r0 = .slice R rn rc ∧ rn ≤ rc ∧ rc ≤ maxLen ∧ rn ≤ j ∧ wz.ownsRow w1.heap.size 3 1 (.slice R rn rc) rn (I64 (cutL l M j)) ∧ Below w1.heap.size w1 wz)
      (fun _ i _ => 60 - (intOf i).toNat)
  case atStart => exact ⟨0, 0, 0, none, Nat.zero_le _, Nat.zero_le _, rfl, rfl, Nat.le_refl _, Nat.zero_le _, Nat.le_refl _, World.ownsRow_nil _ _ _ _, Below.refl _ _⟩
  case round =>
    obtain ⟨j, rn, rc, R, hjn, hj60, rfl, rfl, hrc, hrcm, hrnj, hown, hbel⟩ := hrel
    by_cases hgo : j < n ∧ j < 60
    · obtain ⟨hg1, hg2⟩ := hgo
      obtain ⟨ad, x, rfl, hblk, hx, hc0⟩ := hr1.i64_at hg1
      have hts := take_more hx
      have HX := hide (cutL_step (M := M) hts)
      clear hx hts
      have hbx := HB.out x
      have hmm := HM.out
      have hcx := (hbel.cell (p := ad.add j) (by rw [block_of_add]; have := hb1.size; omega)).trans hc0
      have hA : rn + 1 ≤ maxLen := by simp only [maxLen]; omega
      have hB : (rn + 1) * 8 ≤ 140737488355328 := by omega
      have hC := hbel.size
      go_wp2_with (at_builtin; refine wpList_append_any _ rfl (.tmp 40) (.tmp 51) _ rfl w1.heap.size 3 i0 _ 1 8 Try.underlying27 hi0 hz0 hz1 hz2 rfl (by omega) _ _ _ rfl (hown.alloc _) (wr.heap.size + 1) (some ⟨wr.heap.size, 0, none⟩) 1 1 [.int .i64 (x % M)] rfl (Reads.one _ _ _ _ (by omega)) (one_i64 _) hA hB (le_alloc hC _) ?_; intro v1 w2 hown1 hbel1)
      have hown2 := hown1
      rw [show ([Value.int .i64 (x % M)] : List Value) = I64 [x % M] from rfl, ← I64_append, ← HX.out] at hown2
      obtain ⟨R2, rc2, hv2, hrc2, hrm2⟩ := own_shape hown2
      have hb2 := (hbel.alloc hC (.cells #[.int .i64 (x % M)] 3)).trans hbel1
      go_roundw
      case rel => exact ⟨j + 1, rn + 1, rc2, R2, by omega, by omega, by go_num, hv2, hrc2, hrm2, by omega, hv2 ▸ hown2, hb2⟩
      case measure => simp [intOf]; omega
    · obtain ⟨wa, hwr⟩ : ∃ w0, w0 = wr := ⟨_, rfl⟩
      subst hwr
      by_cases hjn2 : j < n
      · have hj1 : ¬ j < 60 := by omega
        clear hgo
        go_wp2_with fail
        clear hj1 hjn2
        have hs2 := hs1.below (hbel.mono hb1.size)
        go_loopw [11, 13] (fun r0 i wz => ∃ (j rn rc : Nat) (R : Option Addr), j ≤ m ∧ j ≤ 60 ∧ i = .int .i64 j ∧ r0 = .slice R rn rc ∧ rn ≤ rc ∧ rc ≤ maxLen ∧ rn ≤ j ∧ wz.ownsRow wa.heap.size 3 1 (.slice R rn rc) rn (I64 (cutL r K j)) ∧ Below wa.heap.size wa wz)
            (fun _ i _ => 60 - (intOf i).toNat)
        case atStart => exact ⟨0, 0, 0, none, Nat.zero_le _, Nat.zero_le _, rfl, rfl, Nat.le_refl _, Nat.zero_le _, Nat.le_refl _, World.ownsRow_nil _ _ _ _, Below.refl _ _⟩
        case round =>
          obtain ⟨i2, sn, sc, S, hi2n, hi260, rfl, rfl, hsc, hscm, hsnj, hownb, hbelb⟩ := hrel
          by_cases hgo : i2 < m ∧ i2 < 60
          · obtain ⟨hg1, hg2⟩ := hgo
            obtain ⟨ad, x, rfl, hblk, hx, hc0⟩ := hs2.i64_at hg1
            have hts := take_more hx
            have HX := hide (cutL_step (M := K) hts)
            clear hx hts
            have hbx := HKB.out x
            have hmm := HK.out
            have hcx := (hbelb.cell (p := ad.add i2) (by rw [block_of_add]; have := hb1.size; have := hbel.size; omega)).trans hc0
            have hA : sn + 1 ≤ maxLen := by simp only [maxLen]; omega
            have hB : (sn + 1) * 8 ≤ 140737488355328 := by omega
            have hC := hbelb.size
            go_wp2_with (at_builtin; refine wpList_append_any _ rfl (.tmp 63) (.tmp 74) _ rfl wa.heap.size 3 i0 _ 1 8 Try.underlying27 hi0 hz0 hz1 hz2 rfl (by omega) _ _ _ rfl (hownb.alloc _) (wr.heap.size + 1) (some ⟨wr.heap.size, 0, none⟩) 1 1 [.int .i64 (x % K)] rfl (Reads.one _ _ _ _ (by omega)) (one_i64 _) hA hB (le_alloc hC _) ?_; intro v1 w2 hown1 hbel1)
            have hown2 := hown1
            rw [show ([Value.int .i64 (x % K)] : List Value) = I64 [x % K] from rfl, ← I64_append, ← HX.out] at hown2
            obtain ⟨R2, rc2, hv2, hrc2, hrm2⟩ := own_shape hown2
            have hb2 := (hbelb.alloc hC (.cells #[.int .i64 (x % K)] 3)).trans hbel1
            go_roundw
            case rel => exact ⟨i2 + 1, sn + 1, rc2, R2, by omega, by omega, by go_num, hv2, hrc2, hrm2, by omega, hv2 ▸ hown2, hb2⟩
            case measure => simp [intOf]; omega
          · obtain ⟨wb, hwr⟩ : ∃ w0, w0 = wr := ⟨_, rfl⟩
            subst hwr
            by_cases him2 : i2 < m
            · have hi1 : ¬ i2 < 60 := by omega
              clear hgo
              have hrowA : rowB (cutL l M j) (1 + (k : Int)) = true := cutL_row hk6 HM2.out (by omega) (by omega)
              have hrowB : rowB (cutL r K i2) (1 + (h : Int)) = true := cutL_row hh6 HK2.out (by omega) (by omega)
              have hbdA : ∀ v ∈ cutL l M j, v ≤ 9223372036854775807 := fun v hv => by have := (cutL_fits hk6 HM2.out (by omega) v hv).2; omega
              have hbdB : ∀ v ∈ cutL r K i2, v ≤ 9223372036854775807 := fun v hv => by have := (cutL_fits hh6 HK2.out (by omega) v hv).2; omega
              have hpA : putRowB [] (cutL l M j) (1 + (k : Int)) = rowBytes (cutL l M j) (1 + (k : Int)) := by rw [putRowB, if_pos hrowA, List.nil_append]
              have hpB : putRowB (rowBytes (cutL l M j) (1 + (k : Int))) (cutL r K i2) (1 + (h : Int)) = rowBytes (cutL l M j) (1 + (k : Int)) ++ rowBytes (cutL r K i2) (1 + (h : Int)) := by rw [putRowB, if_pos hrowB]
              have hlA : (rowBytes (cutL l M j) (1 + (k : Int))).length ≤ 362 ∧ 2 ≤ (rowBytes (cutL l M j) (1 + (k : Int))).length := by
                have := Nat.mul_le_mul (Nat.le_trans (cutL_length l M j) hj60) (show (1 + (k : Int)).toNat ≤ 6 by omega)
                rw [rowBytes_length]; omega
              have hlB : (rowBytes (cutL r K i2) (1 + (h : Int))).length ≤ 362 ∧ 2 ≤ (rowBytes (cutL r K i2) (1 + (h : Int))).length := by
                have := Nat.mul_le_mul (Nat.le_trans (cutL_length r K i2) hi260) (show (1 + (h : Int)).toNat ≤ 6 by omega)
                rw [rowBytes_length]; omega
              obtain ⟨X, hX⟩ : ∃ X, X = rowBytes (cutL l M j) (1 + (k : Int)) := ⟨_, rfl⟩
              obtain ⟨Y, hY⟩ : ∃ Y, Y = rowBytes (cutL r K i2) (1 + (h : Int)) := ⟨_, rfl⟩
              have hyA := row_yes hrowA Y
              rw [← rowBytes_length, ← hX] at hyA
              have hyB := row_yes hrowB []
              rw [← rowBytes_length, List.append_nil, ← hY] at hyB
              rw [← hX] at hpA hpB hlA
              rw [← hY] at hpB hlB
              obtain ⟨hO1, hL1, hN1⟩ := hyA
              obtain ⟨hO2, hL2, hN2⟩ := hyB
              have HX := hide hX
              have HY := hide hY
              clear hX hY
              have hszb : w.heap.size ≤ wb.heap.size := Nat.le_trans hb1.size (Nat.le_trans hbel.size hbelb.size)
              have hbb : Below w.heap.size w wb := (hb1.trans (hbel.mono hb1.size)).trans (hbelb.mono (Nat.le_trans hb1.size hbel.size))
              have hRb := (Reads.of_own hown).later hbelb
              have hSb := Reads.of_own hownb
              go_wp2_with fail
              refine (putRow_any none R 0 0 rn rc [] (cutL l M j) (1 + (k : Int)) _ Reads.none_ hRb (by omega) (by omega) (by omega) (by omega) hbdA).mono ?_
              rintro e w2 ⟨A2, n2, c2, rfl, hn2, hc2', hown2, hbel2⟩
              rw [hpA] at hown2
              have hl2 := own_len8 hown2
              have h2a : n2 ≤ 362 := by omega
              have h2b : 2 ≤ n2 := by omega
              have HL2 := hide hl2
              clear hl2
              have hb2 : Below w.heap.size w w2 := hbb.trans (hbel2.mono hszb)
              go_wp2_with fail
              refine (putRow_any A2 S n2 c2 sn sc X (cutL r K i2) (1 + (h : Int)) _ (Reads.of_own hown2) (hSb.later hbel2) hn2 (by simpa [maxLen] using hc2') (by omega) (by omega) hbdB).mono ?_
              rintro e w3 ⟨A3, n3, c3, rfl, hn3, hc3', hown3, hbel3⟩
              rw [hpB] at hown3
              have hl3 := own_len8 hown3
              rw [List.length_append, ← HL2.out] at hl3
              have h3a : n3 ≤ n2 + 362 := by omega
              have h3b : n2 + 2 ≤ n3 := by omega
              have HL3 := hide hl3
              clear hl3
              have hb3 : Below w.heap.size w w3 := hb2.trans (hbel3.mono hb2.size)
              have hq3 := (Reads.of_own hown3).cut (k := n2) (cap := c3) (by omega) hn3
              rw [if_neg (by omega), Nat.mul_one, B8_drop, show (X ++ Y).drop n2 = Y by rw [HL2.out]; simp] at hq3
              go_wp2_with fail
              refine (row_any _ _ _ _ _ _ (Reads.of_own hown3) hn3 (by simpa [maxLen] using hc3') (by omega)).mono ?_
              rintro e w4 ⟨A4, n4, c4, rfl, hn4, hc4', hown4, hbel4⟩
              rw [hO1, hN1, ← HL2.out]
              rw [hL1] at hown4
              clear hO1 hN1 hL1
              have hb4 : Below w.heap.size w w4 := hb3.trans (hbel4.mono hb3.size)
              have hq4 := hq3.later hbel4
              have hc3b : n2 + 2 ≤ c3 := by omega
              go_wp2_with fail
              refine (row_any _ _ _ _ _ _ hq4 (by omega) (by simp only [maxLen] at hc3'; omega) (by omega)).mono ?_
              rintro e w5 ⟨A5, n5, c5, rfl, hn5, hc5', hown5, hbel5⟩
              have hYn : Y.length = n3 - n2 := by have := HL3.out; omega
              rw [hO2, hN2, hYn]
              rw [hL2] at hown5
              clear hO2 hN2 hL2 hYn
              have hb5 : Below w.heap.size w w5 := hb4.trans (hbel5.mono hb4.size)
              have hone5 := (Reads.of_own hown4).later hbel5
              have htwo5 := Reads.of_own hown5
              have hR5 := (((hRb.later hbel2).later hbel3).later hbel4).later hbel5
              have hS5 := (((hSb.later hbel2).later hbel3).later hbel4).later hbel5
              have hdec1 : decide (cutL l M j = cutL l M j) = true := by simp
              have hdec2 : decide (cutL r K i2 = cutL r K i2) = true := by simp
              have HS1 := hide (same_any A4 R n4 c4 rn rc _ _ _ _ w5 hone5 hR5 (by simp only [maxLen] at hc4'; omega) (by simp only [maxLen] at hrcm; omega))
              have HS2 := hide (fun q => same_any A5 S n5 c5 sn sc _ _ _ _ (w5.drewN q) (htwo5.drewN q) (hS5.drewN q) (by simp only [maxLen] at hc5'; omega) (by simp only [maxLen] at hscm; omega))
              go_wp2_with fail
              refine HS1.out.mono ?_
              rintro e w7 ⟨rfl, q, rfl⟩
              rw [hdec1]
              go_wp2_with fail
              refine (HS2.out q).mono ?_
              rintro e w8 ⟨rfl, q2, rfl⟩
              rw [hdec2]
              go_wp2
              go_ret
              exact ⟨rfl, below_drewN hb5 _⟩
            · clear hgo
              have hrowA : rowB (cutL l M j) (1 + (k : Int)) = true := cutL_row hk6 HM2.out (by omega) (by omega)
              have hrowB : rowB (cutL r K i2) (1 + (h : Int)) = true := cutL_row hh6 HK2.out (by omega) (by omega)
              have hbdA : ∀ v ∈ cutL l M j, v ≤ 9223372036854775807 := fun v hv => by have := (cutL_fits hk6 HM2.out (by omega) v hv).2; omega
              have hbdB : ∀ v ∈ cutL r K i2, v ≤ 9223372036854775807 := fun v hv => by have := (cutL_fits hh6 HK2.out (by omega) v hv).2; omega
              have hpA : putRowB [] (cutL l M j) (1 + (k : Int)) = rowBytes (cutL l M j) (1 + (k : Int)) := by rw [putRowB, if_pos hrowA, List.nil_append]
              have hpB : putRowB (rowBytes (cutL l M j) (1 + (k : Int))) (cutL r K i2) (1 + (h : Int)) = rowBytes (cutL l M j) (1 + (k : Int)) ++ rowBytes (cutL r K i2) (1 + (h : Int)) := by rw [putRowB, if_pos hrowB]
              have hlA : (rowBytes (cutL l M j) (1 + (k : Int))).length ≤ 362 ∧ 2 ≤ (rowBytes (cutL l M j) (1 + (k : Int))).length := by
                have := Nat.mul_le_mul (Nat.le_trans (cutL_length l M j) hj60) (show (1 + (k : Int)).toNat ≤ 6 by omega)
                rw [rowBytes_length]; omega
              have hlB : (rowBytes (cutL r K i2) (1 + (h : Int))).length ≤ 362 ∧ 2 ≤ (rowBytes (cutL r K i2) (1 + (h : Int))).length := by
                have := Nat.mul_le_mul (Nat.le_trans (cutL_length r K i2) hi260) (show (1 + (h : Int)).toNat ≤ 6 by omega)
                rw [rowBytes_length]; omega
              obtain ⟨X, hX⟩ : ∃ X, X = rowBytes (cutL l M j) (1 + (k : Int)) := ⟨_, rfl⟩
              obtain ⟨Y, hY⟩ : ∃ Y, Y = rowBytes (cutL r K i2) (1 + (h : Int)) := ⟨_, rfl⟩
              have hyA := row_yes hrowA Y
              rw [← rowBytes_length, ← hX] at hyA
              have hyB := row_yes hrowB []
              rw [← rowBytes_length, List.append_nil, ← hY] at hyB
              rw [← hX] at hpA hpB hlA
              rw [← hY] at hpB hlB
              obtain ⟨hO1, hL1, hN1⟩ := hyA
              obtain ⟨hO2, hL2, hN2⟩ := hyB
              have HX := hide hX
              have HY := hide hY
              clear hX hY
              have hszb : w.heap.size ≤ wb.heap.size := Nat.le_trans hb1.size (Nat.le_trans hbel.size hbelb.size)
              have hbb : Below w.heap.size w wb := (hb1.trans (hbel.mono hb1.size)).trans (hbelb.mono (Nat.le_trans hb1.size hbel.size))
              have hRb := (Reads.of_own hown).later hbelb
              have hSb := Reads.of_own hownb
              go_wp2_with fail
              refine (putRow_any none R 0 0 rn rc [] (cutL l M j) (1 + (k : Int)) _ Reads.none_ hRb (by omega) (by omega) (by omega) (by omega) hbdA).mono ?_
              rintro e w2 ⟨A2, n2, c2, rfl, hn2, hc2', hown2, hbel2⟩
              rw [hpA] at hown2
              have hl2 := own_len8 hown2
              have h2a : n2 ≤ 362 := by omega
              have h2b : 2 ≤ n2 := by omega
              have HL2 := hide hl2
              clear hl2
              have hb2 : Below w.heap.size w w2 := hbb.trans (hbel2.mono hszb)
              go_wp2_with fail
              refine (putRow_any A2 S n2 c2 sn sc X (cutL r K i2) (1 + (h : Int)) _ (Reads.of_own hown2) (hSb.later hbel2) hn2 (by simpa [maxLen] using hc2') (by omega) (by omega) hbdB).mono ?_
              rintro e w3 ⟨A3, n3, c3, rfl, hn3, hc3', hown3, hbel3⟩
              rw [hpB] at hown3
              have hl3 := own_len8 hown3
              rw [List.length_append, ← HL2.out] at hl3
              have h3a : n3 ≤ n2 + 362 := by omega
              have h3b : n2 + 2 ≤ n3 := by omega
              have HL3 := hide hl3
              clear hl3
              have hb3 : Below w.heap.size w w3 := hb2.trans (hbel3.mono hb2.size)
              have hq3 := (Reads.of_own hown3).cut (k := n2) (cap := c3) (by omega) hn3
              rw [if_neg (by omega), Nat.mul_one, B8_drop, show (X ++ Y).drop n2 = Y by rw [HL2.out]; simp] at hq3
              go_wp2_with fail
              refine (row_any _ _ _ _ _ _ (Reads.of_own hown3) hn3 (by simpa [maxLen] using hc3') (by omega)).mono ?_
              rintro e w4 ⟨A4, n4, c4, rfl, hn4, hc4', hown4, hbel4⟩
              rw [hO1, hN1, ← HL2.out]
              rw [hL1] at hown4
              clear hO1 hN1 hL1
              have hb4 : Below w.heap.size w w4 := hb3.trans (hbel4.mono hb3.size)
              have hq4 := hq3.later hbel4
              have hc3b : n2 + 2 ≤ c3 := by omega
              go_wp2_with fail
              refine (row_any _ _ _ _ _ _ hq4 (by omega) (by simp only [maxLen] at hc3'; omega) (by omega)).mono ?_
              rintro e w5 ⟨A5, n5, c5, rfl, hn5, hc5', hown5, hbel5⟩
              have hYn : Y.length = n3 - n2 := by have := HL3.out; omega
              rw [hO2, hN2, hYn]
              rw [hL2] at hown5
              clear hO2 hN2 hL2 hYn
              have hb5 : Below w.heap.size w w5 := hb4.trans (hbel5.mono hb4.size)
              have hone5 := (Reads.of_own hown4).later hbel5
              have htwo5 := Reads.of_own hown5
              have hR5 := (((hRb.later hbel2).later hbel3).later hbel4).later hbel5
              have hS5 := (((hSb.later hbel2).later hbel3).later hbel4).later hbel5
              have hdec1 : decide (cutL l M j = cutL l M j) = true := by simp
              have hdec2 : decide (cutL r K i2 = cutL r K i2) = true := by simp
              have HS1 := hide (same_any A4 R n4 c4 rn rc _ _ _ _ w5 hone5 hR5 (by simp only [maxLen] at hc4'; omega) (by simp only [maxLen] at hrcm; omega))
              have HS2 := hide (fun q => same_any A5 S n5 c5 sn sc _ _ _ _ (w5.drewN q) (htwo5.drewN q) (hS5.drewN q) (by simp only [maxLen] at hc5'; omega) (by simp only [maxLen] at hscm; omega))
              go_wp2_with fail
              refine HS1.out.mono ?_
              rintro e w7 ⟨rfl, q, rfl⟩
              rw [hdec1]
              go_wp2_with fail
              refine (HS2.out q).mono ?_
              rintro e w8 ⟨rfl, q2, rfl⟩
              rw [hdec2]
              go_wp2
              go_ret
              exact ⟨rfl, below_drewN hb5 _⟩
      · clear hgo
        go_wp2_with fail
        clear hjn2
        have hs2 := hs1.below (hbel.mono hb1.size)
        go_loopw [11, 13] (fun r0 i wz => ∃ (j rn rc : Nat) (R : Option Addr), j ≤ m ∧ j ≤ 60 ∧ i = .int .i64 j ∧ r0 = .slice R rn rc ∧ rn ≤ rc ∧ rc ≤ maxLen ∧ rn ≤ j ∧ wz.ownsRow wa.heap.size 3 1 (.slice R rn rc) rn (I64 (cutL r K j)) ∧ Below wa.heap.size wa wz)
            (fun _ i _ => 60 - (intOf i).toNat)
        case atStart => exact ⟨0, 0, 0, none, Nat.zero_le _, Nat.zero_le _, rfl, rfl, Nat.le_refl _, Nat.zero_le _, Nat.le_refl _, World.ownsRow_nil _ _ _ _, Below.refl _ _⟩
        case round =>
          obtain ⟨i2, sn, sc, S, hi2n, hi260, rfl, rfl, hsc, hscm, hsnj, hownb, hbelb⟩ := hrel
          by_cases hgo : i2 < m ∧ i2 < 60
          · obtain ⟨hg1, hg2⟩ := hgo
            obtain ⟨ad, x, rfl, hblk, hx, hc0⟩ := hs2.i64_at hg1
            have hts := take_more hx
            have HX := hide (cutL_step (M := K) hts)
            clear hx hts
            have hbx := HKB.out x
            have hmm := HK.out
            have hcx := (hbelb.cell (p := ad.add i2) (by rw [block_of_add]; have := hb1.size; have := hbel.size; omega)).trans hc0
            have hA : sn + 1 ≤ maxLen := by simp only [maxLen]; omega
            have hB : (sn + 1) * 8 ≤ 140737488355328 := by omega
            have hC := hbelb.size
            go_wp2_with (at_builtin; refine wpList_append_any _ rfl (.tmp 63) (.tmp 74) _ rfl wa.heap.size 3 i0 _ 1 8 Try.underlying27 hi0 hz0 hz1 hz2 rfl (by omega) _ _ _ rfl (hownb.alloc _) (wr.heap.size + 1) (some ⟨wr.heap.size, 0, none⟩) 1 1 [.int .i64 (x % K)] rfl (Reads.one _ _ _ _ (by omega)) (one_i64 _) hA hB (le_alloc hC _) ?_; intro v1 w2 hown1 hbel1)
            have hown2 := hown1
            rw [show ([Value.int .i64 (x % K)] : List Value) = I64 [x % K] from rfl, ← I64_append, ← HX.out] at hown2
            obtain ⟨R2, rc2, hv2, hrc2, hrm2⟩ := own_shape hown2
            have hb2 := (hbelb.alloc hC (.cells #[.int .i64 (x % K)] 3)).trans hbel1
            go_roundw
            case rel => exact ⟨i2 + 1, sn + 1, rc2, R2, by omega, by omega, by go_num, hv2, hrc2, hrm2, by omega, hv2 ▸ hown2, hb2⟩
            case measure => simp [intOf]; omega
          · obtain ⟨wb, hwr⟩ : ∃ w0, w0 = wr := ⟨_, rfl⟩
            subst hwr
            by_cases him2 : i2 < m
            · have hi1 : ¬ i2 < 60 := by omega
              clear hgo
              have hrowA : rowB (cutL l M j) (1 + (k : Int)) = true := cutL_row hk6 HM2.out (by omega) (by omega)
              have hrowB : rowB (cutL r K i2) (1 + (h : Int)) = true := cutL_row hh6 HK2.out (by omega) (by omega)
              have hbdA : ∀ v ∈ cutL l M j, v ≤ 9223372036854775807 := fun v hv => by have := (cutL_fits hk6 HM2.out (by omega) v hv).2; omega
              have hbdB : ∀ v ∈ cutL r K i2, v ≤ 9223372036854775807 := fun v hv => by have := (cutL_fits hh6 HK2.out (by omega) v hv).2; omega
              have hpA : putRowB [] (cutL l M j) (1 + (k : Int)) = rowBytes (cutL l M j) (1 + (k : Int)) := by rw [putRowB, if_pos hrowA, List.nil_append]
              have hpB : putRowB (rowBytes (cutL l M j) (1 + (k : Int))) (cutL r K i2) (1 + (h : Int)) = rowBytes (cutL l M j) (1 + (k : Int)) ++ rowBytes (cutL r K i2) (1 + (h : Int)) := by rw [putRowB, if_pos hrowB]
              have hlA : (rowBytes (cutL l M j) (1 + (k : Int))).length ≤ 362 ∧ 2 ≤ (rowBytes (cutL l M j) (1 + (k : Int))).length := by
                have := Nat.mul_le_mul (Nat.le_trans (cutL_length l M j) hj60) (show (1 + (k : Int)).toNat ≤ 6 by omega)
                rw [rowBytes_length]; omega
              have hlB : (rowBytes (cutL r K i2) (1 + (h : Int))).length ≤ 362 ∧ 2 ≤ (rowBytes (cutL r K i2) (1 + (h : Int))).length := by
                have := Nat.mul_le_mul (Nat.le_trans (cutL_length r K i2) hi260) (show (1 + (h : Int)).toNat ≤ 6 by omega)
                rw [rowBytes_length]; omega
              obtain ⟨X, hX⟩ : ∃ X, X = rowBytes (cutL l M j) (1 + (k : Int)) := ⟨_, rfl⟩
              obtain ⟨Y, hY⟩ : ∃ Y, Y = rowBytes (cutL r K i2) (1 + (h : Int)) := ⟨_, rfl⟩
              have hyA := row_yes hrowA Y
              rw [← rowBytes_length, ← hX] at hyA
              have hyB := row_yes hrowB []
              rw [← rowBytes_length, List.append_nil, ← hY] at hyB
              rw [← hX] at hpA hpB hlA
              rw [← hY] at hpB hlB
              obtain ⟨hO1, hL1, hN1⟩ := hyA
              obtain ⟨hO2, hL2, hN2⟩ := hyB
              have HX := hide hX
              have HY := hide hY
              clear hX hY
              have hszb : w.heap.size ≤ wb.heap.size := Nat.le_trans hb1.size (Nat.le_trans hbel.size hbelb.size)
              have hbb : Below w.heap.size w wb := (hb1.trans (hbel.mono hb1.size)).trans (hbelb.mono (Nat.le_trans hb1.size hbel.size))
              have hRb := (Reads.of_own hown).later hbelb
              have hSb := Reads.of_own hownb
              go_wp2_with fail
              refine (putRow_any none R 0 0 rn rc [] (cutL l M j) (1 + (k : Int)) _ Reads.none_ hRb (by omega) (by omega) (by omega) (by omega) hbdA).mono ?_
              rintro e w2 ⟨A2, n2, c2, rfl, hn2, hc2', hown2, hbel2⟩
              rw [hpA] at hown2
              have hl2 := own_len8 hown2
              have h2a : n2 ≤ 362 := by omega
              have h2b : 2 ≤ n2 := by omega
              have HL2 := hide hl2
              clear hl2
              have hb2 : Below w.heap.size w w2 := hbb.trans (hbel2.mono hszb)
              go_wp2_with fail
              refine (putRow_any A2 S n2 c2 sn sc X (cutL r K i2) (1 + (h : Int)) _ (Reads.of_own hown2) (hSb.later hbel2) hn2 (by simpa [maxLen] using hc2') (by omega) (by omega) hbdB).mono ?_
              rintro e w3 ⟨A3, n3, c3, rfl, hn3, hc3', hown3, hbel3⟩
              rw [hpB] at hown3
              have hl3 := own_len8 hown3
              rw [List.length_append, ← HL2.out] at hl3
              have h3a : n3 ≤ n2 + 362 := by omega
              have h3b : n2 + 2 ≤ n3 := by omega
              have HL3 := hide hl3
              clear hl3
              have hb3 : Below w.heap.size w w3 := hb2.trans (hbel3.mono hb2.size)
              have hq3 := (Reads.of_own hown3).cut (k := n2) (cap := c3) (by omega) hn3
              rw [if_neg (by omega), Nat.mul_one, B8_drop, show (X ++ Y).drop n2 = Y by rw [HL2.out]; simp] at hq3
              go_wp2_with fail
              refine (row_any _ _ _ _ _ _ (Reads.of_own hown3) hn3 (by simpa [maxLen] using hc3') (by omega)).mono ?_
              rintro e w4 ⟨A4, n4, c4, rfl, hn4, hc4', hown4, hbel4⟩
              rw [hO1, hN1, ← HL2.out]
              rw [hL1] at hown4
              clear hO1 hN1 hL1
              have hb4 : Below w.heap.size w w4 := hb3.trans (hbel4.mono hb3.size)
              have hq4 := hq3.later hbel4
              have hc3b : n2 + 2 ≤ c3 := by omega
              go_wp2_with fail
              refine (row_any _ _ _ _ _ _ hq4 (by omega) (by simp only [maxLen] at hc3'; omega) (by omega)).mono ?_
              rintro e w5 ⟨A5, n5, c5, rfl, hn5, hc5', hown5, hbel5⟩
              have hYn : Y.length = n3 - n2 := by have := HL3.out; omega
              rw [hO2, hN2, hYn]
              rw [hL2] at hown5
              clear hO2 hN2 hL2 hYn
              have hb5 : Below w.heap.size w w5 := hb4.trans (hbel5.mono hb4.size)
              have hone5 := (Reads.of_own hown4).later hbel5
              have htwo5 := Reads.of_own hown5
              have hR5 := (((hRb.later hbel2).later hbel3).later hbel4).later hbel5
              have hS5 := (((hSb.later hbel2).later hbel3).later hbel4).later hbel5
              have hdec1 : decide (cutL l M j = cutL l M j) = true := by simp
              have hdec2 : decide (cutL r K i2 = cutL r K i2) = true := by simp
              have HS1 := hide (same_any A4 R n4 c4 rn rc _ _ _ _ w5 hone5 hR5 (by simp only [maxLen] at hc4'; omega) (by simp only [maxLen] at hrcm; omega))
              have HS2 := hide (fun q => same_any A5 S n5 c5 sn sc _ _ _ _ (w5.drewN q) (htwo5.drewN q) (hS5.drewN q) (by simp only [maxLen] at hc5'; omega) (by simp only [maxLen] at hscm; omega))
              go_wp2_with fail
              refine HS1.out.mono ?_
              rintro e w7 ⟨rfl, q, rfl⟩
              rw [hdec1]
              go_wp2_with fail
              refine (HS2.out q).mono ?_
              rintro e w8 ⟨rfl, q2, rfl⟩
              rw [hdec2]
              go_wp2
              go_ret
              exact ⟨rfl, below_drewN hb5 _⟩
            · clear hgo
              have hrowA : rowB (cutL l M j) (1 + (k : Int)) = true := cutL_row hk6 HM2.out (by omega) (by omega)
              have hrowB : rowB (cutL r K i2) (1 + (h : Int)) = true := cutL_row hh6 HK2.out (by omega) (by omega)
              have hbdA : ∀ v ∈ cutL l M j, v ≤ 9223372036854775807 := fun v hv => by have := (cutL_fits hk6 HM2.out (by omega) v hv).2; omega
              have hbdB : ∀ v ∈ cutL r K i2, v ≤ 9223372036854775807 := fun v hv => by have := (cutL_fits hh6 HK2.out (by omega) v hv).2; omega
              have hpA : putRowB [] (cutL l M j) (1 + (k : Int)) = rowBytes (cutL l M j) (1 + (k : Int)) := by rw [putRowB, if_pos hrowA, List.nil_append]
              have hpB : putRowB (rowBytes (cutL l M j) (1 + (k : Int))) (cutL r K i2) (1 + (h : Int)) = rowBytes (cutL l M j) (1 + (k : Int)) ++ rowBytes (cutL r K i2) (1 + (h : Int)) := by rw [putRowB, if_pos hrowB]
              have hlA : (rowBytes (cutL l M j) (1 + (k : Int))).length ≤ 362 ∧ 2 ≤ (rowBytes (cutL l M j) (1 + (k : Int))).length := by
                have := Nat.mul_le_mul (Nat.le_trans (cutL_length l M j) hj60) (show (1 + (k : Int)).toNat ≤ 6 by omega)
                rw [rowBytes_length]; omega
              have hlB : (rowBytes (cutL r K i2) (1 + (h : Int))).length ≤ 362 ∧ 2 ≤ (rowBytes (cutL r K i2) (1 + (h : Int))).length := by
                have := Nat.mul_le_mul (Nat.le_trans (cutL_length r K i2) hi260) (show (1 + (h : Int)).toNat ≤ 6 by omega)
                rw [rowBytes_length]; omega
              obtain ⟨X, hX⟩ : ∃ X, X = rowBytes (cutL l M j) (1 + (k : Int)) := ⟨_, rfl⟩
              obtain ⟨Y, hY⟩ : ∃ Y, Y = rowBytes (cutL r K i2) (1 + (h : Int)) := ⟨_, rfl⟩
              have hyA := row_yes hrowA Y
              rw [← rowBytes_length, ← hX] at hyA
              have hyB := row_yes hrowB []
              rw [← rowBytes_length, List.append_nil, ← hY] at hyB
              rw [← hX] at hpA hpB hlA
              rw [← hY] at hpB hlB
              obtain ⟨hO1, hL1, hN1⟩ := hyA
              obtain ⟨hO2, hL2, hN2⟩ := hyB
              have HX := hide hX
              have HY := hide hY
              clear hX hY
              have hszb : w.heap.size ≤ wb.heap.size := Nat.le_trans hb1.size (Nat.le_trans hbel.size hbelb.size)
              have hbb : Below w.heap.size w wb := (hb1.trans (hbel.mono hb1.size)).trans (hbelb.mono (Nat.le_trans hb1.size hbel.size))
              have hRb := (Reads.of_own hown).later hbelb
              have hSb := Reads.of_own hownb
              go_wp2_with fail
              refine (putRow_any none R 0 0 rn rc [] (cutL l M j) (1 + (k : Int)) _ Reads.none_ hRb (by omega) (by omega) (by omega) (by omega) hbdA).mono ?_
              rintro e w2 ⟨A2, n2, c2, rfl, hn2, hc2', hown2, hbel2⟩
              rw [hpA] at hown2
              have hl2 := own_len8 hown2
              have h2a : n2 ≤ 362 := by omega
              have h2b : 2 ≤ n2 := by omega
              have HL2 := hide hl2
              clear hl2
              have hb2 : Below w.heap.size w w2 := hbb.trans (hbel2.mono hszb)
              go_wp2_with fail
              refine (putRow_any A2 S n2 c2 sn sc X (cutL r K i2) (1 + (h : Int)) _ (Reads.of_own hown2) (hSb.later hbel2) hn2 (by simpa [maxLen] using hc2') (by omega) (by omega) hbdB).mono ?_
              rintro e w3 ⟨A3, n3, c3, rfl, hn3, hc3', hown3, hbel3⟩
              rw [hpB] at hown3
              have hl3 := own_len8 hown3
              rw [List.length_append, ← HL2.out] at hl3
              have h3a : n3 ≤ n2 + 362 := by omega
              have h3b : n2 + 2 ≤ n3 := by omega
              have HL3 := hide hl3
              clear hl3
              have hb3 : Below w.heap.size w w3 := hb2.trans (hbel3.mono hb2.size)
              have hq3 := (Reads.of_own hown3).cut (k := n2) (cap := c3) (by omega) hn3
              rw [if_neg (by omega), Nat.mul_one, B8_drop, show (X ++ Y).drop n2 = Y by rw [HL2.out]; simp] at hq3
              go_wp2_with fail
              refine (row_any _ _ _ _ _ _ (Reads.of_own hown3) hn3 (by simpa [maxLen] using hc3') (by omega)).mono ?_
              rintro e w4 ⟨A4, n4, c4, rfl, hn4, hc4', hown4, hbel4⟩
              rw [hO1, hN1, ← HL2.out]
              rw [hL1] at hown4
              clear hO1 hN1 hL1
              have hb4 : Below w.heap.size w w4 := hb3.trans (hbel4.mono hb3.size)
              have hq4 := hq3.later hbel4
              have hc3b : n2 + 2 ≤ c3 := by omega
              go_wp2_with fail
              refine (row_any _ _ _ _ _ _ hq4 (by omega) (by simp only [maxLen] at hc3'; omega) (by omega)).mono ?_
              rintro e w5 ⟨A5, n5, c5, rfl, hn5, hc5', hown5, hbel5⟩
              have hYn : Y.length = n3 - n2 := by have := HL3.out; omega
              rw [hO2, hN2, hYn]
              rw [hL2] at hown5
              clear hO2 hN2 hL2 hYn
              have hb5 : Below w.heap.size w w5 := hb4.trans (hbel5.mono hb4.size)
              have hone5 := (Reads.of_own hown4).later hbel5
              have htwo5 := Reads.of_own hown5
              have hR5 := (((hRb.later hbel2).later hbel3).later hbel4).later hbel5
              have hS5 := (((hSb.later hbel2).later hbel3).later hbel4).later hbel5
              have hdec1 : decide (cutL l M j = cutL l M j) = true := by simp
              have hdec2 : decide (cutL r K i2 = cutL r K i2) = true := by simp
              have HS1 := hide (same_any A4 R n4 c4 rn rc _ _ _ _ w5 hone5 hR5 (by simp only [maxLen] at hc4'; omega) (by simp only [maxLen] at hrcm; omega))
              have HS2 := hide (fun q => same_any A5 S n5 c5 sn sc _ _ _ _ (w5.drewN q) (htwo5.drewN q) (hS5.drewN q) (by simp only [maxLen] at hc5'; omega) (by simp only [maxLen] at hscm; omega))
              go_wp2_with fail
              refine HS1.out.mono ?_
              rintro e w7 ⟨rfl, q, rfl⟩
              rw [hdec1]
              go_wp2_with fail
              refine (HS2.out q).mono ?_
              rintro e w8 ⟨rfl, q2, rfl⟩
              rw [hdec2]
              go_wp2
              go_ret
              exact ⟨rfl, below_drewN hb5 _⟩

/-! The row's frame, by program: how the walk above proves the statement. -/
set_option maxRecDepth 100000 in
theorem lifted (os : Os) (started : os.Started) (H : Type) (enc : TypeId × Value → H) :
    ReturnsInHanded {} Try.checked os 10 .any (Rows.packRowsSpec.pre6 enc Try.prog Try.f10 Rows.packRowsRow.domain false) (Rows.packRowsSpec.post enc Try.prog Try.f10 false true false false) := by
  refine returnsInHanded_of_change (C := Try.checked) own started (by kernel_rfl) Try.func10
    (ChangeSpec.witness6 (enc := enc) (C := Try.checked) false ⟨#[], #[.slice none 0 0, .slice none 0 0, .int .i64 0, .int .i64 0], []⟩ 8 (by kernel_rfl) (by kernel_rfl) (by kernel_rfl) (by kernel_rfl)) ?_
  intro W base args ds gs before hval0 hW hcnd _
  have hval : ∀ (j : Nat) t v, Try.f10.params[j]? = some t → args[j]? = some v → Value.okWide Try.prog W .any base t v := hval0
  have hW' := hW
  obtain ⟨p, q, hA0, hV, rfl, hfz, hnd⟩ := hW
  have hA : DataW.TrodAll enc Try.prog W 0 (fun _ => true) true Try.f10.params.toList args.toList ds p := hA0
  rw [Try.params10] at hA hval
  obtain ⟨v0, vs0, d0, ds0, p0, q0, hargs, rfl, rfl, h0, r0⟩ := trodAll_cons hA
  obtain ⟨v1, vs1, d1, ds1, p1, q1, rfl, rfl, rfl, h1, r1⟩ := trodAll_cons r0
  obtain ⟨v2, vs2, d2, ds2, p2, q2, rfl, rfl, rfl, h2, r2⟩ := trodAll_cons r1
  obtain ⟨v3, vs3, d3, ds3, p3, q3, rfl, rfl, rfl, h3, r3⟩ := trodAll_cons r2
  obtain ⟨rfl, rfl, rfl⟩ := trodAll_nil r3
  obtain rfl : args = #[v0, v1, v2, v3] := by cases args; simp_all
  obtain ⟨rfl, rfl⟩ := trodVars_none hV
  obtain ⟨A0, n0, c0, rfl⟩ := okWide_slice Try.underlying27 (hval 0 27 v0 rfl rfl)
  have k0 := h0
  have lt0 : ∀ x ∈ p0, x.block < W.heap.size := by obtain ⟨m, hm⟩ := k0; exact DataW.trod_lt m _ _ _ hm
  obtain ⟨l0, x0, y0, g0, z0⟩ := arg_ints h0
  obtain ⟨A1, n1, c1, rfl⟩ := okWide_slice Try.underlying27 (hval 1 27 v1 rfl rfl)
  have k1 := h1
  have lt1 : ∀ x ∈ p1, x.block < W.heap.size := by obtain ⟨m, hm⟩ := k1; exact DataW.trod_lt m _ _ _ hm
  obtain ⟨l1, x1, y1, g1, z1⟩ := arg_ints h1
  obtain ⟨a2, rfl, rfl, rfl, w2⟩ := open_int Try.underlying3 (hval 2 3 v2 rfl rfl) h2
  have b2 := bounds_i64 w2
  obtain ⟨a3, rfl, rfl, rfl, w3⟩ := open_int Try.underlying3 (hval 3 3 v3 rfl rfl) h3
  have b3 := bounds_i64 w3
  clear hA0 hval0
  refine (walk A0 n0 c0 l0 A1 n1 c1 l1 a2 a3 W x0 y0 g0 z0 x1 y1 g1 z1 b2.1 b2.2 b3.1 b3.2).mono fun e W' ⟨he, bel⟩ => ?_
  subst he
  exact ⟨_, rfl, _, _, _, [], _, [], hW', trodAll_mk1 (shut_bool Try.underlying4 _), (trodAll_cons_mk (Below.trod laidOut (by kernel_rfl) (of_decide_eq_true (by kernel_rfl)) k0 bel lt0) (trodAll_cons_mk (Below.trod laidOut (by kernel_rfl) (of_decide_eq_true (by kernel_rfl)) k1 bel lt1) (trodAll_cons_mk (shut_int Try.underlying3 w2) (trodAll_cons_mk (shut_int Try.underlying3 w3) trodAll_mk0)))), rfl, bel.frame _, fun h => by cases h⟩

theorem over : Rows.packRowsRow.holds Try.pinned (OpenSpec.ofChange Rows.packRowsSpec) :=
  OpenClaim.holds_of_wide 10 Try.f10 rfl rfl rfl rfl rfl rfl rfl ⟨rfl, rfl, rfl, rfl, rfl⟩ rfl rfl rfl rfl rfl (by kernel_rfl) Try.func10 (by kernel_rfl)
    (of_decide_eq_true (by kernel_rfl)) (by unfold Func.isWrapper; first | (rw [if_pos (by decide +kernel)]; kernel_rfl) | (rw [if_neg (by decide +kernel)]; exact ⟨rfl, rfl⟩))
    (fun os started H enc _ => lifted os started H enc)

/-- The statement. -/
theorem proved : Rows.PackRowsSaid := over
#print axioms proved
end Go.Proofs.Ytkjbjhciafnbeaa.PackRows
