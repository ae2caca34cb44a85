/- PackBack holds: for every number, every row (its first five hundred numbers) and every width, cut to a width from 1 to 6 and to numbers of that width, and any bytes behind (five hundred): Get and Row give back what Put and PutRow were given, and Row tells how many bytes it was; no condition. -/
import Derived.Test.YtkjbjhciafnbeaaShown
import Derived.Test.YtkjbjhciafnbeaaArg
import Derived.Test.YtkjbjhciafnbeaaRow
import Derived.Test.YtkjbjhciafnbeaaSame
namespace Go.Proofs.Ytkjbjhciafnbeaa.PackBack
open Go.ChangeShapes Go.WideShapes Go.ChangeAt Go.RowKit
set_option linter.unusedVariables false

set_option maxRecDepth 100000 in
set_option maxHeartbeats 4000000 in
theorem walk (v : Int) (A : Option Addr) (n c : Nat) (l : List Int) (width : Int) (Am : Option Addr) (nm cm : Nat) (ml : List UInt8) (w : World) (hv0 : -9223372036854775808 ≤ v) (hv : v ≤ 9223372036854775807)
    (hr : Reads w w.heap.size 1 A n (I64 l)) (hlb : ∀ v ∈ l, -9223372036854775808 ≤ v ∧ v ≤ 9223372036854775807) (hc : n ≤ c) (hc2 : c ≤ 9223372036854775807)
    (_h0 : -9223372036854775808 ≤ width) (_h1 : width ≤ 9223372036854775807) (hmr : Reads w w.heap.size 1 Am nm (B8 ml)) (hcm : nm ≤ cm) (hcm2 : cm ≤ 9223372036854775807) :
    Calls Try.prog 5 #[.int .i64 v, .slice A n c, .int .i64 width, .slice Am nm cm] w fun e w' => e = .returned (.bool true) ∧ Below w.heap.size w w' := by
  have hm : bits .and .i64 width 15 = width % 16 := i64_mask width 4 (by omega)
  obtain ⟨k, hk⟩ : ∃ k : Nat, width % 16 % 6 = k := ⟨(width % 16 % 6).toNat, by omega⟩
  have hk6 : k ≤ 5 := by omega
  obtain ⟨M, hM, hM2, hM3, hM4, hbits⟩ := mask_is k hk6
  obtain ⟨V, hV⟩ : ∃ V, V = v % M := ⟨_, rfl⟩
  have hV0 : 0 ≤ V := by rw [hV]; exact Int.emod_nonneg _ (by omega)
  have hV1 : V < M := by rw [hV]; exact Int.emod_lt_of_pos _ (by omega)
  have hv' := hbits v
  rw [← hV] at hv'
  obtain ⟨i0, hi0, hz0, hz1, hz2⟩ := info_parts int_info
  obtain ⟨i1, hj0, hy0, hy1, hy2⟩ := info_parts u8_info
  have HM2 := hide hM2
  have HB := hide hbits
  clear hV hbits hM2
  go_enter Try.func5, Try.ntmps5
  go_wp2_with fail
  refine (shown_any _).mono ?_
  rintro e w1 ⟨rfl, hb1⟩
  go_wp2_with fail
  have hr1 := (hr.below hb1)
  have HV := hide hv'
  clear hk hM hm hv'
  go_loopw [11, 12] (fun r i wr => ∃ (j rn rc : Nat) (R : Option Addr), j ≤ n ∧ j ≤ 500 ∧ i = .int .i64 j ∧ r = .slice R rn rc ∧ rn ≤ rc ∧ rc ≤ maxLen ∧ rn ≤ j ∧ wr.ownsRow w1.heap.size 3 1 (.slice R rn rc) rn (I64 (cutL l M j)) ∧ Below w1.heap.size w1 wr)
    (fun _ i _ => 500 - (intOf i).toNat)
  case atStart => exact ⟨0, 0, 0, none, Nat.zero_le _, Nat.zero_le _, rfl, rfl, Nat.le_refl _, Nat.zero_le _, Nat.le_refl _, World.ownsRow_nil _ _ _ _, Below.refl _ _⟩
  case round =>
    obtain ⟨j, rn, rc, R, hjn, hj100, rfl, rfl, hrc, hrm, hrj, hown, hbel⟩ := hrel
    by_cases hgo : j < n ∧ j < 500
    · obtain ⟨hg1, hg2⟩ := hgo
      obtain ⟨ad, x, rfl, hblk, hx, hc0⟩ := hr1.i64_at hg1
      have hts := take_more hx
      have HX := hide (cutL_step (M := M) hts)
      clear hx hts
      have hbx := HB.out x
      have hcx := (hbel.cell (p := ad.add j) (by rw [block_of_add]; have := hb1.size; omega)).trans hc0
      have hA : rn + 1 ≤ maxLen := by simp only [maxLen]; omega
      have hB : (rn + 1) * 8 ≤ 140737488355328 := by omega
      have hC := hbel.size
      go_wp2_with (at_builtin; refine wpList_append_any _ rfl (.tmp 43) (.tmp 50) _ rfl w1.heap.size 3 i0 _ 1 8 Try.underlying27 hi0 hz0 hz1 hz2 rfl (by omega) _ _ _ rfl (hown.alloc _) (wr.heap.size + 1) (some ⟨wr.heap.size, 0, none⟩) 1 1 [.int .i64 (x % M)] rfl (Reads.one _ _ _ _ (by omega)) (one_i64 _) hA hB (le_alloc hC _) ?_; intro v1 w2 hown1 hbel1)
      have hown2 := hown1
      rw [show ([Value.int .i64 (x % M)] : List Value) = I64 [x % M] from rfl, ← I64_append, ← HX.out] at hown2
      obtain ⟨R2, rc2, hv2, hrc2, hrm2⟩ := own_shape hown2
      have hb2 := (hbel.alloc hC (.cells #[.int .i64 (x % M)] 3)).trans hbel1
      go_roundw
      case rel => exact ⟨j + 1, rn + 1, rc2, R2, by omega, by omega, by go_num, hv2, hrc2, hrm2, by omega, hv2 ▸ hown2, hb2⟩
      case measure => simp [intOf]; omega
    · have hrow : rowB (cutL l M j) (1 + (k : Int)) = true := cutL_row hk6 HM2.out (by omega) (by omega)
      have hbd : ∀ v ∈ cutL l M j, v ≤ 9223372036854775807 := fun v hv => by have := (cutL_fits hk6 HM2.out (by omega) v hv).2; omega
      have hput : putB [] V (1 + (k : Int)) = be (1 + k) V.toNat := by
        rw [putB, if_pos (by
          have e : (1 + (k : Int)).toNat = 1 + k := by omega
          simp only [fitsB, decide_eq_true_eq, e]
          exact ⟨by omega, by omega, hV0, by rw [← HM2.out]; exact hV1⟩), List.nil_append, show (1 + (k : Int)).toNat = 1 + k by omega]
      have hprow : putRowB [] (cutL l M j) (1 + (k : Int)) = rowBytes (cutL l M j) (1 + (k : Int)) := by rw [putRowB, if_pos hrow, List.nil_append]
      have hlen3 : (cutL l M j).length * (1 + (k : Int)).toNat ≤ 500 * 6 := Nat.mul_le_mul (Nat.le_trans (cutL_length _ _ _) hj100) (by omega)
      have htn : (1 + (k : Int)).toNat = 1 + k := by omega
      have hfit : fitsB V (1 + (k : Int)) = true := by
        simp only [fitsB, decide_eq_true_eq, htn]
        exact ⟨by omega, by omega, hV0, by rw [← HM2.out]; exact hV1⟩
      have hrl : (cutL l M j).length = rn := (own_len64 hown).symm
      rw [hrl, htn] at hlen3
      have hp1 : (0 : Int) ≤ (rn : Int) * (1 + (k : Int)) := by
        have e : (rn : Int) * (1 + (k : Int)) = ((rn * (1 + k) : Nat) : Int) := by simp
        omega
      have hp2 : (rn : Int) * (1 + (k : Int)) ≤ 3000 := by
        have e : (rn : Int) * (1 + (k : Int)) = ((rn * (1 + k) : Nat) : Int) := by simp
        omega
      have hv' := HV.out
      by_cases hjn2 : j < n
      · have hj1 : ¬ j < 500 := by omega
        clear hgo
        by_cases hpm : nm ≤ 500
        · have hrp := hmr.head (k := nm) (by omega)
          rw [Nat.mul_one, B8_take] at hrp
          go_wp2_with fail
          refine (put_any none 0 0 [] V (1 + (k : Int)) _ Reads.none_ (by omega) (by omega) (by omega) (by omega)).mono ?_
          rintro e w2 ⟨A2, n2, c2, rfl, hn2, hc2', hown2, hbel2⟩
          rw [hput] at hown2
          have hl2 := own_len8 hown2
          rw [be_length] at hl2
          have hm1 : n2 + nm ≤ maxLen := by simp only [maxLen]; omega
          have hm2 : (n2 + nm) * 1 ≤ 140737488355328 := by omega
          have HL2 := hide hl2
          clear hl2
          have hb2 : Below w.heap.size w w2 := (hb1.trans (hbel.mono hb1.size)).trans (hbel2.mono (Nat.le_trans hb1.size hbel.size))
          have hrp2 := hrp.below hb2
          go_wp2_with (at_builtin; refine wpList_append_any _ rfl (.tmp 60) (.tmp 61) _ rfl wr.heap.size 5 i1 _ 1 1 Try.underlying22 hj0 hy0 hy1 hy2 rfl (by omega) _ n2 _ rfl hown2 w.heap.size Am nm cm _ rfl hrp2 (B8_one _) hm1 hm2 hbel2.size ?_; intro v3 w3 hown3 hbel3)
          obtain ⟨A3, c3, hv3, hn3, hc3⟩ := own_shape hown3
          rw [hv3] at hown3 ⊢
          rw [← B8_append] at hown3
          have hb3 : Below w.heap.size w w3 := hb2.trans (hbel3.mono (Nat.le_trans hb1.size hbel.size))
          have hrow3 := (((Reads.of_own hown).below hbel2).below hbel3).more (Nat.le_trans hbel2.size hbel3.size)
          have hgp := get_put hfit (ml.take nm)
          rw [htn] at hgp
          obtain ⟨hgO, hgV⟩ := hgp
          refine (get_any _ _ _ _ _ _ _ (Reads.of_own hown3) hn3 (by simpa [maxLen] using hc3)).mono ?_
          rintro e w3' ⟨rfl, rfl⟩
          rw [hgO, hgV]
          clear hgO hgV
          go_wp2_with fail
          refine (putRow_any none R 0 0 rn rc [] (cutL l M j) (1 + (k : Int)) _ Reads.none_ hrow3 (by omega) (by omega) (by omega) (by omega) hbd).mono ?_
          rintro e w4 ⟨A4, n4, c4, rfl, hn4, hc4, hown4, hbel4⟩
          rw [hprow] at hown4
          have hl4 := own_len8 hown4
          rw [rowBytes_length, htn, hrl] at hl4
          have hs4 : ((n4 : Int) == 2 + (rn : Int) * (1 + (k : Int))) = true := by
            rw [beq_iff_eq, hl4]
            simp
          have h4b : n4 ≤ 3002 := by omega
          have hb4 : Below w.heap.size w w4 := hb3.trans (hbel4.mono hb3.size)
          have hrp4 := hrp.below hb4
          have hm3 : n4 + nm ≤ maxLen := by simp only [maxLen]; omega
          have hm4 : (n4 + nm) * 1 ≤ 140737488355328 := by omega
          have HL4 := hide hl4
          clear hl4
          go_wp2_with (at_builtin; refine wpList_append_any _ rfl (.tmp 73) (.tmp 74) _ rfl w3.heap.size 5 i1 _ 1 1 Try.underlying22 hj0 hy0 hy1 hy2 rfl (by omega) _ n4 _ rfl hown4 w.heap.size Am nm cm _ rfl hrp4 (B8_one _) hm3 hm4 hbel4.size ?_; intro v5 w5 hown5 hbel5)
          obtain ⟨A5, c5, hv5, hn5, hc5⟩ := own_shape hown5
          rw [hv5] at hown5 ⊢
          rw [← B8_append] at hown5
          have hb5 : Below w.heap.size w w5 := hb4.trans (hbel5.mono hb3.size)
          have hrow5 := ((hrow3.below hbel4).below hbel5).more (Nat.le_trans hbel4.size hbel5.size)
          obtain ⟨hrO, hrL, hrN⟩ := row_yes hrow (ml.take nm)
          rw [htn, hrl, ← HL4.out] at hrN
          refine (row_any _ _ _ _ _ _ (Reads.of_own hown5) hn5 (by simpa [maxLen] using hc5) (by omega)).mono ?_
          rintro e w6 ⟨A6, n6, c6, rfl, hn6, hc6, hown6, hbel6⟩
          rw [hrO, hrN]
          rw [hrL] at hown6
          clear hrO hrN hrL
          have hb6 : Below w.heap.size w w6 := hb5.trans (hbel6.mono hb5.size)
          have hrow6 := hrow5.later hbel6
          have hdec : decide (cutL l M j = cutL l M j) = true := by simp
          have HSM := hide (same_any A6 R n6 c6 rn rc _ _ _ _ w6 (Reads.of_own hown6) hrow6 (by simp only [maxLen] at hc6; omega) (by simp only [maxLen] at hrm; omega))
          go_wp2_with fail
          refine HSM.out.mono ?_
          rintro e w7 ⟨rfl, q, rfl⟩
          rw [hdec]
          go_wp2
          go_ret
          exact ⟨rfl, below_drewN hb6 q⟩
        · have hrp := hmr.head (k := 500) (by omega)
          rw [Nat.mul_one, B8_take] at hrp
          go_wp2_with fail
          refine (put_any none 0 0 [] V (1 + (k : Int)) _ Reads.none_ (by omega) (by omega) (by omega) (by omega)).mono ?_
          rintro e w2 ⟨A2, n2, c2, rfl, hn2, hc2', hown2, hbel2⟩
          rw [hput] at hown2
          have hl2 := own_len8 hown2
          rw [be_length] at hl2
          have hm1 : n2 + 500 ≤ maxLen := by simp only [maxLen]; omega
          have hm2 : (n2 + 500) * 1 ≤ 140737488355328 := by omega
          have HL2 := hide hl2
          clear hl2
          have hb2 : Below w.heap.size w w2 := (hb1.trans (hbel.mono hb1.size)).trans (hbel2.mono (Nat.le_trans hb1.size hbel.size))
          have hrp2 := hrp.below hb2
          go_wp2_with (at_builtin; refine wpList_append_any _ rfl (.tmp 60) (.tmp 61) _ rfl wr.heap.size 5 i1 _ 1 1 Try.underlying22 hj0 hy0 hy1 hy2 rfl (by omega) _ n2 _ rfl hown2 w.heap.size Am 500 cm _ rfl hrp2 (B8_one _) hm1 hm2 hbel2.size ?_; intro v3 w3 hown3 hbel3)
          obtain ⟨A3, c3, hv3, hn3, hc3⟩ := own_shape hown3
          rw [hv3] at hown3 ⊢
          rw [← B8_append] at hown3
          have hb3 : Below w.heap.size w w3 := hb2.trans (hbel3.mono (Nat.le_trans hb1.size hbel.size))
          have hrow3 := (((Reads.of_own hown).below hbel2).below hbel3).more (Nat.le_trans hbel2.size hbel3.size)
          have hgp := get_put hfit (ml.take 500)
          rw [htn] at hgp
          obtain ⟨hgO, hgV⟩ := hgp
          refine (get_any _ _ _ _ _ _ _ (Reads.of_own hown3) hn3 (by simpa [maxLen] using hc3)).mono ?_
          rintro e w3' ⟨rfl, rfl⟩
          rw [hgO, hgV]
          clear hgO hgV
          go_wp2_with fail
          refine (putRow_any none R 0 0 rn rc [] (cutL l M j) (1 + (k : Int)) _ Reads.none_ hrow3 (by omega) (by omega) (by omega) (by omega) hbd).mono ?_
          rintro e w4 ⟨A4, n4, c4, rfl, hn4, hc4, hown4, hbel4⟩
          rw [hprow] at hown4
          have hl4 := own_len8 hown4
          rw [rowBytes_length, htn, hrl] at hl4
          have hs4 : ((n4 : Int) == 2 + (rn : Int) * (1 + (k : Int))) = true := by
            rw [beq_iff_eq, hl4]
            simp
          have h4b : n4 ≤ 3002 := by omega
          have hb4 : Below w.heap.size w w4 := hb3.trans (hbel4.mono hb3.size)
          have hrp4 := hrp.below hb4
          have hm3 : n4 + 500 ≤ maxLen := by simp only [maxLen]; omega
          have hm4 : (n4 + 500) * 1 ≤ 140737488355328 := by omega
          have HL4 := hide hl4
          clear hl4
          go_wp2_with (at_builtin; refine wpList_append_any _ rfl (.tmp 73) (.tmp 74) _ rfl w3.heap.size 5 i1 _ 1 1 Try.underlying22 hj0 hy0 hy1 hy2 rfl (by omega) _ n4 _ rfl hown4 w.heap.size Am 500 cm _ rfl hrp4 (B8_one _) hm3 hm4 hbel4.size ?_; intro v5 w5 hown5 hbel5)
          obtain ⟨A5, c5, hv5, hn5, hc5⟩ := own_shape hown5
          rw [hv5] at hown5 ⊢
          rw [← B8_append] at hown5
          have hb5 : Below w.heap.size w w5 := hb4.trans (hbel5.mono hb3.size)
          have hrow5 := ((hrow3.below hbel4).below hbel5).more (Nat.le_trans hbel4.size hbel5.size)
          obtain ⟨hrO, hrL, hrN⟩ := row_yes hrow (ml.take 500)
          rw [htn, hrl, ← HL4.out] at hrN
          refine (row_any _ _ _ _ _ _ (Reads.of_own hown5) hn5 (by simpa [maxLen] using hc5) (by omega)).mono ?_
          rintro e w6 ⟨A6, n6, c6, rfl, hn6, hc6, hown6, hbel6⟩
          rw [hrO, hrN]
          rw [hrL] at hown6
          clear hrO hrN hrL
          have hb6 : Below w.heap.size w w6 := hb5.trans (hbel6.mono hb5.size)
          have hrow6 := hrow5.later hbel6
          have hdec : decide (cutL l M j = cutL l M j) = true := by simp
          have HSM := hide (same_any A6 R n6 c6 rn rc _ _ _ _ w6 (Reads.of_own hown6) hrow6 (by simp only [maxLen] at hc6; omega) (by simp only [maxLen] at hrm; omega))
          go_wp2_with fail
          refine HSM.out.mono ?_
          rintro e w7 ⟨rfl, q, rfl⟩
          rw [hdec]
          go_wp2
          go_ret
          exact ⟨rfl, below_drewN hb6 q⟩
      · clear hgo
        by_cases hpm : nm ≤ 500
        · have hrp := hmr.head (k := nm) (by omega)
          rw [Nat.mul_one, B8_take] at hrp
          go_wp2_with fail
          refine (put_any none 0 0 [] V (1 + (k : Int)) _ Reads.none_ (by omega) (by omega) (by omega) (by omega)).mono ?_
          rintro e w2 ⟨A2, n2, c2, rfl, hn2, hc2', hown2, hbel2⟩
          rw [hput] at hown2
          have hl2 := own_len8 hown2
          rw [be_length] at hl2
          have hm1 : n2 + nm ≤ maxLen := by simp only [maxLen]; omega
          have hm2 : (n2 + nm) * 1 ≤ 140737488355328 := by omega
          have HL2 := hide hl2
          clear hl2
          have hb2 : Below w.heap.size w w2 := (hb1.trans (hbel.mono hb1.size)).trans (hbel2.mono (Nat.le_trans hb1.size hbel.size))
          have hrp2 := hrp.below hb2
          go_wp2_with (at_builtin; refine wpList_append_any _ rfl (.tmp 60) (.tmp 61) _ rfl wr.heap.size 5 i1 _ 1 1 Try.underlying22 hj0 hy0 hy1 hy2 rfl (by omega) _ n2 _ rfl hown2 w.heap.size Am nm cm _ rfl hrp2 (B8_one _) hm1 hm2 hbel2.size ?_; intro v3 w3 hown3 hbel3)
          obtain ⟨A3, c3, hv3, hn3, hc3⟩ := own_shape hown3
          rw [hv3] at hown3 ⊢
          rw [← B8_append] at hown3
          have hb3 : Below w.heap.size w w3 := hb2.trans (hbel3.mono (Nat.le_trans hb1.size hbel.size))
          have hrow3 := (((Reads.of_own hown).below hbel2).below hbel3).more (Nat.le_trans hbel2.size hbel3.size)
          have hgp := get_put hfit (ml.take nm)
          rw [htn] at hgp
          obtain ⟨hgO, hgV⟩ := hgp
          refine (get_any _ _ _ _ _ _ _ (Reads.of_own hown3) hn3 (by simpa [maxLen] using hc3)).mono ?_
          rintro e w3' ⟨rfl, rfl⟩
          rw [hgO, hgV]
          clear hgO hgV
          go_wp2_with fail
          refine (putRow_any none R 0 0 rn rc [] (cutL l M j) (1 + (k : Int)) _ Reads.none_ hrow3 (by omega) (by omega) (by omega) (by omega) hbd).mono ?_
          rintro e w4 ⟨A4, n4, c4, rfl, hn4, hc4, hown4, hbel4⟩
          rw [hprow] at hown4
          have hl4 := own_len8 hown4
          rw [rowBytes_length, htn, hrl] at hl4
          have hs4 : ((n4 : Int) == 2 + (rn : Int) * (1 + (k : Int))) = true := by
            rw [beq_iff_eq, hl4]
            simp
          have h4b : n4 ≤ 3002 := by omega
          have hb4 : Below w.heap.size w w4 := hb3.trans (hbel4.mono hb3.size)
          have hrp4 := hrp.below hb4
          have hm3 : n4 + nm ≤ maxLen := by simp only [maxLen]; omega
          have hm4 : (n4 + nm) * 1 ≤ 140737488355328 := by omega
          have HL4 := hide hl4
          clear hl4
          go_wp2_with (at_builtin; refine wpList_append_any _ rfl (.tmp 73) (.tmp 74) _ rfl w3.heap.size 5 i1 _ 1 1 Try.underlying22 hj0 hy0 hy1 hy2 rfl (by omega) _ n4 _ rfl hown4 w.heap.size Am nm cm _ rfl hrp4 (B8_one _) hm3 hm4 hbel4.size ?_; intro v5 w5 hown5 hbel5)
          obtain ⟨A5, c5, hv5, hn5, hc5⟩ := own_shape hown5
          rw [hv5] at hown5 ⊢
          rw [← B8_append] at hown5
          have hb5 : Below w.heap.size w w5 := hb4.trans (hbel5.mono hb3.size)
          have hrow5 := ((hrow3.below hbel4).below hbel5).more (Nat.le_trans hbel4.size hbel5.size)
          obtain ⟨hrO, hrL, hrN⟩ := row_yes hrow (ml.take nm)
          rw [htn, hrl, ← HL4.out] at hrN
          refine (row_any _ _ _ _ _ _ (Reads.of_own hown5) hn5 (by simpa [maxLen] using hc5) (by omega)).mono ?_
          rintro e w6 ⟨A6, n6, c6, rfl, hn6, hc6, hown6, hbel6⟩
          rw [hrO, hrN]
          rw [hrL] at hown6
          clear hrO hrN hrL
          have hb6 : Below w.heap.size w w6 := hb5.trans (hbel6.mono hb5.size)
          have hrow6 := hrow5.later hbel6
          have hdec : decide (cutL l M j = cutL l M j) = true := by simp
          have HSM := hide (same_any A6 R n6 c6 rn rc _ _ _ _ w6 (Reads.of_own hown6) hrow6 (by simp only [maxLen] at hc6; omega) (by simp only [maxLen] at hrm; omega))
          go_wp2_with fail
          refine HSM.out.mono ?_
          rintro e w7 ⟨rfl, q, rfl⟩
          rw [hdec]
          go_wp2
          go_ret
          exact ⟨rfl, below_drewN hb6 q⟩
        · have hrp := hmr.head (k := 500) (by omega)
          rw [Nat.mul_one, B8_take] at hrp
          go_wp2_with fail
          refine (put_any none 0 0 [] V (1 + (k : Int)) _ Reads.none_ (by omega) (by omega) (by omega) (by omega)).mono ?_
          rintro e w2 ⟨A2, n2, c2, rfl, hn2, hc2', hown2, hbel2⟩
          rw [hput] at hown2
          have hl2 := own_len8 hown2
          rw [be_length] at hl2
          have hm1 : n2 + 500 ≤ maxLen := by simp only [maxLen]; omega
          have hm2 : (n2 + 500) * 1 ≤ 140737488355328 := by omega
          have HL2 := hide hl2
          clear hl2
          have hb2 : Below w.heap.size w w2 := (hb1.trans (hbel.mono hb1.size)).trans (hbel2.mono (Nat.le_trans hb1.size hbel.size))
          have hrp2 := hrp.below hb2
          go_wp2_with (at_builtin; refine wpList_append_any _ rfl (.tmp 60) (.tmp 61) _ rfl wr.heap.size 5 i1 _ 1 1 Try.underlying22 hj0 hy0 hy1 hy2 rfl (by omega) _ n2 _ rfl hown2 w.heap.size Am 500 cm _ rfl hrp2 (B8_one _) hm1 hm2 hbel2.size ?_; intro v3 w3 hown3 hbel3)
          obtain ⟨A3, c3, hv3, hn3, hc3⟩ := own_shape hown3
          rw [hv3] at hown3 ⊢
          rw [← B8_append] at hown3
          have hb3 : Below w.heap.size w w3 := hb2.trans (hbel3.mono (Nat.le_trans hb1.size hbel.size))
          have hrow3 := (((Reads.of_own hown).below hbel2).below hbel3).more (Nat.le_trans hbel2.size hbel3.size)
          have hgp := get_put hfit (ml.take 500)
          rw [htn] at hgp
          obtain ⟨hgO, hgV⟩ := hgp
          refine (get_any _ _ _ _ _ _ _ (Reads.of_own hown3) hn3 (by simpa [maxLen] using hc3)).mono ?_
          rintro e w3' ⟨rfl, rfl⟩
          rw [hgO, hgV]
          clear hgO hgV
          go_wp2_with fail
          refine (putRow_any none R 0 0 rn rc [] (cutL l M j) (1 + (k : Int)) _ Reads.none_ hrow3 (by omega) (by omega) (by omega) (by omega) hbd).mono ?_
          rintro e w4 ⟨A4, n4, c4, rfl, hn4, hc4, hown4, hbel4⟩
          rw [hprow] at hown4
          have hl4 := own_len8 hown4
          rw [rowBytes_length, htn, hrl] at hl4
          have hs4 : ((n4 : Int) == 2 + (rn : Int) * (1 + (k : Int))) = true := by
            rw [beq_iff_eq, hl4]
            simp
          have h4b : n4 ≤ 3002 := by omega
          have hb4 : Below w.heap.size w w4 := hb3.trans (hbel4.mono hb3.size)
          have hrp4 := hrp.below hb4
          have hm3 : n4 + 500 ≤ maxLen := by simp only [maxLen]; omega
          have hm4 : (n4 + 500) * 1 ≤ 140737488355328 := by omega
          have HL4 := hide hl4
          clear hl4
          go_wp2_with (at_builtin; refine wpList_append_any _ rfl (.tmp 73) (.tmp 74) _ rfl w3.heap.size 5 i1 _ 1 1 Try.underlying22 hj0 hy0 hy1 hy2 rfl (by omega) _ n4 _ rfl hown4 w.heap.size Am 500 cm _ rfl hrp4 (B8_one _) hm3 hm4 hbel4.size ?_; intro v5 w5 hown5 hbel5)
          obtain ⟨A5, c5, hv5, hn5, hc5⟩ := own_shape hown5
          rw [hv5] at hown5 ⊢
          rw [← B8_append] at hown5
          have hb5 : Below w.heap.size w w5 := hb4.trans (hbel5.mono hb3.size)
          have hrow5 := ((hrow3.below hbel4).below hbel5).more (Nat.le_trans hbel4.size hbel5.size)
          obtain ⟨hrO, hrL, hrN⟩ := row_yes hrow (ml.take 500)
          rw [htn, hrl, ← HL4.out] at hrN
          refine (row_any _ _ _ _ _ _ (Reads.of_own hown5) hn5 (by simpa [maxLen] using hc5) (by omega)).mono ?_
          rintro e w6 ⟨A6, n6, c6, rfl, hn6, hc6, hown6, hbel6⟩
          rw [hrO, hrN]
          rw [hrL] at hown6
          clear hrO hrN hrL
          have hb6 : Below w.heap.size w w6 := hb5.trans (hbel6.mono hb5.size)
          have hrow6 := hrow5.later hbel6
          have hdec : decide (cutL l M j = cutL l M j) = true := by simp
          have HSM := hide (same_any A6 R n6 c6 rn rc _ _ _ _ w6 (Reads.of_own hown6) hrow6 (by simp only [maxLen] at hc6; omega) (by simp only [maxLen] at hrm; omega))
          go_wp2_with fail
          refine HSM.out.mono ?_
          rintro e w7 ⟨rfl, q, rfl⟩
          rw [hdec]
          go_wp2
          go_ret
          exact ⟨rfl, below_drewN hb6 q⟩

/-! The row's frame, by program: how the walk above proves the statement. -/
set_option maxRecDepth 100000 in
theorem lifted (os : Os) (started : os.Started) (H : Type) (enc : TypeId × Value → H) :
    ReturnsInHanded {} Try.checked os 5 .any (Rows.packBackSpec.pre6 enc Try.prog Try.f5 Rows.packBackRow.domain false) (Rows.packBackSpec.post enc Try.prog Try.f5 false true false false) := by
  refine returnsInHanded_of_change (C := Try.checked) own started (by kernel_rfl) Try.func5
    (ChangeSpec.witness6 (enc := enc) (C := Try.checked) false ⟨#[], #[.int .i64 0, .slice none 0 0, .int .i64 0, .slice none 0 0], []⟩ 8 (by kernel_rfl) (by kernel_rfl) (by kernel_rfl) (by kernel_rfl)) ?_
  intro W base args ds gs before hval0 hW hcnd _
  have hval : ∀ (j : Nat) t v, Try.f5.params[j]? = some t → args[j]? = some v → Value.okWide Try.prog W .any base t v := hval0
  have hW' := hW
  obtain ⟨p, q, hA0, hV, rfl, hfz, hnd⟩ := hW
  have hA : DataW.TrodAll enc Try.prog W 0 (fun _ => true) true Try.f5.params.toList args.toList ds p := hA0
  rw [Try.params5] at hA hval
  obtain ⟨v0, vs0, d0, ds0, p0, q0, hargs, rfl, rfl, h0, r0⟩ := trodAll_cons hA
  obtain ⟨v1, vs1, d1, ds1, p1, q1, rfl, rfl, rfl, h1, r1⟩ := trodAll_cons r0
  obtain ⟨v2, vs2, d2, ds2, p2, q2, rfl, rfl, rfl, h2, r2⟩ := trodAll_cons r1
  obtain ⟨v3, vs3, d3, ds3, p3, q3, rfl, rfl, rfl, h3, r3⟩ := trodAll_cons r2
  obtain ⟨rfl, rfl, rfl⟩ := trodAll_nil r3
  obtain rfl : args = #[v0, v1, v2, v3] := by cases args; simp_all
  obtain ⟨rfl, rfl⟩ := trodVars_none hV
  obtain ⟨a0, rfl, rfl, rfl, w0⟩ := open_int Try.underlying3 (hval 0 3 v0 rfl rfl) h0
  have b0 := bounds_i64 w0
  obtain ⟨A1, n1, c1, rfl⟩ := okWide_slice Try.underlying27 (hval 1 27 v1 rfl rfl)
  have k1 := h1
  have lt1 : ∀ x ∈ p1, x.block < W.heap.size := by obtain ⟨m, hm⟩ := k1; exact DataW.trod_lt m _ _ _ hm
  obtain ⟨l1, x1, y1, g1, z1⟩ := arg_ints h1
  obtain ⟨a2, rfl, rfl, rfl, w2⟩ := open_int Try.underlying3 (hval 2 3 v2 rfl rfl) h2
  have b2 := bounds_i64 w2
  obtain ⟨A3, n3, c3, rfl⟩ := okWide_slice Try.underlying22 (hval 3 22 v3 rfl rfl)
  have k3 := h3
  have lt3 : ∀ x ∈ p3, x.block < W.heap.size := by obtain ⟨m, hm⟩ := k3; exact DataW.trod_lt m _ _ _ hm
  obtain ⟨l3, x3, g3, z3⟩ := arg_bytes h3
  clear hA0 hval0
  refine (walk a0 A1 n1 c1 l1 a2 A3 n3 c3 l3 W b0.1 b0.2 x1 y1 g1 z1 b2.1 b2.2 x3 g3 z3).mono fun e W' ⟨he, bel⟩ => ?_
  subst he
  exact ⟨_, rfl, _, _, _, [], _, [], hW', trodAll_mk1 (shut_bool Try.underlying4 _), (trodAll_cons_mk (shut_int Try.underlying3 w0) (trodAll_cons_mk (Below.trod laidOut (by kernel_rfl) (of_decide_eq_true (by kernel_rfl)) k1 bel lt1) (trodAll_cons_mk (shut_int Try.underlying3 w2) (trodAll_cons_mk (Below.trod laidOut (by kernel_rfl) (of_decide_eq_true (by kernel_rfl)) k3 bel lt3) trodAll_mk0)))), rfl, bel.frame _, fun h => by cases h⟩

theorem over : Rows.packBackRow.holds Try.pinned (OpenSpec.ofChange Rows.packBackSpec) :=
  OpenClaim.holds_of_wide 5 Try.f5 rfl rfl rfl rfl rfl rfl rfl ⟨rfl, rfl, rfl, rfl, rfl⟩ rfl rfl rfl rfl rfl (by kernel_rfl) Try.func5 (by kernel_rfl)
    (of_decide_eq_true (by kernel_rfl)) (by unfold Func.isWrapper; first | (rw [if_pos (by decide +kernel)]; kernel_rfl) | (rw [if_neg (by decide +kernel)]; exact ⟨rfl, rfl⟩))
    (fun os started H enc _ => lifted os started H enc)

/-- The statement. -/
theorem proved : Rows.PackBackSaid := over
#print axioms proved
end Go.Proofs.Ytkjbjhciafnbeaa.PackBack
