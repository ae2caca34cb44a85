/- PackCuts holds: for every number, every row (its first hundred numbers) and every width, cut to a width from 1 to 6 and to numbers of that width: what Put and PutRow write, cut anywhere ahead of its end, is not read by Get and Row; no condition. -/
import Derived.Test.YtkjbjhciafnbeaaShown
import Derived.Test.YtkjbjhciafnbeaaArg
import Derived.Test.YtkjbjhciafnbeaaRow
namespace Go.Proofs.Ytkjbjhciafnbeaa.PackCuts
open Go.ChangeShapes Go.WideShapes Go.ChangeAt Go.RowKit
set_option linter.unusedVariables false

set_option maxRecDepth 100000 in
set_option maxHeartbeats 4000000 in
theorem walk (v : Int) (A : Option Addr) (n c : Nat) (l : List Int) (width at_ : Int) (w : World) (hv0 : -9223372036854775808 ≤ v) (hv : v ≤ 9223372036854775807)
    (hr : Reads w w.heap.size 1 A n (I64 l)) (hlb : ∀ v ∈ l, -9223372036854775808 ≤ v ∧ v ≤ 9223372036854775807) (hc : n ≤ c) (hc2 : c ≤ 9223372036854775807)
    (_h0 : -9223372036854775808 ≤ width) (_h1 : width ≤ 9223372036854775807) (_h2 : -9223372036854775808 ≤ at_) (_h3 : at_ ≤ 9223372036854775807) :
    Calls Try.prog 9 #[.int .i64 v, .slice A n c, .int .i64 width, .int .i64 at_] w fun e w' => e = .returned (.bool true) ∧ Below w.heap.size w w' := by
  have hm : bits .and .i64 width 15 = width % 16 := i64_mask width 4 (by omega)
  have hma : bits .and .i64 at_ 255 = at_ % 256 := i64_mask at_ 8 (by omega)
  have hmb : bits .and .i64 at_ 65535 = at_ % 65536 := i64_mask at_ 16 (by omega)
  obtain ⟨k, hk⟩ : ∃ k : Nat, width % 16 % 6 = k := ⟨(width % 16 % 6).toNat, by omega⟩
  have hk6 : k ≤ 5 := by omega
  obtain ⟨M, hM, hM2, hM3, hM4, hbits⟩ := mask_is k hk6
  obtain ⟨V, hV⟩ : ∃ V, V = v % M := ⟨_, rfl⟩
  have hV0 : 0 ≤ V := by rw [hV]; exact Int.emod_nonneg _ (by omega)
  have hV1 : V < M := by rw [hV]; exact Int.emod_lt_of_pos _ (by omega)
  have hv' := hbits v
  rw [← hV] at hv'
  obtain ⟨i0, hi0, hz0, hz1, hz2⟩ := info_parts int_info
  have HM2 := hide hM2
  have HB := hide hbits
  clear hV hbits hM2
  go_enter Try.func9, Try.ntmps9
  go_wp2_with fail
  refine (shown_any _).mono ?_
  rintro e w1 ⟨rfl, hb1⟩
  go_wp2_with fail
  have hr1 := (hr.below hb1)
  have HMA := hide hma
  have HMB := hide hmb
  have HV := hide hv'
  clear hk hM hm hma hmb hv'
  go_loopw [11, 12] (fun r i wr => ∃ (j rn rc : Nat) (R : Option Addr), j ≤ n ∧ j ≤ 100 ∧ i = .int .i64 j ∧ r = .slice R rn rc ∧ rn ≤ rc ∧ rc ≤ maxLen ∧ rn ≤ j ∧ wr.ownsRow w1.heap.size 3 1 (.slice R rn rc) rn (I64 (cutL l M j)) ∧ Below w1.heap.size w1 wr)
    (fun _ i _ => 100 - (intOf i).toNat)
  case atStart => exact ⟨0, 0, 0, none, Nat.zero_le _, Nat.zero_le _, rfl, rfl, Nat.le_refl _, Nat.zero_le _, Nat.le_refl _, World.ownsRow_nil _ _ _ _, Below.refl _ _⟩
  case round =>
    obtain ⟨j, rn, rc, R, hjn, hj100, rfl, rfl, hrc, hrm, hrj, hown, hbel⟩ := hrel
    by_cases hgo : j < n ∧ j < 100
    · obtain ⟨hg1, hg2⟩ := hgo
      obtain ⟨ad, x, rfl, hblk, hx, hc0⟩ := hr1.i64_at hg1
      have hts := take_more hx
      have HX := hide (cutL_step (M := M) hts)
      clear hx hts
      have hbx := HB.out x
      have hcx := (hbel.cell (p := ad.add j) (by rw [block_of_add]; have := hb1.size; omega)).trans hc0
      have hA : rn + 1 ≤ maxLen := by simp only [maxLen]; omega
      have hB : (rn + 1) * 8 ≤ 140737488355328 := by omega
      have hC := hbel.size
      go_wp2_with (at_builtin; refine wpList_append_any _ rfl (.tmp 40) (.tmp 47) _ rfl w1.heap.size 3 i0 _ 1 8 Try.underlying27 hi0 hz0 hz1 hz2 rfl (by omega) _ _ _ rfl (hown.alloc _) (wr.heap.size + 1) (some ⟨wr.heap.size, 0, none⟩) 1 1 [.int .i64 (x % M)] rfl (Reads.one _ _ _ _ (by omega)) (one_i64 _) hA hB (le_alloc hC _) ?_; intro v1 w2 hown1 hbel1)
      have hown2 := hown1
      rw [show ([Value.int .i64 (x % M)] : List Value) = I64 [x % M] from rfl, ← I64_append, ← HX.out] at hown2
      obtain ⟨R2, rc2, hv2, hrc2, hrm2⟩ := own_shape hown2
      have hb2 := (hbel.alloc hC (.cells #[.int .i64 (x % M)] 3)).trans hbel1
      go_roundw
      case rel => exact ⟨j + 1, rn + 1, rc2, R2, by omega, by omega, by go_num, hv2, hrc2, hrm2, by omega, hv2 ▸ hown2, hb2⟩
      case measure => simp [intOf]; omega
    · have hend : ∃ N, N ≤ 100 ∧ cutL l M j = cutL l M N ∧ N = j := ⟨j, hj100, rfl, rfl⟩
      have hv' := HV.out
      have hcase : (j = n ∨ j = 100) := by omega
      have hrow : rowB (cutL l M j) (1 + (k : Int)) = true := cutL_row hk6 HM2.out (by omega) (by omega)
      have hbd : ∀ v ∈ cutL l M j, v ≤ 9223372036854775807 := fun v hv => by have := (cutL_fits hk6 HM2.out (by omega) v hv).2; omega
      have hput : putB [] V (1 + (k : Int)) = be (1 + k) V.toNat := by
        rw [putB, if_pos (by
          have e : (1 + (k : Int)).toNat = 1 + k := by omega
          simp only [fitsB, decide_eq_true_eq, e]
          exact ⟨by omega, by omega, hV0, by rw [← HM2.out]; exact hV1⟩), List.nil_append, show (1 + (k : Int)).toNat = 1 + k by omega]
      have hprow : putRowB [] (cutL l M j) (1 + (k : Int)) = rowBytes (cutL l M j) (1 + (k : Int)) := by rw [putRowB, if_pos hrow, List.nil_append]
      have hlen3 : (cutL l M j).length * (1 + (k : Int)).toNat ≤ 100 * 6 := Nat.mul_le_mul (Nat.le_trans (cutL_length _ _ _) hj100) (by omega)
      clear hend hcase
      by_cases hjn2 : j < n
      · have hj1 : ¬ j < 100 := by omega
        clear hgo
        go_wp2_with fail
        refine (put_any none 0 0 [] V (1 + (k : Int)) _ Reads.none_ (by omega) (by omega) (by omega) (by omega)).mono ?_
        rintro e w2 ⟨A2, n2, c2, rfl, hn2, hc2', hown2, hbel2⟩
        rw [hput] at hown2
        have hl2 := own_len8 hown2
        rw [be_length] at hl2
        have hne2 : ((n2 : Int) != 1 + (k : Int)) = false := by rw [bne_eq_false_iff_eq]; omega
        have h2a : 1 ≤ n2 := by omega
        have h2b : n2 ≤ 1 + k := by omega
        clear hl2
        go_wp2_with fail
        refine (putRow_any none R 0 0 rn rc [] (cutL l M j) (1 + (k : Int)) _ Reads.none_ ((Reads.of_own hown).later hbel2) (by omega) (by omega) (by omega) (by omega) hbd).mono ?_
        rintro e w3 ⟨A3, n3, c3, rfl, hn3, hc3', hown3, hbel3⟩
        rw [hprow] at hown3
        have hl3 := own_len8 hown3
        have hl3' := hl3
        rw [rowBytes_length] at hl3'
        have h3a : 2 ≤ n3 := by omega
        have h3b : n3 ≤ 602 := by omega
        clear hl3'
        have HL3 := hide hl3
        clear hl3
        have hma := HMA.out
        have hmb := HMB.out
        obtain ⟨t, ht⟩ : ∃ t : Nat, at_ % 256 % (n2 : Int) = t := ⟨(at_ % 256 % (n2 : Int)).toNat, by have := Int.emod_nonneg (at_ % 256) (show (n2 : Int) ≠ 0 by omega); omega⟩
        have htl : t < n2 := by have := Int.emod_lt_of_pos (at_ % 256) (show (0 : Int) < n2 by omega); omega
        obtain ⟨u, hu⟩ : ∃ u : Nat, at_ % 65536 % (n3 : Int) = u := ⟨(at_ % 65536 % (n3 : Int)).toNat, by have := Int.emod_nonneg (at_ % 65536) (show (n3 : Int) ≠ 0 by omega); omega⟩
        have hul : u < n3 := by have := Int.emod_lt_of_pos (at_ % 65536) (show (0 : Int) < n3 by omega); omega
        have hg := ((Reads.of_own hown2).later hbel3).head (k := t) (by omega)
        rw [Nat.mul_one, B8_take] at hg
        have hq := (Reads.of_own hown3).head (k := u) (by omega)
        rw [Nat.mul_one, B8_take] at hq
        have ho := get_cut (xs := be (1 + k) V.toNat) (show (t : Int) < 1 + (k : Int) by omega)
        obtain ⟨hro, hrn⟩ := row_cut hrow (t := u) (by rw [← HL3.out]; exact hul)
        go_wp2_with fail
        refine (get_any _ _ _ _ _ _ _ hg (by omega) (by simpa [maxLen] using hc2')).mono ?_
        rintro e w4 ⟨rfl, rfl⟩
        go_wp2_with fail
        refine (row_any _ _ _ _ _ _ hq (by omega) (by simpa [maxLen] using hc3') (by omega)).mono ?_
        rintro e w5 ⟨A5, n5, c5, rfl, hn5, hc5, hown5, hbel5⟩
        have hfin : Below w.heap.size w w5 := (((hb1.trans (hbel.mono hb1.size)).trans (hbel2.mono (Nat.le_trans hb1.size hbel.size))).trans (hbel3.mono (Nat.le_trans (Nat.le_trans hb1.size hbel.size) hbel2.size))).trans (hbel5.mono (Nat.le_trans (Nat.le_trans (Nat.le_trans hb1.size hbel.size) hbel2.size) hbel3.size))
        rw [hro, hrn]
        go_wp2
        go_ret
        exact ⟨rfl, hfin⟩
      · clear hgo
        go_wp2_with fail
        refine (put_any none 0 0 [] V (1 + (k : Int)) _ Reads.none_ (by omega) (by omega) (by omega) (by omega)).mono ?_
        rintro e w2 ⟨A2, n2, c2, rfl, hn2, hc2', hown2, hbel2⟩
        rw [hput] at hown2
        have hl2 := own_len8 hown2
        rw [be_length] at hl2
        have hne2 : ((n2 : Int) != 1 + (k : Int)) = false := by rw [bne_eq_false_iff_eq]; omega
        have h2a : 1 ≤ n2 := by omega
        have h2b : n2 ≤ 1 + k := by omega
        clear hl2
        go_wp2_with fail
        refine (putRow_any none R 0 0 rn rc [] (cutL l M j) (1 + (k : Int)) _ Reads.none_ ((Reads.of_own hown).later hbel2) (by omega) (by omega) (by omega) (by omega) hbd).mono ?_
        rintro e w3 ⟨A3, n3, c3, rfl, hn3, hc3', hown3, hbel3⟩
        rw [hprow] at hown3
        have hl3 := own_len8 hown3
        have hl3' := hl3
        rw [rowBytes_length] at hl3'
        have h3a : 2 ≤ n3 := by omega
        have h3b : n3 ≤ 602 := by omega
        clear hl3'
        have HL3 := hide hl3
        clear hl3
        have hma := HMA.out
        have hmb := HMB.out
        obtain ⟨t, ht⟩ : ∃ t : Nat, at_ % 256 % (n2 : Int) = t := ⟨(at_ % 256 % (n2 : Int)).toNat, by have := Int.emod_nonneg (at_ % 256) (show (n2 : Int) ≠ 0 by omega); omega⟩
        have htl : t < n2 := by have := Int.emod_lt_of_pos (at_ % 256) (show (0 : Int) < n2 by omega); omega
        obtain ⟨u, hu⟩ : ∃ u : Nat, at_ % 65536 % (n3 : Int) = u := ⟨(at_ % 65536 % (n3 : Int)).toNat, by have := Int.emod_nonneg (at_ % 65536) (show (n3 : Int) ≠ 0 by omega); omega⟩
        have hul : u < n3 := by have := Int.emod_lt_of_pos (at_ % 65536) (show (0 : Int) < n3 by omega); omega
        have hg := ((Reads.of_own hown2).later hbel3).head (k := t) (by omega)
        rw [Nat.mul_one, B8_take] at hg
        have hq := (Reads.of_own hown3).head (k := u) (by omega)
        rw [Nat.mul_one, B8_take] at hq
        have ho := get_cut (xs := be (1 + k) V.toNat) (show (t : Int) < 1 + (k : Int) by omega)
        obtain ⟨hro, hrn⟩ := row_cut hrow (t := u) (by rw [← HL3.out]; exact hul)
        go_wp2_with fail
        refine (get_any _ _ _ _ _ _ _ hg (by omega) (by simpa [maxLen] using hc2')).mono ?_
        rintro e w4 ⟨rfl, rfl⟩
        go_wp2_with fail
        refine (row_any _ _ _ _ _ _ hq (by omega) (by simpa [maxLen] using hc3') (by omega)).mono ?_
        rintro e w5 ⟨A5, n5, c5, rfl, hn5, hc5, hown5, hbel5⟩
        have hfin : Below w.heap.size w w5 := (((hb1.trans (hbel.mono hb1.size)).trans (hbel2.mono (Nat.le_trans hb1.size hbel.size))).trans (hbel3.mono (Nat.le_trans (Nat.le_trans hb1.size hbel.size) hbel2.size))).trans (hbel5.mono (Nat.le_trans (Nat.le_trans (Nat.le_trans hb1.size hbel.size) hbel2.size) hbel3.size))
        rw [hro, hrn]
        go_wp2
        go_ret
        exact ⟨rfl, hfin⟩

/-! The row's frame, by program: how the walk above proves the statement. -/
set_option maxRecDepth 100000 in
theorem lifted (os : Os) (started : os.Started) (H : Type) (enc : TypeId × Value → H) :
    ReturnsInHanded {} Try.checked os 9 .any (Rows.packCutsSpec.pre6 enc Try.prog Try.f9 Rows.packCutsRow.domain false) (Rows.packCutsSpec.post enc Try.prog Try.f9 false true false false) := by
  refine returnsInHanded_of_change (C := Try.checked) own started (by kernel_rfl) Try.func9
    (ChangeSpec.witness6 (enc := enc) (C := Try.checked) false ⟨#[], #[.int .i64 0, .slice none 0 0, .int .i64 0, .int .i64 0], []⟩ 8 (by kernel_rfl) (by kernel_rfl) (by kernel_rfl) (by kernel_rfl)) ?_
  intro W base args ds gs before hval0 hW hcnd _
  have hval : ∀ (j : Nat) t v, Try.f9.params[j]? = some t → args[j]? = some v → Value.okWide Try.prog W .any base t v := hval0
  have hW' := hW
  obtain ⟨p, q, hA0, hV, rfl, hfz, hnd⟩ := hW
  have hA : DataW.TrodAll enc Try.prog W 0 (fun _ => true) true Try.f9.params.toList args.toList ds p := hA0
  rw [Try.params9] at hA hval
  obtain ⟨v0, vs0, d0, ds0, p0, q0, hargs, rfl, rfl, h0, r0⟩ := trodAll_cons hA
  obtain ⟨v1, vs1, d1, ds1, p1, q1, rfl, rfl, rfl, h1, r1⟩ := trodAll_cons r0
  obtain ⟨v2, vs2, d2, ds2, p2, q2, rfl, rfl, rfl, h2, r2⟩ := trodAll_cons r1
  obtain ⟨v3, vs3, d3, ds3, p3, q3, rfl, rfl, rfl, h3, r3⟩ := trodAll_cons r2
  obtain ⟨rfl, rfl, rfl⟩ := trodAll_nil r3
  obtain rfl : args = #[v0, v1, v2, v3] := by cases args; simp_all
  obtain ⟨rfl, rfl⟩ := trodVars_none hV
  obtain ⟨a0, rfl, rfl, rfl, w0⟩ := open_int Try.underlying3 (hval 0 3 v0 rfl rfl) h0
  have b0 := bounds_i64 w0
  obtain ⟨A1, n1, c1, rfl⟩ := okWide_slice Try.underlying27 (hval 1 27 v1 rfl rfl)
  have k1 := h1
  have lt1 : ∀ x ∈ p1, x.block < W.heap.size := by obtain ⟨m, hm⟩ := k1; exact DataW.trod_lt m _ _ _ hm
  obtain ⟨l1, x1, y1, g1, z1⟩ := arg_ints h1
  obtain ⟨a2, rfl, rfl, rfl, w2⟩ := open_int Try.underlying3 (hval 2 3 v2 rfl rfl) h2
  have b2 := bounds_i64 w2
  obtain ⟨a3, rfl, rfl, rfl, w3⟩ := open_int Try.underlying3 (hval 3 3 v3 rfl rfl) h3
  have b3 := bounds_i64 w3
  clear hA0 hval0
  refine (walk a0 A1 n1 c1 l1 a2 a3 W b0.1 b0.2 x1 y1 g1 z1 b2.1 b2.2 b3.1 b3.2).mono fun e W' ⟨he, bel⟩ => ?_
  subst he
  exact ⟨_, rfl, _, _, _, [], _, [], hW', trodAll_mk1 (shut_bool Try.underlying4 _), (trodAll_cons_mk (shut_int Try.underlying3 w0) (trodAll_cons_mk (Below.trod laidOut (by kernel_rfl) (of_decide_eq_true (by kernel_rfl)) k1 bel lt1) (trodAll_cons_mk (shut_int Try.underlying3 w2) (trodAll_cons_mk (shut_int Try.underlying3 w3) trodAll_mk0)))), rfl, bel.frame _, fun h => by cases h⟩

theorem over : Rows.packCutsRow.holds Try.pinned (OpenSpec.ofChange Rows.packCutsSpec) :=
  OpenClaim.holds_of_wide 9 Try.f9 rfl rfl rfl rfl rfl rfl rfl ⟨rfl, rfl, rfl, rfl, rfl⟩ rfl rfl rfl rfl rfl (by kernel_rfl) Try.func9 (by kernel_rfl)
    (of_decide_eq_true (by kernel_rfl)) (by unfold Func.isWrapper; first | (rw [if_pos (by decide +kernel)]; kernel_rfl) | (rw [if_neg (by decide +kernel)]; exact ⟨rfl, rfl⟩))
    (fun os started H enc _ => lifted os started H enc)

/-- The statement. -/
theorem proved : Rows.PackCutsSaid := over
#print axioms proved
end Go.Proofs.Ytkjbjhciafnbeaa.PackCuts
