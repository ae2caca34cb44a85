/- PackOrder holds: for all numbers v and w and every width, cut to a width from 1 to 6 and to numbers of that width, v is below w, or is w, just as the bytes that Put writes are below, or are, those of w; no condition. -/
import Derived.Test.YtkjbjhciafnbeaaShown
import Derived.Test.YtkjbjhciafnbeaaArg
import Derived.Test.YtkjbjhciafnbeaaNum2
namespace Go.Proofs.Ytkjbjhciafnbeaa.PackOrder
open Go.ChangeShapes Go.WideShapes Go.ChangeAt Go.RowKit
set_option linter.unusedVariables false

theorem put_is {k : Nat} {V M : Int} (hk : k ≤ 5) (hM : M = 256 ^ (1 + k)) (h0 : 0 ≤ V) (h1 : V < M) : putB [] V (1 + (k : Int)) = be (1 + k) V.toNat ∧ V.toNat < 256 ^ (1 + k) := by
  have e : (1 + (k : Int)).toNat = 1 + k := by omega
  have hf : fitsB V (1 + (k : Int)) = true := by
    simp only [fitsB, decide_eq_true_eq, e]
    exact ⟨by omega, by omega, h0, by rw [← hM]; exact h1⟩
  refine ⟨by rw [putB, if_pos hf, e, List.nil_append], ?_⟩
  have hc : (256 : Int) ^ (1 + k) = ((256 ^ (1 + k) : Nat) : Int) := by simp
  rw [hM, hc] at h1
  omega
theorem less_is {k : Nat} {V W M : Int} (hk : k ≤ 5) (hM : M = 256 ^ (1 + k)) (h0 : 0 ≤ V) (h1 : V < M) (h2 : 0 ≤ W) (h3 : W < M) :
    Op.bytesLess (putB [] V (1 + (k : Int))) (putB [] W (1 + (k : Int))) = decide (V < W) ∧ (putB [] V (1 + (k : Int)) == putB [] W (1 + (k : Int))) = (V == W) ∧ (putB [] V (1 + (k : Int))).length = 1 + k ∧ (putB [] W (1 + (k : Int))).length = 1 + k := by
  obtain ⟨e1, l1⟩ := put_is hk hM h0 h1
  obtain ⟨e2, l2⟩ := put_is hk hM h2 h3
  rw [e1, e2]
  refine ⟨?_, ?_, be_length _ _, be_length _ _⟩
  · rw [less_num _ _ (by rw [be_length, be_length]), num_be_lt l1, num_be_lt l2]
    congr 1
    rw [eq_iff_iff]
    omega
  · rw [Bool.eq_iff_iff]
    simp only [beq_iff_eq]
    constructor
    · intro h
      have := be_inj l1 l2 h
      omega
    · intro h; rw [h]

set_option maxRecDepth 100000 in
set_option maxHeartbeats 2000000 in
theorem walk (v w0 width : Int) (w : World) (hv0 : -9223372036854775808 ≤ v) (hv : v ≤ 9223372036854775807) (hw0 : -9223372036854775808 ≤ w0) (hw : w0 ≤ 9223372036854775807) (_h0 : -9223372036854775808 ≤ width) (_h1 : width ≤ 9223372036854775807) :
    Calls Try.prog 8 #[.int .i64 v, .int .i64 w0, .int .i64 width] w fun e w' => e = .returned (.bool true) ∧ Below w.heap.size w w' := by
  have hm : bits .and .i64 width 15 = width % 16 := i64_mask width 4 (by omega)
  obtain ⟨k, hk⟩ : ∃ k : Nat, width % 16 % 6 = k := ⟨(width % 16 % 6).toNat, by omega⟩
  have hk6 : k ≤ 5 := by omega
  obtain ⟨M, hM, hM2, hM3, hM4, hbits⟩ := mask_is k hk6
  obtain ⟨V, hV⟩ : ∃ V, V = v % M := ⟨_, rfl⟩
  obtain ⟨W, hW⟩ : ∃ W, W = w0 % M := ⟨_, rfl⟩
  have hV0 : 0 ≤ V := by rw [hV]; exact Int.emod_nonneg _ (by omega)
  have hV1 : V < M := by rw [hV]; exact Int.emod_lt_of_pos _ (by omega)
  have hW0 : 0 ≤ W := by rw [hW]; exact Int.emod_nonneg _ (by omega)
  have hW1 : W < M := by rw [hW]; exact Int.emod_lt_of_pos _ (by omega)
  have hv' := hbits v
  have hw' := hbits w0
  rw [← hV] at hv'
  rw [← hW] at hw'
  obtain ⟨hls, heq, hp1, hp2⟩ := less_is hk6 hM2 hV0 hV1 hW0 hW1
  have HM2 := hide hM2
  have HP1 := hide hp1
  have HP2 := hide hp2
  clear hV hW hbits hM2 hp1 hp2
  go_enter Try.func8, Try.ntmps8
  go_wp2_with fail
  refine (shown_any _).mono ?_
  rintro e w1 ⟨rfl, hb1⟩
  go_wp2_with fail
  refine (put_any none 0 0 [] V (1 + (k : Int)) _ Reads.none_ (by omega) (by omega) (by omega) (by omega)).mono ?_
  rintro e w2 ⟨A2, n2, c2, rfl, hn2, hc2, hown2, hbel2⟩
  have hb2 : Below w.heap.size w w2 := hb1.trans (hbel2.mono hb1.size)
  have hk2 := own_conv 22 5 9 Try.underlying22 Try.underlying5 Try.underlying9 hown2
  go_wp2_with fail
  refine (put_any none 0 0 [] W (1 + (k : Int)) _ Reads.none_ (by omega) (by omega) (by omega) (by omega)).mono ?_
  rintro e w3 ⟨A3, n3, c3, rfl, hn3, hc3, hown3, hbel3⟩
  have hb3 : Below w.heap.size w w3 := hb2.trans (hbel3.mono hb2.size)
  have hk3 := own_conv 22 5 9 Try.underlying22 Try.underlying5 Try.underlying9 hown3
  go_wp2
  go_ret
  exact ⟨ret_b (by rw [HP1.out, beq_iff_eq]; omega), hb3⟩

/-! The row's frame, by program: how the walk above proves the statement. -/
set_option maxRecDepth 100000 in
theorem lifted (os : Os) (started : os.Started) (H : Type) (enc : TypeId × Value → H) :
    ReturnsInHanded {} Try.checked os 8 .any (Rows.packOrderSpec.pre6 enc Try.prog Try.f8 Rows.packOrderRow.domain false) (Rows.packOrderSpec.post enc Try.prog Try.f8 false true false false) := by
  refine returnsInHanded_of_change (C := Try.checked) own started (by kernel_rfl) Try.func8
    (ChangeSpec.witness6 (enc := enc) (C := Try.checked) false ⟨#[], #[.int .i64 0, .int .i64 0, .int .i64 0], []⟩ 8 (by kernel_rfl) (by kernel_rfl) (by kernel_rfl) (by kernel_rfl)) ?_
  intro W base args ds gs before hval0 hW hcnd _
  have hval : ∀ (j : Nat) t v, Try.f8.params[j]? = some t → args[j]? = some v → Value.okWide Try.prog W .any base t v := hval0
  have hW' := hW
  obtain ⟨p, q, hA0, hV, rfl, hfz, hnd⟩ := hW
  have hA : DataW.TrodAll enc Try.prog W 0 (fun _ => true) true Try.f8.params.toList args.toList ds p := hA0
  rw [Try.params8] at hA hval
  obtain ⟨v0, vs0, d0, ds0, p0, q0, hargs, rfl, rfl, h0, r0⟩ := trodAll_cons hA
  obtain ⟨v1, vs1, d1, ds1, p1, q1, rfl, rfl, rfl, h1, r1⟩ := trodAll_cons r0
  obtain ⟨v2, vs2, d2, ds2, p2, q2, rfl, rfl, rfl, h2, r2⟩ := trodAll_cons r1
  obtain ⟨rfl, rfl, rfl⟩ := trodAll_nil r2
  obtain rfl : args = #[v0, v1, v2] := by cases args; simp_all
  obtain ⟨rfl, rfl⟩ := trodVars_none hV
  obtain ⟨a0, rfl, rfl, rfl, w0⟩ := open_int Try.underlying3 (hval 0 3 v0 rfl rfl) h0
  have b0 := bounds_i64 w0
  obtain ⟨a1, rfl, rfl, rfl, w1⟩ := open_int Try.underlying3 (hval 1 3 v1 rfl rfl) h1
  have b1 := bounds_i64 w1
  obtain ⟨a2, rfl, rfl, rfl, w2⟩ := open_int Try.underlying3 (hval 2 3 v2 rfl rfl) h2
  have b2 := bounds_i64 w2
  clear hA0 hval0
  refine (walk a0 a1 a2 W b0.1 b0.2 b1.1 b1.2 b2.1 b2.2).mono fun e W' ⟨he, bel⟩ => ?_
  subst he
  exact ⟨_, rfl, _, _, _, [], _, [], hW', trodAll_mk1 (shut_bool Try.underlying4 _), (trodAll_cons_mk (shut_int Try.underlying3 w0) (trodAll_cons_mk (shut_int Try.underlying3 w1) (trodAll_cons_mk (shut_int Try.underlying3 w2) trodAll_mk0))), rfl, bel.frame _, fun h => by cases h⟩

theorem over : Rows.packOrderRow.holds Try.pinned (OpenSpec.ofChange Rows.packOrderSpec) :=
  OpenClaim.holds_of_wide 8 Try.f8 rfl rfl rfl rfl rfl rfl rfl ⟨rfl, rfl, rfl, rfl, rfl⟩ rfl rfl rfl rfl rfl (by kernel_rfl) Try.func8 (by kernel_rfl)
    (of_decide_eq_true (by kernel_rfl)) (by unfold Func.isWrapper; first | (rw [if_pos (by decide +kernel)]; kernel_rfl) | (rw [if_neg (by decide +kernel)]; exact ⟨rfl, rfl⟩))
    (fun os started H enc _ => lifted os started H enc)

/-- The statement. -/
theorem proved : Rows.PackOrderSaid := over
#print axioms proved
end Go.Proofs.Ytkjbjhciafnbeaa.PackOrder
