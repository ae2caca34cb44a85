/- StripeLost holds: what was written whole is read, whichever one is lost; no condition. -/
import Derived.Test.YtjafhlljigaibaaSlLaw
import Derived.Test.YtjafhlljigaibaaLump5
import Derived.Test.YtjafhlljigaibaaArgI
import Derived.Test.YtjafhlljigaibaaLump6
import Derived.Test.YtjafhlljigaibaaRows

namespace Go.Proofs.Ytjafhlljigaibaa
open Go.ChangeShapes Go.WideShapes Go.ChangeAt Go.RowKit
namespace StripeLost
set_option linter.unusedVariables false
theorem checkK : CheckK := fun w A n c L hr hn _ _ h5 => pcheck_any w A n c (rawS L) (rawS_secs L) ((rawS_length L).trans hn) hr (by omega)
theorem walk (a0 : Int) (a1 : Int) (a2 : Int) (A3 : Option Addr) (n3 c3 : Nat) (l3 : List Int) (w : World) (b0 : -9223372036854775808 ≤ a0) (e0 : a0 ≤ 9223372036854775807) (b1 : -9223372036854775808 ≤ a1) (e1 : a1 ≤ 9223372036854775807) (b2 : -9223372036854775808 ≤ a2) (e2 : a2 ≤ 9223372036854775807) (x3 : Reads w w.heap.size 1 A3 n3 (I64 l3)) (y3 : ∀ a ∈ l3, -9223372036854775808 ≤ a ∧ a ≤ 9223372036854775807) (g3 : n3 ≤ c3) (z3 : c3 ≤ 9223372036854775807) :
    Calls Try.prog 5 #[.int .i64 a0, .int .i64 a1, .int .i64 a2, .slice A3 n3 c3] w fun e w' => e = .returned (.bool true) ∧ Below w.heap.size w w' := by
  exact stripeLost_walk strK checkK a0 a1 a2 A3 n3 c3 l3 w x3 g3 z3
/-! The row's frame, by program: how the walk above proves the statement. -/
set_option maxRecDepth 100000 in
theorem lifted (os : Os) (started : os.Started) (H : Type) (enc : TypeId × Value → H) :
    ReturnsInHanded {} Try.checked os 5 .any (Rows.stripeLostSpec.pre6 enc Try.prog Try.f5 Rows.stripeLostRow.domain false) (Rows.stripeLostSpec.post enc Try.prog Try.f5 false true false false) := by
  refine returnsInHanded_of_change (C := Try.checked) own started (by kernel_rfl) Try.func5
    (ChangeSpec.witness6 (enc := enc) (C := Try.checked) false ⟨#[], #[.int .i64 0, .int .i64 0, .int .i64 0, .slice none 0 0], []⟩ 8 (by kernel_rfl) (by kernel_rfl) (by kernel_rfl) (by kernel_rfl)) ?_
  intro W base args ds gs before hval0 hW hcnd _
  have hval : ∀ (j : Nat) t v, Try.f5.params[j]? = some t → args[j]? = some v → Value.okWide Try.prog W .any base t v := hval0
  have hW' := hW
  obtain ⟨p, q, hA0, hV, rfl, hfz, hnd⟩ := hW
  have hA : DataW.TrodAll enc Try.prog W 0 (fun _ => true) true Try.f5.params.toList args.toList ds p := hA0
  rw [Try.params5] at hA hval
  obtain ⟨v0, vs0, d0, ds0, p0, q0, hargs, rfl, rfl, h0, r0⟩ := trodAll_cons hA
  obtain ⟨v1, vs1, d1, ds1, p1, q1, rfl, rfl, rfl, h1, r1⟩ := trodAll_cons r0
  obtain ⟨v2, vs2, d2, ds2, p2, q2, rfl, rfl, rfl, h2, r2⟩ := trodAll_cons r1
  obtain ⟨v3, vs3, d3, ds3, p3, q3, rfl, rfl, rfl, h3, r3⟩ := trodAll_cons r2
  obtain ⟨rfl, rfl, rfl⟩ := trodAll_nil r3
  obtain rfl : args = #[v0, v1, v2, v3] := by cases args; simp_all
  obtain ⟨rfl, rfl⟩ := trodVars_none hV
  obtain ⟨a0, rfl, rfl, rfl, w0⟩ := open_int Try.underlying3 (hval 0 3 v0 rfl rfl) h0
  have b0 := bounds_i64 w0
  obtain ⟨a1, rfl, rfl, rfl, w1⟩ := open_int Try.underlying3 (hval 1 3 v1 rfl rfl) h1
  have b1 := bounds_i64 w1
  obtain ⟨a2, rfl, rfl, rfl, w2⟩ := open_int Try.underlying3 (hval 2 3 v2 rfl rfl) h2
  have b2 := bounds_i64 w2
  obtain ⟨A3, n3, c3, rfl⟩ := okWide_slice Try.underlying41 (hval 3 41 v3 rfl rfl)
  have k3 := h3
  have lt3 : ∀ x ∈ p3, x.block < W.heap.size := by obtain ⟨m, hm⟩ := k3; exact DataW.trod_lt m _ _ _ hm
  obtain ⟨l3, x3, y3, g3, z3⟩ := arg_ints h3
  clear hA0 hval0
  refine (walk a0 a1 a2 A3 n3 c3 l3 W b0.1 b0.2 b1.1 b1.2 b2.1 b2.2 x3 y3 g3 z3).mono fun e W' ⟨he, bel⟩ => ?_
  subst he
  exact ⟨_, rfl, _, _, _, [], _, [], hW', trodAll_mk1 (shut_bool Try.underlying4 _), (trodAll_cons_mk (shut_int Try.underlying3 w0) (trodAll_cons_mk (shut_int Try.underlying3 w1) (trodAll_cons_mk (shut_int Try.underlying3 w2) (trodAll_cons_mk (Below.trod laidOut (by kernel_rfl) (of_decide_eq_true (by kernel_rfl)) k3 bel lt3) trodAll_mk0)))), rfl, bel.frame _, fun h => by cases h⟩

theorem over : Rows.stripeLostRow.holds Try.pinned (OpenSpec.ofChange Rows.stripeLostSpec) :=
  OpenClaim.holds_of_wide 5 Try.f5 rfl rfl rfl rfl rfl rfl rfl ⟨rfl, rfl, rfl, rfl, rfl⟩ rfl rfl rfl rfl rfl (by kernel_rfl) Try.func5 (by kernel_rfl)
    (of_decide_eq_true (by kernel_rfl)) (by unfold Func.isWrapper; first | (rw [if_pos (by decide +kernel)]; kernel_rfl) | (rw [if_neg (by decide +kernel)]; exact ⟨rfl, rfl⟩))
    (fun os started H enc _ => lifted os started H enc)

/-- The statement. -/
theorem proved : Rows.StripeLostSaid := over
#print axioms proved
end StripeLost
end Go.Proofs.Ytjafhlljigaibaa
