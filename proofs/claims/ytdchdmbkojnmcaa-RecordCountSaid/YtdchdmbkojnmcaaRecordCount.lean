/- RecordCount holds: for every number of bytes, Parts answers 0 below 0 and above 2120, else at least one, and just enough parts of fifty-three bytes; no condition. -/
import Derived.Test.YtdchdmbkojnmcaaRecH
import Derived.Test.YtdchdmbkojnmcaaArgI
import Derived.Test.YtdchdmbkojnmcaaRows
namespace Go.Proofs.Ytdchdmbkojnmcaa.RecordCount
open Go.ChangeShapes Go.WideShapes Go.ChangeAt Go.RowKit Go.Proofs.Ytdchdmbkojnmcaa

theorem parts_is {n : Int} (h0 : 0 ≤ n) (h1 : n ≤ 2120) : 1 ≤ partsI n ∧ partsI n ≤ 40 ∧ n ≤ 53 * partsI n ∧ (partsI n = 1 ∨ 53 * (partsI n - 1) < n) := by
  unfold partsI
  rw [if_neg (by omega)]
  split <;> omega
set_option maxRecDepth 100000 in
set_option maxHeartbeats 2000000 in
theorem walk (n : Int) (w : World) (_h1 : -9223372036854775808 ≤ n) (_h2 : n ≤ 9223372036854775807) :
    Calls Try.prog 9 #[.int .i64 n] w fun e w' => e = .returned (.bool true) ∧ Below w.heap.size w w' := by
  have HS := hide (shown_any w)
  have HP := hide (recParts_any n)
  cases d1 : decide (n < 0) with
  | true =>
    rw [partsI_low (of_decide_eq_true d1)] at HP
    go_enter Try.func9, Try.ntmps9
    go_wp2_with (first
      | (go_at_call 10; refine HS.out.mono ?_; rintro _ w1 ⟨rfl, hl1⟩)
      | (go_at_call 14; refine (HP.out _).mono ?_; rintro _ w2 ⟨rfl, rfl⟩))
    go_ret
    exact ⟨rfl, hl1⟩
  | false =>
    cases d2 : decide ((2120 : Int) < n) with
    | true =>
      rw [partsI_high (of_decide_eq_true d2)] at HP
      go_enter Try.func9, Try.ntmps9
      go_wp2_with (first
        | (go_at_call 10; refine HS.out.mono ?_; rintro _ w1 ⟨rfl, hl1⟩)
        | (go_at_call 14; refine (HP.out _).mono ?_; rintro _ w2 ⟨rfl, rfl⟩))
      go_ret
      exact ⟨rfl, hl1⟩
    | false =>
      have h0 := of_decide_eq_false d1
      have h1 := of_decide_eq_false d2
      obtain ⟨p1, p2, p3, p4⟩ := parts_is (n := n) (by omega) (by omega)
      generalize partsI n = k at *
      have e1 : decide ((1 : Int) ≤ k) = true := decide_eq_true p1
      have e2 : decide (n ≤ 53 * k) = true := decide_eq_true p3
      by_cases hk : k = 1
      · subst hk
        go_enter Try.func9, Try.ntmps9
        go_wp2_with (first
          | (go_at_call 10; refine HS.out.mono ?_; rintro _ w1 ⟨rfl, hl1⟩)
          | (go_at_call 14; refine (HP.out _).mono ?_; rintro _ w2 ⟨rfl, rfl⟩))
        go_ret
        exact ⟨rfl, hl1⟩
      · have e3 : (k == 1) = false := by simpa using hk
        have e4 : decide (53 * (k - 1) < n) = true := decide_eq_true (by omega)
        go_enter Try.func9, Try.ntmps9
        go_wp2_with (first
          | (go_at_call 10; refine HS.out.mono ?_; rintro _ w1 ⟨rfl, hl1⟩)
          | (go_at_call 14; refine (HP.out _).mono ?_; rintro _ w2 ⟨rfl, rfl⟩))
        go_ret
        exact ⟨rfl, hl1⟩

/-! The row's frame, by program: how the walk above proves the statement. -/
set_option maxRecDepth 100000 in
theorem lifted (os : Os) (started : os.Started) (H : Type) (enc : TypeId × Value → H) :
    ReturnsInHanded {} Try.checked os 9 .any (Rows.recordCountSpec.pre6 enc Try.prog Try.f9 Rows.recordCountRow.domain false) (Rows.recordCountSpec.post enc Try.prog Try.f9 false true false false) := by
  refine returnsInHanded_of_change (C := Try.checked) own started (by kernel_rfl) Try.func9
    (ChangeSpec.witness6 (enc := enc) (C := Try.checked) false ⟨#[], #[.int .i64 0], []⟩ 8 (by kernel_rfl) (by kernel_rfl) (by kernel_rfl) (by kernel_rfl)) ?_
  intro W base args ds gs before hval0 hW hcnd _
  have hval : ∀ (j : Nat) t v, Try.f9.params[j]? = some t → args[j]? = some v → Value.okWide Try.prog W .any base t v := hval0
  have hW' := hW
  obtain ⟨p, q, hA0, hV, rfl, hfz, hnd⟩ := hW
  have hA : DataW.TrodAll enc Try.prog W 0 (fun _ => true) true Try.f9.params.toList args.toList ds p := hA0
  rw [Try.params9] at hA hval
  obtain ⟨v0, vs0, d0, ds0, p0, q0, hargs, rfl, rfl, h0, r0⟩ := trodAll_cons hA
  obtain ⟨rfl, rfl, rfl⟩ := trodAll_nil r0
  obtain rfl : args = #[v0] := by cases args; simp_all
  obtain ⟨rfl, rfl⟩ := trodVars_none hV
  obtain ⟨a0, rfl, rfl, rfl, w0⟩ := open_int Try.underlying3 (hval 0 3 v0 rfl rfl) h0
  have b0 := bounds_i64 w0
  clear hA0 hval0
  refine (walk a0 W b0.1 b0.2).mono fun e W' ⟨he, bel⟩ => ?_
  subst he
  exact ⟨_, rfl, _, _, _, [], _, [], hW', trodAll_mk1 (shut_bool Try.underlying4 _), (trodAll_cons_mk (shut_int Try.underlying3 w0) trodAll_mk0), rfl, bel.frame _, fun h => by cases h⟩

theorem over : Rows.recordCountRow.holds Try.pinned (OpenSpec.ofChange Rows.recordCountSpec) :=
  OpenClaim.holds_of_wide 9 Try.f9 rfl rfl rfl rfl rfl rfl rfl ⟨rfl, rfl, rfl, rfl, rfl⟩ rfl rfl rfl rfl rfl (by kernel_rfl) Try.func9 (by kernel_rfl)
    (of_decide_eq_true (by kernel_rfl)) (by unfold Func.isWrapper; first | (rw [if_pos (by decide +kernel)]; kernel_rfl) | (rw [if_neg (by decide +kernel)]; exact ⟨rfl, rfl⟩))
    (fun os started H enc _ => lifted os started H enc)

/-- The statement. -/
theorem proved : Rows.RecordCountSaid := over
#print axioms proved
end Go.Proofs.Ytdchdmbkojnmcaa.RecordCount
