/- errors.Is of two numbers of api.Errno: are they the same. -/
import Derived.Test.YtgfbndmdndpelaaChecked
import Derived.WalkKit
import Derived.LaidEql
import Derived.Lib.IfaceEq
import Derived.Stop.Asserts
import Derived.RowKitTokens
namespace Go.Proofs.Ytgfbndmdndpelaa
open Go.RowKit Go.Extern.Stop Go.Stop Go.Extern Go.Extern.Rtype
/-- What the library's entry of Comparable does. -/
def comparableOf (t : TypeId) : Sem Value := do noPackHeld "Comparable" t; pure (.bool (← typeInfo t).comparable)
theorem errType : ∃ r : Value, (∀ (v : Value) (w : World), (Extern.ReflectliteType.typeOf #[.iface 28 v]).run Try.prog w = .ok (.iface 124 r) w) ∧ ∀ w : World, (Extern.ReflectliteType.method comparableOf #[r]).run Try.prog w = .ok (.bool true) w :=
  ⟨.agg #[typeHandle Try.prog 28], fun _ _ => by kernel_rfl, fun _ => by kernel_rfl⟩
theorem errMethod (n : Nat) (v : Value) (w : World) : (Go.method (n + 1) 124 v "Comparable").run Try.prog w = .ok (116, v) w := by kernel_rfl
theorem errNoIs (v : Value) (xT : TypeId) (w : World) : (Instr.typeAssert (.iface 28 v) xT 126 true).run Try.prog w = .ok (.tuple #[.nilIface, .bool false]) w := run_typeAssert_lacksB Try.underlying126 (by kernel_rfl) (by kernel_rfl) v xT w
theorem errNoUnwrap (v : Value) (xT : TypeId) (w : World) : (Instr.typeAssert (.iface 28 v) xT 129 true).run Try.prog w = .ok (.tuple #[.nilIface, .bool false]) w := run_typeAssert_lacksB Try.underlying129 (by kernel_rfl) (by kernel_rfl) v xT w
theorem errNoUnwraps (v : Value) (xT : TypeId) (w : World) : (Instr.typeAssert (.iface 28 v) xT 131 true).run Try.prog w = .ok (.tuple #[.nilIface, .bool false]) w := run_typeAssert_lacksB Try.underlying131 (by kernel_rfl) (by kernel_rfl) v xT w
theorem errEql (w : World) (a b : Int) : (binOp .eql 115 (.iface 28 (.int .i64 a)) (.iface 28 (.int .i64 b))).run Try.prog w = .ok (.bool (a == b)) w :=
  Go.Lib.run_eql_iface_int w a b Try.underlying115 (by kernel_rfl) Try.underlying28
/-- errors.Is(a, b), both of api.Errno. -/
theorem isErr_any (a b : Int) (w : World) :
    Calls Try.prog 70 #[.iface 28 (.int .i64 a), .iface 28 (.int .i64 b)] w fun e w' => e = .returned (.bool (a == b)) ∧ w' = w := by
  have h8 := @run_callFunc_extern Try.prog 76 _ Extern.ReflectliteType.typeOf Try.func76 (by kernel_rfl) (by kernel_rfl) (by kernel_rfl) (by kernel_rfl)
  have h32 := @run_callFunc_extern Try.prog 116 _ (Extern.ReflectliteType.method comparableOf) Try.func116 (by kernel_rfl) (by kernel_rfl) (by kernel_rfl) (by kernel_rfl)
  obtain ⟨r, tT, cT⟩ := errType
  have mR := errMethod
  have nI := errNoIs
  have nU := errNoUnwrap
  have nV := errNoUnwraps
  have heq := errEql w a b
  obtain ⟨q, hq⟩ : ∃ q, q = (a == b) := ⟨_, rfl⟩
  rw [← hq] at heq ⊢
  clear hq
  go_enter Try.func70, Try.ntmps70
  go_wp2
  refine wp_loop_rounds 1 ?_
  rw [rounds_succ]
  cases q
  · go_wp2
    go_ret
    exact ⟨rfl, rfl⟩
  · go_wp2
    go_ret
    exact ⟨rfl, rfl⟩
#print axioms isErr_any
end Go.Proofs.Ytgfbndmdndpelaa
