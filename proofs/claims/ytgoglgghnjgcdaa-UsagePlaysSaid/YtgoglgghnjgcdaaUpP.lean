/- What UsagePlays' walk wants of both tables. -/
import Derived.Test.YtgoglgghnjgcdaaUrS
import Derived.Test.YtgoglgghnjgcdaaWhen
import Derived.Test.YtgoglgghnjgcdaaPoke
namespace Go.Proofs.Ytgoglgghnjgcdaa
open Go.RowKit Go.Maps

theorem op14_zero (w : World) : (zeroValue 29).run Try.prog w = .ok (.agg #[.int .i64 0, .int .i64 0, .int .i64 0, .int .i64 0, .int .i64 0]) w := by kernel_rfl
theorem op14_info : (Try.prog.info? 29).map (·.size) = some 5 := by kernel_rfl
theorem op14_built : Try.prog.built 29 [] = some #[.int .i64 0, .int .i64 0, .int .i64 0, .int .i64 0, .int .i64 0] := by kernel_rfl
theorem int14_one : (Try.prog.info? 3).map (·.size) = some 1 := by kernel_rfl
theorem run_eql_rtab (w : World) (g : Nat) : (binOp .eql 26 (.pointer (some ⟨g, 0, none⟩)) (.pointer none)).run Try.prog w = .ok (.bool false) w := by kernel_rfl
theorem run_eql_rnil (w : World) : (binOp .eql 26 (.pointer none) (.pointer none)).run Try.prog w = .ok (.bool true) w := by kernel_rfl
/-- What stands in old and was. -/
def OldP (w0 w : World) (x y : Value) (O : Nat → Prop) : Prop := (x = .pointer none ∧ y = .pointer none) ∨ ∃ t r, x = .pointer (some ⟨t, 0, none⟩) ∧ y = .pointer (some ⟨r, 0, none⟩) ∧ OldU w0 w t r O
section
variable {w0 w w' : World} {t lo r m : Nat} {S R : Us} {O : Nat → Prop} {x y : Value}
theorem OldP.later (h : OldP w0 w x y O) (hb : Below w.heap.size w w') : OldP w0 w' x y O := h.imp id fun ⟨t, r, h1, h2, h3⟩ => ⟨t, r, h1, h2, h3.later hb⟩
theorem OldP.more (h : OldP w0 w x y O) {O2 : Nat → Prop} (hO : ∀ i, O i → O2 i) : OldP w0 w x y O2 := h.imp id fun ⟨t, r, h1, h2, h3⟩ => ⟨t, r, h1, h2, h3.more hO⟩
theorem OldP.kept (h : OldP w0 w x y O) (hk : Kp O w w') (hb : Below w0.heap.size w0 w') : OldP w0 w' x y O := h.imp id fun ⟨t, r, h1, h2, h3⟩ => ⟨t, r, h1, h2, h3.kept hk hb⟩
theorem TwoU.start {w3 : World} (h : Tbl w0 w t lo 0 Us.none_) (h2 : RefIn w3 w.heap.size none 0 none 0 Us.none_) (h3 : Below w.heap.size w w3) : TwoU w0 w3 t lo w.heap.size 0 Us.none_ Us.none_ (fun _ => False) := by
  refine ⟨h.later h3, h.ok, h.gs, h.ls, ⟨none, 0, none, 0, h2, ?_⟩, fun _ h => h.elim⟩
  rintro i (rfl | ⟨a, ha, _⟩ | ⟨a, ha, _⟩)
  · have := h.room
    have := h.size
    exact ⟨by omega, by omega, fun h => h⟩
  · cases ha
  · cases ha
theorem TwoU.rclone (h : TwoU w0 w t lo r m S R O) :
    Calls Try.prog 12 #[.pointer (some ⟨r, 0, none⟩)] w fun e w' => ∃ r' AG' cG' AL' cL', e = .returned (.pointer (some ⟨r', 0, none⟩)) ∧ RefRd w' r' AG' cG' AL' cL' R ∧ (∀ i, RFoot r' AG' AL' i → w.heap.size ≤ i) ∧ Below w.heap.size w w' := by
  obtain ⟨AG, cG, AL, cL, h1, _⟩ := h.ref
  have := h.few
  have h3 := h.rgs
  have h4 := h.rls
  exact rclone_any h1 (by omega) (by omega)
theorem TwoU.same (h : TwoU w0 w t lo r m S S O) (k g s b n : Int) (hg : okI64 g) (hs : okI64 s) :
    Calls Try.prog 15 #[.pointer (some ⟨t, 0, none⟩), .pointer (some ⟨r, 0, none⟩), .agg #[.int .i64 k, .int .i64 g, .int .i64 s, .int .i64 b, .int .i64 n]] w fun e w' => e = .returned (.bool true) ∧ Below w.heap.size w w' := by
  obtain ⟨AG, cG, AL, cL, h1, _⟩ := h.ref
  exact same14_any h.tbl h1.rd k g s b n hg hs
theorem OldU.same (h : OldU w0 w t r O) (k g s b n : Int) (hg : okI64 g) (hs : okI64 s) :
    Calls Try.prog 15 #[.pointer (some ⟨t, 0, none⟩), .pointer (some ⟨r, 0, none⟩), .agg #[.int .i64 k, .int .i64 g, .int .i64 s, .int .i64 b, .int .i64 n]] w fun e w' => e = .returned (.bool true) ∧ Below w.heap.size w w' := by
  obtain ⟨lo, m, S, AG, cG, AL, cL, h1, h2, _, _⟩ := h
  exact same14_any h1 h2 k g s b n hg hs
end
#print axioms TwoU.same
end Go.Proofs.Ytgoglgghnjgcdaa
