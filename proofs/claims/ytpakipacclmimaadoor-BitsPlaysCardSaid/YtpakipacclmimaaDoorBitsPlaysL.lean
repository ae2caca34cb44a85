/- What the walk of BitsPlays wants besides: two pointers compared, a step read whole, bytes read at a later world. -/
import Derived.Test.YtpakipacclmimaaDoorArgOps
import Derived.LaidEqlPtr
import Derived.Test.YtpakipacclmimaaDoorCards
import Derived.Test.YtpakipacclmimaaDoorTie
import Derived.Deep.DeepCutAuto
import Derived.Deep.CutBlock
namespace Go.Proofs.YtpakipacclmimaaDoor.BitsPlays
open Go.ChangeShapes Go.WideShapes Go.ChangeAt Go.RowKit
set_option linter.unusedVariables false

def MadeIn (wc W' : World) (Y : List UInt8) (e : Ending) (w' : World) : Prop :=
  ∃ A n c, e = .returned (.slice A n c) ∧ w'.ownsRow W'.heap.size 5 1 (.slice A n c) n (B8 Y) ∧ Below W'.heap.size W' w' ∧ Below wc.heap.size wc w'
theorem made_in {wc W' w' : World} {Y : List UInt8} {e : Ending} (h : Below wc.heap.size wc W') (hm : Made W'.heap.size 5 1 (B8 Y) W' e w') : MadeIn wc W' Y e w' := by
  obtain ⟨A, n, c, he, _, _, hown, hb⟩ := hm
  exact ⟨A, n, c, he, hown, hb, h.trans (hb.mono h.size)⟩
theorem conv_at {w : World} {B n c : Nat} {A : Option Addr} {Y : List UInt8} (h : w.ownsRow B 5 1 (.slice A n c) n (B8 Y)) : (convert 36 9 (.slice A n c)).run Tryd.prog w = .ok (.string ⟨Y.toArray⟩) w :=
  own_conv 36 5 9 Tryd.underlying36 Tryd.underlying5 Tryd.underlying9 h
theorem conv_later {w w' : World} {B n c : Nat} {A : Option Addr} {Y : List UInt8} (h : w.ownsRow B 5 1 (.slice A n c) n (B8 Y)) (hb : Below w.heap.size w w') : (convert 36 9 (.slice A n c)).run Tryd.prog w' = .ok (.string ⟨Y.toArray⟩) w' :=
  conv_at (own_later h hb)
theorem op_info : (Tryd.prog.info? 30).map (·.size) = some 2 := by kernel_rfl
theorem op_load {w : World} {a : Addr} {x y : Value} (h1 : w.cell? a = some x) (h2 : w.cell? (a.add 1) = some y) : ∀ j v, ([x, y] : List Value)[j]? = some v → w.cell? (a.add j) = some v := by
  intro j v hv
  match j, hv with
  | 0, hv =>
    have e : a.add 0 = a := rfl
    rw [e, h1]
    simpa using hv
  | 1, hv =>
    rw [h2]
    simpa using hv
  | j + 2, hv => simp at hv
theorem map_info : (Tryd.prog.info? 58).map (·.size) = some 1025 := by kernel_rfl
theorem eql_same (w : World) (b : Nat) : (binOp .eql 24 (.pointer (some ⟨b, 0, none⟩)) (.pointer (some ⟨b, 0, none⟩))).run Tryd.prog w = .ok (.bool true) w := by
  have h := map_info
  cases hi : Tryd.prog.info? 58 with
  | none => rw [hi] at h; cases h
  | some j => exact run_eql_ptr_same w ⟨b, 0, none⟩ Tryd.underlying24 hi
theorem eql_other {w : World} {b bo n : Nat} {t tp : Nat → Bool} (hm : MapAt w b n t) (ho : MapAt w bo n tp) (h : bo ≠ b) : (binOp .eql 24 (.pointer (some ⟨bo, 0, none⟩)) (.pointer (some ⟨b, 0, none⟩))).run Tryd.prog w = .ok (.bool false) w := by
  have h1 := map_info
  cases hi : Tryd.prog.info? 58 with
  | none => rw [hi] at h1; cases h1
  | some j =>
    rw [hi] at h1
    have hj : j.size = 1025 := by simpa using h1
    exact run_eql_ptr_other w Tryd.underlying24 hi (by rw [hj]; decide) (fun e => h (by injection e)) ho.blk hm.blk
end Go.Proofs.YtpakipacclmimaaDoor.BitsPlays
