/- The pair of maps that was put aside. -/
import Derived.Test.YtmaiikmgpeafkabDoorSameE
namespace Go.Proofs.YtmaiikmgpeafkabDoor
open Go.RowKit

section
variable {w w' w1 w2 w3 : World} {b r : Nat} {F G F' G' : Nat → Prop} {S : Ext}
theorem TwoE.kept {H : Nat → Prop} (h : TwoE w b r F G S) (hu : Turn H w w') (ha : ∀ y, F y ∨ G y → ¬ H y) (h0 : ¬ H 0) : TwoE w' b r F G S :=
  ⟨h.one.kept hu (fun y hy => ha y (.inl hy)), h.two.kept hu (fun y hy => ha y (.inr hy)), h.apart, h.tab.turned hu h0⟩
/-- What old and was hold: nothing, or a pair that says the same, in blocks apart from those of the pair at hand. -/
def OldE (w : World) (o z : Value) (F G : Nat → Prop) : Prop := (o = .pointer none ∧ z = .pointer none) ∨ ∃ bo ro Fo Go So, o = .pointer (some ⟨bo, 0, none⟩) ∧ z = .pointer (some ⟨ro, 0, none⟩) ∧ TwoE w bo ro Fo Go So ∧ ∀ y, Fo y ∨ Go y → ¬ (F y ∨ G y)
theorem OldE.later {o z : Value} (h : OldE w o z F G) (hb : Below w.heap.size w w') : OldE w' o z F G := by
  rcases h with h | ⟨bo, ro, Fo, Go, So, h1, h2, h3, h4⟩
  · exact .inl h
  · exact .inr ⟨bo, ro, Fo, Go, So, h1, h2, h3.later hb, h4⟩
theorem OldE.turned {o z : Value} (h : OldE w o z F G) (hu : Turn (fun y => F y ∨ G y) w w') (hF : ∀ y, F' y → F y ∨ w.heap.size ≤ y) (hG : ∀ y, G' y → G y ∨ w.heap.size ≤ y) (h0 : ¬ (F 0 ∨ G 0)) : OldE w' o z F' G' := by
  rcases h with h | ⟨bo, ro, Fo, Go, So, h1, h2, h3, h4⟩
  · exact .inl h
  · refine .inr ⟨bo, ro, Fo, Go, So, h1, h2, h3.kept hu h4 h0, fun y hy hn => ?_⟩
    have hlt : y < w.heap.size := by
      rcases hy with hy | hy
      · exact (h3.lt1 hy).2
      · exact (h3.lt2 hy).2
    rcases hn with hn | hn
    · rcases hF y hn with e | e
      · exact h4 y hy (.inl e)
      · omega
    · rcases hG y hn with e | e
      · exact h4 y hy (.inr e)
      · omega
/-- The map is cloned, and the clone goes on: what was there is put aside, with a clone of the reference's. -/
theorem two_cloned (h : TwoE w b r F G S) (r1 : RefOnE w1 w.heap.size (fun y => w.heap.size ≤ y ∧ y < w1.heap.size) S) (l1 : Below w.heap.size w w1) (o2 : ExtOn w2 (w1.heap.size + 1) (fun y => w1.heap.size ≤ y ∧ y < w2.heap.size) S) (l2 : Below w1.heap.size w1 w2) :
    TwoE w2 (w1.heap.size + 1) r (fun y => w1.heap.size ≤ y ∧ y < w2.heap.size) G S ∧ OldE w2 (.pointer (some ⟨b, 0, none⟩)) (.pointer (some ⟨w.heap.size, 0, none⟩)) (fun y => w1.heap.size ≤ y ∧ y < w2.heap.size) G := by
  have z1 := l1.size
  have z2 := l2.size
  have l12 : Below w.heap.size w w2 := l1.trans (l2.mono z1)
  have hk := h.later l12
  refine ⟨⟨o2, hk.two, fun y hy hg => ?_, hk.tab⟩, .inr ⟨b, w.heap.size, F, (fun y => w.heap.size ≤ y ∧ y < w1.heap.size), S, rfl, rfl, ⟨hk.one, r1.later l2, fun y hy hg => ?_, hk.tab⟩, fun y hy hn => ?_⟩⟩
  · have := (h.lt2 hg).2
    omega
  · have := (h.lt1 hy).2
    omega
  · rcases hy with hy | hy <;> rcases hn with hn | hn
    · have := (h.lt1 hy).2
      omega
    · exact h.apart y hy hn
    · omega
    · have := (h.lt2 hn).2
      omega
/-- Two new maps. -/
theorem two_new (hT : Tab w) (o1 : ExtOn w1 (w.heap.size + 1) (fun y => w.heap.size ≤ y ∧ y < w.heap.size + 2) Ext.none_) (l1 : Below w.heap.size w w1) (s1 : w1.heap.size = w.heap.size + 2) (o2 : RefOnE w2 w1.heap.size (fun y => y = w1.heap.size) Ext.none_) (l2 : Below w1.heap.size w1 w2) :
    TwoE w2 (w.heap.size + 1) w1.heap.size (fun y => w.heap.size ≤ y ∧ y < w.heap.size + 2) (fun y => y = w1.heap.size) Ext.none_ := by
  have hT1 := hT.turned (Turn.of_below (F := fun _ => False) l1) (fun e => e)
  exact ⟨o1.later l2, o2, fun y hy hg => by omega, hT1.turned (Turn.of_below (F := fun _ => False) l2) (fun e => e)⟩
end
#print axioms two_cloned
end Go.Proofs.YtmaiikmgpeafkabDoor
