/- Labels cut one by one, and their rows: what QuorumOrder's first loop carries. -/
import Derived.Test.YtjdfeidakmkchaaLosts
import Derived.Test.YtjdfeidakmkchaaTwoRows
namespace Go.Proofs.Ytjdfeidakmkchaa
open Go.RowKit

/-- Rows of two kinds of elements are never one block. -/
theorem kinds_apart {w : World} {b1 b2 s1 s2 n1 n2 : Nat} {e1 e2 : TypeId} {v1 v2 : Value} {xs ys : List Value} (h1 : w.ownsRow b1 e1 s1 v1 n1 xs) (h2 : w.ownsRow b2 e2 s2 v2 n2 ys) (he : e1 ≠ e2) : Apart v1 v2 := by
  intro g hg1 hg2
  rcases h1.2 with ⟨rfl, _⟩ | ⟨g1, cap1, cur1, rfl, _, hb1, _⟩
  · simp [Value.ownBlock] at hg1
  rcases h2.2 with ⟨rfl, _⟩ | ⟨g2, cap2, cur2, rfl, _, hb2, _⟩
  · simp [Value.ownBlock] at hg2
  simp [Value.ownBlock] at hg1 hg2
  subst hg1 hg2
  rw [hb1] at hb2
  injection hb2 with hb2
  injection hb2 with _ hb2 _
  exact he hb2
/-- A label whose members lie in a row of the call's own. -/
def MemO (w : World) (B : Nat) (x : LabV) : Prop := w.ownsRow B 28 3 (.slice x.2.1 x.2.2.1 x.2.2.2) x.2.2.1 (mbL x.1.members) ∧ x.2.2.1 ≤ x.2.2.2 ∧ x.2.2.2 ≤ maxLen
theorem MemO.later {w w' : World} {B : Nat} {x : LabV} (h : MemO w B x) (hb : Below w.heap.size w w') : MemO w' B x := ⟨own_later h.1 hb, h.2⟩
theorem MemO.in_ {w : World} {B : Nat} {x : LabV} (h : MemO w B x) : LvIn w w.heap.size x := own_in h.1 h.2.1 h.2.2
/-- An append to a row of labels leaves the members as they are. -/
theorem MemO.app {w w' : World} {B n : Nat} {x : LabV} {u : Value} {xs : List Value} (h : MemO w B x) (hu : w.ownsRow B 24 5 u n xs) (hg : w.grownBy w' u.ownBlock) : MemO w' B x := ⟨own_other h.1 hg (kinds_apart hu h.1 (by decide)), h.2⟩
/-- The first k labels, each cut. -/
def cutsL (f : Nat → LabV) (k : Nat) : List Lab := (List.range k).map (fun i => cutL (f i).1)
theorem cutsL_succ (f : Nat → LabV) (k : Nat) : cutsL f (k + 1) = cutsL f k ++ [cutL (f k).1] := by rw [cutsL, List.range_succ, List.map_append]; rfl
theorem cutsL_rev (f : Nat → LabV) (k : Nat) : (cutsL f (k + 1)).reverse = cutL (f k).1 :: (cutsL f k).reverse := by rw [cutsL_succ]; simp
theorem cuts_same (f : Nat → LabV) (k : Nat) : chosenE (cutsL f k) = chosenE (cutsL f k).reverse ∧ chosenM (cutsL f k) = chosenM (cutsL f k).reverse ∧ { chosenL (cutsL f k).reverse with member := (chosenL (cutsL f k)).member } = chosenL (cutsL f k) :=
  chosen_same (fun x => by simp)
theorem own_lit {w : World} {base size : Nat} {e : TypeId} (F : List Value) (hb : base ≤ w.heap.size) (hF : F.length = size) : (w.alloc (.cells F.toArray e)).ownsRow base e size (.slice (some ⟨w.heap.size, 0, none⟩) 1 1) 1 F :=
  ⟨by omega, .inr ⟨w.heap.size, 1, F.toArray, rfl, hb, heap_alloc_new w _, Nat.le_refl _, by simp only [maxLen]; omega, by simp [hF], by simp [← hF]⟩⟩
#print axioms own_lit
#print axioms cuts_same
end Go.Proofs.Ytjdfeidakmkchaa
