/- Slices of labels as lists; the first place at which something holds. -/
import Derived.Test.YtjdfeidakmkchaaArgM
import Derived.Test.YtjdfeidakmkchaaQuor
namespace Go.Proofs.Ytjdfeidakmkchaa
open Go.RowKit

def lvC (x : LabV) : List Value := labC x.1 x.2.1 x.2.2.1 x.2.2.2
def lvV (x : LabV) : Value := labV x.1 x.2.1 x.2.2.1 x.2.2.2
def lvL (l : List LabV) : List Value := l.flatMap lvC
theorem lvL_nil : lvL [] = [] := rfl
theorem lvL_cons (x : LabV) (l : List LabV) : lvL (x :: l) = lvC x ++ lvL l := rfl
theorem lvL_append (a b : List LabV) : lvL (a ++ b) = lvL a ++ lvL b := by simp [lvL]
theorem lvL_one (x : LabV) : lvL [x] = lvC x := by simp [lvL]
theorem lvC_length (x : LabV) : (lvC x).length = 5 := rfl
theorem lvL_length (l : List LabV) : (lvL l).length = l.length * 5 := by
  induction l with
  | nil => rfl
  | cons x l ih => rw [lvL_cons, List.length_append, ih, List.length_cons, lvC_length]; omega
theorem lvC_cell (x : LabV) : ∀ v ∈ lvC x, v.oneCell' = true := labC_one _ _ _ _
theorem lvL_cell (l : List LabV) : ∀ v ∈ lvL l, v.oneCell' = true := by
  intro v hv
  obtain ⟨x, _, hx⟩ := List.mem_flatMap.1 hv
  exact lvC_cell x v hx
theorem lvL_drop : ∀ (k : Nat) (l : List LabV), (lvL l).drop (k * 5) = lvL (l.drop k)
  | 0, l => by simp
  | k + 1, [] => by simp [lvL]
  | k + 1, x :: l => by
    rw [List.drop_succ_cons, ← lvL_drop k l, lvL_cons, Nat.add_mul, Nat.one_mul, Nat.add_comm, ← List.drop_drop]
    rfl
theorem lvL_at {l : List LabV} {k : Nat} {x : LabV} (h : l[k]? = some x) (j : Nat) (hj : j < 5) : (lvL l)[k * 5 + j]? = (lvC x)[j]? := by
  rw [← List.getElem?_drop, lvL_drop]
  obtain ⟨hk, hm⟩ := List.getElem?_eq_some_iff.1 h
  rw [List.drop_eq_getElem_cons hk, hm, lvL_cons, List.getElem?_append_left (by rw [lvC_length]; exact hj)]
/-- A label whose members are read below block B. -/
def LvIn (w : World) (B : Nat) (x : LabV) : Prop := MbIn w B x.2.1 x.2.2.1 x.2.2.2 x.1.members
theorem LvIn.below {w w' : World} {B : Nat} {x : LabV} (h : LvIn w B x) (hb : Below B w w') : LvIn w' B x := MbIn.below h hb
theorem LvIn.more {w : World} {B B' : Nat} {x : LabV} (h : LvIn w B x) (hB : B ≤ B') : LvIn w B' x := MbIn.more h hB
/-- The slice of address A and length n holds these labels. -/
structure LbIn (w : World) (B : Nat) (A : Option Addr) (n c : Nat) (L : List LabV) : Prop where
  row : Reads w B 5 A n (lvL L)
  le : n ≤ c
  cap : c ≤ 9223372036854775807
  mem : ∀ x ∈ L, LvIn w B x
section
variable {w w' : World} {B B' n c : Nat} {A : Option Addr} {L : List LabV}
theorem LbIn.len (h : LbIn w B A n c L) : L.length = n := by
  have := h.row.1
  rw [lvL_length] at this
  omega
theorem LbIn.below (h : LbIn w B A n c L) (hb : Below B w w') : LbIn w' B A n c L := ⟨h.row.below hb, h.le, h.cap, fun x hx => (h.mem x hx).below hb⟩
theorem LbIn.more (h : LbIn w B A n c L) (hB : B ≤ B') : LbIn w B' A n c L := ⟨h.row.more hB, h.le, h.cap, fun x hx => (h.mem x hx).more hB⟩
theorem LbIn.later (h : LbIn w w.heap.size A n c L) (hb : Below w.heap.size w w') : LbIn w' w'.heap.size A n c L := (h.below hb).more hb.size
theorem LbIn.none_ : LbIn w B none 0 0 [] := ⟨Reads.none_, Nat.le_refl _, Nat.zero_le _, fun x hx => by cases hx⟩
theorem LbIn.at_ {k : Nat} (h : LbIn w B A n c L) (hk : k < n) : ∃ ad x, A = some ad ∧ ad.block < B ∧ L[k]? = some x ∧ LvIn w B x ∧ ∀ j v, (lvC x)[j]? = some v → w.cell? ((ad.add (k * 5)).add j) = some v := by
  obtain ⟨ad, hA, hb, hc⟩ := h.row.2 (by omega)
  have hl := h.len
  have hm : L[k]? = some (L[k]'(by omega)) := List.getElem?_eq_getElem (by omega)
  refine ⟨ad, _, hA, hb, hm, h.mem _ (List.getElem_mem _), fun j v hv => ?_⟩
  have hj : j < 5 := by
    have := (List.getElem?_eq_some_iff.1 hv).1
    rwa [lvC_length] at this
  rw [add_of_add]
  exact hc _ v ((lvL_at hm j hj).trans hv)
theorem LbIn.of_own {base : Nat} {e : TypeId} (h : w.ownsRow base e 5 (.slice A n c) n (lvL L)) (hn : n ≤ c) (hc : c ≤ maxLen) (hm : ∀ x ∈ L, LvIn w w.heap.size x) : LbIn w w.heap.size A n c L :=
  ⟨Reads.of_own h, hn, by simpa [maxLen] using hc, hm⟩
/-- The labels of a slice by their places, as a list. -/
theorem LbIn.of_labs {f : Nat → LabV} (h : LabsIn w B A n c f) : LbIn w B A n c ((List.range n).map f) := by
  refine ⟨⟨by rw [lvL_length]; simp, fun hn => ?_⟩, h.1, h.2.1, fun x hx => ?_⟩
  · obtain ⟨ad, e, hlt, hc⟩ := h.2.2 hn
    refine ⟨ad, e, hlt, fun j v hv => ?_⟩
    have hj : j < n * 5 := by
      have := (List.getElem?_eq_some_iff.1 hv).1
      rw [lvL_length] at this
      simpa using this
    have hk : j / 5 < n := by omega
    have hx : ((List.range n).map f)[j / 5]? = some (f (j / 5)) := by simp [hk]
    have h5 : j = j / 5 * 5 + j % 5 := by omega
    have h6 := lvL_at hx (j % 5) (Nat.mod_lt _ (by omega))
    rw [← h5, hv] at h6
    have h7 := (hc (j / 5) hk).1 (j % 5) v h6.symm
    rw [add_of_add, ← h5] at h7
    exact h7
  · obtain ⟨i, hi, rfl⟩ := List.mem_map.1 hx
    have hi := List.mem_range.1 hi
    obtain ⟨ad, e, hlt, hc⟩ := h.2.2 (by omega)
    exact (hc i hi).2
end
/-- The first place at which p holds, or -1. -/
def idxI {α : Type} (p : α → Bool) (l : List α) : Int := if l.findIdx p < l.length then (l.findIdx p : Int) else -1
/-- p holds at none of the first k places. -/
def NoneYet {α : Type} (p : α → Bool) (l : List α) (k : Nat) : Prop := ∀ i x, i < k → l[i]? = some x → p x = false
section
variable {α : Type} {p : α → Bool} {l : List α} {k : Nat} {x : α}
theorem NoneYet.zero : NoneYet p l 0 := fun i x h => by omega
theorem NoneYet.succ (h : NoneYet p l k) (hx : l[k]? = some x) (hp : p x = false) : NoneYet p l (k + 1) := fun i y hi hy => by
  by_cases e : i = k
  · subst e
    rw [hx] at hy
    injection hy with hy
    rw [← hy]
    exact hp
  · exact h i y (by omega) hy
theorem idx_found (h : NoneYet p l k) (hx : l[k]? = some x) (hp : p x = true) : idxI p l = (k : Int) := by
  obtain ⟨hk, he⟩ := List.getElem?_eq_some_iff.1 hx
  have hf : l.findIdx p = k := by
    rw [List.findIdx_eq hk]
    exact ⟨by rw [he]; exact hp, fun j hj => by simpa using h j _ hj (List.getElem?_eq_getElem (by omega))⟩
  rw [idxI, hf, if_pos hk]
theorem idx_none (h : NoneYet p l l.length) : idxI p l = -1 := by
  have hf : l.findIdx p = l.length := List.findIdx_eq_length.2 (fun y hy => by
    obtain ⟨i, hi⟩ := List.getElem?_of_mem hy
    exact h i y (List.getElem?_eq_some_iff.1 hi).1 hi)
  rw [idxI, hf, if_neg (by omega)]
theorem idx_any (p : α → Bool) (l : List α) : decide (0 ≤ idxI p l) = l.any p := by
  rw [idxI]
  by_cases h : l.findIdx p < l.length
  · rw [if_pos h]
    have := List.findIdx_lt_length.1 h
    rw [List.any_eq_true.2 this]
    simp
  · rw [if_neg h]
    have h2 : l.any p = false := by
      rw [List.any_eq_false]
      intro y hy hp
      exact h (List.findIdx_lt_length.2 ⟨y, hy, hp⟩)
    rw [h2]
    decide
end
theorem lab_parts : (Try.prog.info? 24).map (fun i => (i.zero, i.size, i.bytes)) = some (some (labV Lab.none_ none 0 0), 5, 56) := by kernel_rfl
#print axioms LbIn.of_labs
end Go.Proofs.Ytjdfeidakmkchaa
