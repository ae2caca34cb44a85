/- A map of places in memory: one block, its length first, then 1024 words. -/
import Derived.Test.YtmaiikmgpeafkabDoorWord
import Derived.Test.YtmaiikmgpeafkabDoorBlk
import Derived.Test.YtmaiikmgpeafkabDoorChecked
import Derived.Below
import Derived.Laws.OwnMore
import Derived.Deep.Draws
import Derived.Laws.Rows
namespace Go.Proofs.YtmaiikmgpeafkabDoor
open Go.RowKit

/-- One word of a map. -/
def wd (t : Nat → Bool) (j : Nat) : Nat := word (fun k => t (64 * j + k)) 64
/-- A map's cells. -/
def mapCells (n : Nat) (t : Nat → Bool) : Array Value := (Value.int .i64 (n : Int) :: (List.range 1024).map fun j => Value.int .u64 ((wd t j : Nat) : Int)).toArray
/-- Place i is (or is no more) taken. -/
def put (t : Nat → Bool) (i : Nat) (v : Bool) : Nat → Bool := fun k => if k = i then v else t k

theorem wd_lt (t : Nat → Bool) (j : Nat) : wd t j < 18446744073709551616 := word_lt64 _
theorem mapCells_size (n : Nat) (t : Nat → Bool) : (mapCells n t).size = 1025 := by simp [mapCells]
theorem mapCells_0 (n : Nat) (t : Nat → Bool) : (mapCells n t)[0]? = some (.int .i64 (n : Int)) := by simp [mapCells]
theorem mapCells_w (n : Nat) (t : Nat → Bool) {j : Nat} (hj : j < 1024) : (mapCells n t)[1 + j]? = some (.int .u64 ((wd t j : Nat) : Int)) := by
  rw [Nat.add_comm]
  simp [mapCells, hj]
theorem wd_put_self (t : Nat → Bool) (i : Nat) (v : Bool) : wd (put t i v) (i / 64) = word (fun k => if k = i % 64 then v else t (64 * (i / 64) + k)) 64 := by
  apply word_congr
  intro k hk
  have : (64 * (i / 64) + k = i) = (k = i % 64) := by rw [eq_iff_iff]; omega
  simp only [put, this]
theorem wd_put_ne (t : Nat → Bool) (i : Nat) (v : Bool) {j : Nat} (hj : j ≠ i / 64) : wd (put t i v) j = wd t j := by
  apply word_congr
  intro k hk
  have : ¬ (64 * j + k = i) := by omega
  simp only [put, this, if_false]
theorem mapCells_put (n : Nat) (t : Nat → Bool) (i : Nat) (v : Bool) (hi : i < 65536) :
    (mapCells n t).setIfInBounds (1 + i / 64) (.int .u64 ((wd (put t i v) (i / 64) : Nat) : Int)) = mapCells n (put t i v) := by
  apply Array.ext
  · simp [mapCells]
  · intro k h1 h2
    rw [Array.getElem_setIfInBounds (by rw [mapCells_size]; rw [mapCells_size] at h2; exact h2)]
    split
    · rename_i e
      subst e
      apply Option.some.inj
      rw [← Array.getElem?_eq_getElem h2, mapCells_w n _ (by omega)]
    · rename_i e
      apply Option.some.inj
      have hk : k < 1025 := by rw [mapCells_size] at h2; exact h2
      rw [← Array.getElem?_eq_getElem h2, ← Array.getElem?_eq_getElem (by simpa using h1)]
      by_cases h0 : k = 0
      · subst h0; rw [mapCells_0, mapCells_0]
      · obtain ⟨j, rfl⟩ : ∃ j, k = 1 + j := ⟨k - 1, by omega⟩
        rw [mapCells_w n _ (by omega), mapCells_w n _ (by omega), wd_put_ne t i v (by omega)]

/-- Block b is a map of n places of which t are taken. -/
structure MapAt (w : World) (b n : Nat) (t : Nat → Bool) : Prop where
  le : n ≤ 65536
  out : ∀ i, n ≤ i → t i = false
  blk : Blk w b 63 (mapCells n t)
section
variable {w w' : World} {b n : Nat} {t : Nat → Bool}
theorem MapAt.cell0 (h : MapAt w b n t) : w.cell? ⟨b, 0, none⟩ = some (.int .i64 (n : Int)) := (h.blk.cell 0).trans (mapCells_0 n t)
theorem MapAt.cellw (h : MapAt w b n t) {j : Nat} (hj : j < 1024) : w.cell? ⟨b, 1 + j, none⟩ = some (.int .u64 ((wd t j : Nat) : Int)) := (h.blk.cell (1 + j)).trans (mapCells_w n t hj)
theorem MapAt.free (h : MapAt w b n t) (i : Nat) : w.frozen? ⟨b, i, none⟩ = false := h.blk.frozen i
theorem MapAt.lt (h : MapAt w b n t) : b < w.heap.size := h.blk.lt
theorem MapAt.drew (h : MapAt w b n t) : MapAt w.drew b n t := ⟨h.le, h.out, h.blk.drew⟩
theorem MapAt.drewN (h : MapAt w b n t) (k : Nat) : MapAt (w.drewN k) b n t := ⟨h.le, h.out, h.blk.drewN k⟩
theorem MapAt.alloc (h : MapAt w b n t) (o : Obj) : MapAt (w.alloc o) b n t := ⟨h.le, h.out, h.blk.alloc o⟩
theorem MapAt.far (h : MapAt w b n t) {p : Addr} (hp : b ≠ p.block) (u : Value) : MapAt (w.setCell p u) b n t := ⟨h.le, h.out, h.blk.far hp u⟩
theorem MapAt.below {B : Nat} (h : MapAt w b n t) (hb : Below B w w') (hg : b < B) : MapAt w' b n t := ⟨h.le, h.out, h.blk.below hb hg⟩
theorem MapAt.later (h : MapAt w b n t) (hb : Below w.heap.size w w') : MapAt w' b n t := h.below hb h.lt
theorem MapAt.grown {row : Option Nat} (h : MapAt w b n t) (hb : w.grownBy w' row) (hg : some b ≠ row) : MapAt w' b n t := ⟨h.le, h.out, h.blk.grown hb hg⟩
theorem MapAt.set_ (h : MapAt w b n t) {i : Nat} (hi : i < n) (v : Bool) : MapAt (w.setCell ⟨b, 1 + i / 64, none⟩ (.int .u64 ((wd (put t i v) (i / 64) : Nat) : Int))) b n (put t i v) := by
  have := h.le
  refine ⟨h.le, fun k hk => ?_, ?_⟩
  · have : ¬ k = i := by omega
    simp only [put, this, if_false]
    exact h.out k hk
  · have hb := h.blk.set_ (1 + i / 64) (.int .u64 ((wd (put t i v) (i / 64) : Nat) : Int))
    rwa [mapCells_put n t i v (by omega)] at hb
end
theorem put_self (t : Nat → Bool) (i : Nat) (v : Bool) : put t i v i = v := by simp [put]
theorem put_ne (t : Nat → Bool) {i k : Nat} (v : Bool) (h : k ≠ i) : put t i v k = t k := by simp [put, h]

/-- The table of math/bits, as its initialiser lays it. -/
def Tab (w : World) : Prop := ∀ j, j < 64 → w.cell? ⟨0, j, none⟩ = some (.int .u8 ((Lib.deBruijn64tab.getD j 0 : Nat) : Int))
theorem Tab.pos {w : World} (h : Tab w) : 0 < w.heap.size := by
  have := h 0 (by decide)
  rcases Nat.eq_zero_or_pos w.heap.size with h0 | h0
  · have hn : w.heap[0]? = none := Array.getElem?_eq_none (by omega)
    simp [World.cell?, hn] at this
  · exact h0
theorem Tab.below {w w' : World} {B : Nat} (h : Tab w) (hb : Below B w w') (hB : 0 < B) : Tab w' := fun j hj => (hb.cell (p := ⟨0, j, none⟩) hB).trans (h j hj)
theorem Tab.later {w w' : World} (h : Tab w) (hb : Below w.heap.size w w') : Tab w' := h.below hb h.pos
theorem Tab.grown {w w' : World} {row : Option Nat} (h : Tab w) (hb : w.grownBy w' row) (hr : some 0 ≠ row) : Tab w' := fun j hj =>
  (World.cell?_of_block (hb.block 0 h.pos hr)).trans (h j hj)
#print axioms MapAt.set_
end Go.Proofs.YtmaiikmgpeafkabDoor
