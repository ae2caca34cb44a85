/- Rows of booleans and of numbers of a law's own, beside its table. -/
import Derived.Test.YtgoglgghnjgcdaaUsgS
import Derived.Test.YtgoglgghnjgcdaaArgU5
import Derived.Deep.DeepCutAuto
import Derived.Deep.CutBlock
import Derived.Deep.CutRange
namespace Go.Proofs.Ytgoglgghnjgcdaa
open Go.RowKit Go.Maps

/-- n booleans. -/
def bl (v : Nat → Bool) (n : Nat) : List Value := (List.range n).map fun i => .bool (v i)
theorem bl_length (v : Nat → Bool) (n : Nat) : (bl v n).length = n := by simp [bl]
theorem bl_at (v : Nat → Bool) {n i : Nat} (hi : i < n) : (bl v n).toArray[i]? = some (.bool (v i)) := by simp [bl, hi]
theorem bl_set (v : Nat → Bool) (n i : Nat) (b : Bool) : (bl v n).toArray.setIfInBounds i (.bool b) = (bl (upd v i b) n).toArray := by
  apply Array.ext'
  rw [Array.toList_setIfInBounds]
  apply List.ext_getElem?
  intro j
  rw [List.getElem?_set]
  by_cases hij : i = j
  · subst hij
    rw [if_pos rfl]
    by_cases hi : i < n
    · rw [if_pos (by simpa [bl] using hi)]
      simp [bl, hi, upd_self]
    · rw [if_neg (by simpa [bl] using hi)]
      simp [bl, hi]
  · rw [if_neg hij]
    by_cases hj : j < n
    · simp [bl, hj, upd_ne v b (fun h => hij h.symm)]
    · simp [bl, hj]
theorem Blk.upto {w w' : World} {g : Nat} {ty : TypeId} {cs : Array Value} (h : Blk w g ty cs) {lo hi : Nat} (hu : Upto lo hi w w') (hg : g < lo ∨ hi ≤ g) : Blk w' g ty cs := h.of_block (hu.block g h.lt hg)
/-- A boolean of a row is read. -/
theorem Blk.bit {w : World} {g n : Nat} {ty : TypeId} {v : Nat → Bool} (h : Blk w g ty (bl v n).toArray) {i : Nat} (hi : i < n) : w.cell? ⟨g, i, none⟩ = some (.bool (v i)) := by rw [h.cell, bl_at v hi]
theorem arr128_zero (w : World) : (zeroValue 50).run Try.prog w = .ok (.agg (bl (fun _ => false) 128).toArray) w := by kernel_rfl
theorem arr64_zero (w : World) : (zeroValue 36).run Try.prog w = .ok (.agg (bl (fun _ => false) 64).toArray) w := by kernel_rfl
theorem bool_one : (Try.prog.info? 4).map (·.size) = some 1 := by kernel_rfl
/-- A number of a row of the call's own, by its place. -/
theorem own_num2 {w : World} {base n : Nat} {A : Option Addr} {c : Nat} {l : List Int} (h : w.ownsRow base 3 1 (.slice A n c) n (I64 l)) {k : Nat} {x : Int} (hk : l[k]? = some x) :
    ∃ ad, A = some ad ∧ base ≤ ad.block ∧ ad.block < w.heap.size ∧ w.cell? (ad.add k) = some (.int .i64 x) := by
  have hn : n = l.length := by have := h.1; rw [I64_length] at this; omega
  subst hn
  obtain ⟨h1, h2⟩ := List.getElem?_eq_some_iff.1 hk
  obtain ⟨ad, q1, q2, q3, q4⟩ := own_num h h1
  exact ⟨ad, q1, q2, q3, by rw [q4, h2]⟩
#print axioms bl_set
end Go.Proofs.Ytgoglgghnjgcdaa
