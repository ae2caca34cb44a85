/- A row of booleans that tells which places are taken; and how many are, when one more or one less is. -/
import Derived.Test.YtmaiikmgpeafkabDoorLaidT
import Derived.Test.YtmaiikmgpeafkabDoorNext
import Derived.Test.YtmaiikmgpeafkabDoorCount
namespace Go.Proofs.YtmaiikmgpeafkabDoor
open Go.RowKit

def BL (n : Nat) (t : Nat → Bool) : List Value := (List.range n).map fun i => .bool (t i)
theorem BL_length (n : Nat) (t : Nat → Bool) : (BL n t).length = n := by simp [BL]
theorem BL_at (n : Nat) (t : Nat → Bool) {i : Nat} (hi : i < n) : (BL n t)[i]? = some (.bool (t i)) := by simp [BL, hi]
theorem BL_set (n : Nat) (t : Nat → Bool) {i : Nat} (v : Bool) : (BL n t).set i (.bool v) = BL n (put t i v) := by
  apply List.ext_getElem?
  intro k
  rw [List.getElem?_set, BL_length]
  by_cases hk : k < n
  · rw [BL_at n _ hk]
    by_cases e : i = k
    · subst e
      rw [if_pos rfl, if_pos hk, BL_at n _ hk, put_self]
    · rw [if_neg e, BL_at n _ hk, put_ne _ _ (fun h => e h.symm)]
  · have h1 : (BL n t)[k]? = none := List.getElem?_eq_none (by rw [BL_length]; omega)
    have h2 : (BL n (put t i v))[k]? = none := List.getElem?_eq_none (by rw [BL_length]; omega)
    rw [h1, h2]
    split
    · rename_i e
      rw [if_neg (by omega)]
    · rfl
theorem BL_none (n : Nat) : BL n (fun _ => false) = List.replicate n (.bool false) := by
  rw [BL, List.map_const', List.length_range]
theorem bool_info : (Tryd.prog.info? 4).map (fun i => (i.zero, i.size, i.bytes)) = some (some (.bool false), 1, 1) := by kernel_rfl

theorem cnt_put_out (t : Nat → Bool) {k : Nat} (v : Bool) : ∀ {n : Nat}, n ≤ k → cnt (put t k v) n = cnt t n := by
  intro n h
  exact cnt_congr fun i hi => put_ne _ _ (by omega)
theorem cnt_put_in (t : Nat → Bool) {k n : Nat} (v : Bool) (h : k < n) : cnt (put t k v) n + (t k).toNat = cnt t n + v.toNat := by
  have e : n = (k + 1) + (n - (k + 1)) := by omega
  have e1 : cnt (put t k v) (k + 1) = cnt t k + v.toNat := by rw [cnt, cnt_put_out t v (Nat.le_refl k), put_self]
  have e3 : cnt t (k + 1) = cnt t k + (t k).toNat := rfl
  have a1 := cnt_add (put t k v) (k + 1) (n - (k + 1))
  have a2 := cnt_add t (k + 1) (n - (k + 1))
  rw [← e] at a1 a2
  rw [a1, a2, e1, e3]
  have e2 : cnt (fun i => put t k v (k + 1 + i)) (n - (k + 1)) = cnt (fun i => t (k + 1 + i)) (n - (k + 1)) := cnt_congr fun i _ => put_ne _ _ (by omega)
  rw [e2]
  omega
theorem cnt_more {t : Nat → Bool} {k n : Nat} (h : k < n) (ht : t k = false) : cnt (put t k true) n = cnt t n + 1 := by
  have := cnt_put_in t true h
  rw [ht] at this
  simpa using this
theorem cnt_less {t : Nat → Bool} {k n : Nat} (h : k < n) (ht : t k = true) : cnt (put t k false) n + 1 = cnt t n := by
  have := cnt_put_in t false h
  rw [ht] at this
  simpa using this
theorem cnt_full {t : Nat → Bool} : ∀ {n : Nat}, cnt t n = n → ∀ i, i < n → t i = true
  | 0, _, i, hi => by omega
  | n + 1, h, i, hi => by
    have hl := cnt_le t n
    have hb : (t n).toNat ≤ 1 := Bool.toNat_le _
    rw [cnt] at h
    by_cases e : i = n
    · subst e
      cases hti : t i
      · rw [hti] at h; simp at h; omega
      · rfl
    · exact cnt_full (n := n) (by omega) i (by omega)
theorem next_none_cnt {t : Nat → Bool} {n : Nat} {k : Nat} (h : NextIs t n 0 k false) : cnt t n = n := by
  rcases h with ⟨h, _⟩ | ⟨_, _, h⟩
  · cases h
  · exact cnt_all fun i hi => h i (Nat.zero_le _) hi
theorem next_full {t : Nat → Bool} {n k : Nat} {ok : Bool} (h : NextIs t n 0 k ok) (hc : cnt t n = n) : k = 0 ∧ ok = false :=
  h.same (.inr ⟨rfl, rfl, fun i _ hi => cnt_full hc i hi⟩)
/-- The row's block is not the map's. -/
theorem row_ne {w : World} {base b g n m : Nat} {e : TypeId} {xs : List Value} {t : Nat → Bool} (h : w.ownsRow base e 1 (.slice (some ⟨g, 0, none⟩) n n) n xs) (hm : MapAt w b m t) (hne : e ≠ 63) : g ≠ b := by
  rcases h.2 with ⟨h', _⟩ | ⟨g', cap, cur, h', _, hh, _⟩
  · cases h'
  · injection h' with h' _ _
    injection h' with h'
    injection h' with h'
    subst h'
    rintro rfl
    have hb := hm.blk
    unfold Blk at hb
    rw [hb] at hh
    injection hh with hh
    injection hh with _ hh
    exact hne hh.symm
theorem row_kept {w w' : World} {base b g n : Nat} {e : TypeId} {xs : List Value} (h : w.ownsRow base e 1 (.slice (some ⟨g, 0, none⟩) n n) n xs) (hg : w.grownBy w' (some b)) (hne : g ≠ b) : w'.ownsRow base e 1 (.slice (some ⟨g, 0, none⟩) n n) n xs :=
  h.kept hg (.inr (by simpa [Value.ownBlock] using hne))
#print axioms row_kept
end Go.Proofs.YtmaiikmgpeafkabDoor
