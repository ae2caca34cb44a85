/- The least number above another, and the numbers rising (pure). -/
import Derived.Test.YtmaiikmgpeafkabDoorExtD
namespace Go.Proofs.YtmaiikmgpeafkabDoor

/-- One step on the way to the least of a list above z (-1: none yet). -/
def stepE (z b : Int) (e : Nat) : Int := if z < (e : Int) ∧ (b < 0 ∨ (e : Int) < b) then (e : Int) else b
/-- What it is: none above, or the least above. -/
def IsBest (z : Int) (l : List Nat) (b : Int) : Prop := (b = -1 ∧ ∀ d ∈ l, (d : Int) ≤ z) ∨ (∃ m ∈ l, b = (m : Int) ∧ z < b ∧ ∀ d ∈ l, z < (d : Int) → b ≤ (d : Int))
theorem IsBest.nil_ (z : Int) : IsBest z [] (-1) := .inl ⟨rfl, fun d hd => by cases hd⟩
theorem IsBest.snoc {z b : Int} {l : List Nat} (h : IsBest z l b) (e : Nat) : IsBest z (l ++ [e]) (stepE z b e) := by
  unfold stepE
  rcases h with ⟨rfl, h⟩ | ⟨m, hm, hb, hz, h⟩
  · by_cases he : z < (e : Int)
    · rw [if_pos ⟨he, .inl (by omega)⟩]
      refine .inr ⟨e, by simp, rfl, he, fun d hd hzd => ?_⟩
      rcases List.mem_append.1 hd with hd | hd
      · have := h d hd; omega
      · simp at hd; omega
    · rw [if_neg (by rintro ⟨h1, _⟩; exact he h1)]
      refine .inl ⟨rfl, fun d hd => ?_⟩
      rcases List.mem_append.1 hd with hd | hd
      · exact h d hd
      · simp at hd; omega
  · by_cases he : z < (e : Int) ∧ (e : Int) < b
    · rw [if_pos ⟨he.1, .inr he.2⟩]
      refine .inr ⟨e, by simp, rfl, he.1, fun d hd hzd => ?_⟩
      rcases List.mem_append.1 hd with hd | hd
      · have := h d hd hzd; omega
      · simp at hd; omega
    · rw [if_neg (by rintro ⟨h1, h2⟩; omega)]
      refine .inr ⟨m, by simp [hm], hb, hz, fun d hd hzd => ?_⟩
      rcases List.mem_append.1 hd with hd | hd
      · exact h d hd hzd
      · simp at hd; omega
theorem IsBest.uniq {z b c : Int} {l : List Nat} (h : IsBest z l b) (k : IsBest z l c) : b = c := by
  rcases h with ⟨rfl, h⟩ | ⟨m, hm, hb, hz, h⟩ <;> rcases k with ⟨rfl, k⟩ | ⟨n, hn, hc, hz2, k⟩
  · rfl
  · have := h n hn; omega
  · have := k m hm; omega
  · have := h n hn (by omega); have := k m hm (by omega); omega
theorem disksE_perm (S : Ext) : (disksE S).Perm (S.ks.map fun (k : Nat) => (k : Int)) := List.mergeSort_perm _ _
theorem disksE_length (S : Ext) : (disksE S).length = S.ks.length := by rw [(disksE_perm S).length_eq, List.length_map]
theorem disksE_le (S : Ext) : (disksE S).Pairwise (fun x y => x ≤ y) := by
  have := List.pairwise_mergeSort (le := fun (x y : Int) => decide (x ≤ y)) (fun a b c => by simp; omega) (fun a b => by simp; omega) (S.ks.map fun (k : Nat) => (k : Int))
  exact this.imp (by simp)
theorem disksE_lt {S : Ext} (hok : S.Ok) {i j : Nat} {x y : Int} (hij : i < j) (hx : (disksE S)[i]? = some x) (hy : (disksE S)[j]? = some y) : x < y := by
  obtain ⟨hi, rfl⟩ := List.getElem?_eq_some_iff.1 hx
  obtain ⟨hj, rfl⟩ := List.getElem?_eq_some_iff.1 hy
  have h1 := List.pairwise_iff_getElem.1 (disksE_le S) i j hi hj hij
  have hnd : (disksE S).Nodup := (disksE_perm S).nodup_iff.2 (List.Pairwise.map _ (fun a b (h : a ≠ b) => by omega) hok.nodup)
  have h2 := List.pairwise_iff_getElem.1 hnd i j hi hj hij
  omega
/-- What stands at place n of the numbers rising is the least above what stands ahead of it. -/
theorem disksE_best {S : Ext} (hok : S.Ok) {n : Nat} {z x : Int} (hz : (n = 0 ∧ z = -1) ∨ (∃ k, n = k + 1 ∧ (disksE S)[k]? = some z)) (hx : (disksE S)[n]? = some x) : IsBest z S.ks x := by
  have hmem : ∀ v, v ∈ disksE S ↔ ∃ m ∈ S.ks, (m : Int) = v := fun v => by rw [(disksE_perm S).mem_iff]; simp
  obtain ⟨m, hm, hmx⟩ := (hmem x).1 (List.mem_iff_getElem?.2 ⟨n, hx⟩)
  have hzx : z < x := by
    rcases hz with ⟨_, rfl⟩ | ⟨k, rfl, hk⟩
    · omega
    · exact disksE_lt hok (Nat.lt_succ_self k) hk hx
  refine .inr ⟨m, hm, hmx.symm, hzx, fun d hd hzd => ?_⟩
  obtain ⟨i, hi⟩ := List.mem_iff_getElem?.1 ((hmem (d : Int)).2 ⟨d, hd, rfl⟩)
  rcases Nat.lt_trichotomy i n with h | h | h
  · exfalso
    rcases hz with ⟨h0, _⟩ | ⟨k, hk1, hk⟩
    · omega
    · rcases Nat.lt_or_ge i k with h2 | h2
      · have := disksE_lt hok h2 hi hk; omega
      · have : i = k := by omega
        subst this
        rw [hi] at hk
        injection hk with hk
        omega
  · subst h
    rw [hi] at hx
    injection hx with hx
    omega
  · have := disksE_lt hok h hx hi
    omega
#print axioms disksE_best
end Go.Proofs.YtmaiikmgpeafkabDoor
