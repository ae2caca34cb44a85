/- Of some members the labels of the next configuration, of the others the ones of the older one: the newer one counts. No program is named here. -/
import Derived.Test.YtjdfeidakmkchaaQuorM
namespace Go.Proofs.Ytjdfeidakmkchaa

/-- Is the newer one taken at place k, when s tells whether it has been taken before? -/
def takeN (n : Nat) (sel : Nat → Bool) (s : Bool) (k : Nat) : Bool := sel k || (!s && decide (n ≤ k + 2))
def newS (n lost : Nat) (sel : Nat → Bool) : Nat → Bool
  | 0 => false
  | k + 1 => if k = lost then newS n lost sel k else newS n lost sel k || takeN n sel (newS n lost sel k) k
def newA (K F : Lab) (n lost : Nat) (sel : Nat → Bool) : Nat → List Lab
  | 0 => []
  | k + 1 => if k = lost then newA K F n lost sel k else newA K F n lost sel k ++ [byL (if takeN n sel (newS n lost sel k) k then F else K) k]
section
variable {K F : Lab} {n lost : Nat} {sel : Nat → Bool}
theorem newS_mono : ∀ {k j : Nat}, newS n lost sel k = true → k ≤ j → newS n lost sel j = true
  | k, 0, h, hk => by
    obtain rfl : k = 0 := by omega
    exact h
  | k, j + 1, h, hk => by
    by_cases e : k = j + 1
    · rw [← e]; exact h
    · have := newS_mono (j := j) h (by omega)
      rw [newS]
      split
      · exact this
      · rw [this]; rfl
theorem newS_step {k : Nat} (hk : k ≠ lost) (hn : n ≤ k + 2) : newS n lost sel (k + 1) = true := by
  rw [newS, if_neg hk, takeN]
  cases newS n lost sel k <;> simp [hn]
theorem newS_end (h3 : 3 ≤ n) : newS n lost sel n = true := by
  by_cases e : n - 1 = lost
  · exact newS_mono (k := n - 2 + 1) (newS_step (by omega) (by omega)) (by omega)
  · have := newS_step (n := n) (sel := sel) (k := n - 1) e (by omega)
    rwa [show n - 1 + 1 = n by omega] at this
theorem newA_mem {x : Lab} : ∀ {k : Nat}, x ∈ newA K F n lost sel k → ∃ j, j < k ∧ j ≠ lost ∧ (x = byL K j ∨ x = byL F j)
  | 0, h => by simp [newA] at h
  | k + 1, h => by
    rw [newA] at h
    split at h
    · obtain ⟨j, h1, h2⟩ := newA_mem h
      exact ⟨j, by omega, h2⟩
    · rename_i hk
      rcases List.mem_append.1 h with h | h
      · obtain ⟨j, h1, h2⟩ := newA_mem h
        exact ⟨j, by omega, h2⟩
      · simp only [List.mem_singleton] at h
        refine ⟨k, by omega, hk, ?_⟩
        rw [h]
        split
        · exact .inr rfl
        · exact .inl rfl
theorem newA_some : ∀ {k : Nat}, newS n lost sel k = true → ∃ j, j < k ∧ byL F j ∈ newA K F n lost sel k
  | 0, h => by cases h
  | k + 1, h => by
    rw [newS] at h
    rw [newA]
    split at h
    · rename_i hk
      obtain ⟨j, h1, h2⟩ := newA_some h
      exact ⟨j, by omega, by rw [if_pos hk]; exact h2⟩
    · rename_i hk
      rw [if_neg hk]
      cases hs : newS n lost sel k with
      | true =>
        obtain ⟨j, h1, h2⟩ := newA_some hs
        exact ⟨j, by omega, by rw [hs] at *; exact List.mem_append_left _ h2⟩
      | false =>
        rw [hs, Bool.false_or] at h
        exact ⟨k, by omega, List.mem_append_right _ (by simp [h])⟩
theorem newA_has {q : Nat} (hq : q ≠ lost) : ∀ {k : Nat}, q < k → byL K q ∈ newA K F n lost sel k ∨ byL F q ∈ newA K F n lost sel k
  | 0, h => by omega
  | k + 1, h => by
    rw [newA]
    by_cases e : q = k
    · subst e
      rw [if_neg hq]
      cases takeN n sel (newS n lost sel q) q with
      | true => exact .inr (List.mem_append_right _ (by simp))
      | false => exact .inl (List.mem_append_right _ (by simp))
    · have := newA_has hq (k := k) (by omega)
      split
      · exact this
      · rcases this with h | h
        · exact .inl (List.mem_append_left _ h)
        · exact .inr (List.mem_append_left _ h)
theorem newA_len : ∀ k, (newA K F n lost sel k).length ≤ k
  | 0 => by simp [newA]
  | k + 1 => by
    have := newA_len k
    rw [newA]
    split
    · omega
    · rw [List.length_append, List.length_singleton]; omega
end
theorem chosen_newer {K : Lab} (hK : AllLive K) (hg : K.gen ≤ 2147483648) {i : Nat} (hi : i < K.members.length) (sel : Nat → Bool) :
    chosenE (newA K (failL K i) K.members.length i sel K.members.length) = 0 ∧ chosenM (newA K (failL K i) K.members.length i sel K.members.length) = [] ∧ ∃ q, chosenL (newA K (failL K i) K.members.length i sel K.members.length) = { failL K i with member := q } := by
  have hr := fail_right hK (by omega) hi
  have hl : (failL K i).members.length = K.members.length := fail_len _ _
  have h3 := hK.len.1
  have hgen : (failL K i).gen = K.gen + 1 := rfl
  have hgone : goneL (newA K (failL K i) K.members.length i sel K.members.length) (failL K i) = [] := by
    have h : goneL (newA K (failL K i) K.members.length i sel K.members.length) (failL K i) = atL (failL K i).members (fun _ => false) (failL K i).members.length := by
      apply gone_at
      intro k m hm
      have hk : k < K.members.length := by
        have := (List.getElem?_eq_some_iff.1 hm).1
        omega
      obtain ⟨x, hx, hxid, hs, _⟩ := hK.get hk
      have hmm : m = (x.1, x.2.1, if i = k then 1 else x.2.2) := by
        have h2 : (failL K i).members[k]? = some (x.1, x.2.1, if i = k then 1 else x.2.2) := fail_get hx
        rw [hm] at h2
        injection h2
      by_cases e : i = k
      · rw [hmm, if_pos e]
        rfl
      · have hany : (newA K (failL K i) K.members.length i sel K.members.length).any (fun y => y.member == m.1) = true := by
          rw [List.any_eq_true]
          have hid : idM (failL K i).members k = x.1 := by rw [show (failL K i).members = failM K.members i from rfl, fail_id, hxid]
          rcases newA_has (K := K) (F := failL K i) (n := K.members.length) (sel := sel) (fun e2 => e e2.symm) hk with h | h
          · exact ⟨_, h, by rw [hmm]; simp [byL, hxid]⟩
          · exact ⟨_, h, by rw [hmm]; simp [byL, hid]⟩
        rw [hany]
        simp
    rw [h, at_none (fun _ _ => rfl)]
  have h := chosen_as (l := newA K (failL K i) K.members.length i sel K.members.length) (T := failL K i) (fun x hx => by
    obtain ⟨q, hq, _, rfl | rfl⟩ := newA_mem hx
    · refine ⟨by_right hK.right hq, rfl, ?_, fun e => ?_⟩
      · show K.gen ≤ K.gen + 1
        omega
      · have e2 : K.gen = K.gen + 1 := e
        omega
    · exact ⟨by_right hr (by omega), rfl, Int.le_refl _, fun _ => by_alike _ q⟩) (by
    obtain ⟨q, _, hq⟩ := newA_some (K := K) (F := failL K i) (newS_end (n := K.members.length) (lost := i) (sel := sel) h3)
    exact ⟨_, hq, rfl⟩)
  rw [hgone] at h
  obtain ⟨e1, _, e3⟩ := h
  obtain ⟨f1, f2⟩ := e3 (by simp)
  exact ⟨by rw [e1]; rfl, f1, f2⟩
#print axioms chosen_newer
end Go.Proofs.Ytjdfeidakmkchaa
