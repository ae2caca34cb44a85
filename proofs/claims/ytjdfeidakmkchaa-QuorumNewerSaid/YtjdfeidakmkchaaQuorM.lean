/- Labels of some of a configuration's members: who is missing of them. No program is named here. -/
import Derived.Test.YtjdfeidakmkchaaQuorL
namespace Go.Proofs.Ytjdfeidakmkchaa

/-- The labels of the members at the places below k that p does not name. -/
def allB (K : Lab) (p : Nat → Bool) : Nat → List Lab
  | 0 => []
  | k + 1 => if p k then allB K p k else allB K p k ++ [byL K k]
theorem allB_mem {K : Lab} {p : Nat → Bool} {x : Lab} : ∀ {k : Nat}, x ∈ allB K p k ↔ ∃ j, j < k ∧ p j = false ∧ x = byL K j
  | 0 => by simp [allB]
  | k + 1 => by
    rw [allB]
    by_cases hp : p k = true
    · rw [if_pos hp, allB_mem]
      constructor
      · rintro ⟨j, h1, h2, h3⟩
        exact ⟨j, by omega, h2, h3⟩
      · rintro ⟨j, h1, h2, h3⟩
        refine ⟨j, ?_, h2, h3⟩
        by_cases e : j = k
        · subst e
          rw [hp] at h2
          cases h2
        · omega
    · rw [if_neg hp, List.mem_append, allB_mem]
      constructor
      · rintro (⟨j, h1, h2, h3⟩ | h)
        · exact ⟨j, by omega, h2, h3⟩
        · exact ⟨k, by omega, by simpa using hp, by simpa using h⟩
      · rintro ⟨j, h1, h2, h3⟩
        by_cases e : j = k
        · subst e
          exact .inr (by simp [h3])
        · exact .inl ⟨j, by omega, h2, h3⟩
theorem allB_len (K : Lab) (p : Nat → Bool) : ∀ k, (allB K p k).length ≤ k
  | 0 => by simp [allB]
  | k + 1 => by
    have := allB_len K p k
    rw [allB]
    split
    · omega
    · rw [List.length_append, List.length_singleton]
      omega
theorem atL_len (l : List Mb) (p : Nat → Bool) : ∀ k, (atL l p k).length ≤ k
  | 0 => by simp [atL]
  | k + 1 => by
    have := atL_len l p k
    rw [atL]
    split
    · rw [List.length_append, List.length_singleton]
      omega
    · omega
theorem gone_all {K : Lab} (hK : AllLive K) (p : Nat → Bool) : goneL (allB K p K.members.length) K = atL K.members p K.members.length := by
  apply gone_at
  intro k m hm
  have hk := (List.getElem?_eq_some_iff.1 hm).1
  have h0 : (m.2.2 == 0) = true := by
    rw [hK.live m (List.mem_of_getElem? hm)]
    rfl
  rw [h0, Bool.true_and]
  have hany : (allB K p K.members.length).any (fun x => x.member == m.1) = !p k := by
    cases hp : p k with
    | false =>
      rw [List.any_eq_true.2 ⟨byL K k, allB_mem.2 ⟨k, hk, hp, rfl⟩, by simp [byL, idM_at hm]⟩]
      rfl
    | true =>
      rw [List.any_eq_false.2]
      · rfl
      · intro x hx
        obtain ⟨j, hj, hpj, rfl⟩ := allB_mem.1 hx
        have hmj : K.members[j]? = some K.members[j] := List.getElem?_eq_getElem hj
        intro e
        have e2 : (K.members[j]).1 = m.1 := by simpa [byL, idM_at hmj] using e
        have := rising_inj hK.rising hmj hm e2
        subst this
        rw [hp] at hpj
        cases hpj
  rw [hany, Bool.not_not]
theorem chosen_nil : chosenE [] = 8 ∧ chosenL [] = Lab.none_ ∧ chosenM [] = [] := ⟨rfl, rfl, rfl⟩
theorem chosen_all {K : Lab} (hK : AllLive K) (p : Nat → Bool) (hne : allB K p K.members.length ≠ []) :
    chosenE (allB K p K.members.length) = (if 1 < (atL K.members p K.members.length).length then 5 else 0) ∧ (1 < (atL K.members p K.members.length).length → chosenL (allB K p K.members.length) = Lab.none_ ∧ chosenM (allB K p K.members.length) = []) ∧ ((atL K.members p K.members.length).length ≤ 1 → chosenM (allB K p K.members.length) = atL K.members p K.members.length ∧ ∃ q, chosenL (allB K p K.members.length) = { K with member := q }) := by
  have h := chosen_as (l := allB K p K.members.length) (T := K) (fun x hx => by
    obtain ⟨j, hj, _, rfl⟩ := allB_mem.1 hx
    exact ⟨by_right hK.right hj, rfl, Int.le_refl _, fun _ => by_alike K j⟩) (by
    obtain ⟨x, hx⟩ := List.exists_mem_of_ne_nil _ hne
    obtain ⟨j, hj, _, rfl⟩ := allB_mem.1 hx
    exact ⟨_, hx, rfl⟩)
  rw [gone_all hK p] at h
  exact h
#print axioms chosen_all
end Go.Proofs.Ytjdfeidakmkchaa
