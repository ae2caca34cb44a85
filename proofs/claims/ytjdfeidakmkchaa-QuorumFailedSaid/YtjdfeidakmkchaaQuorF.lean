/- Labels of the next configuration, in which a member has failed: that one is not missed. No program is named here. -/
import Derived.Test.YtjdfeidakmkchaaQuorM
namespace Go.Proofs.Ytjdfeidakmkchaa

/-- Of the next configuration all labels but two members': the one that has failed is not missed, the other one is. -/
theorem chosen_failed {K : Lab} (hK : AllLive K) (hg : K.gen ≤ 2147483648) {i j : Nat} (hi : i < K.members.length) (hj : j < K.members.length) (hij : i ≠ j) :
    chosenE (allB (failL K i) (fun n => n == i || n == j) K.members.length) = 0 ∧ chosenM (allB (failL K i) (fun n => n == i || n == j) K.members.length) = [idM K.members j] ∧ (chosenL (allB (failL K i) (fun n => n == i || n == j) K.members.length)).gen = (failL K i).gen := by
  have hr := fail_right hK (by omega) hi
  have hl : (failL K i).members.length = K.members.length := fail_len _ _
  have hris : risingB (-1) (failL K i).members = true := (right_parts hr).2.2.2.2.1
  have h3 := hK.len.1
  have hgone : goneL (allB (failL K i) (fun n => n == i || n == j) K.members.length) (failL K i) = [idM K.members j] := by
    have h : goneL (allB (failL K i) (fun n => n == i || n == j) K.members.length) (failL K i) = atL (failL K i).members (fun n => n == j) (failL K i).members.length := by
      apply gone_at
      intro k m hm
      have hk : k < K.members.length := by
        have := (List.getElem?_eq_some_iff.1 hm).1
        omega
      obtain ⟨x, hx, _, hs, _⟩ := hK.get hk
      have hfm := fail_get (i := i) hx
      have hmm : m = (x.1, x.2.1, if i = k then 1 else x.2.2) := by
        have h2 : (failL K i).members[k]? = some (x.1, x.2.1, if i = k then 1 else x.2.2) := hfm
        rw [hm] at h2
        injection h2
      have hany : (allB (failL K i) (fun n => n == i || n == j) K.members.length).any (fun y => y.member == m.1) = !(k == i || k == j) := by
        cases hp : (k == i || k == j) with
        | false =>
          rw [List.any_eq_true.2 ⟨byL (failL K i) k, allB_mem.2 ⟨k, hk, hp, rfl⟩, by simp [byL, idM_at hm]⟩]
          rfl
        | true =>
          rw [List.any_eq_false.2]
          · rfl
          · intro y hy
            obtain ⟨q, hq, hpq, rfl⟩ := allB_mem.1 hy
            have hmq : (failL K i).members[q]? = some ((failL K i).members[q]'(by omega)) := List.getElem?_eq_getElem (by omega)
            intro e
            have e2 : ((failL K i).members[q]'(by omega)).1 = m.1 := by simpa [byL, idM_at hmq] using e
            have := rising_inj hris hmq hm e2
            subst this
            rw [hp] at hpq
            cases hpq
      rw [hany, Bool.not_not, hmm]
      by_cases e : i = k
      · subst e
        have : (i == j) = false := by simpa using hij
        simp [this]
      · have e2 : (k == i) = false := by
          simp
          omega
        simp [e, e2, hs]
    rw [h, at_one (j := j) (by omega) (fun q _ => rfl)]
    rw [show (failL K i).members = failM K.members i from rfl, fail_id]
  have h := chosen_as (l := allB (failL K i) (fun n => n == i || n == j) K.members.length) (T := failL K i) (fun x hx => by
    obtain ⟨q, hq, _, rfl⟩ := allB_mem.1 hx
    exact ⟨by_right hr (by omega), rfl, Int.le_refl _, fun _ => by_alike _ q⟩) (by
    have hq : ∃ q, q < K.members.length ∧ q ≠ i ∧ q ≠ j := by
      by_cases a0 : 0 ≠ i ∧ 0 ≠ j
      · exact ⟨0, by omega, a0⟩
      · by_cases a1 : 1 ≠ i ∧ 1 ≠ j
        · exact ⟨1, by omega, a1⟩
        · exact ⟨2, by omega, by omega, by omega⟩
    obtain ⟨q, hq1, hq2, hq3⟩ := hq
    exact ⟨_, allB_mem.2 ⟨q, hq1, by simp [hq2, hq3], rfl⟩, rfl⟩)
  rw [hgone] at h
  obtain ⟨e1, _, e3⟩ := h
  obtain ⟨f1, z, f2⟩ := e3 (by simp)
  exact ⟨by rw [e1]; rfl, f1, by rw [f2]⟩
#print axioms chosen_failed
end Go.Proofs.Ytjdfeidakmkchaa
