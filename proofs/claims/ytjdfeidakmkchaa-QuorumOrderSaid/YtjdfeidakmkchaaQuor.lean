/- Which configuration counts, and the next one, by definition alone, over labels as plain data. No program is named here. -/
import Derived.Test.YtjdfeidakmkchaaLabP
namespace Go.Proofs.Ytjdfeidakmkchaa

/-- Do both say the same, be it of one member or of two? -/
def alikeB (a b : Lab) : Bool := decide (a.array = b.array) && decide (a.gen = b.gen) && decide (a.blocks = b.blocks) && decide (a.members = b.members)
def rightsL (l : List Lab) : List Lab := l.filter rightB
/-- The first one of the greatest generation, of b and what stands behind it. -/
def maxL : Lab → List Lab → Lab
  | b, [] => b
  | b, x :: l => maxL (if b.gen < x.gen then x else b) l
def newL : List Lab → Lab
  | [] => Lab.none_
  | x :: l => maxL x l
def anotherB (L x : Lab) : Bool := decide (x.gen = L.gen) && !alikeB x L
def ofItB (L : Lab) (id : Int) (x : Lab) : Bool := decide (x.array = L.array) && decide (x.member = id)
def missB (R : List Lab) (L : Lab) (m : Mb) : Bool := decide (m.2.2 = 0) && !R.any (ofItB L m.1)
/-- Who is missing: the Live ones whose label is not among R. -/
def missL (R : List Lab) (L : Lab) : List Int := (L.members.filter (missB R L)).map (fun m => m.1)
/-- What Choose answers. -/
def chosenE (l : List Lab) : Int :=
  if rightsL l = [] then 8
  else if (rightsL l).any (anotherB (newL (rightsL l))) then 2
  else if 1 < (missL (rightsL l) (newL (rightsL l))).length then 5 else 0
def chosenL (l : List Lab) : Lab := if chosenE l = 0 then newL (rightsL l) else Lab.none_
def chosenM (l : List Lab) : List Int := if chosenE l = 0 then missL (rightsL l) (newL (rightsL l)) else []

/-- What Lost answers: of the member at place k; of one that there is not. -/
def failM (l : List Mb) (k : Nat) : List Mb := l.set k ((l[k]?.getD (0, 0, 0)).1, (l[k]?.getD (0, 0, 0)).2.1, 1)
def failL (l : Lab) (k : Nat) : Lab := { l with gen := l.gen + 1, members := failM l.members k }
def placeL (l : List Mb) (id : Int) : Nat := l.findIdx (fun m => m.1 == id)
def lostE (l : Lab) (id : Int) : Int :=
  if l.members.length ≤ placeL l.members id then 1
  else if rightB l = false then 1
  else if (l.members[placeL l.members id]?.getD (0, 0, 0)).2.2 ≠ 0 then 9
  else if l.members.any (fun m => m.2.2 == 1) then 5
  else if rightB (failL l (placeL l.members id)) = false then 3 else 0
def lostL (l : Lab) (id : Int) : Lab := if lostE l id = 0 then failL l (placeL l.members id) else Lab.none_

theorem alike_iff {a b : Lab} : alikeB a b = true ↔ a.array = b.array ∧ a.gen = b.gen ∧ a.blocks = b.blocks ∧ a.members = b.members := by
  simp [alikeB, and_assoc]
theorem alike_self (a : Lab) : alikeB a a = true := alike_iff.2 ⟨rfl, rfl, rfl, rfl⟩
theorem alike_symm {a b : Lab} (h : alikeB a b = true) : alikeB b a = true := by
  obtain ⟨h1, h2, h3, h4⟩ := alike_iff.1 h
  exact alike_iff.2 ⟨h1.symm, h2.symm, h3.symm, h4.symm⟩
theorem alike_trans {a b c : Lab} (h : alikeB a b = true) (k : alikeB b c = true) : alikeB a c = true := by
  obtain ⟨h1, h2, h3, h4⟩ := alike_iff.1 h
  obtain ⟨k1, k2, k3, k4⟩ := alike_iff.1 k
  exact alike_iff.2 ⟨h1.trans k1, h2.trans k2, h3.trans k3, h4.trans k4⟩
theorem max_spec : ∀ (l : List Lab) (b : Lab), maxL b l ∈ b :: l ∧ ∀ x ∈ b :: l, x.gen ≤ (maxL b l).gen
  | [], b => by simp [maxL]
  | y :: l, b => by
    obtain ⟨h1, h2⟩ := max_spec l (if b.gen < y.gen then y else b)
    rw [maxL]
    refine ⟨?_, fun x hx => ?_⟩
    · rcases List.mem_cons.1 h1 with h | h
      · rw [h]
        split <;> simp
      · exact List.mem_cons_of_mem _ (List.mem_cons_of_mem _ h)
    · have h0 := h2 (if b.gen < y.gen then y else b) (by simp)
      rcases List.mem_cons.1 hx with rfl | hx
      · split at h0 <;> rename_i hlt <;> simp only [hlt, if_true, if_false] <;> omega
      · rcases List.mem_cons.1 hx with rfl | hx
        · split at h0 <;> rename_i hlt <;> simp only [hlt, if_true, if_false] <;> omega
        · exact h2 x (List.mem_cons_of_mem _ hx)
theorem new_spec {l : List Lab} (h : l ≠ []) : newL l ∈ l ∧ ∀ x ∈ l, x.gen ≤ (newL l).gen := by
  cases l with
  | nil => exact absurd rfl h
  | cons b l => exact max_spec l b
theorem rights_mem {l : List Lab} {x : Lab} : x ∈ rightsL l ↔ x ∈ l ∧ rightB x = true := by simp [rightsL]
/-- Two lists of the same labels, in whatever order, have the same answer, but for whose label is told. -/
theorem miss_same {R S : List Lab} {L K : Lab} (hm : ∀ x, x ∈ R ↔ x ∈ S) (hLK : alikeB L K = true) : missL R L = missL S K := by
  obtain ⟨h1, _, _, h4⟩ := alike_iff.1 hLK
  have he : missB R L = missB S K := by
    funext m
    have h2 : ofItB L m.1 = ofItB K m.1 := by funext x; simp [ofItB, h1]
    have h3 : R.any (ofItB L m.1) = S.any (ofItB K m.1) := by
      rw [h2, Bool.eq_iff_iff, List.any_eq_true, List.any_eq_true]
      constructor
      · rintro ⟨x, hx, e⟩
        exact ⟨x, (hm x).1 hx, e⟩
      · rintro ⟨x, hx, e⟩
        exact ⟨x, (hm x).2 hx, e⟩
    rw [missB, missB, h3]
  rw [missL, missL, he, h4]
theorem chosen_same {l k : List Lab} (hm : ∀ x, x ∈ l ↔ x ∈ k) : chosenE l = chosenE k ∧ chosenM l = chosenM k ∧ { chosenL k with member := (chosenL l).member } = chosenL l := by
  have hr : ∀ x, x ∈ rightsL l ↔ x ∈ rightsL k := fun x => by rw [rights_mem, rights_mem, hm]
  by_cases h0 : rightsL l = []
  · have k0 : rightsL k = [] := by
      rw [List.eq_nil_iff_forall_not_mem]
      intro x hx
      have := (hr x).2 hx
      rw [h0] at this
      cases this
    have e1 : chosenE l = 8 := by rw [chosenE, if_pos h0]
    have e2 : chosenE k = 8 := by rw [chosenE, if_pos k0]
    refine ⟨by rw [e1, e2], ?_, ?_⟩
    · rw [chosenM, chosenM, e1, e2]
      rfl
    · rw [chosenL, chosenL, e1, e2]
      rfl
  · have k0 : rightsL k ≠ [] := by
      intro e
      apply h0
      rw [List.eq_nil_iff_forall_not_mem]
      intro x hx
      have := (hr x).1 hx
      rw [e] at this
      cases this
    obtain ⟨a1, a2⟩ := new_spec h0
    obtain ⟨b1, b2⟩ := new_spec k0
    have hg : (newL (rightsL l)).gen = (newL (rightsL k)).gen := by
      have := a2 _ ((hr _).2 b1)
      have := b2 _ ((hr _).1 a1)
      omega
    by_cases ha : (rightsL l).any (anotherB (newL (rightsL l))) = true
    · have hb : (rightsL k).any (anotherB (newL (rightsL k))) = true := by
        obtain ⟨x, hx, e⟩ := List.any_eq_true.1 ha
        simp only [anotherB, Bool.and_eq_true, decide_eq_true_eq, Bool.not_eq_true'] at e
        rw [List.any_eq_true]
        by_cases hc : alikeB (newL (rightsL l)) (newL (rightsL k)) = true
        · refine ⟨x, (hr x).1 hx, ?_⟩
          simp only [anotherB, Bool.and_eq_true, decide_eq_true_eq, Bool.not_eq_true']
          refine ⟨by rw [e.1, hg], ?_⟩
          cases hq : alikeB x (newL (rightsL k)) with
          | false => rfl
          | true => rw [alike_trans hq (alike_symm hc)] at e; exact absurd e.2 (by simp)
        · refine ⟨newL (rightsL l), (hr _).1 a1, ?_⟩
          simp only [anotherB, Bool.and_eq_true, decide_eq_true_eq, Bool.not_eq_true']
          exact ⟨hg, by simpa using hc⟩
      have e1 : chosenE l = 2 := by rw [chosenE, if_neg h0, if_pos ha]
      have e2 : chosenE k = 2 := by rw [chosenE, if_neg k0, if_pos hb]
      refine ⟨by rw [e1, e2], ?_, ?_⟩
      · rw [chosenM, chosenM, e1, e2]
        rfl
      · rw [chosenL, chosenL, e1, e2]
        rfl
    · have hal : alikeB (newL (rightsL k)) (newL (rightsL l)) = true := by
        cases hq : alikeB (newL (rightsL k)) (newL (rightsL l)) with
        | true => rfl
        | false =>
          exfalso
          apply ha
          rw [List.any_eq_true]
          exact ⟨_, (hr _).2 b1, by simp [anotherB, hq, hg]⟩
      have hb : ¬ (rightsL k).any (anotherB (newL (rightsL k))) = true := by
        intro hh
        obtain ⟨x, hx, e⟩ := List.any_eq_true.1 hh
        simp only [anotherB, Bool.and_eq_true, decide_eq_true_eq, Bool.not_eq_true'] at e
        apply ha
        rw [List.any_eq_true]
        refine ⟨x, (hr x).2 hx, ?_⟩
        simp only [anotherB, Bool.and_eq_true, decide_eq_true_eq, Bool.not_eq_true']
        refine ⟨by rw [e.1, hg], ?_⟩
        cases hq : alikeB x (newL (rightsL l)) with
        | false => rfl
        | true => rw [alike_trans hq (alike_symm hal)] at e; exact absurd e.2 (by simp)
      have hms : missL (rightsL l) (newL (rightsL l)) = missL (rightsL k) (newL (rightsL k)) := miss_same hr (alike_symm hal)
      have hE : chosenE l = chosenE k := by rw [chosenE, chosenE, if_neg h0, if_neg k0, if_neg ha, if_neg hb, hms]
      refine ⟨hE, ?_, ?_⟩
      · rw [chosenM, chosenM, hE, hms]
      · rw [chosenL, chosenL, hE]
        split
        · obtain ⟨q1, q2, q3, q4⟩ := alike_iff.1 hal
          exact Lab.same q1 q2 rfl q3 q4
        · rfl
#print axioms chosen_same
end Go.Proofs.Ytjdfeidakmkchaa
