/- What follows of which configuration counts, and of the next one: what the laws of quorum say, of labels as plain data. No program is named here. -/
import Derived.Test.YtjdfeidakmkchaaQuor
namespace Go.Proofs.Ytjdfeidakmkchaa

/-- The member's number at place k. -/
def idM (l : List Mb) (k : Nat) : Int := (l[k]?.getD (0, 0, 0)).1
theorem idM_at {l : List Mb} {k : Nat} {m : Mb} (h : l[k]? = some m) : idM l k = m.1 := by rw [idM, h]; rfl
theorem rising_mono : ∀ {l : List Mb} {last : Int}, risingB last l = true → ∀ (k : Nat) (m : Mb), l[k]? = some m → last < m.1
  | [], _, _, k, m, hm => by simp at hm
  | x :: l, last, h, k, m, hm => by
    simp only [risingB, Bool.and_eq_true, inB_iff] at h
    cases k with
    | zero =>
      simp at hm
      subst hm
      omega
    | succ k =>
      have := rising_mono h.2 k m (by simpa using hm)
      omega
theorem rising_lt : ∀ {l : List Mb} {last : Int}, risingB last l = true → ∀ (i k : Nat) (x y : Mb), l[i]? = some x → l[k]? = some y → i < k → x.1 < y.1
  | [], _, _, i, k, x, y, hx, _, _ => by simp at hx
  | z :: l, last, h, i, k, x, y, hx, hy, hik => by
    simp only [risingB, Bool.and_eq_true, inB_iff] at h
    cases k with
    | zero => omega
    | succ k =>
      have hy' : l[k]? = some y := by simpa using hy
      cases i with
      | zero =>
        simp at hx
        subst hx
        exact rising_mono h.2 k y hy'
      | succ i => exact rising_lt h.2 i k x y (by simpa using hx) hy' (by omega)
theorem rising_inj {l : List Mb} {last : Int} (h : risingB last l = true) {i k : Nat} {x y : Mb} (hx : l[i]? = some x) (hy : l[k]? = some y) (he : x.1 = y.1) : i = k := by
  rcases Nat.lt_trichotomy i k with hlt | heq | hgt
  · have := rising_lt h i k x y hx hy hlt
    omega
  · exact heq
  · have := rising_lt h k i y x hy hx hgt
    omega
theorem rising_set : ∀ {l : List Mb} {last : Int} (k : Nat) (m : Mb) (s : Int), risingB last l = true → l[k]? = some m → 0 ≤ s → s ≤ 2 → risingB last (l.set k (m.1, m.2.1, s)) = true
  | [], _, k, m, s, _, hm, _, _ => by simp at hm
  | x :: l, last, k, m, s, h, hm, h0, h2 => by
    simp only [risingB, Bool.and_eq_true, inB_iff] at h
    cases k with
    | zero =>
      simp at hm
      subst hm
      simp only [List.set_cons_zero, risingB, memberB, Bool.and_eq_true, inB_iff] at h ⊢
      exact ⟨⟨h.1.1, h.1.2.1, h0, h2⟩, h.2⟩
    | succ k =>
      rw [List.set_cons_succ]
      simp only [risingB, Bool.and_eq_true, inB_iff]
      exact ⟨h.1, rising_set k m s h.2 (by simpa using hm) h0 h2⟩
theorem fail_at {l : List Mb} {k : Nat} {m : Mb} (h : l[k]? = some m) : failM l k = l.set k (m.1, m.2.1, 1) := by rw [failM, h]; rfl
theorem fail_len (l : List Mb) (k : Nat) : (failM l k).length = l.length := by rw [failM, List.length_set]
theorem fail_get {l : List Mb} {i k : Nat} {m : Mb} (h : l[k]? = some m) : (failM l i)[k]? = some (m.1, m.2.1, if i = k then 1 else m.2.2) := by
  have hk := (List.getElem?_eq_some_iff.1 h).1
  by_cases e : i = k
  · subst e
    rw [fail_at h, List.getElem?_set_self hk, if_pos rfl]
  · rw [failM, List.getElem?_set_ne e, h, if_neg e]
theorem fail_id (l : List Mb) (i k : Nat) : idM (failM l i) k = idM l k := by
  cases h : l[k]? with
  | some m => rw [idM, fail_get h, idM, h]; rfl
  | none =>
    have : (failM l i)[k]? = none := by
      rw [List.getElem?_eq_none_iff] at h ⊢
      rw [fail_len]
      exact h
    rw [idM, this, idM, h]
/-- All members Live. -/
def liveM (m : Mb) : Mb := (m.1, m.2.1, 0)
def liveL (l : List Mb) (k : Nat) : List Mb := (l.take k).map liveM ++ l.drop k
theorem live_len (l : List Mb) (k : Nat) : (liveL l k).length = l.length := by
  simp [liveL]
  omega
theorem live_zero (l : List Mb) : liveL l 0 = l := by simp [liveL]
theorem live_all (l : List Mb) : liveL l l.length = l.map liveM := by simp [liveL]
theorem live_at {l : List Mb} {k : Nat} (h : k < l.length) : (liveL l k)[k]? = some l[k] := by
  rw [liveL, List.getElem?_append_right (by simp; omega)]
  simp
  rw [show k - min k l.length = 0 by omega]
  simp [h]
theorem live_succ {l : List Mb} {k : Nat} (h : k < l.length) : liveL l (k + 1) = (liveL l k).set k (l[k].1, l[k].2.1, 0) := by
  have h1 : l.drop k = l[k] :: l.drop (k + 1) := List.drop_eq_getElem_cons h
  have h2 : l.take (k + 1) = l.take k ++ [l[k]] := by rw [List.take_succ_eq_append_getElem h]
  have h3 : ((l.take k).map liveM).length = k := by simp; omega
  rw [liveL, liveL, h1, h2, List.set_append_right _ _ (by rw [h3]; exact Nat.le_refl _), h3, Nat.sub_self, List.set_cons_zero, List.map_append, List.append_assoc]
  rfl
/-- A right label, all of whose members are Live. -/
structure AllLive (K : Lab) : Prop where
  right : rightB K = true
  live : ∀ m ∈ K.members, m.2.2 = 0
section
variable {K : Lab}
theorem AllLive.rising (h : AllLive K) : risingB (-1) K.members = true := (right_parts h.right).2.2.2.2.1
theorem AllLive.len (h : AllLive K) : 3 ≤ K.members.length ∧ K.members.length ≤ 12 := (right_parts h.right).2.2.2.1
theorem AllLive.get (h : AllLive K) {k : Nat} (hk : k < K.members.length) : ∃ m, K.members[k]? = some m ∧ idM K.members k = m.1 ∧ m.2.2 = 0 ∧ 0 ≤ m.1 ∧ m.1 ≤ 31 := by
  have hm : K.members[k]? = some K.members[k] := List.getElem?_eq_getElem hk
  have := (rising_all (by omega) h.rising _ (List.getElem_mem hk)).1
  exact ⟨_, hm, idM_at hm, h.live _ (List.getElem_mem hk), this.1, this.2⟩
theorem place_of {l : List Mb} {last : Int} (h : risingB last l = true) {k : Nat} {m : Mb} (hk : l[k]? = some m) : placeL l m.1 = k := by
  have hkl := (List.getElem?_eq_some_iff.1 hk).1
  have hlt : placeL l m.1 < l.length := List.findIdx_lt_length.2 ⟨m, List.mem_of_getElem? hk, by simp⟩
  have h1 : (l[placeL l m.1]'hlt).1 = m.1 := by
    have := List.findIdx_getElem (p := fun x : Mb => x.1 == m.1) (w := hlt)
    exact eq_of_beq this
  exact rising_inj h (List.getElem?_eq_getElem hlt) hk h1
theorem place_none {l : List Mb} {id : Int} (h : ∀ m ∈ l, m.1 ≠ id) : l.length ≤ placeL l id := by
  have : placeL l id = l.length := List.findIdx_eq_length.2 (fun x hx => by simpa using h x hx)
  omega
theorem fail_right {k : Nat} (h : AllLive K) (hg : K.gen ≤ 4294967294) (hk : k < K.members.length) : rightB (failL K k) = true := by
  obtain ⟨h1, h2, h3, h4, h5, h6⟩ := right_parts h.right
  obtain ⟨m, hm, _⟩ := h.get hk
  have h7 : risingB (-1) (failM K.members k) = true := by
    rw [fail_at hm]
    exact rising_set k m 1 h5 hm (by omega) (by omega)
  have h8 : ownB (failM K.members k) K.member = true := by
    obtain ⟨x, hx, e⟩ := List.any_eq_true.1 h6
    obtain ⟨j, hj⟩ := List.getElem?_of_mem hx
    exact List.any_eq_true.2 ⟨_, List.mem_of_getElem? (fail_get (i := k) hj), e⟩
  have h9 := fail_len K.members k
  simp only [rightB, membersB, failL, Bool.and_eq_true, inB_iff]
  exact ⟨⟨⟨⟨h1, by omega⟩, h3⟩, by omega, h7⟩, h8⟩
theorem lost_live {k : Nat} (h : AllLive K) (hg : K.gen ≤ 2147483648) (hk : k < K.members.length) : lostE K (idM K.members k) = 0 ∧ lostL K (idM K.members k) = failL K k := by
  obtain ⟨m, hm, hi, hs, _⟩ := h.get hk
  have hp : placeL K.members (idM K.members k) = k := by rw [hi]; exact place_of h.rising hm
  have hE : lostE K (idM K.members k) = 0 := by
    have hany : K.members.any (fun m => m.2.2 == 1) = false := by
      rw [List.any_eq_false]
      intro x hx
      rw [h.live x hx]
      decide
    rw [lostE, hp, if_neg (by omega), h.right, hm]
    simp [hs, hany, fail_right h (by omega) hk]
  exact ⟨hE, by rw [lostL, hE, hp]; rfl⟩
theorem lost_again {i k : Nat} (h : AllLive K) (hg : K.gen ≤ 2147483648) (hi : i < K.members.length) (hk : k < K.members.length) : lostE (failL K i) (idM K.members k) = (if i = k then 9 else 5) ∧ lostL (failL K i) (idM K.members k) = Lab.none_ := by
  have hr := fail_right h (by omega) hi
  obtain ⟨m, hm, hid, hs, _⟩ := h.get hk
  obtain ⟨x, hx, _, _, _⟩ := h.get hi
  have hf := fail_get (i := i) hm
  have hfi := fail_get (i := i) hx
  have hris : risingB (-1) (failL K i).members = true := (right_parts hr).2.2.2.2.1
  have hp : placeL (failL K i).members (idM K.members k) = k := by
    rw [hid]
    exact place_of (m := (m.1, m.2.1, if i = k then 1 else m.2.2)) hris hf
  have hl : (failL K i).members.length = K.members.length := fail_len _ _
  have hE : lostE (failL K i) (idM K.members k) = (if i = k then 9 else 5) := by
    rw [lostE, hp, if_neg (by omega), hr, show (failL K i).members[k]? = _ from hf]
    by_cases e : i = k
    · simp [e]
    · have hany : (failL K i).members.any (fun m => m.2.2 == 1) = true := List.any_eq_true.2 ⟨_, List.mem_of_getElem? hfi, by simp⟩
      simp [e, hs, hany]
  refine ⟨hE, ?_⟩
  rw [lostL, hE]
  by_cases e : i = k
  · rw [if_pos e]; rfl
  · rw [if_neg e]; rfl
theorem lost_33 (h : AllLive K) : lostE K 33 = 1 ∧ lostL K 33 = Lab.none_ := by
  have hE : lostE K 33 = 1 := by
    rw [lostE, if_pos]
    apply place_none
    intro m hm e
    have := (rising_all (by omega) h.rising m hm).1
    omega
  exact ⟨hE, by rw [lostL, hE]; rfl⟩
end
/-- Who is not there of T's Live members. -/
def goneL (l : List Lab) (T : Lab) : List Int := (T.members.filter (fun m => m.2.2 == 0 && !l.any (fun x => x.member == m.1))).map (fun m => m.1)
/-- Labels of one array, none newer than T, those as new as T as T: T counts. -/
theorem chosen_as {l : List Lab} {T : Lab} (hr : ∀ x ∈ l, rightB x = true ∧ x.array = T.array ∧ x.gen ≤ T.gen ∧ (x.gen = T.gen → alikeB x T = true)) (he : ∃ x ∈ l, x.gen = T.gen) :
    chosenE l = (if 1 < (goneL l T).length then 5 else 0) ∧ (1 < (goneL l T).length → chosenL l = Lab.none_ ∧ chosenM l = []) ∧ ((goneL l T).length ≤ 1 → chosenM l = goneL l T ∧ ∃ q, chosenL l = { T with member := q }) := by
  have hR : rightsL l = l := List.filter_eq_self.2 (fun x hx => (hr x hx).1)
  obtain ⟨x0, hx0, hg0⟩ := he
  have hne : l ≠ [] := by rintro rfl; cases hx0
  obtain ⟨n1, n2⟩ := new_spec hne
  have hgT : (newL l).gen = T.gen := by
    have := n2 x0 hx0
    have := (hr _ n1).2.2.1
    omega
  have hal := (hr _ n1).2.2.2 hgT
  obtain ⟨a1, a2, a3, a4⟩ := alike_iff.1 hal
  have hany : l.any (anotherB (newL l)) = false := by
    rw [List.any_eq_false]
    intro x hx
    simp only [anotherB, Bool.and_eq_true, decide_eq_true_eq, Bool.not_eq_true', not_and, Bool.not_eq_false]
    intro e
    exact alike_trans ((hr x hx).2.2.2 (by omega)) (alike_symm hal)
  have hM : missL l (newL l) = goneL l T := by
    have hp : (newL l).members.filter (missB l (newL l)) = T.members.filter (fun m => m.2.2 == 0 && !l.any (fun x => x.member == m.1)) := by
      rw [a4]
      apply List.filter_congr
      intro m _
      have h1 : l.any (ofItB (newL l) m.1) = l.any (fun x => x.member == m.1) := by
        rw [Bool.eq_iff_iff, List.any_eq_true, List.any_eq_true]
        constructor
        · rintro ⟨x, hx, e⟩
          simp only [ofItB, Bool.and_eq_true, decide_eq_true_eq] at e
          exact ⟨x, hx, by simpa using e.2⟩
        · rintro ⟨x, hx, e⟩
          refine ⟨x, hx, ?_⟩
          simp only [ofItB, Bool.and_eq_true, decide_eq_true_eq]
          exact ⟨by rw [(hr x hx).2.1, a1], by simpa using e⟩
      rw [missB, h1]
      rfl
    rw [missL, hp]
    rfl
  have hE : chosenE l = (if 1 < (goneL l T).length then 5 else 0) := by
    rw [chosenE, hR, if_neg hne, hany, hM]
    rfl
  refine ⟨hE, fun h => ?_, fun h => ?_⟩
  · rw [if_pos h] at hE
    rw [chosenL, chosenM, hE]
    exact ⟨rfl, rfl⟩
  · rw [if_neg (by omega)] at hE
    rw [chosenL, chosenM, hE, hR, hM]
    exact ⟨rfl, (newL l).member, Lab.same a1 a2 rfl a3 a4⟩
/-- The numbers of the members at the places below k that p names. -/
def atL (l : List Mb) (p : Nat → Bool) : Nat → List Int
  | 0 => []
  | k + 1 => if p k then atL l p k ++ [idM l k] else atL l p k
theorem filter_at {l : List Mb} {p : Nat → Bool} {q : Mb → Bool} (h : ∀ (k : Nat) (m : Mb), l[k]? = some m → q m = p k) : ∀ k, k ≤ l.length → ((l.take k).filter q).map (fun m => m.1) = atL l p k
  | 0, _ => by simp [atL]
  | k + 1, hk => by
    have hm : l[k]? = some l[k] := List.getElem?_eq_getElem (by omega)
    have hq := h k _ hm
    rw [List.take_succ_eq_append_getElem (by omega), List.filter_append, List.map_append, filter_at h k (by omega), atL, idM_at hm]
    by_cases hp : p k = true
    · rw [hp] at hq ⊢
      simp [hq]
    · rw [Bool.not_eq_true] at hp
      rw [hp] at hq ⊢
      simp [hq]
theorem gone_at {l : List Lab} {T : Lab} {p : Nat → Bool} (h : ∀ (k : Nat) (m : Mb), T.members[k]? = some m → (m.2.2 == 0 && !l.any (fun x => x.member == m.1)) = p k) : goneL l T = atL T.members p T.members.length := by
  rw [goneL, ← filter_at h T.members.length (Nat.le_refl _), List.take_of_length_le (Nat.le_refl _)]
theorem at_none {l : List Mb} {p : Nat → Bool} : ∀ {k : Nat}, (∀ i, i < k → p i = false) → atL l p k = []
  | 0, _ => rfl
  | k + 1, h => by rw [atL, h k (by omega), at_none (fun i hi => h i (by omega))]; rfl
theorem at_one {l : List Mb} {p : Nat → Bool} {j : Nat} : ∀ {k : Nat}, j < k → (∀ i, i < k → p i = (i == j)) → atL l p k = [idM l j]
  | 0, hj, _ => by omega
  | k + 1, hj, h => by
    rw [atL, h k (by omega)]
    by_cases e : k = j
    · subst e
      rw [at_none (fun i hi => by rw [h i (by omega)]; simp; omega)]
      simp
    · rw [at_one (by omega) (fun i hi => h i (by omega))]
      simp [e]
/-- A label told by another member. -/
def byL (K : Lab) (k : Nat) : Lab := { K with member := idM K.members k }
theorem by_right {K : Lab} (h : rightB K = true) {k : Nat} (hk : k < K.members.length) : rightB (byL K k) = true := by
  simp only [rightB, byL, Bool.and_eq_true] at h ⊢
  refine ⟨h.1, ?_⟩
  have hm : K.members[k]? = some K.members[k] := List.getElem?_eq_getElem hk
  exact List.any_eq_true.2 ⟨_, List.getElem_mem hk, by rw [idM_at hm]; simp⟩
theorem by_alike (K : Lab) (k : Nat) : alikeB (byL K k) K = true := alike_iff.2 ⟨rfl, rfl, rfl, rfl⟩
#print axioms chosen_as
#print axioms lost_again
end Go.Proofs.Ytjdfeidakmkchaa
