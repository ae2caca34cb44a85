/- Members of any sizes: what is held is what is taken, and how many that are. -/
import Derived.Test.YtfghnplbefefbaaDoorHeld
import Derived.Test.YtfghnplbefefbaaDoorExtD
namespace Go.Proofs.YtfghnplbefefbaaDoor
open Go.RowKit

/-- How many are taken of the members below m. -/
def sumT (S : Ext) : Nat → Nat
  | 0 => 0
  | m + 1 => sumT S m + cnt (S.t m) (S.n m)
theorem tot_le (S : Ext) (hn : ∀ d, S.n d ≤ 1000) : ∀ m, sumT S m ≤ 1000 * m
  | 0 => Nat.le_refl _
  | m + 1 => by
    have h1 := tot_le S hn m
    have h2 := cnt_le (S.t m) (S.n m)
    have h3 := hn m
    rw [sumT]
    omega
theorem tot_set_out (S : Ext) {d : Nat} (t : Nat → Bool) : ∀ {m : Nat}, m ≤ d → sumT (S.setT d t) m = sumT S m
  | 0, _ => rfl
  | m + 1, h => by
    rw [sumT, sumT, tot_set_out S t (m := m) (by omega), setT_ne S t (show m ≠ d by omega)]
    rfl
theorem tot_set (S : Ext) {d : Nat} (t : Nat → Bool) : ∀ {m : Nat}, d < m → sumT (S.setT d t) m + cnt (S.t d) (S.n d) = sumT S m + cnt t (S.n d)
  | 0, h => by omega
  | m + 1, h => by
    rw [sumT, sumT]
    by_cases e : d = m
    · subst e
      rw [tot_set_out S t (Nat.le_refl _), setT_t]
      show sumT S d + cnt t (S.n d) + _ = _
      omega
    · have := tot_set S (d := d) t (m := m) (by omega)
      rw [setT_ne S t (fun h => e h.symm)]
      show sumT (S.setT d t) m + cnt (S.t m) (S.n m) + _ = _
      omega
/-- The members 0, 1, .. of the sizes L; what is held is what is taken. -/
structure InvA (S : Ext) (L : List Nat) (l : List (Nat × Nat)) : Prop where
  ks : S.ks = List.range L.length
  n : ∀ (d N : Nat), L[d]? = some N → S.n d = countZ (N : Int)
  nodup : l.Nodup
  mem : ∀ d k, (d, k) ∈ l ↔ d < L.length ∧ k < S.n d ∧ S.t d k = true
  tot : sumT S L.length = l.length
theorem InvA.none_ : InvA Ext.none_ [] [] := ⟨rfl, fun d N h => by simp at h, List.nodup_nil, fun d k => by simp, rfl⟩
section
variable {S : Ext} {L : List Nat} {l : List (Nat × Nat)}
theorem InvA.in_ (h : InvA S L l) {d : Nat} (hd : d < L.length) : d ∈ S.ks := by rw [h.ks]; exact List.mem_range.2 hd
theorem InvA.out_ (h : InvA S L l) {d : Nat} (hd : L.length ≤ d) : d ∉ S.ks := by rw [h.ks, List.mem_range]; omega
theorem InvA.add (h : InvA S L []) (N : Nat) : InvA (S.add L.length (countZ (N : Int))) (L ++ [N]) [] := by
  have ht : sumT (S.add L.length (countZ (N : Int))) L.length = sumT S L.length := by
    have : ∀ m, m ≤ L.length → sumT (S.add L.length (countZ (N : Int))) m = sumT S m := by
      intro m
      induction m with
      | zero => intro _; rfl
      | succ m ih =>
        intro hm
        rw [sumT, sumT, ih (by omega)]
        have e1 : (S.add L.length (countZ (N : Int))).t m = S.t m := upd_ne _ _ (by omega)
        have e2 : (S.add L.length (countZ (N : Int))).n m = S.n m := upd_ne _ _ (by omega)
        rw [e1, e2]
    exact this _ (Nat.le_refl _)
  refine ⟨?_, fun d M hM => ?_, List.nodup_nil, fun d k => ?_, ?_⟩
  · show S.ks ++ [L.length] = _
    rw [h.ks, List.length_append, List.length_singleton, List.range_succ]
  · show upd S.n L.length (countZ (N : Int)) d = _
    by_cases e : d = L.length
    · subst e
      rw [upd_self]
      simp at hM
      rw [hM]
    · rw [upd_ne _ _ e]
      refine h.n d M ?_
      have hlt : d < (L ++ [N]).length := (List.getElem?_eq_some_iff.1 hM).1
      rw [List.length_append, List.length_singleton] at hlt
      rwa [List.getElem?_append_left (by omega)] at hM
  · constructor
    · intro hm; cases hm
    · rintro ⟨h1, h2, h3⟩
      rw [List.length_append, List.length_singleton] at h1
      have h3' : upd S.t L.length (fun _ => false) d k = true := h3
      have h2' : k < upd S.n L.length (countZ (N : Int)) d := h2
      by_cases e : d = L.length
      · subst e
        rw [upd_self] at h3'
        cases h3'
      · rw [upd_ne _ _ e] at h3' h2'
        exact (h.mem d k).2 ⟨by omega, h2', h3'⟩
  · rw [List.length_append, List.length_singleton]
    show sumT _ L.length + cnt ((S.add L.length (countZ (N : Int))).t L.length) _ = _
    rw [ht, h.tot, add_t, cnt_zero fun _ _ => rfl]
    rfl
theorem InvA.less (h : InvA S L l) {k : Nat} {x : Nat × Nat} (hx : l[k]? = some x) : InvA (S.setT x.1 (put (S.t x.1) x.2 false)) L (l.eraseIdx k) := by
  obtain ⟨h1, h2⟩ := less_mem h.nodup hx
  have hk : k < l.length := (List.getElem?_eq_some_iff.1 hx).1
  obtain ⟨g1, g2, g3⟩ := (h.mem x.1 x.2).1 (List.mem_iff_getElem?.2 ⟨k, hx⟩)
  refine ⟨h.ks, h.n, h1, fun d j => ?_, ?_⟩
  · rw [h2, h.mem]
    show _ ↔ d < L.length ∧ j < S.n d ∧ upd S.t x.1 (put (S.t x.1) x.2 false) d j = true
    by_cases e : d = x.1
    · subst e
      rw [upd_self]
      by_cases e2 : j = x.2
      · subst e2
        rw [put_self]
        constructor
        · rintro ⟨_, hne⟩; exact absurd rfl hne
        · rintro ⟨_, _, h3⟩; cases h3
      · rw [put_ne _ _ e2]
        constructor
        · rintro ⟨h3, _⟩; exact h3
        · intro h3
          exact ⟨h3, fun e => e2 (by rw [← e])⟩
    · rw [upd_ne _ _ e]
      constructor
      · rintro ⟨h3, _⟩; exact h3
      · intro h3
        exact ⟨h3, fun e3 => e (by rw [← e3])⟩
  · have ht := tot_set S (put (S.t x.1) x.2 false) g1
    have hc := cnt_less g2 g3
    have h0 := h.tot
    rw [List.length_eraseIdx, if_pos hk]
    omega
theorem InvA.more (h : InvA S L l) {d k : Nat} (hd : d < L.length) (hk : k < S.n d) (ht : S.t d k = false) : InvA (S.setT d (put (S.t d) k true)) L (l ++ [(d, k)]) ∧ (d, k) ∉ l := by
  have hno : (d, k) ∉ l := fun hm => by
    have := ((h.mem d k).1 hm).2.2
    rw [ht] at this
    cases this
  refine ⟨⟨h.ks, h.n, ?_, fun e j => ?_, ?_⟩, hno⟩
  · refine List.nodup_append.2 ⟨h.nodup, by simp, fun a ha b hb e => ?_⟩
    simp at hb
    subst hb
    subst e
    exact hno ha
  · rw [List.mem_append, List.mem_singleton, h.mem]
    show _ ↔ e < L.length ∧ j < S.n e ∧ upd S.t d (put (S.t d) k true) e j = true
    by_cases he : e = d
    · subst he
      rw [upd_self]
      by_cases hj : j = k
      · subst hj
        rw [put_self]
        constructor
        · intro _; exact ⟨hd, hk, rfl⟩
        · intro _; exact .inr rfl
      · rw [put_ne _ _ hj]
        constructor
        · rintro (h3 | h3)
          · exact h3
          · injection h3 with _ h3; exact absurd h3 hj
        · intro h3; exact .inl h3
    · rw [upd_ne _ _ he]
      constructor
      · rintro (h3 | h3)
        · exact h3
        · injection h3 with h3; exact absurd h3 he
      · intro h3; exact .inl h3
  · have h1 := tot_set S (put (S.t d) k true) hd
    have h2 := cnt_more hk ht
    have h0 := h.tot
    rw [List.length_append, List.length_singleton]
    omega
theorem InvA.free (h : InvA S L l) {k : Nat} {x : Nat × Nat} (hx : l[k]? = some x) : x.1 < L.length ∧ x.2 < S.n x.1 ∧ findE S (x.1 : Int) (114 + 8 * (x.2 : Int)) true = 0 ∧ S.poke (x.1 : Int) (114 + 8 * (x.2 : Int)) false = S.setT x.1 (put (S.t x.1) x.2 false) ∧
    findE (S.setT x.1 (put (S.t x.1) x.2 false)) (x.1 : Int) (114 + 8 * (x.2 : Int)) true = 9 ∧ (S.setT x.1 (put (S.t x.1) x.2 false)).poke (x.1 : Int) (114 + 8 * (x.2 : Int)) false = S.setT x.1 (put (S.t x.1) x.2 false) := by
  obtain ⟨h1, h2, h3⟩ := (h.mem x.1 x.2).1 (List.mem_iff_getElem?.2 ⟨k, hx⟩)
  have hi := h.in_ h1
  have ho : oneB (S.n x.1) (114 + 8 * (x.2 : Int)) = true := by rw [oneB_place]; simpa using h2
  have h9 : findE (S.setT x.1 (put (S.t x.1) x.2 false)) (x.1 : Int) (114 + 8 * (x.2 : Int)) true = 9 := findE_not (S := S.setT x.1 (put (S.t x.1) x.2 false)) hi ho (by rw [setT_t, idxI_place, put_self]; rfl)
  refine ⟨h1, h2, findE_ok hi ho (by rw [idxI_place]; exact h3), ?_, h9, poke_no (by rw [show (!false) = true from rfl, h9]; decide)⟩
  rw [poke_yes hi ho (by rw [idxI_place]; exact h3), idxI_place]
/-- What Take has told is in the map, and not taken once more. -/
theorem InvA.took (h : InvA S L l) {d k : Nat} (hd : d < L.length) (hk : k < S.n d) : findE (S.setT d (put (S.t d) k true)) (d : Int) (114 + 8 * (k : Int)) true = 0 ∧ findE (S.setT d (put (S.t d) k true)) (d : Int) (114 + 8 * (k : Int)) false = 9 ∧
    (S.setT d (put (S.t d) k true)).poke (d : Int) (114 + 8 * (k : Int)) true = S.setT d (put (S.t d) k true) := by
  have hi := h.in_ hd
  have ho : oneB (S.n d) (114 + 8 * (k : Int)) = true := by rw [oneB_place]; simpa using hk
  have h9 : findE (S.setT d (put (S.t d) k true)) (d : Int) (114 + 8 * (k : Int)) false = 9 := findE_not (S := S.setT d (put (S.t d) k true)) hi ho (by rw [setT_t, idxI_place, put_self]; rfl)
  exact ⟨findE_ok (S := S.setT d (put (S.t d) k true)) hi ho (by rw [setT_t, idxI_place, put_self]), h9, poke_no (by rw [show (!true) = false from rfl, h9]; decide)⟩
end
/-- Where not all are taken, there is a least one that is free. -/
theorem least_free (t : Nat → Bool) : ∀ n, cnt t n < n → ∃ k, k < n ∧ t k = false ∧ ∀ i, i < k → t i = true
  | 0, h => by omega
  | n + 1, h => by
    have hle := cnt_le t n
    rcases Nat.lt_or_ge (cnt t n) n with hlt | hge
    · obtain ⟨k, h1, h2, h3⟩ := least_free t n hlt
      exact ⟨k, by omega, h2, h3⟩
    · have hf : cnt t n = n := by omega
      refine ⟨n, by omega, ?_, fun i hi => cnt_full hf i hi⟩
      rw [cnt, hf] at h
      cases hb : t n with
      | false => rfl
      | true => rw [hb] at h; simp at h
theorem mask2 (M : Nat) : bits .and .i64 (M : Int) 3 = ((M % 4 : Nat) : Int) := by
  have h := i64_mask (M : Int) 2 (by decide)
  have e : (3 : Int) = 2 ^ 2 - 1 := by decide
  rw [e, h]
  have e2 : (2 : Int) ^ 2 = 4 := by decide
  rw [e2]
  omega
#print axioms InvA.more
#print axioms least_free
end Go.Proofs.YtfghnplbefefbaaDoor
