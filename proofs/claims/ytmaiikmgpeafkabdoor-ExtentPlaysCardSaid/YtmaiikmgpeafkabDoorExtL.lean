/- The calls of extent, of a map that lies in the blocks of F: each answers, and turns nothing but F. -/
import Derived.Test.YtmaiikmgpeafkabDoorMask6
import Derived.Test.YtmaiikmgpeafkabDoorBools
namespace Go.Proofs.YtmaiikmgpeafkabDoor
open Go.RowKit

section
variable {w : World} {b : Nat} {F : Nat → Prop} {S : Ext}
theorem on_has (h : ExtOn w b F S) (d p : Int) (h1 : -9223372036854775808 ≤ p) (h2 : p < 9223372036854775808) (g1 : -9223372036854775808 ≤ d) (g2 : d < 9223372036854775808) :
    Calls Tryd.prog 22 #[.pointer (some ⟨b, 0, none⟩), .agg #[.int .i64 d, .int .i64 p]] w fun e w' => e = .returned (.bool (decide (findE S d p true = 0))) ∧ ExtOn w' b F S ∧ Turn F w w' := by
  obtain ⟨k1, hok, x, q, hin, hfoot⟩ := h
  exact (has_any hin hok d p h1 h2 g1 g2).mono fun e w' ⟨m1, m2⟩ => ⟨m1, ⟨fun y hy => ⟨(k1 y hy).1, Nat.lt_of_lt_of_le (k1 y hy).2 m2.size⟩, hok, x, q, hin.later m2, hfoot⟩, Turn.of_below m2⟩
theorem poke_ok (hok : S.Ok) (d p : Int) (v : Bool) : (S.poke d p v).Ok := by
  unfold Ext.poke
  split
  · exact hok.setT _ _
  · exact hok
theorem poke_foot {x : Nat} {q : Nat → Nat} (d p : Int) (v : Bool) (hf : ∀ y, EFoot b x q S y → F y) : ∀ y, EFoot b x q (S.poke d p v) y → F y := by
  unfold Ext.poke
  split
  · exact hf
  · exact hf
theorem on_takeAt (h : ExtOn w b F S) (d p : Int) (h1 : -9223372036854775808 ≤ p) (h2 : p < 9223372036854775808) (g1 : -9223372036854775808 ≤ d) (g2 : d < 9223372036854775808) :
    Calls Tryd.prog 18 #[.pointer (some ⟨b, 0, none⟩), .agg #[.int .i64 d, .int .i64 p]] w fun e w' => e = .returned (.int .i64 (findE S d p false)) ∧ ExtOn w' b F (S.poke d p true) ∧ Turn F w w' := by
  obtain ⟨k1, hok, x, q, hin, hfoot⟩ := h
  exact (extTakeAt_any hin hok d p h1 h2 g1 g2).mono fun e w' ⟨m1, m2, m3⟩ => ⟨m1, ⟨fun y hy => ⟨(k1 y hy).1, Nat.lt_of_lt_of_le (k1 y hy).2 m3.size⟩, poke_ok hok _ _ _, x, q, m2, poke_foot _ _ _ hfoot⟩, m3.wider hfoot⟩
theorem on_free (h : ExtOn w b F S) (d p : Int) (h1 : -9223372036854775808 ≤ p) (h2 : p < 9223372036854775808) (g1 : -9223372036854775808 ≤ d) (g2 : d < 9223372036854775808) :
    Calls Tryd.prog 20 #[.pointer (some ⟨b, 0, none⟩), .agg #[.int .i64 d, .int .i64 p]] w fun e w' => e = .returned (.int .i64 (findE S d p true)) ∧ ExtOn w' b F (S.poke d p false) ∧ Turn F w w' := by
  obtain ⟨k1, hok, x, q, hin, hfoot⟩ := h
  exact (extFree_any hin hok d p h1 h2 g1 g2).mono fun e w' ⟨m1, m2, m3⟩ => ⟨m1, ⟨fun y hy => ⟨(k1 y hy).1, Nat.lt_of_lt_of_le (k1 y hy).2 m3.size⟩, poke_ok hok _ _ _, x, q, m2, poke_foot _ _ _ hfoot⟩, m3.wider hfoot⟩
theorem on_used' (h : ExtOn w b F S) (d : Int) (g1 : -9223372036854775808 ≤ d) (g2 : d < 9223372036854775808) :
    Calls Tryd.prog 27 #[.pointer (some ⟨b, 0, none⟩), .int .i64 d] w fun e w' => e = .returned (.int .i64 ((usedE S d : Nat) : Int)) ∧ ExtOn w' b F S ∧ Turn F w w' :=
  (on_used h d g1 g2).mono fun e w' ⟨m1, m2⟩ => by subst m2; exact ⟨m1, h, Turn.refl _ _⟩
theorem on_room' (h : ExtOn w b F S) (d : Int) (g1 : -9223372036854775808 ≤ d) (g2 : d < 9223372036854775808) :
    Calls Tryd.prog 29 #[.pointer (some ⟨b, 0, none⟩), .int .i64 d] w fun e w' => e = .returned (.int .i64 ((roomE S d : Nat) : Int)) ∧ ExtOn w' b F S ∧ Turn F w w' :=
  (on_room h d g1 g2).mono fun e w' ⟨m1, m2⟩ => by subst m2; exact ⟨m1, h, Turn.refl _ _⟩
end

/-! ### What the answers are -/
section
variable {S : Ext} {m : Nat} {p : Int} {v : Bool}
theorem findE_out {d : Int} (h : inE S d = false) : findE S d p v = 8 := by unfold findE; rw [h]; rfl
theorem findE_notOne (hm : m ∈ S.ks) (ho : oneB (S.n m) p = false) : findE S (m : Int) p v = 1 := by unfold findE; rw [if_pos (inE_of hm), Int.toNat_natCast, ho]; rfl
theorem findE_ok (hm : m ∈ S.ks) (ho : oneB (S.n m) p = true) (ht : S.t m (idxI p) = v) : findE S (m : Int) p v = 0 := by unfold findE; rw [if_pos (inE_of hm), Int.toNat_natCast, if_pos ho, if_pos ht]
theorem findE_not (hm : m ∈ S.ks) (ho : oneB (S.n m) p = true) (ht : S.t m (idxI p) = !v) : findE S (m : Int) p v = 9 := by unfold findE; rw [if_pos (inE_of hm), Int.toNat_natCast, if_pos ho, if_neg (by rw [ht]; cases v <;> decide)]
theorem poke_no {d : Int} (h : findE S d p (!v) ≠ 0) : S.poke d p v = S := by unfold Ext.poke; exact if_neg h
theorem poke_yes (hm : m ∈ S.ks) (ho : oneB (S.n m) p = true) (ht : S.t m (idxI p) = !v) : S.poke (m : Int) p v = S.setT m (put (S.t m) (idxI p) v) := by
  unfold Ext.poke
  rw [if_pos (findE_ok hm ho ht)]
  rfl
theorem oneB_place {n i : Nat} : oneB n (114 + 8 * (i : Int)) = decide (i < n) := by unfold oneB; rw [okI_place, idxI_place]; rfl
theorem oneB_iff {n : Nat} {p : Int} : oneB n p = true ↔ ∃ i : Nat, i < n ∧ p = 114 + 8 * (i : Int) := by
  constructor
  · intro h
    obtain ⟨h1, h2⟩ := oneB_parts h
    exact ⟨idxI p, h2, okI_at h1⟩
  · rintro ⟨i, hi, rfl⟩
    rw [oneB_place]
    simpa using hi
end
/-- A map with one member, all of it free. -/
theorem add_ks (S : Ext) (d n : Nat) : d ∈ (S.add d n).ks := by simp [Ext.add]
theorem add_n (S : Ext) (d n : Nat) : (S.add d n).n d = n := upd_self _ _ _
theorem add_t (S : Ext) (d n : Nat) : (S.add d n).t d = fun _ => false := upd_self _ _ _
theorem add_more {S : Ext} {d : Nat} {s : Int} (h0 : 0 ≤ s) (h1 : s ≤ 4096) (hd : d ∉ S.ks) : addE S (d : Int) s = 0 ∧ S.more (d : Int) s = S.add d (countZ s) := by
  have e : addE S (d : Int) s = 0 := by
    unfold addE
    rw [if_neg (by omega)]
    have : inE S (d : Int) = false := by simp [inE, hd]
    rw [this]
    rfl
  refine ⟨e, ?_⟩
  unfold Ext.more
  rw [if_pos e]
  rfl
theorem own_turned {w w' : World} {F : Nat → Prop} {base : Nat} {e : TypeId} {size : Nat} {v : Value} {n : Nat} {xs : List Value} (h : w.ownsRow base e size v n xs) (hu : Turn F w w') (hF : ∀ g, v.ownBlock = some g → ¬ F g) : w'.ownsRow base e size v n xs := by
  refine ⟨h.1, ?_⟩
  rcases h.2 with ⟨h1, h2⟩ | ⟨g, cap, cur, rfl, hb, hh, hr⟩
  · exact .inl ⟨h1, h2⟩
  · exact .inr ⟨g, cap, cur, rfl, hb, (hu.block g (Array.getElem?_eq_some_iff.1 hh).1 (hF g rfl)).trans hh, hr⟩
theorem upd_upd {α : Type} (f : Nat → α) (k : Nat) (u v : α) : upd (upd f k u) k v = upd f k v := by
  funext j
  by_cases e : j = k <;> simp [upd, e]
/-- A map with one member, number d, of q extents, of which t are taken. -/
def One (d q : Nat) (t : Nat → Bool) : Ext := (Ext.none_.add d q).setT d t
theorem One_ks (d q : Nat) (t : Nat → Bool) : (One d q t).ks = [d] := rfl
theorem One_in (d q : Nat) (t : Nat → Bool) : d ∈ (One d q t).ks := by simp [One_ks]
theorem One_n (d q : Nat) (t : Nat → Bool) : (One d q t).n d = q := upd_self _ _ _
theorem One_t (d q : Nat) (t : Nat → Bool) : (One d q t).t d = t := upd_self _ _ _
theorem One_set (d q : Nat) (t u : Nat → Bool) : (One d q t).setT d u = One d q u := by
  unfold One Ext.setT
  simp only [upd_upd]
theorem One_new (d q : Nat) : Ext.none_.add d q = One d q (fun _ => false) := by
  unfold One Ext.setT
  have : upd (Ext.none_.add d q).t d (fun _ => false) = (Ext.none_.add d q).t := by
    funext j
    by_cases e : j = d
    · subst e; rw [upd_self, add_t]
    · rw [upd_ne _ _ e]
  rw [this]
theorem One_take {d q k : Nat} {t : Nat → Bool} (hk : k < q) : findE (One d q t) (d : Int) (114 + 8 * (k : Int)) false = (if t k then 9 else 0) ∧ (One d q t).poke (d : Int) (114 + 8 * (k : Int)) true = One d q (put t k true) := by
  have ho : oneB ((One d q t).n d) (114 + 8 * (k : Int)) = true := by rw [One_n, oneB_place]; simpa using hk
  have hi := One_in d q t
  cases h : t k with
  | true =>
    have hf : findE (One d q t) (d : Int) (114 + 8 * (k : Int)) false = 9 := findE_not hi ho (by rw [One_t, idxI_place, h]; rfl)
    refine ⟨hf, ?_⟩
    rw [poke_no (by rw [show (!true) = false from rfl, hf]; decide), put_same h]
  | false =>
    have hf : findE (One d q t) (d : Int) (114 + 8 * (k : Int)) false = 0 := findE_ok hi ho (by rw [One_t, idxI_place, h])
    refine ⟨hf, ?_⟩
    rw [poke_yes hi ho (by rw [One_t, idxI_place, h]; rfl), One_set, One_t, idxI_place]
#print axioms on_free
end Go.Proofs.YtmaiikmgpeafkabDoor
