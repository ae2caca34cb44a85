/- A journal on some members, what a bank does to it, a log of it: by definition alone. -/
import Derived.Test.YtmjdndhpnckeeaaRecP
import Derived.Test.YtmjdndhpnckeeaaPure
namespace Go.Proofs.Ytmjdndhpnckeeaa
open Go.RowKit
/-- What a member has at each place of its journal. -/
abbrev View := Nat → List UInt8
/-- The first of the members' sectors at a place that is as wanted. -/
def hit (V : List View) (p : List UInt8 → Bool) (at_ : Nat) : Option (List UInt8) := (V.map (fun v => v at_)).find? p
/-- Is a sector the first part of this record? -/
def firstT (gen nr : Int) (s : List UInt8) : Bool := partB s && decide ((readT s).gen = gen ∧ (readT s).nr = nr ∧ (readT s).part = 0)
/-- The record of this number that begins at this place, if it is there; and of how many sectors. -/
def recAt (V : List View) (gen nr : Int) (at_ : Nat) : Option (List UInt8 × Nat) :=
  match hit V (firstT gen nr) at_ with
  | none => none
  | some s =>
    let N := (readT s).parts.toNat
    if 48 < at_ + N then none else
    if (List.range N).all (fun i => (hit V (okT gen nr N i) (at_ + i)).isSome) then
      some (cat (fun i => match hit V (okT gen nr N i) (at_ + i) with | some x => contT x (readT x) | none => []) N, N)
    else none
/-- All records that are there, and how many sectors they take. -/
def scanL (V : List View) (gen : Int) : Nat → Nat → Nat → List (List UInt8) × Nat
  | 0, _, at_ => ([], at_)
  | f + 1, nr, at_ =>
    match recAt V gen (nr : Nat) at_ with
    | none => ([], at_)
    | some (r, N) => let x := scanL V gen f (nr + 1) (at_ + N); (r :: x.1, x.2)
/-- How many sectors some records take. -/
def usedL (R : List (List UInt8)) : Nat := (R.map fun r => partsN r.length).sum
theorem usedL_nil : usedL [] = 0 := rfl
theorem usedL_cons (r : List UInt8) (R : List (List UInt8)) : usedL (r :: R) = partsN r.length + usedL R := by simp [usedL]
theorem usedL_append (R Q : List (List UInt8)) : usedL (R ++ Q) = usedL R + usedL Q := by simp [usedL, List.sum_append]
/-- A sector is no part of this record. -/
def Foreign (gen nr : Int) (s : List UInt8) : Prop := partB s = false ∨ ¬ ((readT s).gen = gen ∧ (readT s).nr = nr)
/-- Record r, number nr, lies on the members from this place on: each of its parts on one of them at least, and where it is not there is nothing of it. -/
def Lies (V : List View) (gen nr : Int) (at_ : Nat) (r : List UInt8) : Prop :=
  ∀ i, i < partsN r.length → (∃ v ∈ V, v (at_ + i) = pieceS gen nr r i) ∧ ∀ v ∈ V, v (at_ + i) = pieceS gen nr r i ∨ Foreign gen nr (v (at_ + i))
/-- The records of a journal lie one behind the other. -/
def LieAll (V : List View) (gen : Int) : Nat → Nat → List (List UInt8) → Prop
  | _, _, [] => True
  | nr, at_, r :: R => r.length ≤ 2120 ∧ Lies V gen (nr : Nat) at_ r ∧ LieAll V gen (nr + 1) (at_ + partsN r.length) R

theorem find_of {l : List (List UInt8)} {p : List UInt8 → Bool} {s : List UInt8} (h1 : s ∈ l) (hp : p s = true) (h2 : ∀ x ∈ l, x = s ∨ p x = false) : l.find? p = some s := by
  induction l with
  | nil => cases h1
  | cons x l ih =>
    rw [List.find?_cons]
    rcases h2 x (by simp) with rfl | hx
    · rw [hp]
    · rw [hx]
      rcases List.mem_cons.1 h1 with rfl | h1
      · rw [hp] at hx; cases hx
      · exact ih h1 (fun y hy => h2 y (by simp [hy]))
theorem find_no {l : List (List UInt8)} {p : List UInt8 → Bool} (h : ∀ x ∈ l, p x = false) : l.find? p = none := by
  rw [List.find?_eq_none]
  intro x hx
  rw [h x hx]
  decide
theorem first_foreign {gen nr : Int} {s : List UInt8} (h : Foreign gen nr s) : firstT gen nr s = false := by
  rcases h with h | h
  · rw [firstT, h]; rfl
  · rw [firstT, decide_eq_false (fun x => h ⟨x.1, x.2.1⟩), Bool.and_false]
theorem ok_foreign {gen nr : Int} {n i : Nat} {s : List UInt8} (h : Foreign gen nr s) : okT gen nr n i s = false := by
  rcases h with h | h
  · rw [okT, h]; rfl
  · rw [okT, decide_eq_false (fun x => h ⟨x.1, x.2.1⟩), Bool.and_false]
theorem first_piece {gen nr : Int} {r : List UInt8} (hg : numB gen = true) (hn : numB nr = true) (h : 0 < partsN r.length) : firstT gen nr (pieceS gen nr r 0) = true := by
  rw [firstT, piece_part hg hn h, piece_read hg hn h]
  simp [pieceT]
theorem ok_piece {gen nr : Int} {r : List UInt8} {i : Nat} (hg : numB gen = true) (hn : numB nr = true) (h : i < partsN r.length) : okT gen nr (partsN r.length) i (pieceS gen nr r i) = true := by
  rw [okT, piece_part hg hn h, piece_read hg hn h]
  simp [pieceT]
theorem Lies.hit_first {V : List View} {gen nr : Int} {at_ : Nat} {r : List UInt8} (h : Lies V gen nr at_ r) (hg : numB gen = true) (hn : numB nr = true) (h0 : 0 < partsN r.length) : hit V (firstT gen nr) at_ = some (pieceS gen nr r 0) := by
  obtain ⟨⟨v, hv, he⟩, h2⟩ := h 0 h0
  rw [Nat.add_zero] at he h2
  refine find_of (List.mem_map.2 ⟨v, hv, he⟩) (first_piece hg hn h0) (fun x hx => ?_)
  obtain ⟨u, hu, rfl⟩ := List.mem_map.1 hx
  rcases h2 u hu with h3 | h3
  · exact .inl h3
  · exact .inr (first_foreign h3)
theorem Lies.hit_part {V : List View} {gen nr : Int} {at_ i : Nat} {r : List UInt8} (h : Lies V gen nr at_ r) (hg : numB gen = true) (hn : numB nr = true) (hi : i < partsN r.length) : hit V (okT gen nr (partsN r.length) i) (at_ + i) = some (pieceS gen nr r i) := by
  obtain ⟨⟨v, hv, he⟩, h2⟩ := h i hi
  refine find_of (List.mem_map.2 ⟨v, hv, he⟩) (ok_piece hg hn hi) (fun x hx => ?_)
  obtain ⟨u, hu, rfl⟩ := List.mem_map.1 hx
  rcases h2 u hu with h3 | h3
  · exact .inl h3
  · exact .inr (ok_foreign h3)
/-- A record that lies there is told. -/
theorem Lies.told {V : List View} {gen nr : Int} {at_ : Nat} {r : List UInt8} (h : Lies V gen nr at_ r) (hg : numB gen = true) (hn : numB nr = true) (hr : r.length ≤ 2120) (hroom : at_ + partsN r.length ≤ 48) : recAt V gen nr at_ = some (r, partsN r.length) := by
  have h0 := (partsN_is hr).1
  have hp : (readT (pieceS gen nr r 0)).parts.toNat = partsN r.length := by rw [piece_read hg hn (by omega)]; simp [pieceT]
  unfold recAt
  rw [h.hit_first hg hn (by omega)]
  simp only [hp]
  rw [if_neg (by omega), if_pos]
  · congr 2
    refine Eq.trans (cat_congr (fun i hi => ?_)) (cat_held_all hr)
    rw [h.hit_part hg hn hi]
    exact piece_cont hg hn hi
  · rw [List.all_eq_true]
    intro i hi
    rw [h.hit_part hg hn (List.mem_range.1 hi)]
    rfl
/-- The records that lie there are told, up to the first that is not there. -/
theorem scan_told {V : List View} {gen : Int} (hg : numB gen = true) : ∀ (R : List (List UInt8)) (nr at_ f : Nat), nr + R.length ≤ 4294967295 → LieAll V gen nr at_ R → at_ + usedL R ≤ 48 →
    recAt V gen ((nr + R.length : Nat) : Int) (at_ + usedL R) = none → R.length ≤ f → scanL V gen f nr at_ = (R, at_ + usedL R)
  | [], nr, at_, f, _, _, _, hnone, _ => by
    rw [usedL_nil, Nat.add_zero] at hnone ⊢
    cases f with
    | zero => rfl
    | succ f =>
      simp only [List.length_nil, Nat.add_zero] at hnone
      rw [scanL, hnone]
  | r :: R, nr, at_, f, hnr, hl, hu, hnone, hf => by
    rw [usedL_cons] at hu hnone ⊢
    rw [List.length_cons] at hnr hnone hf
    obtain ⟨f, rfl⟩ : ∃ g, f = g + 1 := ⟨f - 1, by omega⟩
    obtain ⟨h1, h2, h3⟩ := hl
    have ih := scan_told hg R (nr + 1) (at_ + partsN r.length) f (by omega) h3 (by omega) (by rw [show nr + 1 + R.length = nr + (R.length + 1) by omega, show at_ + partsN r.length + usedL R = at_ + (partsN r.length + usedL R) by omega]; exact hnone) (by omega)
    rw [scanL, h2.told hg (numB_iff.2 ⟨by omega, by omega⟩) h1 (by omega)]
    simp only [ih]
    rw [show at_ + partsN r.length + usedL R = at_ + (partsN r.length + usedL R) by omega]
/-- Nothing of a record is there. -/
theorem rec_none {V : List View} {gen nr : Int} {at_ : Nat} (h : ∀ v ∈ V, Foreign gen nr (v at_)) : recAt V gen nr at_ = none := by
  have e : hit V (firstT gen nr) at_ = none := find_no (fun x hx => by
    obtain ⟨v, hv, rfl⟩ := List.mem_map.1 hx
    exact first_foreign (h v hv))
  unfold recAt
  rw [e]
/-- Behind the last sector there is no record. -/
theorem rec_full {V : List View} {gen nr : Int} : recAt V gen nr 48 = none := by
  unfold recAt
  split
  · rfl
  · rename_i s hs
    have h1 := List.find?_some hs
    have h2 : 0 < (readT s).parts.toNat := by
      unfold firstT at h1
      simp only [Bool.and_eq_true, decide_eq_true_eq] at h1
      have h3 := (right_iff _).1 (part_right h1.1)
      have h4 := (readT_ok s).p0
      omega
    simp only
    rw [if_pos (by omega)]
/-- A record of which a part is on no member is not there. -/
theorem rec_torn {V : List View} {gen nr : Int} {at_ i : Nat} {r : List UInt8} (hg : numB gen = true) (hn : numB nr = true) (hr : r.length ≤ 2120) (hi : i < partsN r.length) (hV : ∀ j, j < partsN r.length → ∀ v ∈ V, v (at_ + j) = pieceS gen nr r j ∨ Foreign gen nr (v (at_ + j)))
    (hno : ∀ v ∈ V, Foreign gen nr (v (at_ + i))) : recAt V gen nr at_ = none := by
  have h0 := (partsN_is hr).1
  unfold recAt
  split
  · rfl
  · rename_i s hs
    have h1 := List.find?_some hs
    have h2 := List.mem_of_find?_eq_some hs
    obtain ⟨v, hv, hvs⟩ := List.mem_map.1 h2
    have h3 : s = pieceS gen nr r 0 := by
      rcases hV 0 (by omega) v hv with h4 | h4
      · rw [Nat.add_zero, hvs] at h4; exact h4
      · rw [Nat.add_zero, hvs] at h4
        rw [first_foreign h4] at h1
        cases h1
    have hp : (readT s).parts.toNat = partsN r.length := by rw [h3, piece_read hg hn (by omega)]; simp [pieceT]
    simp only [hp]
    split
    · rfl
    · rw [if_neg]
      rw [List.all_eq_true]
      intro hall
      have h5 := hall i (List.mem_range.2 hi)
      have h6 : hit V (okT gen nr (partsN r.length) i) (at_ + i) = none := find_no (fun x hx => by
        obtain ⟨u, hu, rfl⟩ := List.mem_map.1 hx
        exact ok_foreign (hno u hu))
      rw [h6] at h5
      cases h5
/-- A record that is under way is there, or not. -/
theorem rec_either {V : List View} {gen nr : Int} {at_ : Nat} {r : List UInt8} (hg : numB gen = true) (hn : numB nr = true) (hr : r.length ≤ 2120) (hroom : at_ + partsN r.length ≤ 48) (hV : ∀ j, j < partsN r.length → ∀ v ∈ V, v (at_ + j) = pieceS gen nr r j ∨ Foreign gen nr (v (at_ + j))) :
    recAt V gen nr at_ = none ∨ (Lies V gen nr at_ r ∧ recAt V gen nr at_ = some (r, partsN r.length)) := by
  by_cases h : ∃ i, i < partsN r.length ∧ ∀ v ∈ V, Foreign gen nr (v (at_ + i))
  · obtain ⟨i, hi, hf⟩ := h
    exact .inl (rec_torn hg hn hr hi hV hf)
  · have hl : Lies V gen nr at_ r := fun i hi => ⟨by
      refine Classical.byContradiction (fun hx => h ⟨i, hi, fun v hv => ?_⟩)
      rcases hV i hi v hv with h1 | h1
      · exact absurd ⟨v, hv, h1⟩ hx
      · exact h1, hV i hi⟩
    exact .inr ⟨hl, hl.told hg hn hr hroom⟩
theorem foreign_nought (gen nr : Int) : Foreign gen nr (List.replicate 64 0) := .inl (by decide +kernel)
theorem foreign_gen {gen nr gen' nr' : Int} {r : List UInt8} {i : Nat} (hg : numB gen' = true) (hn : numB nr' = true) (hi : i < partsN r.length) (h : ¬ (gen' = gen ∧ nr' = nr)) : Foreign gen nr (pieceS gen' nr' r i) :=
  .inr (by rw [piece_read hg hn hi]; exact h)
#print axioms scan_told
#print axioms rec_either
/-- Up, and no disk is to fail. -/
structure Std (S : Bank) : Prop where
  up : S.down = false
  nofail : ∀ d, S.failAt d = 0
def Bank.tickA (S : Bank) : Bank := { S with writes := S.writes + 1, armed := S.armed - 1 }
theorem tick_calm {S : Bank} (h : ∀ d, S.failAt d = 0) : ∀ i, S.tick i = S
  | 0 => rfl
  | i + 1 => by
    have e := tick_calm h i
    unfold Bank.tick
    rw [e]
    simp [h i]
theorem ticked_std {S : Bank} (h : Std S) : S.ticked = S.wrote := tick_calm (S := S.wrote) h.nofail S.n
theorem Std.count {S : Bank} (h : Std S) : S.count = if S.armed = 1 then (true, S.tickA.crash S.mask) else (false, S.tickA) := by
  unfold Bank.count
  rw [h.up, ticked_std h]
  have e1 : S.wrote.armed = S.armed := rfl
  have e2 : S.wrote.mask = S.mask := rfl
  simp only [e1, Bool.false_eq_true, if_false]
  by_cases h0 : S.armed = 0
  · rw [if_pos h0, if_neg (by omega)]
    have : S.wrote = S.tickA := by unfold Bank.wrote Bank.tickA; simp [h0]
    rw [this]
  · rw [if_neg h0]
    by_cases h1 : S.armed = 1
    · rw [if_pos h1, if_pos h1]
      rfl
    · rw [if_neg h1, if_neg h1]
      rfl
theorem Std.tickA {S : Bank} (h : Std S) : Std S.tickA := ⟨h.up, h.nofail⟩
theorem Std.put {S : Bank} (h : Std S) (d k : Nat) (s : Sec) : Std (S.put d k s) := ⟨h.up, h.nofail⟩
theorem Std.flush {S : Bank} (h : Std S) (d : Nat) : Std (S.flush d) := ⟨h.up, h.nofail⟩
theorem Std.may {S : Bank} (h : Std S) {d : Nat} (hd : d < S.n) : S.may d = if S.dead d then 7 else 0 := by
  unfold Bank.may
  rw [if_neg (by omega), h.up]
  simp
/-- What a write does: power fails at it; or the disk is dead; or it is written. -/
theorem Std.write {S : Bank} (h : Std S) {d k : Nat} (hd : d < S.n) (hk : k < S.size d) (s : Sec) :
    (S.armed = 1 ∧ S.write d k s = (6, S.tickA.crash S.mask)) ∨ (S.armed ≠ 1 ∧ S.dead d = true ∧ S.write d k s = (7, S.tickA)) ∨ (S.armed ≠ 1 ∧ S.dead d = false ∧ S.write d k s = (0, S.tickA.put d k s)) := by
  unfold Bank.write
  rw [h.count]
  by_cases h1 : S.armed = 1
  · left
    rw [if_pos h1]
    exact ⟨h1, rfl⟩
  · right
    rw [if_neg h1]
    have hm := h.tickA.may (d := d) hd
    have hdd : S.tickA.dead d = S.dead d := rfl
    have hss : S.tickA.size d = S.size d := rfl
    rw [hdd] at hm
    cases hx : S.dead d with
    | true =>
      left
      rw [hx] at hm
      refine ⟨h1, rfl, ?_⟩
      have hp : S.tickA.place d k = 7 := by unfold Bank.place; rw [hm]; rfl
      simp [hp]
    | false =>
      right
      rw [hx] at hm
      refine ⟨h1, rfl, ?_⟩
      have hp : S.tickA.place d k = 0 := by unfold Bank.place; rw [hm, hss]; simp [hk]
      simp [hp]
/-- Whatever a sector holds, flushed or not, is so. -/
def AllIn (S : Bank) (A : Nat → Nat → Sec → Prop) : Prop := ∀ d k, A d k (S.flushed d k) ∧ A d k (S.newest d k)
theorem keeps_in {A : Nat → Nat → Sec → Prop} {m : Nat} {new : Nat → Nat → Sec} (hn : ∀ d k, A d k (new d k)) : ∀ (l : List (Nat × Nat)) (i : Nat) (F : Nat → Nat → Sec), (∀ d k, A d k (F d k)) → ∀ d k, A d k (keeps m new i l F d k)
  | [], _, _, hF => hF
  | p :: l, i, F, hF => by
    unfold keeps
    apply keeps_in hn l
    intro d k
    split
    · by_cases e : d = p.1 ∧ k = p.2
      · obtain ⟨rfl, rfl⟩ := e
        rw [upd2_self]
        exact hn _ _
      · rw [upd2_ne _ _ e]
        exact hF d k
    · exact hF d k
theorem AllIn.crash {S : Bank} {A : Nat → Nat → Sec → Prop} (h : AllIn S A) (m : Nat) : AllIn (S.crash m) A := by
  unfold Bank.crash
  split
  · exact h
  · intro d k
    have := keeps_in (m := m) (fun d k => (h d k).2) S.order 0 S.flushed (fun d k => (h d k).1) d k
    exact ⟨this, this⟩
theorem AllIn.tickA {S : Bank} {A : Nat → Nat → Sec → Prop} (h : AllIn S A) : AllIn S.tickA A := h
theorem AllIn.start {S : Bank} {A : Nat → Nat → Sec → Prop} (h : AllIn S A) : AllIn S.start A := h
theorem AllIn.put {S : Bank} {A : Nat → Nat → Sec → Prop} (h : AllIn S A) {d k : Nat} {s : Sec} (hs : A d k s) : AllIn (S.put d k s) A := by
  intro i j
  refine ⟨(h i j).1, ?_⟩
  show A i j (upd2 S.newest d k s i j)
  by_cases e : i = d ∧ j = k
  · obtain ⟨rfl, rfl⟩ := e
    rw [upd2_self]
    exact hs
  · rw [upd2_ne _ _ e]
    exact (h i j).2
theorem AllIn.flush {S : Bank} {A : Nat → Nat → Sec → Prop} (h : AllIn S A) (d : Nat) : AllIn (S.flush d) A := by
  intro i j
  refine ⟨?_, (h i j).2⟩
  show A i j (upd S.flushed d (S.newest d) i j)
  by_cases e : i = d
  · subst e
    rw [upd_self]
    exact (h i j).2
  · rw [upd_ne _ _ e]
    exact (h i j).1
theorem AllIn.fail {S : Bank} {A : Nat → Nat → Sec → Prop} (h : AllIn S A) (d : Nat) : AllIn (S.fail d) A := by
  intro i j
  refine ⟨(h i j).1, ?_⟩
  show A i j (upd S.newest d (S.flushed d) i j)
  by_cases e : i = d
  · subst e
    rw [upd_self]
    exact (h i j).1
  · rw [upd_ne _ _ e]
    exact (h i j).2
theorem crash_shape {S : Bank} (m : Nat) : (S.crash m).n = S.n ∧ (S.crash m).size = S.size ∧ (S.crash m).dead = S.dead ∧ (S.crash m).down = true ∧ (S.crash m).failAt = S.failAt := by
  unfold Bank.crash
  split
  · rename_i h
    exact ⟨rfl, rfl, rfl, h, rfl⟩
  · exact ⟨rfl, rfl, rfl, rfl, rfl⟩
/-- The disks are the same ones. -/
structure Alike (S T : Bank) : Prop where
  n : T.n = S.n
  size : T.size = S.size
  dead : T.dead = S.dead
theorem Alike.refl (S : Bank) : Alike S S := ⟨rfl, rfl, rfl⟩
theorem Alike.trans {S T U : Bank} (h : Alike S T) (k : Alike T U) : Alike S U := ⟨k.n.trans h.n, k.size.trans h.size, k.dead.trans h.dead⟩
/-- The parts of a record are written to one member, and it is flushed. -/
def layB (S : Bank) (d : Nat) : Nat → List Sec → Nat × Bank
  | _, [] => (S.may d, if S.may d = 0 then S.flush d else S)
  | q, s :: l => if (S.write d q s).1 = 0 then layB (S.write d q s).2 d (q + 1) l else S.write d q s
/-- Another content of some sectors of a member. -/
def laidF (f : Nat → Sec) (q : Nat) (l : List Sec) : Nat → Sec := fun k => if q ≤ k then (l[k - q]?).getD (f k) else f k
theorem laidF_nil (f : Nat → Sec) (q : Nat) : laidF f q [] = f := by funext k; simp [laidF]
theorem laidF_cons (f : Nat → Sec) (q : Nat) (s : Sec) (l : List Sec) : laidF (upd f q s) (q + 1) l = laidF f q (s :: l) := by
  funext k
  unfold laidF
  by_cases h1 : q + 1 ≤ k
  · rw [if_pos h1, if_pos (by omega), upd_ne _ _ (by omega)]
    obtain ⟨j, hj⟩ : ∃ j, k - q = j + 1 := ⟨k - q - 1, by omega⟩
    rw [hj, show k - (q + 1) = j by omega]
    simp
  · rw [if_neg h1]
    by_cases h2 : k = q
    · subst h2
      rw [upd_self, if_pos (Nat.le_refl _), Nat.sub_self]
      simp
    · rw [upd_ne _ _ h2, if_neg (by omega)]
/-- One member: it is dead; or all is written and flushed; or power fails on the way. -/
theorem lay_std : ∀ (l : List Sec) (S : Bank) (d q : Nat), Std S → d < S.n → q + l.length ≤ S.size d →
    (S.dead d = true ∧ (layB S d q l).1 = 7 ∧ Std (layB S d q l).2 ∧ Alike S (layB S d q l).2 ∧ (layB S d q l).2.newest = S.newest ∧ (layB S d q l).2.flushed = S.flushed) ∨
    (S.dead d = false ∧ (layB S d q l).1 = 0 ∧ Std (layB S d q l).2 ∧ Alike S (layB S d q l).2 ∧ (layB S d q l).2.newest = upd S.newest d (laidF (S.newest d) q l) ∧ (layB S d q l).2.flushed = upd S.flushed d (laidF (S.newest d) q l)) ∨
    (S.armed ≠ 0 ∧ (layB S d q l).1 = 6 ∧ (layB S d q l).2.down = true ∧ (layB S d q l).2.failAt = S.failAt ∧ Alike S (layB S d q l).2 ∧ ∀ A, AllIn S A → (∀ (i : Nat) s, l[i]? = some s → A d (q + i) s) → AllIn (layB S d q l).2 A)
  | [], S, d, q, hS, hd, hl => by
    have hm := hS.may hd
    cases hx : S.dead d with
    | true =>
      left
      rw [hx] at hm
      have e : layB S d q [] = (7, S) := by unfold layB; rw [hm]; rfl
      rw [e]
      exact ⟨rfl, rfl, hS, Alike.refl _, rfl, rfl⟩
    | false =>
      right; left
      rw [hx] at hm
      have e : layB S d q [] = (0, S.flush d) := by unfold layB; rw [hm]; rfl
      rw [e, laidF_nil]
      refine ⟨rfl, rfl, hS.flush d, ⟨rfl, rfl, rfl⟩, ?_, rfl⟩
      show S.newest = _
      funext i
      by_cases h : i = d
      · subst h; rw [upd_self]
      · rw [upd_ne _ _ h]
  | s :: l, S, d, q, hS, hd, hl => by
    rw [List.length_cons] at hl
    rcases hS.write hd (show q < S.size d by omega) s with ⟨h1, h2⟩ | ⟨h1, hx, h2⟩ | ⟨h1, hx, h2⟩
    · right; right
      have e : layB S d q (s :: l) = (6, S.tickA.crash S.mask) := by
        unfold layB; rw [h2]; rfl
      obtain ⟨c1, c2, c3, c4, c5⟩ := crash_shape (S := S.tickA) S.mask
      rw [e]
      exact ⟨by omega, rfl, c4, c5, ⟨c1, c2, c3⟩, fun A hA _ => hA.tickA.crash S.mask⟩
    · left
      have e : layB S d q (s :: l) = (7, S.tickA) := by
        unfold layB; rw [h2]; rfl
      rw [e]
      exact ⟨hx, rfl, hS.tickA, ⟨rfl, rfl, rfl⟩, rfl, rfl⟩
    · have e : layB S d q (s :: l) = layB (S.tickA.put d q s) d (q + 1) l := by
        conv => lhs; unfold layB
        rw [h2]
        rfl
      rw [e]
      have hn : (S.tickA.put d q s).newest = upd S.newest d (upd (S.newest d) q s) := by
        show upd2 S.newest d q s = _
        funext i
        by_cases h : i = d
        · subst h; rw [upd_self, upd2_col]
        · rw [upd_ne _ _ h, upd2_row _ _ h]
      rcases lay_std l (S.tickA.put d q s) d (q + 1) (hS.tickA.put d q s) hd (by show q + 1 + l.length ≤ S.size d; omega) with ⟨k1, _⟩ | ⟨k1, k2, k3, k4, k5, k6⟩ | ⟨k1, k2, k3, k4, k5, k6⟩
      · rw [show (S.tickA.put d q s).dead d = S.dead d from rfl, hx] at k1
        cases k1
      · right; left
        refine ⟨hx, k2, k3, ⟨k4.n, k4.size, k4.dead⟩, ?_, ?_⟩
        · rw [k5, hn, upd_self, laidF_cons]
          funext i
          by_cases h : i = d
          · subst h; rw [upd_self, upd_self]
          · rw [upd_ne _ _ h, upd_ne _ _ h, upd_ne _ _ h]
        · rw [k6, hn, upd_self, laidF_cons]
          rfl
      · right; right
        refine ⟨?_, k2, k3, k4, ⟨k5.n, k5.size, k5.dead⟩, fun A hA hs => ?_⟩
        · intro h0
          apply k1
          show S.armed - 1 = 0
          omega
        · exact k6 A (hA.tickA.put (by have := hs 0 s rfl; rwa [Nat.add_zero] at this)) (fun i u hu => by
            have := hs (i + 1) u (by simpa using hu)
            rwa [show q + (i + 1) = q + 1 + i by omega] at this)
/-- A bank that is not armed is not armed behind it. -/
theorem lay_armed : ∀ (l : List Sec) (S : Bank) (d q : Nat), Std S → S.armed = 0 → (layB S d q l).2.armed = 0
  | [], S, d, q, _, h0 => by
    unfold layB
    split <;> exact h0
  | s :: l, S, d, q, hS, h0 => by
    unfold layB
    have hc : S.count = (false, S.tickA) := by rw [hS.count, if_neg (by omega)]
    have ha : S.tickA.armed = 0 := by show S.armed - 1 = 0; omega
    have hw : (S.write d q s).2 = S.tickA ∨ (S.write d q s).2 = S.tickA.put d q s := by
      unfold Bank.write
      rw [hc]
      simp only [Bool.false_eq_true, if_false]
      split
      · exact .inr rfl
      · exact .inl rfl
    split
    · rcases hw with h | h
      · rw [h]; exact lay_armed l _ d (q + 1) hS.tickA ha
      · rw [h]; exact lay_armed l _ d (q + 1) (hS.tickA.put d q s) ha
    · rcases hw with h | h
      · rw [h]; exact ha
      · rw [h]; exact ha
#print axioms lay_std
/-- A record is laid on each live member, in order. -/
def layAll (q : Nat) (l : List Sec) : List Nat → Bank → Bool → Nat × Bank
  | [], S, any => (if any then 0 else 5, S)
  | d :: ds, S, any =>
    if (layB S d q l).1 = 7 ∨ (layB S d q l).1 = 8 then layAll q l ds (layB S d q l).2 any
    else if (layB S d q l).1 = 0 then layAll q l ds (layB S d q l).2 true
    else (6, (layB S d q l).2)
def laidOn (S : Bank) (live : List Nat) (q : Nat) (l : List Sec) (f : Nat → Nat → Sec) : Nat → Nat → Sec := fun d => if d ∈ live ∧ S.dead d = false then laidF (S.newest d) q l else f d
/-- All is laid; or nobody lives; or power fails on the way. -/
theorem layAll_std (q : Nat) (l : List Sec) : ∀ (live : List Nat) (S : Bank) (any : Bool), Std S → (∀ d ∈ live, d < S.n ∧ q + l.length ≤ S.size d) → live.Nodup →
    ((layAll q l live S any).1 = (if any = true ∨ ∃ d ∈ live, S.dead d = false then 0 else 5) ∧ Std (layAll q l live S any).2 ∧ Alike S (layAll q l live S any).2 ∧ (layAll q l live S any).2.newest = laidOn S live q l S.newest ∧ (layAll q l live S any).2.flushed = laidOn S live q l S.flushed) ∨
    (S.armed ≠ 0 ∧ (layAll q l live S any).1 = 6 ∧ (layAll q l live S any).2.down = true ∧ (layAll q l live S any).2.failAt = S.failAt ∧ Alike S (layAll q l live S any).2 ∧
      ∀ A, AllIn S A → (∀ d ∈ live, ∀ (i : Nat) s, l[i]? = some s → A d (q + i) s) → AllIn (layAll q l live S any).2 A)
  | [], S, any, hS, _, _ => by
    left
    refine ⟨?_, hS, Alike.refl _, ?_, ?_⟩
    · show (if any = true then 0 else 5) = _
      cases any <;> simp
    · show S.newest = _
      funext d; simp [laidOn]
    · show S.flushed = _
      funext d; simp [laidOn]
  | d :: ds, S, any, hS, hl, hnd => by
    obtain ⟨hd1, hd2⟩ := hl d (by simp)
    have hnd1 : d ∉ ds := (List.nodup_cons.1 hnd).1
    have hnd2 := (List.nodup_cons.1 hnd).2
    rcases lay_std l S d q hS hd1 hd2 with ⟨k1, k2, k3, k4, k5, k6⟩ | ⟨k1, k2, k3, k4, k5, k6⟩ | ⟨k1, k2, k3, k4, k5, k6⟩
    · have e : layAll q l (d :: ds) S any = layAll q l ds (layB S d q l).2 any := by
        conv => lhs; unfold layAll
        rw [if_pos (.inl k2)]
      rw [e]
      have ih := layAll_std q l ds (layB S d q l).2 any k3 (fun i hi => by rw [k4.n, k4.size]; exact hl i (by simp [hi])) hnd2
      rw [k4.dead] at ih
      rcases ih with ⟨m1, m2, m3, m4, m5⟩ | ⟨m1, m2, m3, m4, m5, m6⟩
      · left
        refine ⟨?_, m2, k4.trans m3, ?_, ?_⟩
        · rw [m1]; simp [k1]
        · rw [m4]
          funext i
          unfold laidOn
          rw [k4.dead, k5]
          by_cases hi : i = d
          · subst hi; simp [k1]
          · simp [hi]
        · rw [m5]
          funext i
          unfold laidOn
          rw [k4.dead, k5, k6]
          by_cases hi : i = d
          · subst hi; simp [k1]
          · simp [hi]
      · right
        refine ⟨?_, m2, m3, ?_, k4.trans m5, fun A hA hs => ?_⟩
        · intro h0
          rcases lay_armed l S d q hS h0 with h
          exact m1 h
        · rw [m4]; funext i; rw [k3.nofail, hS.nofail]
        · exact m6 A (fun i j => by rw [k5, k6]; exact hA i j) (fun i hi => hs i (by simp [hi]))
    · have e : layAll q l (d :: ds) S any = layAll q l ds (layB S d q l).2 true := by
        conv => lhs; unfold layAll
        rw [if_neg (by omega), if_pos k2]
      rw [e]
      have ih := layAll_std q l ds (layB S d q l).2 true k3 (fun i hi => by rw [k4.n, k4.size]; exact hl i (by simp [hi])) hnd2
      rw [k4.dead] at ih
      rcases ih with ⟨m1, m2, m3, m4, m5⟩ | ⟨m1, m2, m3, m4, m5, m6⟩
      · left
        refine ⟨?_, m2, k4.trans m3, ?_, ?_⟩
        · rw [m1]; simp [k1]
        · rw [m4]
          funext i
          unfold laidOn
          rw [k4.dead, k5]
          by_cases hi : i = d
          · subst hi; rw [if_neg (by simp [hnd1]), upd_self, if_pos (by simp [k1])]
          · rw [upd_ne _ _ hi]; simp [hi]
        · rw [m5]
          funext i
          unfold laidOn
          rw [k4.dead, k5, k6]
          by_cases hi : i = d
          · subst hi; rw [if_neg (by simp [hnd1]), upd_self, if_pos (by simp [k1])]
          · rw [upd_ne _ _ hi, upd_ne _ _ hi]; simp [hi]
      · right
        refine ⟨?_, m2, m3, ?_, k4.trans m5, fun A hA hs => ?_⟩
        · intro h0
          exact m1 (lay_armed l S d q hS h0)
        · rw [m4]; funext i; rw [k3.nofail, hS.nofail]
        · refine m6 A (fun i j => ?_) (fun i hi => hs i (by simp [hi]))
          have hov : ∀ j, A d j (laidF (S.newest d) q l j) := fun j => by
            unfold laidF
            split
            · rename_i hqj
              cases hx : l[j - q]? with
              | none => exact (hA d j).2
              | some u =>
                have := hs d (by simp) (j - q) u hx
                rwa [show q + (j - q) = j by omega] at this
            · exact (hA d j).2
          rw [k5, k6]
          by_cases hi : i = d
          · subst hi; rw [upd_self, upd_self]; exact ⟨hov j, hov j⟩
          · rw [upd_ne _ _ hi, upd_ne _ _ hi]; exact hA i j
    · right
      have e : layAll q l (d :: ds) S any = (6, (layB S d q l).2) := by
        conv => lhs; unfold layAll
        rw [if_neg (by omega), if_neg (by omega)]
      rw [e]
      exact ⟨k1, rfl, k3, k4, k5, fun A hA hs => k6 A hA (hs d (by simp))⟩
/-! ### What a journal holds -/
/-- The sector at place j of the records R, the first of which is number nr. -/
def posJ (gen : Int) : Nat → List (List UInt8) → Nat → Option (List UInt8)
  | _, [], _ => none
  | nr, r :: R, j => if j < partsN r.length then some (pieceS gen (nr : Nat) r j) else posJ gen (nr + 1) R (j - partsN r.length)
theorem posJ_none {gen : Int} : ∀ (R : List (List UInt8)) (nr j : Nat), usedL R ≤ j → posJ gen nr R j = none
  | [], _, _, _ => rfl
  | r :: R, nr, j, h => by
    rw [usedL_cons] at h
    unfold posJ
    rw [if_neg (by omega)]
    exact posJ_none R _ _ (by omega)
theorem posJ_append {gen : Int} (r : List UInt8) : ∀ (R : List (List UInt8)) (nr j : Nat), posJ gen nr (R ++ [r]) j = if j < usedL R then posJ gen nr R j else if j - usedL R < partsN r.length then some (pieceS gen ((nr + R.length : Nat) : Int) r (j - usedL R)) else none
  | [], nr, j => by
    rw [usedL_nil, if_neg (by omega), Nat.sub_zero]
    rfl
  | x :: R, nr, j => by
    rw [usedL_cons, List.cons_append]
    unfold posJ
    by_cases h1 : j < partsN x.length
    · rw [if_pos h1, if_pos (by omega), if_pos h1]
    · rw [if_neg h1, posJ_append r R (nr + 1) (j - partsN x.length)]
      by_cases h2 : j < partsN x.length + usedL R
      · rw [if_pos (by omega), if_pos h2, if_neg h1]
      · rw [if_neg (by omega), if_neg h2, show j - partsN x.length - usedL R = j - (partsN x.length + usedL R) by omega, show nr + 1 + R.length = nr + (x :: R).length by rw [List.length_cons]; omega]
def contJ (base : View) (gen : Int) (R : List (List UInt8)) : View := fun j => (posJ gen 0 R j).getD (base j)
theorem contJ_low {base : View} {gen : Int} {R : List (List UInt8)} (r : List UInt8) {j : Nat} (h : j < usedL R) : contJ base gen (R ++ [r]) j = contJ base gen R j := by
  unfold contJ
  rw [posJ_append, if_pos h]
theorem contJ_past {base : View} {gen : Int} {R : List (List UInt8)} {j : Nat} (h : usedL R ≤ j) : contJ base gen R j = base j := by
  unfold contJ
  rw [posJ_none R 0 j h]
  rfl
theorem contJ_new {base : View} {gen : Int} {R : List (List UInt8)} {r : List UInt8} {i : Nat} (h : i < partsN r.length) : contJ base gen (R ++ [r]) (usedL R + i) = pieceS gen (R.length : Nat) r i := by
  unfold contJ
  rw [posJ_append, if_neg (by omega), show usedL R + i - usedL R = i by omega, if_pos h, Nat.zero_add]
  rfl
theorem contJ_two (base : View) (gen : Int) (R : List (List UInt8)) (r : List UInt8) (j : Nat) : contJ base gen (R ++ [r]) j = if usedL R ≤ j ∧ j < usedL R + partsN r.length then pieceS gen (R.length : Nat) r (j - usedL R) else contJ base gen R j := by
  by_cases h1 : j < usedL R
  · rw [contJ_low r h1, if_neg (by omega)]
  · by_cases h2 : j < usedL R + partsN r.length
    · rw [if_pos (by omega)]
      have := contJ_new (base := base) (gen := gen) (R := R) (r := r) (i := j - usedL R) (by omega)
      rwa [show usedL R + (j - usedL R) = j by omega] at this
    · rw [if_neg (by omega), contJ_past (by rw [usedL_append, usedL_cons, usedL_nil]; omega), contJ_past (by omega)]
/-- Members that hold the records have them lie there. -/
theorem lie_of {V : List View} {gen : Int} (hV : V ≠ []) : ∀ (R : List (List UInt8)) (nr at_ : Nat), (∀ r ∈ R, r.length ≤ 2120) → (∀ v ∈ V, ∀ j, j < usedL R → posJ gen nr R j = some (v (at_ + j))) → LieAll V gen nr at_ R
  | [], _, _, _, _ => trivial
  | r :: R, nr, at_, hr, h => by
    have h1 : ∀ v ∈ V, ∀ i, i < partsN r.length → v (at_ + i) = pieceS gen (nr : Nat) r i := fun v hv i hi => by
      have := h v hv i (by rw [usedL_cons]; omega)
      unfold posJ at this
      rw [if_pos hi] at this
      exact (Option.some.inj this).symm
    refine ⟨hr r (by simp), fun i hi => ⟨?_, fun v hv => .inl (h1 v hv i hi)⟩, lie_of hV R (nr + 1) (at_ + partsN r.length) (fun x hx => hr x (by simp [hx])) (fun v hv j hj => ?_)⟩
    · obtain ⟨v, hv⟩ := List.exists_mem_of_ne_nil V hV
      exact ⟨v, hv, h1 v hv i hi⟩
    · have := h v hv (partsN r.length + j) (by rw [usedL_cons]; omega)
      unfold posJ at this
      rw [if_neg (by omega), show partsN r.length + j - partsN r.length = j by omega, ← Nat.add_assoc] at this
      exact this
theorem posJ_some {gen : Int} : ∀ (R : List (List UInt8)) (nr j : Nat), j < usedL R → ∃ s, posJ gen nr R j = some s
  | [], _, j, h => by rw [usedL_nil] at h; omega
  | r :: R, nr, j, h => by
    rw [usedL_cons] at h
    unfold posJ
    by_cases h1 : j < partsN r.length
    · rw [if_pos h1]; exact ⟨_, rfl⟩
    · rw [if_neg h1]; exact posJ_some R _ _ (by omega)
theorem posJ_front {gen : Int} : ∀ (R Q : List (List UInt8)) (nr j : Nat), j < usedL R → posJ gen nr (R ++ Q) j = posJ gen nr R j
  | [], _, _, j, h => by rw [usedL_nil] at h; omega
  | r :: R, Q, nr, j, h => by
    rw [usedL_cons] at h
    rw [List.cons_append]
    unfold posJ
    by_cases h1 : j < partsN r.length
    · rw [if_pos h1, if_pos h1]
    · rw [if_neg h1, if_neg h1]
      exact posJ_front R Q _ _ (by omega)
theorem lie_cont {V : List View} {base : View} {gen : Int} {R : List (List UInt8)} (hV : V ≠ []) (hr : ∀ r ∈ R, r.length ≤ 2120) (h : ∀ v ∈ V, ∀ j, j < usedL R → v j = contJ base gen R j) : LieAll V gen 0 0 R :=
  lie_of hV R 0 0 hr (fun v hv j hj => by
    obtain ⟨s, hs⟩ := posJ_some (gen := gen) R 0 j hj
    rw [Nat.zero_add, h v hv j hj, contJ, hs]
    rfl)
theorem lie_append {V : List View} {gen : Int} {r : List UInt8} (hr : r.length ≤ 2120) : ∀ (R : List (List UInt8)) (nr at_ : Nat), LieAll V gen nr at_ R → Lies V gen ((nr + R.length : Nat) : Int) (at_ + usedL R) r → LieAll V gen nr at_ (R ++ [r])
  | [], nr, at_, _, h => ⟨hr, by simpa [usedL_nil] using h, trivial⟩
  | x :: R, nr, at_, h, hl => by
    obtain ⟨h1, h2, h3⟩ := h
    refine ⟨h1, h2, lie_append hr R _ _ h3 ?_⟩
    rw [usedL_cons, List.length_cons] at hl
    rw [show nr + 1 + R.length = nr + (R.length + 1) by omega, show at_ + partsN x.length + usedL R = at_ + (partsN x.length + usedL R) by omega]
    exact hl
/-- Members that hold just these records: Scan tells them. -/
theorem scan_holds {V : List View} {base : View} {gen : Int} {R : List (List UInt8)} {f : Nat} (hg : numB gen = true) (hV : V ≠ []) (hr : ∀ r ∈ R, r.length ≤ 2120) (hu : usedL R ≤ 48) (hn : R.length ≤ 4294967295) (hf : R.length ≤ f)
    (h : ∀ v ∈ V, ∀ j, j < 48 → v j = contJ base gen R j) (hb : usedL R < 48 → Foreign gen (R.length : Nat) (base (usedL R))) : scanL V gen f 0 0 = (R, usedL R) := by
  have hnone : recAt V gen ((0 + R.length : Nat) : Int) (0 + usedL R) = none := by
    rw [Nat.zero_add, Nat.zero_add]
    by_cases h48 : usedL R = 48
    · rw [h48]; exact rec_full
    · exact rec_none (fun v hv => by rw [h v hv _ (by omega), contJ_past (Nat.le_refl _)]; exact hb (by omega))
  have := scan_told hg R 0 0 f (by omega) (lie_cont hV hr (fun v hv j hj => h v hv j (by omega))) (by omega) hnone hf
  rwa [Nat.zero_add] at this
/-- Members that hold these records, and perhaps some of the next one: Scan tells them, and perhaps the next one. -/
theorem scan_near {V : List View} {base : View} {gen : Int} {R : List (List UInt8)} {r : List UInt8} {f : Nat} (hg : numB gen = true) (hV : V ≠ []) (hr : ∀ x ∈ R, x.length ≤ 2120) (hr1 : r.length ≤ 2120) (hu : usedL R + partsN r.length ≤ 48) (hn : R.length + 1 ≤ 4294967295) (hf : R.length + 1 ≤ f)
    (h : ∀ v ∈ V, ∀ j, j < 48 → v j = contJ base gen R j ∨ v j = contJ base gen (R ++ [r]) j) (hb : ∀ nr j : Nat, usedL R ≤ j → j < 48 → Foreign gen (nr : Int) (base j)) :
    scanL V gen f 0 0 = (R, usedL R) ∨ scanL V gen f 0 0 = (R ++ [r], usedL (R ++ [r])) := by
  have h0 := (partsN_is hr1).1
  have hlow : ∀ v ∈ V, ∀ j, j < usedL R → v j = contJ base gen R j := fun v hv j hj => by
    rcases h v hv j (by omega) with h1 | h1
    · exact h1
    · rw [h1, contJ_low r hj]
  have hlie := lie_cont hV hr hlow
  have hmid : ∀ j, j < partsN r.length → ∀ v ∈ V, v (usedL R + j) = pieceS gen (R.length : Nat) r j ∨ Foreign gen (R.length : Nat) (v (usedL R + j)) := fun j hj v hv => by
    rcases h v hv (usedL R + j) (by omega) with h1 | h1
    · right
      rw [h1, contJ_past (by omega)]
      exact hb _ _ (by omega) (by omega)
    · left
      rw [h1, contJ_new hj]
  rcases rec_either hg (numB_iff.2 ⟨by omega, by omega⟩ : numB ((R.length : Nat) : Int) = true) hr1 hu hmid with h1 | ⟨h1, h2⟩
  · left
    have := scan_told hg R 0 0 f (by omega) hlie (by omega) (by rw [Nat.zero_add, Nat.zero_add]; exact h1) (by omega)
    rwa [Nat.zero_add] at this
  · right
    have hu2 : usedL (R ++ [r]) = usedL R + partsN r.length := by rw [usedL_append, usedL_cons, usedL_nil, Nat.add_zero]
    have hl2 : (R ++ [r]).length = R.length + 1 := by simp
    have hlie2 : LieAll V gen 0 0 (R ++ [r]) := lie_append hr1 R 0 0 hlie (by rw [Nat.zero_add, Nat.zero_add]; exact h1)
    have hnone : recAt V gen ((0 + (R ++ [r]).length : Nat) : Int) (0 + usedL (R ++ [r])) = none := by
      rw [Nat.zero_add, Nat.zero_add]
      by_cases h48 : usedL (R ++ [r]) = 48
      · rw [h48]; exact rec_full
      · refine rec_none (fun v hv => ?_)
        have hp : v (usedL (R ++ [r])) = base (usedL (R ++ [r])) := by
          rcases h v hv _ (show usedL (R ++ [r]) < 48 by omega) with h3 | h3
          · rw [h3, contJ_past (by omega)]
          · rw [h3, contJ_past (Nat.le_refl _)]
        rw [hp]
        exact hb _ _ (by omega) (by omega)
    have := scan_told hg (R ++ [r]) 0 0 f (by omega) hlie2 (by omega) hnone (by omega)
    rwa [Nat.zero_add] at this
#print axioms layAll_std
#print axioms scan_near
/-- The sectors of a record's parts. -/
def partsS (gen nr : Int) (r : List UInt8) : List Sec := (List.range (partsN r.length)).map fun i => ⟨pieceS gen nr r i, secT_length _ _⟩
theorem partsS_length (gen nr : Int) (r : List UInt8) : (partsS gen nr r).length = partsN r.length := by simp [partsS]
theorem partsS_at {gen nr : Int} {r : List UInt8} {i : Nat} {s : Sec} (h : (partsS gen nr r)[i]? = some s) : i < partsN r.length ∧ s.1 = pieceS gen nr r i := by
  unfold partsS at h
  rw [List.getElem?_map] at h
  by_cases hi : i < partsN r.length
  · rw [List.getElem?_range hi] at h
    simp at h
    exact ⟨hi, by rw [← h]⟩
  · rw [List.getElem?_eq_none (by simpa using hi)] at h
    simp at h
theorem partsS_get {gen nr : Int} {r : List UInt8} {i : Nat} (h : i < partsN r.length) : (partsS gen nr r)[i]? = some ⟨pieceS gen nr r i, secT_length _ _⟩ := by
  unfold partsS
  rw [List.getElem?_map, List.getElem?_range h]
  rfl
/-- Each live member that is not dead holds these records, flushed. -/
def Holds (S : Bank) (live : List Nat) (base : View) (gen : Int) (R : List (List UInt8)) : Prop :=
  ∀ d ∈ live, S.dead d = false → ∀ j, j < 48 → (S.newest d (2 + j)).1 = contJ base gen R j ∧ (S.flushed d (2 + j)).1 = contJ base gen R j
theorem laidF_cont {f : Nat → Sec} {base : View} {gen : Int} {R : List (List UInt8)} {r : List UInt8} (h : ∀ j, j < 48 → (f (2 + j)).1 = contJ base gen R j) (j : Nat) (hj : j < 48) :
    (laidF f (2 + usedL R) (partsS gen (R.length : Nat) r) (2 + j)).1 = contJ base gen (R ++ [r]) j := by
  rw [contJ_two]
  unfold laidF
  by_cases h1 : usedL R ≤ j
  · rw [if_pos (by omega), show 2 + j - (2 + usedL R) = j - usedL R by omega]
    by_cases h2 : j < usedL R + partsN r.length
    · rw [if_pos ⟨h1, h2⟩, partsS_get (by omega)]
      rfl
    · rw [if_neg (by omega), List.getElem?_eq_none (by rw [partsS_length]; omega)]
      exact h j hj
  · rw [if_neg (by omega), if_neg (by omega)]
    exact h j hj
/-- Behind an append that answered OK. -/
theorem Holds.append {S T : Bank} {live : List Nat} {base : View} {gen : Int} {R : List (List UInt8)} {r : List UInt8} (h : Holds S live base gen R) (ha : Alike S T)
    (hn : T.newest = laidOn S live (2 + usedL R) (partsS gen (R.length : Nat) r) S.newest) (hf : T.flushed = laidOn S live (2 + usedL R) (partsS gen (R.length : Nat) r) S.flushed) : Holds T live base gen (R ++ [r]) := by
  intro d hd hx j hj
  rw [ha.dead] at hx
  have hc : d ∈ live ∧ S.dead d = false := ⟨hd, hx⟩
  have e := laidF_cont (r := r) (fun j hj => (h d hd hx j hj).1) j hj
  rw [hn, hf]
  unfold laidOn
  rw [if_pos hc, if_pos hc]
  exact ⟨e, e⟩
/-- Each sector of each live member is of the records, or of these and one more. -/
def Nearly (S : Bank) (live : List Nat) (base : View) (gen : Int) (R : List (List UInt8)) (r : List UInt8) : Prop :=
  AllIn S fun d k s => d ∈ live → S.dead d = false → ∀ j, j < 48 → k = 2 + j → s.1 = contJ base gen R j ∨ s.1 = contJ base gen (R ++ [r]) j
theorem Holds.near {S : Bank} {live : List Nat} {base : View} {gen : Int} {R : List (List UInt8)} (h : Holds S live base gen R) (r : List UInt8) : Nearly S live base gen R r := by
  intro d k
  refine ⟨fun hd hx j hj hk => ?_, fun hd hx j hj hk => ?_⟩
  · subst hk; exact .inl (h d hd hx j hj).2
  · subst hk; exact .inl (h d hd hx j hj).1
/-- Behind an append at which power failed. -/
theorem Holds.fell {S T : Bank} {live : List Nat} {base : View} {gen : Int} {R : List (List UInt8)} {r : List UInt8} (h : Holds S live base gen R) (ha : Alike S T)
    (hA : ∀ A, AllIn S A → (∀ d ∈ live, ∀ (i : Nat) s, (partsS gen (R.length : Nat) r)[i]? = some s → A d (2 + usedL R + i) s) → AllIn T A) : Nearly T live base gen R r := by
  unfold Nearly
  rw [ha.dead]
  refine hA _ (h.near r) (fun d hd i s hs _ _ j hj hk => ?_)
  obtain ⟨h1, h2⟩ := partsS_at hs
  right
  obtain rfl : j = usedL R + i := by omega
  rw [h2, contJ_new h1]
theorem Nearly.crash {S : Bank} {live : List Nat} {base : View} {gen : Int} {R : List (List UInt8)} {r : List UInt8} (h : Nearly S live base gen R r) (m : Nat) : Nearly (S.crash m) live base gen R r := by
  unfold Nearly
  rw [(crash_shape m).2.2.1]
  exact AllIn.crash h m
theorem Nearly.start {S : Bank} {live : List Nat} {base : View} {gen : Int} {R : List (List UInt8)} {r : List UInt8} (h : Nearly S live base gen R r) : Nearly S.start live base gen R r := h
theorem Nearly.fail {S : Bank} {live : List Nat} {base : View} {gen : Int} {R : List (List UInt8)} {r : List UInt8} (h : Nearly S live base gen R r) (d : Nat) : Nearly (S.fail d) live base gen R r := by
  have h1 := AllIn.fail h d
  intro i k
  obtain ⟨h2, h3⟩ := h1 i k
  have hd : (S.fail d).dead i = false → S.dead i = false := fun e => by
    have e2 : upd S.dead d true i = false := e
    by_cases hi : i = d
    · subst hi; rw [upd_self] at e2; cases e2
    · rwa [upd_ne _ _ hi] at e2
  exact ⟨fun a b => h2 a (hd b), fun a b => h3 a (hd b)⟩
/-- A bank whose records are all flushed, behind a fall. -/
theorem Holds.crash {S : Bank} {live : List Nat} {base : View} {gen : Int} {R : List (List UInt8)} (h : Holds S live base gen R) (m : Nat) : Holds (S.crash m) live base gen R := by
  have h1 : AllIn S fun d k s => d ∈ live → S.dead d = false → ∀ j, j < 48 → k = 2 + j → s.1 = contJ base gen R j := fun d k =>
    ⟨fun hd hx j hj hk => by subst hk; exact (h d hd hx j hj).2, fun hd hx j hj hk => by subst hk; exact (h d hd hx j hj).1⟩
  have h2 := h1.crash m
  intro d hd hx j hj
  rw [(crash_shape m).2.2.1] at hx
  exact ⟨(h2 d (2 + j)).2 hd hx j hj rfl, (h2 d (2 + j)).1 hd hx j hj rfl⟩
theorem Holds.start {S : Bank} {live : List Nat} {base : View} {gen : Int} {R : List (List UInt8)} (h : Holds S live base gen R) : Holds S.start live base gen R := h
theorem Holds.fail {S : Bank} {live : List Nat} {base : View} {gen : Int} {R : List (List UInt8)} (h : Holds S live base gen R) (d : Nat) : Holds (S.fail d) live base gen R := by
  intro i hi hx j hj
  have e2 : upd S.dead d true i = false := hx
  by_cases hid : i = d
  · subst hid; rw [upd_self] at e2; cases e2
  · rw [upd_ne _ _ hid] at e2
    refine ⟨?_, (h i hi e2 j hj).2⟩
    show (upd S.newest d (S.flushed d) i (2 + j)).1 = _
    rw [upd_ne _ _ hid]
    exact (h i hi e2 j hj).1
theorem Holds.arm {S : Bank} {live : List Nat} {base : View} {gen : Int} {R : List (List UInt8)} (h : Holds S live base gen R) (n m : Nat) : Holds (S.arm n m) live base gen R := h
/-- What the live members that are not dead have in their journals. -/
def viewsOf (S : Bank) (live : List Nat) : List View := (live.filter fun d => !S.dead d).map fun d => fun j => (S.newest d (2 + j)).1
theorem views_mem {S : Bank} {live : List Nat} {v : View} (h : v ∈ viewsOf S live) : ∃ d ∈ live, S.dead d = false ∧ v = fun j => (S.newest d (2 + j)).1 := by
  unfold viewsOf at h
  obtain ⟨d, hd, rfl⟩ := List.mem_map.1 h
  obtain ⟨h1, h2⟩ := List.mem_filter.1 hd
  exact ⟨d, h1, by simpa using h2, rfl⟩
theorem views_ne {S : Bank} {live : List Nat} {d : Nat} (hd : d ∈ live) (hx : S.dead d = false) : viewsOf S live ≠ [] := by
  unfold viewsOf
  intro h
  have h1 : d ∈ live.filter fun d => !S.dead d := List.mem_filter.2 ⟨hd, by simp [hx]⟩
  rw [List.map_eq_nil_iff] at h
  rw [h] at h1
  cases h1
def noughts : View := fun _ => List.replicate 64 0
theorem foreign_noughts (gen nr : Int) (j : Nat) : Foreign gen nr (noughts j) := foreign_nought gen nr
/-- Scan of members that hold these records. -/
theorem Holds.scan {S : Bank} {live : List Nat} {base : View} {gen : Int} {R : List (List UInt8)} {f d : Nat} (h : Holds S live base gen R) (hd : d ∈ live) (hx : S.dead d = false) (hg : numB gen = true) (hr : ∀ r ∈ R, r.length ≤ 2120) (hu : usedL R ≤ 48) (hn : R.length ≤ 4294967295) (hf : R.length ≤ f)
    (hb : usedL R < 48 → Foreign gen (R.length : Nat) (base (usedL R))) : scanL (viewsOf S live) gen f 0 0 = (R, usedL R) :=
  scan_holds hg (views_ne hd hx) hr hu hn hf (fun v hv j hj => by
    obtain ⟨i, hi, hxi, rfl⟩ := views_mem hv
    exact (h i hi hxi j hj).1) hb
/-- Scan of members that nearly hold these records and one more. -/
theorem Nearly.scan {S : Bank} {live : List Nat} {gen : Int} {R : List (List UInt8)} {r : List UInt8} {f d : Nat} (h : Nearly S live noughts gen R r) (hd : d ∈ live) (hx : S.dead d = false) (hg : numB gen = true) (hr : ∀ x ∈ R, x.length ≤ 2120) (hr1 : r.length ≤ 2120) (hu : usedL R + partsN r.length ≤ 48) (hn : R.length + 1 ≤ 4294967295) (hf : R.length + 1 ≤ f) :
    scanL (viewsOf S live) gen f 0 0 = (R, usedL R) ∨ scanL (viewsOf S live) gen f 0 0 = (R ++ [r], usedL (R ++ [r])) :=
  scan_near hg (views_ne hd hx) hr hr1 hu hn hf (fun v hv j hj => by
    obtain ⟨i, hi, hxi, rfl⟩ := views_mem hv
    exact (h i (2 + j)).2 hi hxi j hj rfl) (fun nr j _ _ => foreign_noughts gen nr j)
/-! ### Another generation -/
theorem cont_foreign {gen gen' : Int} (hg : numB gen = true) (hne : gen ≠ gen') (nr' : Int) : ∀ (R : List (List UInt8)) (nr j : Nat), nr + R.length ≤ 4294967295 → ∀ s, posJ gen nr R j = some s → Foreign gen' nr' s
  | [], _, _, _, s, h => by cases h
  | r :: R, nr, j, hn, s, h => by
    rw [List.length_cons] at hn
    unfold posJ at h
    by_cases h1 : j < partsN r.length
    · rw [if_pos h1] at h
      injection h with h
      rw [← h]
      exact foreign_gen hg (numB_iff.2 ⟨by omega, by omega⟩) h1 (fun x => hne x.1)
    · rw [if_neg h1] at h
      exact cont_foreign hg hne nr' R (nr + 1) _ (by omega) s h
theorem base_foreign {gen gen' : Int} {R : List (List UInt8)} (hg : numB gen = true) (hne : gen ≠ gen') (hn : R.length ≤ 4294967295) (nr' : Int) (j : Nat) : Foreign gen' nr' (contJ noughts gen R j) := by
  unfold contJ
  cases h : posJ gen 0 R j with
  | none => exact foreign_noughts gen' nr' j
  | some s => exact cont_foreign hg hne nr' R 0 j (by omega) s h
/-- A newer journal begins laidF an older one. -/
theorem Holds.anew {S : Bank} {live : List Nat} {base : View} {gen gen' : Int} {R : List (List UInt8)} (h : Holds S live base gen R) : Holds S live (contJ base gen R) gen' [] := h
/-- Of an older generation nothing is there, once a record of the newer one is. -/
theorem Holds.older {S : Bank} {live : List Nat} {base : View} {gen gen' : Int} {r : List UInt8} {R : List (List UInt8)} {f : Nat} (h : Holds S live base gen' (r :: R)) (hg : numB gen' = true) (hr : r.length ≤ 2120) (hne : gen' ≠ gen) : scanL (viewsOf S live) gen f 0 0 = ([], 0) := by
  have h0 := (partsN_is hr).1
  have e : recAt (viewsOf S live) gen ((0 : Nat) : Int) 0 = none := rec_none (fun v hv => by
    obtain ⟨i, hi, hxi, rfl⟩ := views_mem hv
    show Foreign gen _ (S.newest i (2 + 0)).1
    rw [(h i hi hxi 0 (by omega)).1, contJ]
    unfold posJ
    rw [if_pos (by omega)]
    exact foreign_gen hg (by decide) (by omega) (fun x => hne x.1))
  cases f with
  | zero => rfl
  | succ f => rw [scanL, e]
/-! ### A sector that is gone -/
theorem contJ_mid {gen : Int} {r : List UInt8} {R2 : List (List UInt8)} {i : Nat} (hi : i < partsN r.length) : ∀ (R1 : List (List UInt8)) (nr : Nat), posJ gen nr (R1 ++ r :: R2) (usedL R1 + i) = some (pieceS gen ((nr + R1.length : Nat) : Int) r i)
  | [], nr => by
    rw [usedL_nil, Nat.zero_add]
    show (if i < partsN r.length then _ else _) = _
    rw [if_pos hi]
    rfl
  | x :: R1, nr => by
    rw [usedL_cons, List.cons_append]
    unfold posJ
    rw [if_neg (by omega), show partsN x.length + usedL R1 + i - partsN x.length = usedL R1 + i by omega, contJ_mid hi R1 (nr + 1), show nr + 1 + R1.length = nr + (x :: R1).length by rw [List.length_cons]; omega]
/-- With one sector noughts all records ahead of the one whose it was are told. -/
theorem scan_torn {v : View} {gen : Int} {R1 R2 : List (List UInt8)} {r : List UInt8} {i f : Nat} (hg : numB gen = true) (hr : ∀ x ∈ R1 ++ r :: R2, x.length ≤ 2120) (hu : usedL (R1 ++ r :: R2) ≤ 48) (hn : (R1 ++ r :: R2).length ≤ 4294967295) (hf : (R1 ++ r :: R2).length ≤ f) (hi : i < partsN r.length)
    (h : ∀ j, j < 48 → j ≠ usedL R1 + i → v j = contJ noughts gen (R1 ++ r :: R2) j) (hz : v (usedL R1 + i) = List.replicate 64 0) : scanL [v] gen f 0 0 = (R1, usedL R1) := by
  have hl : (R1 ++ r :: R2).length = R1.length + (R2.length + 1) := by simp
  rw [usedL_append, usedL_cons] at hu
  have hat : ∀ j, j < partsN r.length → j ≠ i → v (usedL R1 + j) = pieceS gen (R1.length : Nat) r j := fun j hj hne => by
    rw [h _ (by omega) (by omega), contJ, contJ_mid hj R1 0, Nat.zero_add]
    rfl
  have hlow : ∀ u ∈ [v], ∀ j, j < usedL R1 → posJ gen 0 R1 j = some (u (0 + j)) := fun u hu2 j hj => by
    obtain rfl : u = v := by simpa using hu2
    rw [Nat.zero_add, h j (by omega) (by omega), contJ]
    obtain ⟨s, hs⟩ := posJ_some (gen := gen) R1 0 j hj
    rw [hs, posJ_front R1 (r :: R2) 0 j hj, hs]
    rfl
  have hlie := lie_of (V := [v]) (by simp) R1 0 0 (fun x hx => hr x (by simp [hx])) hlow
  have hnone : recAt [v] gen ((0 + R1.length : Nat) : Int) (0 + usedL R1) = none := by
    rw [Nat.zero_add, Nat.zero_add]
    refine rec_torn hg (numB_iff.2 ⟨by omega, by omega⟩) (hr r (by simp)) hi (fun j hj u hu2 => ?_) (fun u hu2 => ?_)
    · obtain rfl : u = v := by simpa using hu2
      by_cases hji : j = i
      · subst hji
        right
        rw [hz]
        exact foreign_nought _ _
      · exact .inl (hat j hj hji)
    · obtain rfl : u = v := by simpa using hu2
      rw [hz]
      exact foreign_nought _ _
  have := scan_told hg R1 0 0 f (by omega) hlie (by omega) hnone (by omega)
  rwa [Nat.zero_add] at this
#print axioms scan_torn
#print axioms Nearly.scan
theorem crash_writes (S : Bank) (m : Nat) : (S.crash m).writes = S.writes := by
  unfold Bank.crash
  split <;> rfl
theorem lay_writes : ∀ (l : List Sec) (S : Bank) (d q : Nat), Std S → d < S.n → q + l.length ≤ S.size d → (layB S d q l).2.writes ≤ S.writes + l.length
  | [], S, d, q, _, _, _ => by
    unfold layB
    split <;> exact Nat.le_refl _
  | s :: l, S, d, q, hS, hd, hl => by
    rw [List.length_cons] at hl ⊢
    unfold layB
    rcases hS.write hd (show q < S.size d by omega) s with ⟨_, h2⟩ | ⟨_, _, h2⟩ | ⟨_, _, h2⟩
    · rw [h2, if_neg (show ¬ ((6 : Nat) = 0) by decide)]
      show (S.tickA.crash S.mask).writes ≤ _
      rw [crash_writes]
      show S.writes + 1 ≤ _
      omega
    · rw [h2, if_neg (show ¬ ((7 : Nat) = 0) by decide)]
      show S.writes + 1 ≤ _
      omega
    · rw [h2, if_pos rfl]
      have ih := lay_writes l (S.tickA.put d q s) d (q + 1) (hS.tickA.put d q s) hd (by show q + 1 + l.length ≤ S.size d; omega)
      have e : (S.tickA.put d q s).writes = S.writes + 1 := rfl
      rw [e] at ih
      show (layB (S.tickA.put d q s) d (q + 1) l).2.writes ≤ _
      omega
theorem layAll_writes (q : Nat) (l : List Sec) : ∀ (live : List Nat) (S : Bank) (any : Bool), Std S → (∀ d ∈ live, d < S.n ∧ q + l.length ≤ S.size d) → (layAll q l live S any).2.writes ≤ S.writes + live.length * l.length
  | [], S, any, _, _ => by
    show S.writes ≤ _
    omega
  | d :: ds, S, any, hS, hl => by
    obtain ⟨hd1, hd2⟩ := hl d (by simp)
    have h1 := lay_writes l S d q hS hd1 hd2
    have e : (d :: ds).length * l.length = ds.length * l.length + l.length := by rw [List.length_cons, Nat.succ_mul]
    have next : ∀ any', Std (layB S d q l).2 → Alike S (layB S d q l).2 → (layAll q l ds (layB S d q l).2 any').2.writes ≤ S.writes + (d :: ds).length * l.length := fun any' k3 k4 => by
      have h2 := layAll_writes q l ds (layB S d q l).2 any' k3 (fun i hi => by rw [k4.n, k4.size]; exact hl i (by simp [hi]))
      rw [e]
      omega
    unfold layAll
    rcases lay_std l S d q hS hd1 hd2 with ⟨_, k2, k3, k4, _⟩ | ⟨_, k2, k3, k4, _⟩ | ⟨_, k2, _⟩
    · rw [if_pos (.inl k2)]
      exact next any k3 k4
    · rw [if_neg (by omega), if_pos k2]
      exact next true k3 k4
    · rw [if_neg (by omega), if_neg (by omega), e]
      show (layB S d q l).2.writes ≤ _
      omega
theorem layAll_armed (q : Nat) (l : List Sec) : ∀ (live : List Nat) (S : Bank) (any : Bool), Std S → S.armed = 0 → (∀ d ∈ live, d < S.n ∧ q + l.length ≤ S.size d) → (layAll q l live S any).2.armed = 0
  | [], S, any, _, h0, _ => h0
  | d :: ds, S, any, hS, h0, hl => by
    obtain ⟨hd1, hd2⟩ := hl d (by simp)
    have h1 := lay_armed l S d q hS h0
    have next : ∀ any', Std (layB S d q l).2 → Alike S (layB S d q l).2 → (layAll q l ds (layB S d q l).2 any').2.armed = 0 := fun any' k3 k4 =>
      layAll_armed q l ds (layB S d q l).2 any' k3 h1 (fun i hi => by rw [k4.n, k4.size]; exact hl i (by simp [hi]))
    unfold layAll
    rcases lay_std l S d q hS hd1 hd2 with ⟨_, k2, k3, k4, _⟩ | ⟨_, k2, k3, k4, _⟩ | ⟨k1, _⟩
    · rw [if_pos (.inl k2)]
      exact next any k3 k4
    · rw [if_neg (by omega), if_pos k2]
      exact next true k3 k4
    · exact absurd h0 k1
/-- A log: on which members, of which generation, how far it is. -/
structure LogV where
  live : List Nat
  gen : Int
  at_ : Nat
  num : Nat
  ended : Bool
def appendJ (V : LogV) (S : Bank) (r : List UInt8) : Nat × LogV × Bank :=
  if V.ended = true then (9, V, S)
  else if ¬ (numB V.gen = true ∧ numB (V.num : Nat) = true ∧ r.length ≤ 2120) then (1, V, S)
  else if 48 < V.at_ + partsN r.length then (10, V, S)
  else if (layAll (2 + V.at_) (partsS V.gen (V.num : Nat) r) V.live S false).1 = 0 then
    (0, { V with at_ := V.at_ + partsN r.length, num := V.num + 1 }, (layAll (2 + V.at_) (partsS V.gen (V.num : Nat) r) V.live S false).2)
  else ((layAll (2 + V.at_) (partsS V.gen (V.num : Nat) r) V.live S false).1, { V with ended := decide ((layAll (2 + V.at_) (partsS V.gen (V.num : Nat) r) V.live S false).1 = 6 ∨ (layAll (2 + V.at_) (partsS V.gen (V.num : Nat) r) V.live S false).1 = 5) }, (layAll (2 + V.at_) (partsS V.gen (V.num : Nat) r) V.live S false).2)
/-- A log that holds these records, and members that hold them. -/
structure JI (S : Bank) (V : LogV) (base : View) (R : List (List UInt8)) : Prop where
  std : Std S
  holds : Holds S V.live base V.gen R
  at_ : V.at_ = usedL R
  num : V.num = R.length
  going : V.ended = false
  gen : numB V.gen = true
  live : ∀ d ∈ V.live, d < S.n ∧ 50 ≤ S.size d
  nodup : V.live.Nodup
  used : usedL R ≤ 48
  lens : ∀ r ∈ R, r.length ≤ 2120
theorem JI.few {S : Bank} {V : LogV} {base : View} {R : List (List UInt8)} (h : JI S V base R) : R.length ≤ 48 := by
  have : R.length ≤ usedL R := by
    have hl := h.lens
    clear h
    induction R with
    | nil => exact Nat.zero_le _
    | cons r R ih =>
      rw [usedL_cons, List.length_cons]
      have := (partsN_is (hl r (by simp))).1
      have := ih (fun x hx => hl x (by simp [hx]))
      omega
  have := h.used
  omega
theorem JI.numOk {S : Bank} {V : LogV} {base : View} {R : List (List UInt8)} (h : JI S V base R) : numB (V.num : Nat) = true := by
  have := h.few
  rw [h.num]
  exact numB_iff.2 ⟨by omega, by omega⟩
/-- What Append does to a log that goes on: no room; or it is laid; or nobody lives; or power fails on the way. -/
theorem JI.append {S : Bank} {V : LogV} {base : View} {R : List (List UInt8)} (h : JI S V base R) {r : List UInt8} (hr : r.length ≤ 2120) :
    (48 < usedL R + partsN r.length ∧ appendJ V S r = (10, V, S)) ∨
    (usedL R + partsN r.length ≤ 48 ∧ (∃ d ∈ V.live, S.dead d = false) ∧ (appendJ V S r).1 = 0 ∧ (appendJ V S r).2.1 = { V with at_ := V.at_ + partsN r.length, num := V.num + 1 } ∧ JI (appendJ V S r).2.2 (appendJ V S r).2.1 base (R ++ [r]) ∧ Alike S (appendJ V S r).2.2 ∧ (S.armed = 0 → (appendJ V S r).2.2.armed = 0) ∧ (appendJ V S r).2.2.writes ≤ S.writes + V.live.length * 48) ∨
    (usedL R + partsN r.length ≤ 48 ∧ (∀ d ∈ V.live, S.dead d = true) ∧ (appendJ V S r).1 = 5 ∧ (appendJ V S r).2.1 = { V with ended := true } ∧ Std (appendJ V S r).2.2 ∧ Alike S (appendJ V S r).2.2 ∧ (appendJ V S r).2.2.writes ≤ S.writes + V.live.length * 48) ∨
    (usedL R + partsN r.length ≤ 48 ∧ S.armed ≠ 0 ∧ (appendJ V S r).1 = 6 ∧ (appendJ V S r).2.1 = { V with ended := true } ∧ (appendJ V S r).2.2.down = true ∧ (∀ d, (appendJ V S r).2.2.failAt d = 0) ∧ Alike S (appendJ V S r).2.2 ∧ Nearly (appendJ V S r).2.2 V.live base V.gen R r ∧ (appendJ V S r).2.2.writes ≤ S.writes + V.live.length * 48) := by
  have hp := (partsN_is hr).1
  have hat := h.at_
  have e0 : ¬ (¬ (numB V.gen = true ∧ numB (V.num : Nat) = true ∧ r.length ≤ 2120)) := fun k => k ⟨h.gen, h.numOk, hr⟩
  by_cases hfull : 48 < usedL R + partsN r.length
  · left
    refine ⟨hfull, ?_⟩
    unfold appendJ
    rw [if_neg (by rw [h.going]; decide), if_neg e0, if_pos (by omega)]
  right
  have hlen : (partsS V.gen (V.num : Nat) r).length = partsN r.length := partsS_length _ _ _
  have hlv : ∀ d ∈ V.live, d < S.n ∧ 2 + V.at_ + (partsS V.gen (V.num : Nat) r).length ≤ S.size d := fun d hd => by
    obtain ⟨h1, h2⟩ := h.live d hd
    exact ⟨h1, by rw [hlen]; omega⟩
  have e : appendJ V S r = if (layAll (2 + V.at_) (partsS V.gen (V.num : Nat) r) V.live S false).1 = 0 then
    (0, { V with at_ := V.at_ + partsN r.length, num := V.num + 1 }, (layAll (2 + V.at_) (partsS V.gen (V.num : Nat) r) V.live S false).2)
  else ((layAll (2 + V.at_) (partsS V.gen (V.num : Nat) r) V.live S false).1, { V with ended := decide ((layAll (2 + V.at_) (partsS V.gen (V.num : Nat) r) V.live S false).1 = 6 ∨ (layAll (2 + V.at_) (partsS V.gen (V.num : Nat) r) V.live S false).1 = 5) }, (layAll (2 + V.at_) (partsS V.gen (V.num : Nat) r) V.live S false).2) := by
    unfold appendJ
    rw [if_neg (by rw [h.going]; decide), if_neg e0, if_neg (by omega)]
  have hw := layAll_writes (2 + V.at_) (partsS V.gen (V.num : Nat) r) V.live S false h.std hlv
  have hw2 : V.live.length * (partsS V.gen (V.num : Nat) r).length ≤ V.live.length * 48 := Nat.mul_le_mul_left _ (by rw [hlen]; omega)
  have ha := layAll_armed (2 + V.at_) (partsS V.gen (V.num : Nat) r) V.live S false h.std
  have hc := layAll_std (2 + V.at_) (partsS V.gen (V.num : Nat) r) V.live S false h.std hlv h.nodup
  rw [e]
  clear e
  generalize hx : layAll (2 + V.at_) (partsS V.gen (V.num : Nat) r) V.live S false = x at *
  rcases hc with ⟨k1, k2, k3, k4, k5⟩ | ⟨k1, k2, k3, k4, k5, k6⟩
  · by_cases hex : ∃ d ∈ V.live, S.dead d = false
    · rw [if_pos (.inr hex)] at k1
      left
      rw [if_pos k1]
      refine ⟨by omega, hex, rfl, rfl, ?_, k3, fun h0 => ha h0 hlv, by show x.2.writes ≤ _; omega⟩
      refine { std := k2, holds := ?_, at_ := ?_, num := ?_, going := h.going, gen := h.gen, live := fun d hd => by rw [k3.n, k3.size]; exact h.live d hd, nodup := h.nodup, used := ?_, lens := fun y hy => ?_ }
      · rw [hat, h.num] at k4 k5
        exact h.holds.append k3 k4 k5
      · show V.at_ + partsN r.length = _
        rw [usedL_append, usedL_cons, usedL_nil, hat]
        rfl
      · show V.num + 1 = _
        rw [h.num, List.length_append]
        rfl
      · rw [usedL_append, usedL_cons, usedL_nil]
        omega
      · rcases List.mem_append.1 hy with hy | hy
        · exact h.lens y hy
        · rw [List.mem_singleton.1 hy]
          exact hr
    · rw [if_neg (by simpa using hex)] at k1
      right; left
      rw [if_neg (by omega)]
      refine ⟨by omega, fun d hd => ?_, k1, ?_, k2, k3, by show x.2.writes ≤ _; omega⟩
      · cases hdd : S.dead d with
        | true => rfl
        | false => exact absurd ⟨d, hd, hdd⟩ hex
      · show ({ V with ended := _ } : LogV) = _
        rw [k1]
        rfl
  · right; right
    rw [if_neg (by omega)]
    refine ⟨by omega, k1, k2, ?_, k3, fun d => by show x.2.failAt d = 0; rw [k4]; exact h.std.nofail d, k5, ?_, by show x.2.writes ≤ _; omega⟩
    · show ({ V with ended := _ } : LogV) = _
      rw [k2]
      rfl
    · rw [hat, h.num] at k6
      exact h.holds.fell k5 k6
/-- Scan tells them. -/
theorem JI.scan_ {S T : Bank} {V : LogV} {bs : View} {R : List (List UInt8)} {live : List Nat} {d : Nat} (h : JI S V bs R) (hb : ∀ (nr : Int) j, Foreign V.gen nr (bs j)) (hT : Holds T live bs V.gen R) (hd : d ∈ live) (hx : T.dead d = false) : scanL (viewsOf T live) V.gen 49 0 0 = (R, usedL R) :=
  hT.scan hd hx h.gen h.lens h.used (by have := h.few; omega) (by have := h.few; omega) (fun _ => hb _ _)
theorem JI.scan {S T : Bank} {V : LogV} {R : List (List UInt8)} {live : List Nat} {d : Nat} (h : JI S V noughts R) (hT : Holds T live noughts V.gen R) (hd : d ∈ live) (hx : T.dead d = false) : scanL (viewsOf T live) V.gen 49 0 0 = (R, usedL R) :=
  h.scan_ (fun _ _ => foreign_noughts _ _ _) hT hd hx
#print axioms JI.append
#print axioms JI.scan
/-- A place in the journal lies in a part of one of its records. -/
theorem journal_at : ∀ (R : List (List UInt8)) (k : Nat), k < usedL R → ∃ R1 r R2 i, R = R1 ++ r :: R2 ∧ k = usedL R1 + i ∧ i < partsN r.length
  | [], k, h => by rw [usedL_nil] at h; omega
  | r :: R, k, h => by
    rw [usedL_cons] at h
    by_cases hk : k < partsN r.length
    · exact ⟨[], r, R, k, rfl, by rw [usedL_nil]; omega, hk⟩
    · obtain ⟨R1, r', R2, i, h1, h2, h3⟩ := journal_at R (k - partsN r.length) (by omega)
      exact ⟨r :: R1, r', R2, i, by rw [h1]; rfl, by rw [usedL_cons]; omega, h3⟩
/-- Where each record ends. -/
def endsL (R : List (List UInt8)) : List Int := (List.range R.length).map fun k => ((usedL (R.take (k + 1)) : Nat) : Int)
theorem endsL_length (R : List (List UInt8)) : (endsL R).length = R.length := by simp [endsL]
theorem endsL_append (R : List (List UInt8)) (r : List UInt8) : endsL (R ++ [r]) = endsL R ++ [((usedL (R ++ [r]) : Nat) : Int)] := by
  unfold endsL
  rw [List.length_append, List.length_singleton, List.range_succ, List.map_append]
  congr 1
  · refine List.map_congr_left fun k hk => ?_
    rw [List.mem_range] at hk
    rw [List.take_append_of_le_length (by omega)]
  · rw [List.map_singleton, List.take_of_length_le (by rw [List.length_append, List.length_singleton]; omega)]
theorem usedL_take (R : List (List UInt8)) (k : Nat) : usedL (R.take k) ≤ usedL R := by
  conv => rhs; rw [← List.take_append_drop k R]
  rw [usedL_append]
  omega
/-- The records ahead of the one whose sector it is end at or ahead of it; that one behind it. -/
theorem ends_at {R1 R2 : List (List UInt8)} {r : List UInt8} {k i j : Nat} (hk : k = usedL R1 + i) (hi : i < partsN r.length) (hj : j < (R1 ++ r :: R2).length) :
    (endsL (R1 ++ r :: R2))[j]? = some ((usedL ((R1 ++ r :: R2).take (j + 1)) : Nat) : Int) ∧ (j < R1.length → usedL ((R1 ++ r :: R2).take (j + 1)) ≤ k) ∧ (j = R1.length → k < usedL ((R1 ++ r :: R2).take (j + 1))) := by
  refine ⟨by unfold endsL; rw [List.getElem?_map, List.getElem?_range hj]; rfl, fun h => ?_, fun h => ?_⟩
  · rw [List.take_append_of_le_length (by omega)]
    have := usedL_take R1 (j + 1)
    omega
  · subst h
    have e : (R1 ++ r :: R2).take (R1.length + 1) = R1 ++ [r] := by
      rw [List.take_append, List.take_of_length_le (by omega), Nat.add_sub_cancel_left]
      rfl
    rw [e, usedL_append, usedL_cons, usedL_nil]
    omega
/-- What Scan tells of a member of which one sector is noughts. -/
theorem JI.torn {S : Bank} {V : LogV} {R1 R2 : List (List UInt8)} {r : List UInt8} {k i : Nat} (h : JI S V noughts (R1 ++ r :: R2)) (hl : V.live = [0]) (hx : S.dead 0 = false) (hk : k = usedL R1 + i) (hi : i < partsN r.length) :
    scanL (viewsOf (S.tickA.put 0 (2 + k) zeroSec) [0]) V.gen 49 0 0 = (R1, usedL R1) := by
  have hv : viewsOf (S.tickA.put 0 (2 + k) zeroSec) [0] = [fun j => ((S.tickA.put 0 (2 + k) zeroSec).newest 0 (2 + j)).1] := by
    unfold viewsOf
    have hd : (S.tickA.put 0 (2 + k) zeroSec).dead 0 = false := hx
    simp [hd]
  have hn : ∀ j, ((S.tickA.put 0 (2 + k) zeroSec).newest 0 (2 + j)) = if j = k then zeroSec else S.newest 0 (2 + j) := fun j => by
    show upd2 S.newest 0 (2 + k) zeroSec 0 (2 + j) = _
    by_cases hj : j = k
    · subst hj; rw [upd2_self, if_pos rfl]
    · rw [upd2_ne _ _ (by omega), if_neg hj]
  rw [hv]
  refine scan_torn h.gen h.lens h.used (by have := h.few; omega) (by have := h.few; omega) hi (fun j hj hne => ?_) ?_
  · rw [hn, if_neg (by omega)]
    exact (h.holds 0 (by rw [hl]; decide) hx j hj).1
  · rw [hn, if_pos hk.symm]
    rfl
#print axioms JI.torn
#print axioms ends_at
#print axioms endsL_append
end Go.Proofs.Ytmjdndhpnckeeaa
