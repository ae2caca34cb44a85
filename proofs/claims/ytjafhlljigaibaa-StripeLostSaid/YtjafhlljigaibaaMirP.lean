/- Two copies of a sector, as the document tells them, by definition alone; what is kept where one disk may fail, where none does, and behind a crash. No program is named here. -/
import Derived.Test.YtjafhlljigaibaaPure
namespace Go.Proofs.Ytjafhlljigaibaa
open Go.RowKit
/-- Is an errno that of a copy that is lost? -/
def lostB (e : Nat) : Bool := e == 8 || e == 7
def Bank.readS (S : Bank) (d k : Nat) : Sec := if S.place d k = 0 then S.newest d k else zeroSec
def Bank.mwrite (S : Bank) (d k d' k' : Nat) (s : Sec) : Nat × Bank :=
  let a := S.write d k s
  if a.1 = 0 ∨ lostB a.1 = true then
    let c := a.2.write d' k' s
    if c.1 = 0 ∨ lostB c.1 = true then (if a.1 = 0 ∨ c.1 = 0 then 0 else 5, c.2) else c
  else a
def Bank.mread (S : Bank) (d k d' k' : Nat) : Sec × Nat :=
  if lostB (S.place d k) = true then (if lostB (S.place d' k') = true then (zeroSec, 5) else (S.readS d' k', S.place d' k'))
  else (S.readS d k, S.place d k)
/-- What Alike answers, and what is behind it. -/
def Bank.malike (S : Bank) (d k d' k' : Nat) : (Bool × Nat) × Bank :=
  let e := S.place d k
  let f := S.place d' k'
  if e = 0 ∨ lostB e = true then
    if f = 0 ∨ lostB f = true then
      if e = 0 ∧ f = 0 then
        (if S.newest d k = S.newest d' k' then ((false, 0), S) else
          let c := S.write d' k' (S.newest d k)
          ((decide (c.1 = 0), if lostB c.1 = true then 0 else c.1), c.2))
      else ((false, if e = 0 ∨ f = 0 then 0 else 5), S)
    else ((false, f), S)
  else ((false, e), S)
def Bank.mcopy (S : Bank) (d k d' k' : Nat) : Nat × Bank := if S.place d k = 0 then S.write d' k' (S.newest d k) else (S.place d k, S)
/-! ### At most one disk fails, power stays -/
/-- Two disks of twelve sectors; but for disk x none has failed or will; each that lives holds g. -/
structure Liv (S : Bank) (x : Nat) (g : Nat → Nat → Sec) : Prop where
  n : S.n = 2
  size : ∀ d, d < 2 → S.size d = 12
  up : S.down = false
  calm : S.armed = 0
  well : ∀ d, d < 2 → d ≠ x → S.dead d = false ∧ S.failAt d = 0
  holds : ∀ d k, d < 2 → k < 12 → S.dead d = false → S.newest d k = g d k
theorem tick_live (S : Bank) : ∀ j d, S.failAt d = 0 → (S.tick j).failAt d = 0 ∧ (S.tick j).dead d = S.dead d ∧ (S.tick j).newest d = S.newest d ∧ (S.tick j).flushed d = S.flushed d
  | 0, d, h => ⟨h, rfl, rfl, rfl⟩
  | j + 1, d, h => by
    obtain ⟨h1, h2, h3, h4⟩ := tick_live S j d h
    unfold Bank.tick
    simp only
    by_cases h0 : (S.tick j).failAt j = 0
    · rw [if_pos h0]; exact ⟨h1, h2, h3, h4⟩
    · have hne : d ≠ j := fun e => by subst e; exact h0 h1
      rw [if_neg h0]
      split
      · refine ⟨?_, ?_, ?_, h4⟩
        · show upd (S.tick j).failAt j _ d = 0
          rw [upd_ne _ _ hne]; exact h1
        · show upd (S.tick j).dead j true d = _
          rw [upd_ne _ _ hne]; exact h2
        · show upd (S.tick j).newest j _ d = _
          rw [upd_ne _ _ hne]; exact h3
      · refine ⟨?_, h2, h3, h4⟩
        show upd (S.tick j).failAt j _ d = 0
        rw [upd_ne _ _ hne]; exact h1
theorem tick_alive (S : Bank) : ∀ j d, (S.tick j).dead d = false → S.dead d = false ∧ (S.tick j).newest d = S.newest d
  | 0, d, h => ⟨h, rfl⟩
  | j + 1, d, h => by
    unfold Bank.tick at h ⊢
    simp only at h ⊢
    by_cases h0 : (S.tick j).failAt j = 0
    · rw [if_pos h0] at h ⊢; exact tick_alive S j d h
    · rw [if_neg h0] at h ⊢
      split at h
      · rename_i h1
        rw [if_pos h1]
        have hne : d ≠ j := fun e => by
          have h2 : upd (S.tick j).dead j true d = false := h
          rw [e, upd_self] at h2
          cases h2
        have h2 : upd (S.tick j).dead j true d = false := h
        rw [upd_ne _ _ hne] at h2
        obtain ⟨h3, h4⟩ := tick_alive S j d h2
        refine ⟨h3, ?_⟩
        show upd (S.tick j).newest j _ d = _
        rw [upd_ne _ _ hne]; exact h4
      · rename_i h1
        rw [if_neg h1]
        exact tick_alive S j d h
theorem tick_more_keeps (S : Bank) : ∀ j, (S.tick j).n = S.n ∧ (S.tick j).size = S.size ∧ (S.tick j).down = S.down ∧ (S.tick j).armed = S.armed ∧ (S.tick j).writes = S.writes ∧ (S.tick j).mask = S.mask
  | 0 => ⟨rfl, rfl, rfl, rfl, rfl, rfl⟩
  | j + 1 => by
    obtain ⟨h1, h2, h3, h4, h5, h6⟩ := tick_more_keeps S j
    unfold Bank.tick
    simp only
    split
    · exact ⟨h1, h2, h3, h4, h5, h6⟩
    · split
      · exact ⟨h1, h2, h3, h4, h5, h6⟩
      · exact ⟨h1, h2, h3, h4, h5, h6⟩
theorem count_calm {S : Bank} (hu : S.down = false) (ha : S.armed = 0) : S.count = (false, S.ticked) := by
  unfold Bank.count
  rw [if_neg (by rw [hu]; decide)]
  have h := (tick_more_keeps S.wrote S.n).2.2.2.1
  have h2 : S.ticked.armed = 0 := by
    show (S.wrote.tick S.n).armed = 0
    rw [h]; exact ha
  simp only
  rw [if_pos h2]
theorem Liv.place {S : Bank} {x : Nat} {g : Nat → Nat → Sec} (h : Liv S x g) {d k : Nat} (hd : d < 2) (hk : k < 12) : S.place d k = if S.dead d then 7 else 0 := by
  unfold Bank.place Bank.may
  have hn : ¬ S.n ≤ d := by have := h.n; omega
  rw [if_neg hn, h.up, h.size d hd]
  cases S.dead d <;> simp [hk]
theorem Liv.write {S : Bank} {x : Nat} {g : Nat → Nat → Sec} (h : Liv S x g) {d k : Nat} (hd : d < 2) (hk : k < 12) (s : Sec) :
    Liv (S.write d k s).2 x (upd2 g d k s) ∧ ((S.write d k s).1 = 0 ∨ ((S.write d k s).1 = 7 ∧ d = x)) ∧ (S.write d k s).2.writes = S.writes + 1 := by
  obtain ⟨h1, h2, h3, h4, h5, _⟩ := tick_more_keeps S.wrote S.n
  have hT : Liv S.ticked x g := by
    refine ⟨h1.trans h.n, fun d hd => ?_, h3.trans h.up, h4.trans h.calm, fun d hd hx => ?_, fun d k hd hk hl => ?_⟩
    · show (S.wrote.tick S.n).size d = 12
      rw [h2]; exact h.size d hd
    · obtain ⟨a1, a2⟩ := h.well d hd hx
      obtain ⟨b1, b2, _⟩ := tick_live S.wrote S.n d a2
      exact ⟨b2.trans a1, b1⟩
    · obtain ⟨a1, a2⟩ := tick_alive S.wrote S.n d hl
      show (S.wrote.tick S.n).newest d k = _
      rw [a2]
      exact h.holds d k hd hk a1
  have hw : S.ticked.writes = S.writes + 1 := h5
  have hp := hT.place hd hk
  unfold Bank.write
  rw [count_calm h.up h.calm]
  simp only [Bool.false_eq_true, if_false]
  cases hl : S.ticked.dead d with
  | true =>
    rw [hl, if_pos rfl] at hp
    rw [hp, if_neg (by decide)]
    have hx : d = x := by
      by_cases hx : d = x
      · exact hx
      · have := (hT.well d hd hx).1
        rw [hl] at this
        cases this
    refine ⟨⟨hT.n, hT.size, hT.up, hT.calm, hT.well, fun d' k' hd' hk' hl' => ?_⟩, .inr ⟨rfl, hx⟩, hw⟩
    rw [upd2_ne _ _ (fun e => by rw [e.1, hl] at hl'; cases hl')]
    exact hT.holds d' k' hd' hk' hl'
  | false =>
    rw [hl, if_neg (by decide)] at hp
    rw [if_pos hp]
    refine ⟨⟨hT.n, hT.size, hT.up, hT.calm, hT.well, fun d' k' hd' hk' hl' => ?_⟩, .inl rfl, hw⟩
    show upd2 S.ticked.newest d k s d' k' = upd2 g d k s d' k'
    by_cases e : d' = d ∧ k' = k
    · rw [e.1, e.2, upd2_self, upd2_self]
    · rw [upd2_ne _ _ e, upd2_ne _ _ e]
      exact hT.holds d' k' hd' hk' hl'
theorem Liv.congr {S : Bank} {x : Nat} {g g' : Nat → Nat → Sec} (h : Liv S x g) (he : ∀ d k, d < 2 → k < 12 → g d k = g' d k) : Liv S x g' :=
  { h with holds := fun d k hd hk hl => (h.holds d k hd hk hl).trans (he d k hd hk) }
/-- Two copies, on disk 0 and on disk 1, are written: what is then. -/
theorem Liv.mwrite {S : Bank} {x : Nat} {g : Nat → Nat → Sec} (h : Liv S x g) {k k' : Nat} (hk : k < 12) (hk' : k' < 12) (s : Sec) :
    Liv (S.mwrite 0 k 1 k' s).2 x (upd2 (upd2 g 0 k s) 1 k' s) ∧ (S.mwrite 0 k 1 k' s).1 = 0 ∧ (S.mwrite 0 k 1 k' s).2.writes = S.writes + 2 := by
  obtain ⟨h1, h2, h3⟩ := h.write (show 0 < 2 by decide) hk s
  obtain ⟨h4, h5, h6⟩ := h1.write (show 1 < 2 by decide) hk' s
  have e1 : (S.write 0 k s).1 = 0 ∨ lostB (S.write 0 k s).1 = true := h2.imp id (fun e => by rw [e.1]; rfl)
  have e2 : ((S.write 0 k s).2.write 1 k' s).1 = 0 ∨ lostB ((S.write 0 k s).2.write 1 k' s).1 = true := h5.imp id (fun e => by rw [e.1]; rfl)
  have e3 : (S.write 0 k s).1 = 0 ∨ ((S.write 0 k s).2.write 1 k' s).1 = 0 := by
    rcases h2 with h2 | ⟨_, h2⟩
    · exact .inl h2
    · rcases h5 with h5 | ⟨_, h5⟩
      · exact .inr h5
      · omega
  unfold Bank.mwrite
  simp only
  rw [if_pos e1, if_pos e2, if_pos e3]
  exact ⟨h4, rfl, by rw [h6, h3]⟩
/-- .. and read: whichever of both is named first. -/
theorem Liv.mread {S : Bank} {x : Nat} {g : Nat → Nat → Sec} (h : Liv S x g) {d d' k k' : Nat} (hd : d < 2) (hd' : d' < 2) (hne : d ≠ d') (hk : k < 12) (hk' : k' < 12) (hg : g d k = g d' k') : S.mread d k d' k' = (g d k, 0) := by
  have hp := h.place hd hk
  have hp' := h.place hd' hk'
  unfold Bank.mread Bank.readS
  cases hl : S.dead d with
  | false =>
    rw [hl, if_neg (by decide)] at hp
    rw [hp, if_neg (show ¬ lostB 0 = true by decide), if_pos rfl, h.holds d k hd hk hl]
  | true =>
    rw [hl, if_pos rfl] at hp
    have hl' : S.dead d' = false := by
      by_cases hx : d' = x
      · have := (h.well d hd (by omega)).1
        rw [hl] at this
        cases this
      · exact (h.well d' hd' hx).1
    rw [hl', if_neg (by decide)] at hp'
    rw [hp, if_pos (show lostB 7 = true from rfl), hp', if_neg (show ¬ lostB 0 = true by decide), if_pos rfl, h.holds d' k' hd' hk' hl', hg]
theorem Liv.malike {S : Bank} {x : Nat} {g : Nat → Nat → Sec} (h : Liv S x g) {d d' k k' : Nat} (hd : d < 2) (hd' : d' < 2) (hne : d ≠ d') (hk : k < 12) (hk' : k' < 12) (hg : g d k = g d' k') : S.malike d k d' k' = ((false, 0), S) := by
  have hp := h.place hd hk
  have hp' := h.place hd' hk'
  unfold Bank.malike
  simp only
  cases hl : S.dead d with
  | false =>
    rw [hl, if_neg (by decide)] at hp
    cases hl' : S.dead d' with
    | false =>
      rw [hl', if_neg (by decide)] at hp'
      rw [hp, hp', if_pos (.inl rfl), if_pos (.inl rfl), if_pos ⟨rfl, rfl⟩, h.holds d k hd hk hl, h.holds d' k' hd' hk' hl', hg, if_pos rfl]
    | true =>
      rw [hl', if_pos rfl] at hp'
      rw [hp, hp', if_pos (.inl rfl), if_pos (.inr rfl), if_neg (by simp), if_pos (.inl rfl)]
  | true =>
    rw [hl, if_pos rfl] at hp
    have hl' : S.dead d' = false := by
      by_cases hx : d' = x
      · have := (h.well d hd (by omega)).1
        rw [hl] at this
        cases this
      · exact (h.well d' hd' hx).1
    rw [hl', if_neg (by decide)] at hp'
    rw [hp, hp', if_pos (.inr rfl), if_pos (.inl rfl), if_neg (by simp), if_pos (.inr rfl)]
/-! ### No disk fails; power may -/
theorem keeps_or (m : Nat) (nw : Nat → Nat → Sec) : ∀ (l : List (Nat × Nat)) (i : Nat) (F : Nat → Nat → Sec) (d k : Nat), keeps m nw i l F d k = F d k ∨ keeps m nw i l F d k = nw d k
  | [], _, F, d, k => .inl rfl
  | p :: l, i, F, d, k => by
    unfold keeps
    by_cases hm : m.testBit (i % 64) = true
    · rw [if_pos hm]
      rcases keeps_or m nw l (i + 1) (upd2 F p.1 p.2 (nw p.1 p.2)) d k with h | h
      · rw [h]
        by_cases he : d = p.1 ∧ k = p.2
        · rw [← he.1, ← he.2, upd2_self]; exact .inr rfl
        · rw [upd2_ne _ _ he]; exact .inl rfl
      · exact .inr h
    · rw [if_neg hm]
      exact keeps_or m nw l (i + 1) F d k
theorem tick_none {S : Bank} : ∀ j, (∀ i, i < j → S.failAt i = 0) → S.tick j = S
  | 0, _ => rfl
  | j + 1, h => by
    have h1 := tick_none (S := S) j (fun i hi => h i (by omega))
    unfold Bank.tick
    simp only
    rw [h1, if_pos (h j (by omega))]
/-- Two disks of twelve sectors that live, power there; ar: at which write to come it fails (0: at none); what is flushed, and what is newest. -/
structure Cal (S : Bank) (ar : Nat) (f nw : Nat → Nat → Sec) : Prop where
  n : S.n = 2
  size : ∀ d, d < 2 → S.size d = 12
  up : S.down = false
  live : ∀ d, d < 2 → S.dead d = false ∧ S.failAt d = 0
  armed : S.armed = ar
  flu : ∀ d k, d < 2 → k < 12 → S.flushed d k = f d k
  new : ∀ d k, d < 2 → k < 12 → S.newest d k = nw d k
/-- The same, power gone. -/
structure Fel (S : Bank) (c : Nat → Nat → Sec) : Prop where
  n : S.n = 2
  size : ∀ d, d < 2 → S.size d = 12
  down : S.down = true
  live : ∀ d, d < 2 → S.dead d = false ∧ S.failAt d = 0
  armed : S.armed = 0
  flu : ∀ d k, d < 2 → k < 12 → S.flushed d k = c d k
  new : ∀ d k, d < 2 → k < 12 → S.newest d k = c d k
section
variable {S : Bank} {ar : Nat} {f nw c : Nat → Nat → Sec}
theorem Cal.may (h : Cal S ar f nw) {d : Nat} (hd : d < 2) : S.may d = 0 := by
  unfold Bank.may
  rw [if_neg (by have := h.n; omega), (h.live d hd).1, h.up]
  rfl
theorem Cal.place (h : Cal S ar f nw) {d k : Nat} (hd : d < 2) (hk : k < 12) : S.place d k = 0 := by
  unfold Bank.place
  rw [if_pos (h.may hd), if_pos (by rw [h.size d hd]; exact hk)]
theorem Fel.place (h : Fel S c) {d k : Nat} (hd : d < 2) : S.place d k = 6 := by
  have hm : S.may d = 6 := by
    unfold Bank.may
    rw [if_neg (by have := h.n; omega), (h.live d hd).1, h.down]
    rfl
  unfold Bank.place
  rw [if_neg (by rw [hm]; decide), hm]
theorem Cal.ticked (h : Cal S ar f nw) : S.ticked = S.wrote := tick_none _ (fun i hi => (h.live i (by have h1 := h.n; have h2 : S.wrote.n = S.n := rfl; omega)).2)
theorem Cal.flush (h : Cal S ar f nw) (d : Nat) : Cal (S.flush d) ar (upd f d (nw d)) nw := by
  refine ⟨h.n, h.size, h.up, h.live, h.armed, fun d' k hd hk => ?_, h.new⟩
  show upd S.flushed d (S.newest d) d' k = upd f d (nw d) d' k
  by_cases e : d' = d
  · subst e
    rw [upd_self, upd_self]
    exact h.new d' k hd hk
  · rw [upd_ne _ _ e, upd_ne _ _ e]
    exact h.flu d' k hd hk
theorem Cal.crash (h : Cal S ar f nw) (m : Nat) : ∃ c, Fel (S.crash m) c ∧ ∀ d k, c d k = S.flushed d k ∨ c d k = S.newest d k := by
  unfold Bank.crash
  rw [if_neg (by rw [h.up]; decide)]
  exact ⟨S.kept m, ⟨h.n, h.size, rfl, h.live, rfl, fun _ _ _ _ => rfl, fun _ _ _ _ => rfl⟩, fun d k => keeps_or m _ _ _ _ d k⟩
theorem Fel.start (h : Fel S c) : Cal S.start 0 c c := ⟨h.n, h.size, rfl, h.live, h.armed, h.flu, h.new⟩
theorem Cal.arm (h : Cal S ar f nw) (a m : Nat) : Cal (S.arm a m) a f nw := ⟨h.n, h.size, h.up, h.live, rfl, h.flu, h.new⟩
theorem Cal.count_ok (h : Cal S ar f nw) (har : ar ≠ 1) : ∃ T, S.count = (false, T) ∧ Cal T (ar - 1) f nw ∧ T.writes = S.writes + 1 ∧ T.newest = S.newest := by
  unfold Bank.count
  rw [if_neg (by rw [h.up]; decide)]
  simp only
  rw [h.ticked]
  have ha : S.wrote.armed = ar := h.armed
  by_cases h0 : ar = 0
  · rw [if_pos (ha.trans h0)]
    exact ⟨_, rfl, ⟨h.n, h.size, h.up, h.live, by show S.armed = _; rw [h.armed]; omega, h.flu, h.new⟩, rfl, rfl⟩
  · rw [if_neg (by rw [ha]; exact h0), if_neg (by rw [ha]; exact har)]
    exact ⟨_, rfl, ⟨h.n, h.size, h.up, h.live, by show S.wrote.armed - 1 = _; rw [ha], h.flu, h.new⟩, rfl, rfl⟩
theorem Cal.put (h : Cal S ar f nw) (d k : Nat) (s : Sec) : Cal (S.put d k s) ar f (upd2 nw d k s) := by
  refine ⟨h.n, h.size, h.up, h.live, h.armed, h.flu, fun d' k' hd hk => ?_⟩
  show upd2 S.newest d k s d' k' = upd2 nw d k s d' k'
  by_cases e : d' = d ∧ k' = k
  · rw [e.1, e.2, upd2_self, upd2_self]
  · rw [upd2_ne _ _ e, upd2_ne _ _ e]
    exact h.new d' k' hd hk
theorem Cal.write (h : Cal S ar f nw) (har : ar ≠ 1) {d k : Nat} (hd : d < 2) (hk : k < 12) (s : Sec) :
    (S.write d k s).1 = 0 ∧ Cal (S.write d k s).2 (ar - 1) f (upd2 nw d k s) ∧ (S.write d k s).2.writes = S.writes + 1 := by
  obtain ⟨T, hT, hC, hw, _⟩ := h.count_ok har
  unfold Bank.write
  rw [hT]
  simp only [Bool.false_eq_true, if_false]
  rw [if_pos (hC.place hd hk)]
  exact ⟨rfl, hC.put d k s, hw⟩
theorem Cal.fall (h : Cal S 1 f nw) (d k : Nat) (s : Sec) : (S.write d k s).1 = 6 ∧ ∃ c, Fel (S.write d k s).2 c ∧ ∀ d k, d < 2 → k < 12 → c d k = f d k ∨ c d k = nw d k := by
  have hc : S.count = (true, ({ S.wrote with armed := 0 } : Bank).crash S.mask) := by
    unfold Bank.count
    rw [if_neg (by rw [h.up]; decide)]
    simp only
    rw [h.ticked]
    have ha : S.wrote.armed = 1 := h.armed
    rw [if_neg (by rw [ha]; decide), if_pos ha, ha]
    rfl
  have hT : Cal ({ S.wrote with armed := 0 } : Bank) 0 f nw := ⟨h.n, h.size, h.up, h.live, rfl, h.flu, h.new⟩
  obtain ⟨c, hF, hor⟩ := hT.crash S.mask
  unfold Bank.write
  rw [hc]
  refine ⟨rfl, c, hF, fun d k hd hk => ?_⟩
  rcases hor d k with e | e
  · left; rw [e]; exact hT.flu d k hd hk
  · right; rw [e]; exact hT.new d k hd hk
theorem Cal.mwrite (h : Cal S 0 f nw) {k k' : Nat} (hk : k < 12) (hk' : k' < 12) (s : Sec) :
    (S.mwrite 0 k 1 k' s).1 = 0 ∧ Cal (S.mwrite 0 k 1 k' s).2 0 f (upd2 (upd2 nw 0 k s) 1 k' s) ∧ (S.mwrite 0 k 1 k' s).2.writes = S.writes + 2 := by
  obtain ⟨h1, h2, h3⟩ := h.write (by decide) (show 0 < 2 by decide) hk s
  obtain ⟨h4, h5, h6⟩ := h2.write (by decide) (show 1 < 2 by decide) hk' s
  unfold Bank.mwrite
  simp only
  rw [if_pos (.inl h1), if_pos (.inl h4), if_pos (.inl h1)]
  exact ⟨rfl, h5, by rw [h6, h3]⟩
/-- Power fails at the first or the second of both writes. -/
theorem Cal.mfall (h : Cal S ar f nw) (har : ar = 1 ∨ ar = 2) (hfn : ∀ d k, d < 2 → k < 12 → f d k = nw d k) {k k' : Nat} (hk : k < 12) (hk' : k' < 12) (s : Sec) :
    (S.mwrite 0 k 1 k' s).1 = 6 ∧ ∃ c, Fel (S.mwrite 0 k 1 k' s).2 c ∧ c 1 k' = nw 1 k' ∧ (c 0 k = nw 0 k ∨ (c 0 k = s ∧ ar = 2)) := by
  rcases har with rfl | rfl
  · obtain ⟨h1, c, h2, h3⟩ := h.fall 0 k s
    unfold Bank.mwrite
    simp only
    rw [if_neg (by rw [h1]; decide)]
    refine ⟨h1, c, h2, ?_, .inl ?_⟩
    · rcases h3 1 k' (by decide) hk' with e | e
      · rw [e, hfn 1 k' (by decide) hk']
      · exact e
    · rcases h3 0 k (by decide) hk with e | e
      · rw [e, hfn 0 k (by decide) hk]
      · exact e
  · obtain ⟨h1, h2, _⟩ := h.write (by decide) (show 0 < 2 by decide) hk s
    obtain ⟨h4, c, h5, h6⟩ := h2.fall 1 k' s
    unfold Bank.mwrite
    simp only
    rw [if_pos (.inl h1), if_neg (by rw [h4]; decide)]
    refine ⟨h4, c, h5, ?_, ?_⟩
    · rcases h6 1 k' (by decide) hk' with e | e
      · rw [e, hfn 1 k' (by decide) hk']
      · rw [e, upd2_ne _ _ (by omega)]
    · rcases h6 0 k (by decide) hk with e | e
      · left; rw [e, hfn 0 k (by decide) hk]
      · right; rw [e, upd2_self]; exact ⟨rfl, trivial⟩
theorem Cal.mread (h : Cal S ar f nw) {d d' k k' : Nat} (hd : d < 2) (hk : k < 12) : S.mread d k d' k' = (nw d k, 0) := by
  unfold Bank.mread Bank.readS
  rw [h.place hd hk, if_neg (show ¬ lostB 0 = true by decide), if_pos rfl, h.new d k hd hk]
theorem Fel.mread (h : Fel S c) {d d' k k' : Nat} (hd : d < 2) : S.mread d k d' k' = (zeroSec, 6) := by
  unfold Bank.mread Bank.readS
  rw [h.place hd, if_neg (show ¬ lostB 6 = true by decide), if_neg (by decide)]
theorem Fel.malike (h : Fel S c) {d d' k k' : Nat} (hd : d < 2) : S.malike d k d' k' = ((false, 6), S) := by
  unfold Bank.malike
  simp only
  rw [h.place hd, if_neg (by decide)]
theorem Cal.malike (h : Cal S 0 f nw) {d d' k k' : Nat} (hd : d < 2) (hd' : d' < 2) (hk : k < 12) (hk' : k' < 12) :
    (S.malike d k d' k').1 = (!decide (nw d k = nw d' k'), 0) ∧ Cal (S.malike d k d' k').2 0 f (upd2 nw d' k' (nw d k)) ∧ (S.malike d k d' k').2.writes ≤ S.writes + 1 := by
  unfold Bank.malike
  simp only
  rw [h.place hd hk, h.place hd' hk', if_pos (.inl rfl), if_pos (.inl rfl), if_pos ⟨rfl, rfl⟩, h.new d k hd hk, h.new d' k' hd' hk']
  by_cases e : nw d k = nw d' k'
  · rw [if_pos e]
    refine ⟨by simp [e], ⟨h.n, h.size, h.up, h.live, h.armed, h.flu, fun i j hi hj => ?_⟩, Nat.le_succ _⟩
    rw [h.new i j hi hj]
    by_cases e2 : i = d' ∧ j = k'
    · rw [e2.1, e2.2, upd2_self, e]
    · rw [upd2_ne _ _ e2]
  · rw [if_neg e]
    obtain ⟨h1, h2, h3⟩ := h.write (by decide) hd' hk' (nw d k)
    rw [h1]
    exact ⟨by simp [e, lostB], h2, Nat.le_of_eq h3⟩
end
/-! ### Nothing is armed, and no disk fails at a write to come: any place -/
structure Qui (S : Bank) : Prop where
  n : S.n = 2
  size : ∀ d, d < 2 → S.size d = 12
  up : S.down = false
  calm : S.armed = 0
  sure : ∀ d, d < 2 → S.failAt d = 0
section
variable {S : Bank}
theorem Qui.count (h : Qui S) : S.count = (false, S.wrote) := by
  have ht : S.ticked = S.wrote := tick_none _ (fun i hi => h.sure i (by have h1 := h.n; have h2 : S.wrote.n = S.n := rfl; omega))
  unfold Bank.count
  rw [if_neg (by rw [h.up]; decide)]
  simp only
  rw [ht, if_pos (show S.wrote.armed = 0 from h.calm)]
theorem Qui.place (h : Qui S) (d k : Nat) : S.place d k = if d < 2 then (if S.dead d = true then 7 else if k < 12 then 0 else 3) else 8 := by
  unfold Bank.place Bank.may
  rw [h.n]
  by_cases hd : d < 2
  · rw [if_neg (show ¬ 2 ≤ d by omega), if_pos hd, h.up, h.size d hd]
    cases S.dead d <;> simp
  · rw [if_pos (show 2 ≤ d by omega), if_neg hd]
    rfl
theorem Qui.wrote (h : Qui S) : Qui S.wrote := ⟨h.n, h.size, h.up, h.calm, h.sure⟩
theorem Qui.write_ok (h : Qui S) {d k : Nat} (hp : S.place d k = 0) (s : Sec) : S.write d k s = (0, S.wrote.put d k s) := by
  unfold Bank.write
  rw [h.count]
  simp only [Bool.false_eq_true, if_false]
  have hp2 : S.wrote.place d k = 0 := hp
  rw [if_pos hp2]
theorem Qui.write_no (h : Qui S) {d k : Nat} (hp : S.place d k ≠ 0) (s : Sec) : S.write d k s = (S.place d k, S.wrote) := by
  unfold Bank.write
  rw [h.count]
  simp only [Bool.false_eq_true, if_false]
  have hp2 : ¬ S.wrote.place d k = 0 := hp
  rw [if_neg hp2]
  rfl
theorem Qui.put (h : Qui S) (d k : Nat) (s : Sec) : Qui (S.put d k s) := ⟨h.n, h.size, h.up, h.calm, h.sure⟩
theorem Qui.fail (h : Qui S) (d : Nat) : Qui (S.fail d) := ⟨h.n, h.size, h.up, h.calm, h.sure⟩
end
#print axioms Liv.malike
#print axioms Cal.mfall
#print axioms Cal.malike
end Go.Proofs.Ytjafhlljigaibaa
