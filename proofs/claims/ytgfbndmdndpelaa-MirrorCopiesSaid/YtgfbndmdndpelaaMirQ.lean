/- The laws' bank at its beginning; how many writes a call counts; MirrorDown's course. -/
import Derived.Test.YtgfbndmdndpelaaMirC
namespace Go.Proofs.Ytgfbndmdndpelaa
open Go.RowKit
theorem two_lt {p : Nat → Prop} (h0 : p 0) (h1 : p 1) : ∀ d, d < 2 → p d := fun d hd => by
  rcases d with _ | _ | d
  · exact h0
  · exact h1
  · omega
theorem laid_size : ∀ d, d < 2 → (LaidN 2).size d = 12 := two_lt (by decide +kernel) (by decide +kernel)
theorem laid_live : ∀ d, d < 2 → (LaidN 2).dead d = false ∧ (LaidN 2).failAt d = 0 := two_lt (by decide +kernel) (by decide +kernel)
theorem laid_zero : ∀ i d k, (LaidN i).newest d k = zeroSec ∧ (LaidN i).flushed d k = zeroSec
  | 0, _, _ => ⟨rfl, rfl⟩
  | i + 1, d, k => by
    obtain ⟨h1, h2⟩ := laid_zero i d k
    constructor
    · show upd (LaidN i).newest (LaidN i).n (fun _ => zeroSec) d k = zeroSec
      unfold upd
      split
      · rfl
      · exact h1
    · show upd (LaidN i).flushed (LaidN i).n (fun _ => zeroSec) d k = zeroSec
      unfold upd
      split
      · rfl
      · exact h2
theorem laid_plain : (LaidN 2).n = 2 ∧ (LaidN 2).down = false ∧ (LaidN 2).armed = 0 ∧ (LaidN 2).writes = 0 := by decide +kernel
def noS : Nat → Nat → Sec := fun _ _ => zeroSec
theorem cal_laid : Cal (LaidN 2) 0 noS noS := ⟨laid_plain.1, laid_size, laid_plain.2.1, laid_live, laid_plain.2.2.1, fun d k _ _ => (laid_zero 2 d k).2, fun d k _ _ => (laid_zero 2 d k).1⟩
theorem liv_laid (x : Nat) : Liv (LaidN 2) x noS := ⟨laid_plain.1, laid_size, laid_plain.2.1, laid_plain.2.2.1, fun d hd _ => laid_live d hd, fun d k _ _ _ => (laid_zero 2 d k).1⟩
theorem qui_laid : Qui (LaidN 2) := ⟨laid_plain.1, laid_size, laid_plain.2.1, laid_plain.2.2.1, fun d hd => (laid_live d hd).2⟩
theorem crash_writes (S : Bank) (m : Nat) : (S.crash m).writes = S.writes := by unfold Bank.crash; split <;> rfl
theorem count_few (S : Bank) : S.count.2.writes ≤ S.writes + 1 := by
  have hw : S.ticked.writes = S.writes + 1 := (tick_more_keeps S.wrote S.n).2.2.2.2.1
  unfold Bank.count
  split
  · exact Nat.le_succ _
  · simp only
    split
    · exact Nat.le_of_eq hw
    · split
      · exact Nat.le_of_eq ((crash_writes _ _).trans hw)
      · exact Nat.le_of_eq hw
theorem write_few (S : Bank) (d k : Nat) (s : Sec) : (S.write d k s).2.writes ≤ S.writes + 1 := by
  have h := count_few S
  unfold Bank.write
  simp only
  split
  · exact h
  · split
    · exact h
    · exact h
theorem mwrite_few (S : Bank) (d k d' k' : Nat) (s : Sec) : (S.mwrite d k d' k' s).2.writes ≤ S.writes + 2 := by
  have h1 := write_few S d k s
  have h2 := write_few (S.write d k s).2 d' k' s
  unfold Bank.mwrite
  simp only
  split
  · split
    · show ((S.write d k s).2.write d' k' s).2.writes ≤ _; omega
    · omega
  · omega
theorem malike_few (S : Bank) (d k d' k' : Nat) : (S.malike d k d' k').2.writes ≤ S.writes + 1 := by
  unfold Bank.malike
  simp only
  split
  · split
    · split
      · split
        · exact Nat.le_succ _
        · exact write_few S d' k' _
      · exact Nat.le_succ _
    · exact Nat.le_succ _
  · exact Nat.le_succ _
/-- MirrorDown's course: a pair written and flushed; written anew while power fails at the first or the second write. -/
structure DownC (k q mk : Nat) (a m c : Sec) (S1 S4 : Bank) : Prop where
  few : (LaidN 2).writes = 0
  w1 : (LaidN 2).mwrite 0 k 1 (11 - k) a = (0, S1)
  f0 : S1.may 0 = 0
  f1 : (S1.flush 0).may 1 = 0
  few3 : (((S1.flush 0).flush 1).arm (1 + q) mk).writes ≤ 2
  w2 : (((S1.flush 0).flush 1).arm (1 + q) mk).mwrite 0 k 1 (11 - k) m = (6, S4)
  few4 : S4.writes ≤ 4
  r : S4.mread 0 k 1 (11 - k) = (zeroSec, 6)
  al : S4.malike 0 k 1 (11 - k) = ((false, 6), S4)
  rx : S4.start.readS 0 k = c ∧ S4.start.place 0 k = 0
  ry : S4.start.readS 1 (11 - k) = a ∧ S4.start.place 1 (11 - k) = 0
  rr : S4.start.mread 0 k 1 (11 - k) = (c, 0)
  either : c = a ∨ (c = m ∧ q = 1)
theorem down_course (k q mk : Nat) (hk : k < 8) (hq : q ≤ 1) (a m : Sec) : ∃ c S1 S4, DownC k q mk a m c S1 S4 := by
  obtain ⟨h1, h2, h3⟩ := cal_laid.mwrite (k := k) (k' := 11 - k) (by omega) (by omega) a
  have hf := (h2.flush 0).flush 1
  have ha := hf.arm (1 + q) mk
  obtain ⟨e1, c, h4, h5, h6⟩ := ha.mfall (by omega) (fun d j hd hj => by
    rcases d with _ | _ | d
    · rw [upd_ne _ _ (by decide), upd_self]
    · rw [upd_self]
    · omega) (k := k) (k' := 11 - k) (by omega) (by omega) m
  have hs := h4.start
  rw [upd2_self] at h5
  rw [upd2_ne _ _ (by omega), upd2_self] at h6
  have p0 := hs.place (show 0 < 2 by decide) (show k < 12 by omega)
  have p1 := hs.place (show 1 < 2 by decide) (show 11 - k < 12 by omega)
  refine ⟨c 0 k, _, _, laid_plain.2.2.2, Prod.ext h1 rfl, h2.may (by decide), (h2.flush 0).may (by decide), ?_, Prod.ext e1 rfl, ?_, h4.mread (by decide), h4.malike (by decide), ⟨?_, p0⟩, ⟨?_, p1⟩, hs.mread (by decide) (by omega), ?_⟩
  · show ((LaidN 2).mwrite 0 k 1 (11 - k) a).2.writes ≤ 2
    rw [h3, laid_plain.2.2.2]
    decide
  · refine Nat.le_trans (mwrite_few _ _ _ _ _ _) ?_
    show ((LaidN 2).mwrite 0 k 1 (11 - k) a).2.writes + 2 ≤ 4
    rw [h3, laid_plain.2.2.2]
    decide
  · unfold Bank.readS
    rw [if_pos p0]
    exact hs.new 0 k (by decide) (by omega)
  · unfold Bank.readS
    rw [if_pos p1, hs.new 1 (11 - k) (by decide) (by omega)]
    exact h5
  · rcases h6 with h6 | ⟨h6, h7⟩
    · exact .inl h6
    · exact .inr ⟨h6, by omega⟩
#print axioms down_course
/-! ### A row of eight numbers of the law's own -/
theorem arr8_zero (w : World) : (zeroValue 54).run Try.prog w = .ok (.agg (I64 (List.replicate 8 0)).toArray) w := by kernel_rfl
theorem i64_set (L : List Int) (k : Nat) (v : Int) : (I64 L).toArray.setIfInBounds k (.int .i64 v) = (I64 (L.set k v)).toArray := by
  rw [List.setIfInBounds_toArray]
  unfold I64
  rw [List.map_set]
theorem i64_cell {L : List Int} {k : Nat} {v : Int} (h : L[k]? = some v) : (I64 L).toArray[k]? = some (.int .i64 v) := by
  rw [List.getElem?_toArray]
  unfold I64
  rw [List.getElem?_map, h]
  rfl
theorem i64_size {L : List Int} (h : L.length = 8) : (I64 L).toArray.size = 8 := by rw [List.size_toArray, I64_length, h]
theorem int_one1 : (Try.prog.info? 3).map (·.size) = some 1 := by kernel_rfl
/-- What the law knows of each slot: the number of its last sector. -/
structure LivL (L : List Int) (g : Nat → Nat → Sec) : Prop where
  len : L.length = 8
  is : ∀ k, k < 8 → ∃ v, L[k]? = some v ∧ g 0 k = secOf v ∧ g 1 (11 - k) = secOf v
theorem LivL.zero : LivL (List.replicate 8 0) noS := ⟨by simp, fun k hk => ⟨0, by rw [List.getElem?_replicate, if_pos hk], secOf_zero.symm, secOf_zero.symm⟩⟩
theorem LivL.put {L : List Int} {g : Nat → Nat → Sec} (h : LivL L g) {k : Nat} (hk : k < 8) (v : Int) : LivL (L.set k v) (upd2 (upd2 g 0 k (secOf v)) 1 (11 - k) (secOf v)) := by
  refine ⟨by rw [List.length_set]; exact h.len, fun j hj => ?_⟩
  by_cases e : j = k
  · subst e
    refine ⟨v, by rw [List.getElem?_set]; simp [h.len, hj], ?_, upd2_self _ _ _ _⟩
    rw [upd2_ne _ _ (by omega), upd2_self]
  · obtain ⟨u, h1, h2, h3⟩ := h.is j hj
    refine ⟨u, by rw [List.getElem?_set_ne (by omega)]; exact h1, ?_, ?_⟩
    · rw [upd2_ne _ _ (by omega), upd2_ne _ _ (by omega)]; exact h2
    · rw [upd2_ne _ _ (by omega), upd2_ne _ _ (by omega)]; exact h3
theorem Liv.will {S : Bank} {x : Nat} {g : Nat → Nat → Sec} (h : Liv S x g) (a : Nat) : Liv (S.willFail x a) x g := by
  refine ⟨h.n, h.size, h.up, h.calm, fun d hd hx => ?_, h.holds⟩
  obtain ⟨h1, h2⟩ := h.well d hd hx
  refine ⟨h1, ?_⟩
  show upd S.failAt x a d = 0
  rw [upd_ne _ _ hx]
  exact h2
/-! ### MirrorAlike -/
theorem arr8_info : (Try.prog.info? 54).map (·.size) = some 8 := by kernel_rfl
theorem arr8_size {L : List Int} (h : L.length = 8) : (Try.prog.info? 54).map (·.size) = some (I64 L).length := by rw [I64_length, h]; exact arr8_info
theorem i64_one (L : List Int) : ∀ v ∈ I64 L, v.oneCell' = true := by
  intro v hv
  unfold I64 at hv
  obtain ⟨x, _, rfl⟩ := List.mem_map.1 hv
  rfl
/-- Both disks hold the sectors of these numbers. -/
structure Two (L : List Int) (g : Nat → Nat → Sec) : Prop where
  len : L.length = 8
  is : ∀ k, k < 8 → ∃ v, L[k]? = some v ∧ g 0 k = secOf v ∧ g 1 k = secOf v
theorem Two.zero : Two (List.replicate 8 0) noS := ⟨by simp, fun k hk => ⟨0, by rw [List.getElem?_replicate, if_pos hk], secOf_zero.symm, secOf_zero.symm⟩⟩
theorem Two.put {L : List Int} {g : Nat → Nat → Sec} (h : Two L g) {k : Nat} (hk : k < 8) (v : Int) : Two (L.set k v) (upd2 (upd2 g 0 k (secOf v)) 1 k (secOf v)) := by
  refine ⟨by rw [List.length_set]; exact h.len, fun j hj => ?_⟩
  by_cases e : j = k
  · subst e
    refine ⟨v, by rw [List.getElem?_set]; simp [h.len, hj], ?_, upd2_self _ _ _ _⟩
    rw [upd2_ne _ _ (by omega), upd2_self]
  · obtain ⟨u, h1, h2, h3⟩ := h.is j hj
    refine ⟨u, by rw [List.getElem?_set_ne (by omega)]; exact h1, ?_, ?_⟩
    · rw [upd2_ne _ _ (by omega), upd2_ne _ _ (by omega)]; exact h2
    · rw [upd2_ne _ _ (by omega), upd2_ne _ _ (by omega)]; exact h3
theorem Two.flushed {L : List Int} {f g : Nat → Nat → Sec} (h : Two L g) : Two L (upd (upd f 0 (g 0)) 1 (g 1)) := by
  refine ⟨h.len, fun k hk => ?_⟩
  obtain ⟨v, h1, h2, h3⟩ := h.is k hk
  refine ⟨v, h1, ?_, ?_⟩
  · rw [upd_ne _ _ (by decide), upd_self]; exact h2
  · rw [upd_self]; exact h3
/-- One of the two sectors that a copy may be. -/
def Chs (M L : List Int) (s : Sec) (k : Nat) : Prop := ∃ u v, M[k]? = some u ∧ L[k]? = some v ∧ (s = secOf u ∨ s = secOf v)
def AlkR (M L : List Int) (nw : Nat → Nat → Sec) (k : Nat) : Prop := ∀ j, k ≤ j → j < 8 → ∀ d, d < 2 → Chs M L (nw d j) j
theorem AlkR.of {M L : List Int} {f g c : Nat → Nat → Sec} {S : Bank} (hM : Two M f) (hL : Two L g) (hS : Cal S 0 f g) (hor : ∀ d k, c d k = S.flushed d k ∨ c d k = S.newest d k) : AlkR M L c 0 := by
  intro j _ hj d hd
  obtain ⟨u, h1, h2, h3⟩ := hM.is j hj
  obtain ⟨v, h4, h5, h6⟩ := hL.is j hj
  refine ⟨u, v, h1, h4, ?_⟩
  rcases hor d j with e | e
  · left
    rw [e, hS.flu d j hd (by omega)]
    rcases d with _ | _ | d
    · exact h2
    · exact h3
    · omega
  · right
    rw [e, hS.new d j hd (by omega)]
    rcases d with _ | _ | d
    · exact h5
    · exact h6
    · omega
theorem AlkR.next {M L : List Int} {g : Nat → Nat → Sec} {k : Nat} (h : AlkR M L g k) (d' : Nat) (s t : Sec) : AlkR M L (upd2 (upd2 g d' k s) d' k t) (k + 1) := by
  intro j hj hj8 d hd
  rw [upd2_ne _ _ (by omega), upd2_ne _ _ (by omega)]
  exact h j (by omega) hj8 d hd
/-- A pair behind the crash: what its two sectors are, Alike once and again. -/
structure AlkC (S : Bank) (d d' k : Nat) (s t : Sec) (S2 S3 : Bank) : Prop where
  rx : S.readS d k = s ∧ S.place d k = 0
  ry : S.readS d' k = t ∧ S.place d' k = 0
  a1 : (S.malike d k d' k).1.1 = !decide (s = t) ∧ (S.malike d k d' k).1.2 = 0 ∧ (S.malike d k d' k).2 = S2
  few2 : S2.writes ≤ S.writes + 1
  a2 : (S2.malike d k d' k).1.1 = false ∧ (S2.malike d k d' k).1.2 = 0 ∧ (S2.malike d k d' k).2 = S3
  few3 : S3.writes ≤ S.writes + 2
  ux : S3.readS d k = s ∧ S3.place d k = 0
  uy : S3.readS d' k = s ∧ S3.place d' k = 0
theorem alk_course {S : Bank} {f g : Nat → Nat → Sec} (h : Cal S 0 f g) {d d' k : Nat} (hd : d < 2) (hd' : d' < 2) (hne : d ≠ d') (hk : k < 8) :
    ∃ S2 S3, AlkC S d d' k (g d k) (g d' k) S2 S3 ∧ Cal S3 0 f (upd2 (upd2 g d' k (g d k)) d' k (g d k)) := by
  obtain ⟨a1, c1, w1⟩ := h.malike (d := d) (d' := d') (k := k) (k' := k) hd hd' (by omega) (by omega)
  obtain ⟨a2, c2, w2⟩ := c1.malike (d := d) (d' := d') (k := k) (k' := k) hd hd' (by omega) (by omega)
  have e1 : upd2 g d' k (g d k) d k = g d k := upd2_ne _ _ (by omega)
  have e2 : upd2 g d' k (g d k) d' k = g d k := upd2_self _ _ _ _
  rw [e1, e2] at a2
  rw [e1] at c2
  have rd : ∀ {T : Bank} {q : Nat → Nat → Sec}, Cal T 0 f q → ∀ i, i < 2 → T.readS i k = q i k ∧ T.place i k = 0 := fun {T q} hT i hi => by
    have hp := hT.place hi (show k < 12 by omega)
    refine ⟨?_, hp⟩
    unfold Bank.readS
    rw [if_pos hp]
    exact hT.new i k hi (by omega)
  refine ⟨_, _, ⟨rd h d hd, rd h d' hd', ⟨by rw [a1], by rw [a1], rfl⟩, w1, ⟨by rw [a2]; simp, by rw [a2], rfl⟩, by omega, ?_, ?_⟩, c2⟩
  · have := rd c2 d hd
    rw [upd2_ne _ _ (by omega), e1] at this
    exact this
  · have := rd c2 d' hd'
    rw [upd2_self] at this
    exact this
#print axioms alk_course
end Go.Proofs.Ytgfbndmdndpelaa
