/- A bank of which one disk fails at a write, beside one of which none does. -/
import Derived.Test.YtdpfjehodnlojaaDuo
namespace Go.Proofs.Ytdpfjehodnlojaa
open Go.RowKit

/-- One disk alone counts down. -/
theorem tick_ahead {S : Bank} {who : Nat} (hf : ∀ d, d < S.n → d ≠ who → S.failAt d = 0) : ∀ j, j ≤ S.n → j ≤ who → S.tick j = S
  | 0, _, _ => rfl
  | j + 1, hj, hw => by
    have h := tick_ahead hf j (by omega) (by omega)
    rw [tick_zero S j (by rw [h]; exact hf j (by omega) (by omega)), h]
theorem tick_behind {S F : Bank} {who : Nat} (hF : S.tick (who + 1) = F) (hf : ∀ d, d < S.n → d ≠ who → F.failAt d = 0) : ∀ j, j ≤ S.n → who < j → S.tick j = F
  | 0, _, hw => by omega
  | j + 1, hj, hw => by
    by_cases e : j = who
    · rw [e]; exact hF
    · have h := tick_behind hF hf j (by omega) (by omega)
      rw [tick_zero S j (by rw [h]; exact hf j (by omega) e), h]
structure Lame (A B : Bank) (who t n : Nat) : Prop where
  who_lt : who < 3
  calm : Calm B
  num : A.n = 3
  size : ∀ d, d < 3 → A.size d = 8
  up : A.down = false
  arm : A.armed = 0
  fail : ∀ d, d < 3 → A.failAt d = if d = who ∧ t < n then n - t else 0
  dead : ∀ d, d < 3 → A.dead d = decide (d = who ∧ n ≤ t)
  writes : A.writes = t
  same : ∀ d, d < 3 → ¬ (d = who ∧ n ≤ t) → A.newest d = B.newest d ∧ A.flushed d = B.flushed d
section
variable {A B : Bank} {who t n : Nat}
theorem Lame.may (h : Lame A B who t n) {d : Nat} (hd : d < 3) : A.may d = if d = who ∧ n ≤ t then 7 else 0 := by
  unfold Bank.may
  rw [if_neg (by rw [h.num]; omega), h.dead d hd, h.up]
  by_cases e : d = who ∧ n ≤ t
  · simp [e]
  · simp [e]
theorem Lame.flush (h : Lame A B who t n) {d : Nat} (hd : d < 3) : Lame (if A.may d = 0 then A.flush d else A) (B.flush d) who t n := by
  rw [h.may hd]
  by_cases e : d = who ∧ n ≤ t
  · rw [if_pos e, if_neg (by decide)]
    refine ⟨h.who_lt, h.calm.flush d, h.num, h.size, h.up, h.arm, h.fail, h.dead, h.writes, fun d' hd' hn => ?_⟩
    obtain ⟨h1, h2⟩ := h.same d' hd' hn
    refine ⟨h1, ?_⟩
    show A.flushed d' = upd B.flushed d (B.newest d) d'
    rw [upd_ne _ _ (by rintro rfl; exact hn e)]
    exact h2
  · rw [if_neg e, if_pos rfl]
    refine ⟨h.who_lt, h.calm.flush d, h.num, h.size, h.up, h.arm, h.fail, h.dead, h.writes, fun d' hd' hn => ?_⟩
    obtain ⟨h1, h2⟩ := h.same d' hd' hn
    refine ⟨h1, ?_⟩
    show upd A.flushed d (A.newest d) d' = upd B.flushed d (B.newest d) d'
    by_cases e2 : d' = d
    · subst e2
      rw [upd_self, upd_self, h1]
    · rw [upd_ne _ _ e2, upd_ne _ _ e2]
      exact h2
/-- What a write counts. -/
theorem Lame.ticked (h : Lame A B who t n) : Lame A.ticked B.wrote who (t + 1) n := by
  obtain ⟨k1, k2, k3, k4, k5, _⟩ := tick_keeps A.wrote A.n
  have hkeep : A.ticked.n = 3 ∧ (∀ d, d < 3 → A.ticked.size d = 8) ∧ A.ticked.down = false ∧ A.ticked.armed = 0 ∧ A.ticked.writes = t + 1 := by
    refine ⟨k1.trans h.num, fun d hd => ?_, k3.trans h.up, k5.trans h.arm, k4.trans ?_⟩
    · show (A.wrote.tick A.n).size d = 8
      rw [k2]
      exact h.size d hd
    · show A.writes + 1 = _
      rw [h.writes]
  have h0 : ∀ d, d < A.wrote.n → d ≠ who → A.wrote.failAt d = 0 := fun d hd hne => by
    have hd3 : d < 3 := by have : d < A.n := hd; rw [h.num] at this; exact this
    show A.failAt d = 0
    rw [h.fail d hd3, if_neg (fun e => hne e.1)]
  have hah := tick_ahead h0 who (by show who ≤ A.n; rw [h.num]; have := h.who_lt; omega) (Nat.le_refl _)
  have hfw : A.wrote.failAt who = if t < n then n - t else 0 := by
    show A.failAt who = _
    rw [h.fail who h.who_lt]
    simp
  have hT : ∀ F, A.wrote.tick (who + 1) = F → (∀ d, d < 3 → d ≠ who → F.failAt d = 0) → A.ticked = F := fun F hF hz =>
    tick_behind hF (fun d hd hne => hz d (by have : d < A.n := hd; rw [h.num] at this; exact this) hne) A.n (Nat.le_refl _) (by rw [h.num]; exact h.who_lt)
  by_cases c1 : n ≤ t
  · have e : A.ticked = A.wrote := hT _ (by rw [tick_zero _ _ (by rw [hah, hfw, if_neg (by omega)]), hah]) (fun d hd hne => h0 d (by show d < A.n; rw [h.num]; exact hd) hne)
    refine ⟨h.who_lt, h.calm.wrote, hkeep.1, hkeep.2.1, hkeep.2.2.1, hkeep.2.2.2.1, ?_, ?_, hkeep.2.2.2.2, ?_⟩ <;> rw [e]
    · intro d hd
      show A.failAt d = _
      rw [h.fail d hd, if_neg (by omega), if_neg (by omega)]
    · intro d hd
      show A.dead d = _
      rw [h.dead d hd]
      congr 1
      rw [eq_iff_iff]
      omega
    · exact fun d hd hn => h.same d hd (by omega)
  · by_cases c2 : t + 1 = n
    · have e : A.ticked = Bank.fail { A.wrote with failAt := upd A.failAt who 0 } who := hT _ (by
        rw [tick_one _ _ (by rw [hah, hfw, if_pos (by omega)]; omega), hah]
        have : A.wrote.failAt who - 1 = 0 := by rw [hfw, if_pos (by omega)]; omega
        rw [this]
        rfl) (fun d hd hne => by
          show upd A.failAt who 0 d = 0
          rw [upd_ne _ _ hne]
          exact h0 d (by show d < A.n; rw [h.num]; exact hd) hne)
      refine ⟨h.who_lt, h.calm.wrote, hkeep.1, hkeep.2.1, hkeep.2.2.1, hkeep.2.2.2.1, ?_, ?_, hkeep.2.2.2.2, ?_⟩ <;> rw [e]
      · intro d hd
        show upd A.failAt who 0 d = _
        rw [if_neg (by omega)]
        by_cases ed : d = who
        · subst ed; rw [upd_self]
        · rw [upd_ne _ _ ed]
          exact h0 d (by show d < A.n; rw [h.num]; exact hd) ed
      · intro d hd
        show upd A.dead who true d = _
        by_cases ed : d = who
        · subst ed
          rw [upd_self]
          simp
          omega
        · rw [upd_ne _ _ ed, h.dead d hd]
          simp [ed]
      · intro d hd hn
        have ed : d ≠ who := fun ed => hn ⟨ed, by omega⟩
        obtain ⟨h1, h2⟩ := h.same d hd (fun x => ed x.1)
        refine ⟨?_, h2⟩
        show upd A.newest who (A.flushed who) d = _
        rw [upd_ne _ _ ed]
        exact h1
    · have e : A.ticked = { A.wrote with failAt := upd A.failAt who (n - (t + 1)) } := hT _ (by
        rw [tick_more _ _ (by rw [hah, hfw, if_pos (by omega)]; omega) (by rw [hah, hfw, if_pos (by omega)]; omega), hah]
        have : A.wrote.failAt who - 1 = n - (t + 1) := by rw [hfw, if_pos (by omega)]; omega
        rw [this]
        rfl) (fun d hd hne => by
          show upd A.failAt who _ d = 0
          rw [upd_ne _ _ hne]
          exact h0 d (by show d < A.n; rw [h.num]; exact hd) hne)
      refine ⟨h.who_lt, h.calm.wrote, hkeep.1, hkeep.2.1, hkeep.2.2.1, hkeep.2.2.2.1, ?_, ?_, hkeep.2.2.2.2, ?_⟩ <;> rw [e]
      · intro d hd
        show upd A.failAt who (n - (t + 1)) d = _
        by_cases ed : d = who
        · subst ed
          rw [upd_self, if_pos ⟨rfl, by omega⟩]
        · rw [upd_ne _ _ ed, if_neg (fun x => ed x.1)]
          exact h0 d (by show d < A.n; rw [h.num]; exact hd) ed
      · intro d hd
        show A.dead d = _
        rw [h.dead d hd]
        congr 1
        rw [eq_iff_iff]
        omega
      · exact fun d hd hn => h.same d hd (by omega)
theorem Lame.write (h : Lame A B who t n) {d k : Nat} (hd : d < 3) (hk : k < 8) (s : Sec) :
    (A.write d k s).1 = (if d = who ∧ n ≤ t + 1 then 7 else 0) ∧ (B.write d k s).1 = 0 ∧ Lame (A.write d k s).2 (B.write d k s).2 who (t + 1) n := by
  have hT := h.ticked
  have hc : A.count = (false, A.ticked) := by
    unfold Bank.count
    rw [if_neg (by rw [h.up]; decide)]
    simp only
    rw [if_pos hT.arm]
  have hp : A.ticked.place d k = if d = who ∧ n ≤ t + 1 then 7 else 0 := by
    unfold Bank.place
    rw [hT.may hd]
    by_cases e : d = who ∧ n ≤ t + 1
    · rw [if_pos e, if_neg (by decide)]
    · rw [if_neg e, if_pos rfl, hT.size d hd, if_pos hk]
  rw [h.calm.write hd hk]
  unfold Bank.write
  rw [hc]
  simp only [Bool.false_eq_true, if_false, hp]
  by_cases e : d = who ∧ n ≤ t + 1
  · simp only [if_pos e]
    refine ⟨rfl, trivial, ⟨h.who_lt, h.calm.wrote.put _ _ _, hT.num, hT.size, hT.up, hT.arm, hT.fail, hT.dead, hT.writes, fun d' hd' hn => ?_⟩⟩
    obtain ⟨h1, h2⟩ := hT.same d' hd' hn
    refine ⟨?_, h2⟩
    show A.ticked.newest d' = upd2 B.newest d k s d'
    rw [upd2_row _ _ (by rintro rfl; exact hn e)]
    exact h1
  · simp only [if_neg e]
    refine ⟨rfl, trivial, ⟨h.who_lt, h.calm.wrote.put _ _ _, hT.num, hT.size, hT.up, hT.arm, hT.fail, hT.dead, hT.writes, fun d' hd' hn => ?_⟩⟩
    obtain ⟨h1, h2⟩ := hT.same d' hd' hn
    refine ⟨?_, h2⟩
    have h1' : A.ticked.newest d' = B.newest d' := h1
    show upd2 A.ticked.newest d k s d' = upd2 B.newest d k s d'
    funext j
    by_cases e2 : d' = d ∧ j = k
    · rw [e2.1, e2.2, upd2_self, upd2_self]
    · rw [upd2_ne _ _ e2, upd2_ne _ _ e2, h1']
theorem Lame.reads (h : Lame A B who t n) {d k : Nat} (hd : d < 3) (hk : k < 8) : readV A d k = .tuple #[secV (if d = who ∧ n ≤ t then zeroSec else B.newest d k), .int .i64 (if d = who ∧ n ≤ t then 7 else 0)] := by
  have hp : A.place d k = if d = who ∧ n ≤ t then 7 else 0 := by
    unfold Bank.place
    rw [h.may hd]
    by_cases e : d = who ∧ n ≤ t
    · rw [if_pos e, if_neg (by decide)]
    · rw [if_neg e, if_pos rfl, h.size d hd, if_pos hk]
  unfold readV
  rw [hp]
  by_cases e : d = who ∧ n ≤ t
  · simp only [if_pos e]; rfl
  · simp only [if_neg e, (h.same d hd e).1]; rfl
/-- Behind a crash that keeps nothing: what was flushed. -/
theorem Lame.fallen (h : Lame A B who t n) {d k : Nat} (hd : d < 3) (hk : k < 8) (hne : d ≠ who) : readV (A.crash 0).start d k = .tuple #[secV (B.flushed d k), .int .i64 0] ∧ readV (B.crash 0).start d k = .tuple #[secV (B.flushed d k), .int .i64 0] := by
  have hB : (B.crash 0).start.newest = B.flushed := by
    rw [crash_up h.calm.up]
    show B.kept 0 = _
    unfold Bank.kept
    rw [keeps_zero]
  have hA : (A.crash 0).start.newest = A.flushed := by
    rw [crash_up h.up]
    show A.kept 0 = _
    unfold Bank.kept
    rw [keeps_zero]
  have hpA : (A.crash 0).start.place d k = 0 := by
    have : (A.crash 0).start.place d k = A.place d k := by rw [crash_up h.up]; unfold Bank.place Bank.may Bank.start; simp only [h.up]
    rw [this]
    unfold Bank.place
    have hm0 : A.may d = 0 := by rw [h.may hd, if_neg (fun e => hne e.1)]
    rw [if_pos hm0, h.size d hd, if_pos hk]
  refine ⟨?_, ?_⟩
  · unfold readV
    rw [hpA, if_pos rfl, hA, (h.same d hd (fun e => hne e.1)).2]
    rfl
  · rw [readV_calm (h.calm.restart 0) hd hk, hB]
end
theorem lame_laid {who n : Nat} (hw : who < 3) (hn : 1 ≤ n) : Lame (Laid.willFail who n) Laid who 0 n := by
  have hL : Laid.writes = 0 := rfl
  refine ⟨hw, calm_laid, rfl, calm_laid.size, rfl, rfl, fun d hd => ?_, fun d hd => ?_, rfl, fun d hd _ => ⟨rfl, rfl⟩⟩
  · show upd Laid.failAt who n d = _
    by_cases e : d = who
    · subst e
      rw [upd_self, if_pos ⟨rfl, by omega⟩]
      omega
    · rw [upd_ne _ _ e, if_neg (fun x => e x.1)]
      exact calm_laid.fail d hd
  · show Laid.dead d = _
    rw [calm_laid.live d hd]
    simp
    omega
end Go.Proofs.Ytdpfjehodnlojaa
