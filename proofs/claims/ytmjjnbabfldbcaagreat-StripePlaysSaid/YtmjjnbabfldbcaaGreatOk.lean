/- What always holds of a bank holds behind each step. -/
import Derived.Test.YtmjjnbabfldbcaaGreatFlushB
namespace Go.Proofs.YtmjjnbabfldbcaaGreat
open Go.RowKit

theorem Bank.Ok.wrote {S : Bank} (h : S.Ok) : S.wrote.Ok := ⟨h.n_le, h.size_le, h.nodup, h.loose, h.same, h.down_, h.fail_le, h.armed_le, h.mask_le⟩
theorem Bank.Ok.start {S : Bank} (h : S.Ok) : S.start.Ok := ⟨h.n_le, h.size_le, h.nodup, h.loose, h.same, (fun e => by cases e), h.fail_le, h.armed_le, h.mask_le⟩
theorem Bank.Ok.arm {S : Bank} (h : S.Ok) {a m : Nat} (ha : a < 9223372036854775808) (hm : m < 18446744073709551616) : (S.arm a m).Ok := ⟨h.n_le, h.size_le, h.nodup, h.loose, h.same, h.down_, h.fail_le, ha, hm⟩
theorem Bank.Ok.setFail {S : Bank} (h : S.Ok) (d : Nat) {a : Nat} (ha : a < 9223372036854775808) : Bank.Ok { S with failAt := upd S.failAt d a } :=
  ⟨h.n_le, h.size_le, h.nodup, h.loose, h.same, h.down_, fun i => by
    show upd S.failAt d a i < _
    by_cases e : i = d
    · subst e; rw [upd_self]; exact ha
    · rw [upd_ne _ _ e]; exact h.fail_le i, h.armed_le, h.mask_le⟩
theorem Bank.Ok.setArmed {S : Bank} (h : S.Ok) {a : Nat} (ha : a < 9223372036854775808) : Bank.Ok { S with armed := a } := ⟨h.n_le, h.size_le, h.nodup, h.loose, h.same, h.down_, h.fail_le, ha, h.mask_le⟩
theorem Bank.Ok.fail {S : Bank} (h : S.Ok) (d : Nat) : (S.fail d).Ok := by
  refine ⟨h.n_le, h.size_le, h.nodup.sublist List.filter_sublist, fun p hp => ?_, fun i k hk => ?_, fun e => ?_, h.fail_le, h.armed_le, h.mask_le⟩
  · obtain ⟨h1, h2⟩ := (mem_others _ _ _).1 hp
    obtain ⟨h3, h4, h5⟩ := h.loose p h1
    exact ⟨h3, h4, by show upd S.dead d true p.1 = false; rw [upd_ne _ _ h2]; exact h5⟩
  · show upd S.newest d (S.flushed d) i k = S.flushed i k
    by_cases e : i = d
    · subst e; rw [upd_self]
    · rw [upd_ne _ _ e]
      exact h.same i k fun hin => hk ((mem_others _ _ _).2 ⟨hin, e⟩)
  · show S.order.filter _ = []
    rw [h.down_ e]
    rfl
theorem Bank.Ok.flush {S : Bank} (h : S.Ok) (d : Nat) : (S.flush d).Ok := by
  refine ⟨h.n_le, h.size_le, h.nodup.sublist List.filter_sublist, fun p hp => h.loose p ((mem_others _ _ _).1 hp).1, fun i k hk => ?_, fun e => ?_, h.fail_le, h.armed_le, h.mask_le⟩
  · show S.newest i k = upd S.flushed d (S.newest d) i k
    by_cases e : i = d
    · subst e; rw [upd_self]
    · rw [upd_ne _ _ e]
      exact h.same i k fun hin => hk ((mem_others _ _ _).2 ⟨hin, e⟩)
  · show S.order.filter _ = []
    rw [h.down_ e]
    rfl
theorem Bank.Ok.crash {S : Bank} (h : S.Ok) (m : Nat) : (S.crash m).Ok := by
  unfold Bank.crash
  split
  · exact h
  · exact ⟨h.n_le, h.size_le, List.nodup_nil, (fun p hp => by cases hp), fun _ _ _ => rfl, fun _ => rfl, h.fail_le, Nat.zero_lt_succ _, h.mask_le⟩
theorem place_lt {S : Bank} {d k : Nat} (h : S.place d k = 0) : S.may d = 0 ∧ k < S.size d := by
  unfold Bank.place at h
  by_cases hm : S.may d = 0
  · rw [if_pos hm] at h
    by_cases hk : k < S.size d
    · exact ⟨hm, hk⟩
    · rw [if_neg hk] at h; cases h
  · rw [if_neg hm] at h
    exact absurd h hm
theorem put_mem (S : Bank) (d k : Nat) (s : Sec) (p : Nat × Nat) : p ∈ (S.put d k s).order ↔ p ∈ S.order ∨ p = (d, k) := by
  show p ∈ (if (d, k) ∈ S.order then S.order else S.order ++ [(d, k)]) ↔ _
  split
  · rename_i h
    exact ⟨.inl, fun a => a.elim id (fun e => by rw [e]; exact h)⟩
  · rw [List.mem_append, List.mem_singleton]
theorem Bank.Ok.put {S : Bank} (h : S.Ok) {d k : Nat} (hp : S.place d k = 0) (s : Sec) : (S.put d k s).Ok := by
  obtain ⟨hm, hk⟩ := place_lt hp
  obtain ⟨hd, hdead, hdown⟩ := may_lt hm
  refine ⟨h.n_le, h.size_le, ?_, fun p hp => ?_, fun i j hij => ?_, fun e => ?_, h.fail_le, h.armed_le, h.mask_le⟩
  · show (if (d, k) ∈ S.order then S.order else S.order ++ [(d, k)]).Nodup
    split
    · exact h.nodup
    · rename_i hn
      rw [List.nodup_append]
      refine ⟨h.nodup, by simp, fun a ha b hb => ?_⟩
      simp at hb
      subst hb
      rintro rfl
      exact hn ha
  · rcases (put_mem S d k s p).1 hp with h1 | h1
    · exact h.loose p h1
    · subst h1
      exact ⟨hd, hk, hdead⟩
  · have hn : (i, j) ∉ S.order ∧ (i, j) ≠ (d, k) := ⟨fun a => hij ((put_mem S d k s _).2 (.inl a)), fun a => hij ((put_mem S d k s _).2 (.inr a))⟩
    show upd2 S.newest d k s i j = S.flushed i j
    rw [upd2_ne _ _ (fun e => hn.2 (by rw [e.1, e.2]))]
    exact h.same i j hn.1
  · have : S.down = true := e
    rw [hdown] at this
    cases this
theorem tick_keeps (S : Bank) : ∀ j, (S.tick j).n = S.n ∧ (S.tick j).size = S.size ∧ (S.tick j).down = S.down ∧ (S.tick j).writes = S.writes ∧ (S.tick j).armed = S.armed ∧ (S.tick j).mask = S.mask
  | 0 => ⟨rfl, rfl, rfl, rfl, rfl, rfl⟩
  | j + 1 => by
    have h := tick_keeps S j
    unfold Bank.tick
    simp only
    split
    · exact h
    · split
      · exact h
      · exact h
theorem Bank.Ok.tick {S : Bank} (h : S.Ok) : ∀ j, (S.tick j).Ok
  | 0 => h
  | j + 1 => by
    have h1 := Bank.Ok.tick h j
    have h2 := h1.setFail j (a := (S.tick j).failAt j - 1) (by have := h1.fail_le j; omega)
    unfold Bank.tick
    simp only
    split
    · exact h1
    · split
      · exact h2.fail j
      · exact h2
theorem count_down {S : Bank} (h : S.down = true) : S.count = (false, S) := by unfold Bank.count; rw [if_pos h]
theorem Bank.Ok.count {S : Bank} (h : S.Ok) : S.count.2.Ok := by
  unfold Bank.count
  split
  · exact h
  · have h1 : S.ticked.Ok := h.wrote.tick S.n
    simp only
    split
    · exact h1
    · have h2 : Bank.Ok { S.ticked with armed := S.ticked.armed - 1 } := h1.setArmed (by have := h1.armed_le; omega)
      split
      · exact h2.crash _
      · exact h2
theorem Bank.Ok.write {S : Bank} (h : S.Ok) (d k : Nat) (s : Sec) : (S.write d k s).2.Ok := by
  have h1 := h.count
  unfold Bank.write
  simp only
  split
  · exact h1
  · split
    · rename_i h2
      exact h1.put h2 s
    · exact h1
section
variable {w w' : World} {b : Nat} {L : Lay} {S : Bank}
theorem BankIn.put_again (h : BankIn w b L S) {d k l : Nat} {s : Sec} (hd : d < S.n) (hl : L.lo d = some l) (hin : (d, k) ∈ S.order) (hm : MapIs w' l (upd (looseF S L d) k (some (newV s (L.since d k))))) (hg : w.grownBy w' (some l)) (hmx : MapIs w l (looseF S L d)) :
    BankIn w' b L (S.put d k s) := by
  have hne := h.map_ne hmx
  have hord : (S.put d k s).order = S.order := by show (if (d, k) ∈ S.order then S.order else S.order ++ [(d, k)]) = _; rw [if_pos hin]
  refine { head := h.head.grown hg (fun e => hne.1 (by injection e with e; exact e.symm)), cap := h.cap, row := fun h0 => ?_, gone := h.gone, flat := fun i hi hdi => ?_, loose := fun i hi hdi => ?_, apart1 := h.apart1, apart2 := h.apart2, apart3 := h.apart3, rising := by rw [hord]; exact h.rising, past := by rw [hord]; exact h.past }
  · obtain ⟨cs, hb, h2⟩ := h.row h0
    exact ⟨cs, hb.grown hg (fun e => hne.2 hd (by injection e with e; exact e.symm)), h2⟩
  · obtain ⟨y, g, ey, hy, h2⟩ := h.flat i hi hdi
    refine ⟨y, g, ey, hy.grown hg (fun e2 => ?_), h2⟩
    injection e2 with e2
    subst e2
    exact h.apart3 i d y hi hd ey hl
  · by_cases e : i = d
    · subst e
      refine ⟨l, hl, hm.congr fun j => ?_⟩
      have e1 : looseF (S.put i k s) L i j = if (i, j) ∈ S.order then some (newV (upd2 S.newest i k s i j) (L.since i j)) else none := by
        unfold looseF
        rw [hord]
        rfl
      rw [e1, upd2_col]
      by_cases ej : j = k
      · subst ej
        rw [upd_self, upd_self, if_pos hin]
      · rw [upd_ne _ _ ej, upd_ne _ _ ej]
        rfl
    · obtain ⟨y, ey, hy⟩ := h.loose i hi hdi
      refine ⟨y, ey, ?_⟩
      have hlf : looseF (S.put d k s) L i = looseF S L i := looseF_of L _ (fun j => ⟨by rw [hord], by show upd2 S.newest d k s i j = _; rw [upd2_row _ _ e]⟩)
      rw [hlf]
      exact hy.grown hg (fun e2 => e (by injection e2 with e2; subst e2; exact h.apart2 i d y hi hd ey hl))
def Lay.mark (L : Lay) (d k n : Nat) : Lay := { L with since := upd2 L.since d k n }
theorem BankIn.put_first (h : BankIn w b L S) {d k l : Nat} {s : Sec} (hd : d < S.n) (hl : L.lo d = some l) (hin : (d, k) ∉ S.order) (hm : MapIs w' l (upd (looseF S L d) k (some (newV s S.writes)))) (hg : w.grownBy w' (some l)) (hmx : MapIs w l (looseF S L d))
    (hpast : ∀ p ∈ S.order, L.since p.1 p.2 < S.writes) : BankIn w' b (L.mark d k S.writes) (S.put d k s) := by
  have hne := h.map_ne hmx
  have hord : (S.put d k s).order = S.order ++ [(d, k)] := by show (if (d, k) ∈ S.order then S.order else S.order ++ [(d, k)]) = _; rw [if_neg hin]
  have hsin : ∀ p ∈ S.order, (L.mark d k S.writes).since p.1 p.2 = L.since p.1 p.2 := by
    intro p hp
    show upd2 L.since d k S.writes p.1 p.2 = _
    rw [upd2_ne]
    rintro ⟨e1, e2⟩
    apply hin
    rw [← e1, ← e2]
    exact hp
  have hnew : (L.mark d k S.writes).since d k = S.writes := upd2_self _ _ _ _
  refine { head := h.head.grown hg (fun e => hne.1 (by injection e with e; exact e.symm)), cap := h.cap, row := fun h0 => ?_, gone := h.gone, flat := fun i hi hdi => ?_, loose := fun i hi hdi => ?_, apart1 := h.apart1, apart2 := h.apart2, apart3 := h.apart3, rising := ?_, past := ?_ }
  · obtain ⟨cs, hb, h2⟩ := h.row h0
    exact ⟨cs, hb.grown hg (fun e => hne.2 hd (by injection e with e; exact e.symm)), h2⟩
  · obtain ⟨y, g, ey, hy, h2⟩ := h.flat i hi hdi
    refine ⟨y, g, ey, hy.grown hg (fun e2 => ?_), h2⟩
    injection e2 with e2
    subst e2
    exact h.apart3 i d y hi hd ey hl
  · by_cases e : i = d
    · subst e
      refine ⟨l, hl, hm.congr fun j => ?_⟩
      have e1 : looseF (S.put i k s) (L.mark i k S.writes) i j = if (i, j) ∈ S.order ++ [(i, k)] then some (newV (upd2 S.newest i k s i j) (upd2 L.since i k S.writes i j)) else none := by
        unfold looseF
        rw [hord]
        rfl
      rw [e1, upd2_col, upd2_col]
      by_cases ej : j = k
      · subst ej
        rw [upd_self, upd_self, upd_self, if_pos (by simp)]
      · rw [upd_ne _ _ ej, upd_ne _ _ ej, upd_ne _ _ ej]
        unfold looseF
        by_cases hj : (i, j) ∈ S.order
        · rw [if_pos hj, if_pos (by simp [hj])]
        · rw [if_neg hj, if_neg (by simp [hj, ej])]
    · obtain ⟨y, ey, hy⟩ := h.loose i hi hdi
      refine ⟨y, ey, ?_⟩
      have hlf : looseF (S.put d k s) (L.mark d k S.writes) i = looseF S L i := by
        funext j
        have e1 : looseF (S.put d k s) (L.mark d k S.writes) i j = if (i, j) ∈ S.order ++ [(d, k)] then some (newV (upd2 S.newest d k s i j) (upd2 L.since d k S.writes i j)) else none := by
          unfold looseF
          rw [hord]
          rfl
        rw [e1, upd2_row _ _ e, upd2_row _ _ e]
        unfold looseF
        by_cases hj : (i, j) ∈ S.order
        · rw [if_pos hj, if_pos (by simp [hj])]
        · rw [if_neg hj, if_neg (by simp [hj, e])]
      rw [hlf]
      exact hy.grown hg (fun e2 => e (by injection e2 with e2; subst e2; exact h.apart2 i d y hi hd ey hl))
  · rw [hord, List.pairwise_append]
    refine ⟨h.rising.imp_of_mem fun {p q} hp hq hlt => by rw [hsin p hp, hsin q hq]; exact hlt, List.pairwise_singleton _ _, fun p hp q hq => ?_⟩
    rw [List.mem_singleton] at hq
    subst hq
    rw [hsin p hp, hnew]
    exact hpast p hp
  · rw [hord]
    intro p hp
    rcases List.mem_append.1 hp with hp | hp
    · rw [hsin p hp]
      exact h.past p hp
    · rw [List.mem_singleton] at hp
      subst hp
      rw [hnew]
      exact Nat.le_refl _
end
end Go.Proofs.YtmjjnbabfldbcaaGreat
