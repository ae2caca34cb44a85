/- A sector that was flushed and is written no more. -/
import Derived.Test.YtdpfjehodnlojaaDuo
namespace Go.Proofs.Ytdpfjehodnlojaa
open Go.RowKit

structure Last (S : Bank) (d k : Nat) (s : Sec) : Prop where
  d_lt : d < 3
  k_lt : k < 8
  num : S.n = 3
  size : ∀ i, i < 3 → S.size i = 8
  live : S.dead d = false
  fail : ∀ i, i < 3 → S.failAt i = 0
  free : (d, k) ∉ S.order
  flushed : S.flushed d k = s
  newest : S.newest d k = s
theorem keeps_out (m : Nat) (new : Nat → Nat → Sec) {d k : Nat} : ∀ (l : List (Nat × Nat)) (i : Nat) (F : Nat → Nat → Sec), (d, k) ∉ l → keeps m new i l F d k = F d k
  | [], _, _, _ => rfl
  | p :: l, i, F, h => by
    rw [keeps, keeps_out m new l (i + 1) _ (fun e => h (List.mem_cons_of_mem _ e))]
    split
    · rw [upd2_ne _ _ (fun e => h (by rw [e.1, e.2]; exact List.mem_cons_self))]
    · rfl
section
variable {S : Bank} {d k : Nat} {s : Sec}
theorem Last.flush (h : Last S d k s) (e : Nat) : Last (if S.may e = 0 then S.flush e else S) d k s := by
  split
  · refine ⟨h.d_lt, h.k_lt, h.num, h.size, h.live, h.fail, fun x => h.free ((mem_others _ _ _).1 x).1, ?_, h.newest⟩
    show upd S.flushed e (S.newest e) d k = s
    by_cases ed : d = e
    · subst ed; rw [upd_self]; exact h.newest
    · rw [upd_ne _ _ ed]; exact h.flushed
  · exact h
theorem Last.crash (h : Last S d k s) (m : Nat) : Last (S.crash m) d k s := by
  unfold Bank.crash
  split
  · exact h
  · have hk : S.kept m d k = s := by unfold Bank.kept; rw [keeps_out m _ _ _ _ h.free]; exact h.flushed
    exact ⟨h.d_lt, h.k_lt, h.num, h.size, h.live, h.fail, (fun x => by cases x), hk, hk⟩
theorem Last.start (h : Last S d k s) : Last S.start d k s := ⟨h.d_lt, h.k_lt, h.num, h.size, h.live, h.fail, h.free, h.flushed, h.newest⟩
theorem Last.dies (h : Last S d k s) {e : Nat} (he : e ≠ d) : Last (S.fail e) d k s := by
  refine ⟨h.d_lt, h.k_lt, h.num, h.size, ?_, h.fail, fun x => h.free ((mem_others _ _ _).1 x).1, h.flushed, ?_⟩
  · show upd S.dead e true d = false
    rw [upd_ne _ _ (Ne.symm he)]
    exact h.live
  · show upd S.newest e (S.flushed e) d k = s
    rw [upd_ne _ _ (Ne.symm he)]
    exact h.newest
theorem Last.arm (h : Last S d k s) (a m : Nat) : Last (S.arm a m) d k s := ⟨h.d_lt, h.k_lt, h.num, h.size, h.live, h.fail, h.free, h.flushed, h.newest⟩
theorem Last.count (h : Last S d k s) : Last S.count.2 d k s := by
  unfold Bank.count
  split
  · exact h
  · have ht : S.ticked = S.wrote := tick_calm (S := S.wrote) (fun i hi => h.fail i (by have : i < S.n := hi; rw [h.num] at this; exact this)) S.n (Nat.le_refl _)
    have hw : Last S.ticked d k s := by rw [ht]; exact ⟨h.d_lt, h.k_lt, h.num, h.size, h.live, h.fail, h.free, h.flushed, h.newest⟩
    simp only
    split
    · exact hw
    · have hw2 : Last { S.ticked with armed := S.ticked.armed - 1 } d k s := ⟨hw.d_lt, hw.k_lt, hw.num, hw.size, hw.live, hw.fail, hw.free, hw.flushed, hw.newest⟩
      split
      · exact hw2.crash _
      · exact hw2
theorem Last.put (h : Last S d k s) {e j : Nat} (hne : ¬ (e = d ∧ j = k)) (s' : Sec) : Last (S.put e j s') d k s := by
  have hne' : ¬ (d = e ∧ k = j) := fun x => hne ⟨x.1.symm, x.2.symm⟩
  refine ⟨h.d_lt, h.k_lt, h.num, h.size, h.live, h.fail, fun x => ?_, h.flushed, ?_⟩
  · rcases (put_mem S e j s' _).1 x with h1 | h1
    · exact h.free h1
    · injection h1 with h2 h3
      exact hne' ⟨h2, h3⟩
  · show upd2 S.newest e j s' d k = s
    rw [upd2_ne _ _ hne']
    exact h.newest
theorem Last.write (h : Last S d k s) {e j : Nat} (hne : ¬ (e = d ∧ j = k)) (s' : Sec) : Last (S.write e j s').2 d k s := by
  have hc := h.count
  unfold Bank.write
  simp only
  split
  · exact hc
  · split
    · exact hc.put hne s'
    · exact hc
theorem Last.reads (h : Last S d k s) (hu : S.down = false) : readV S d k = .tuple #[secV s, .int .i64 0] := by
  have hm : S.may d = 0 := by
    unfold Bank.may
    rw [if_neg (by rw [h.num]; have := h.d_lt; omega), h.live, hu, if_neg (by decide), if_neg (by decide)]
  have hp : S.place d k = 0 := by
    unfold Bank.place
    rw [if_pos hm, h.size d h.d_lt, if_pos h.k_lt]
  unfold readV
  rw [hp, if_pos rfl, h.newest]
  rfl
end
theorem last_laid {d k : Nat} (hd : d < 3) (hk : k < 8) (s : Sec) : Last ((Laid.wrote.put d k s).flush d) d k s := by
  have h1 : (Laid.wrote.put d k s).newest d k = s := by
    show upd2 Laid.newest d k s d k = s
    rw [upd2_self]
  refine ⟨hd, hk, rfl, calm_laid.size, calm_laid.live d hd, calm_laid.fail, fun x => ((mem_others _ _ _).1 x).2 rfl, ?_, h1⟩
  show upd _ d ((Laid.wrote.put d k s).newest d) d k = s
  rw [upd_self]
  exact h1
theorem place_neq (w : World) (a b c d : Int) (r : Bool) (hr : (!(decide (a = c) && decide (b = d))) = r) : (binOp .neq 37 (.agg #[.int .i64 a, .int .i64 b]) (.agg #[.int .i64 c, .int .i64 d])).run Try.prog w = .ok (.bool r) w := by
  have h0 := run_equalIn_int (P := Try.prog) w 9998 3 .i64 .i64 a c Try.underlying3
  have h1 := run_equalIn_int (P := Try.prog) w 9998 3 .i64 .i64 b d Try.underlying3
  have hp : Try.prog.plainKey 3 = true := by kernel_rfl
  have p0 := fun (x y : Int) => run_part_plain (P := Try.prog) w hp (xs := #[.int .i64 x, .int .i64 y]) (off := 0) (v := .int .i64 x) rfl
  have p1 := fun (x y : Int) => run_part_plain (P := Try.prog) w hp (xs := #[.int .i64 x, .int .i64 y]) (off := 1) (v := .int .i64 y) rfl
  rw [run_neq_struct, run_equalIn_struct (P := Try.prog) w 9999 37 _ _ (by kernel_rfl) (by kernel_rfl)]
  have hfs : ∃ f0 f1 : Field, (Try.prog.fieldsOf 37).toList = [f0, f1] ∧ f0.name ≠ "_" ∧ f1.name ≠ "_" ∧ f0.type = 3 ∧ f1.type = 3 ∧ f0.offset = 0 ∧ f1.offset = 1 := ⟨(Try.prog.fieldsOf 37).toList[0]'(by decide +kernel), (Try.prog.fieldsOf 37).toList[1]'(by decide +kernel), by kernel_rfl, by decide +kernel, by decide +kernel, by kernel_rfl, by kernel_rfl, by kernel_rfl, by kernel_rfl⟩
  obtain ⟨f0, f1, e, n0, n1, t0, t1, o0, o1⟩ := hfs
  rw [e]
  simp only [Op.eqFields, if_pos n0, if_pos n1, t0, t1, o0, o1, Sem.run_bind, p0, p1, Result.andThen_ok, h0, h1, Sem.run_ite, Sem.run_pure]
  rw [← hr]
  by_cases e0 : a = c
  · by_cases e1 : b = d
    · simp [e0, e1]
    · simp [e0, e1]
  · simp [e0]
end Go.Proofs.Ytdpfjehodnlojaa
