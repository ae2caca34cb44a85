/- What Flush, Start, Fail, FailAt and Arm do to a bank; how many sectors are loose. -/
import Derived.Test.YtjafhlljigaibaaCrash
namespace Go.Proofs.Ytjafhlljigaibaa
open Go.RowKit

section
variable {w : World} {b : Nat} {L : Lay} {S : Bank}
theorem failB_any (h : BankIn w b L S) (d : Nat) (hd : d < S.n) {F : Nat → Prop} (hsp : Span b L S F) :
    Calls Try.prog 25 #[.pointer (some ⟨b, 0, none⟩), .int .i64 (d : Int)] w fun e w' => e = .returned (.int .i64 0) ∧ BankIn w' b (L.drop d) (S.fail d) ∧ Turn F w w' := by
  have HT := hide (there_yes h d hd)
  have c0 := h.c0
  rw [L.ad_pos hd] at c0
  have hdw : (d : Int) < (S.n : Int) := by omega
  obtain ⟨_, m1, m2, m3, _⟩ := h.m hd
  have HF := hide (fail_any (o := d * 5) _ _ _ m1 m2 m3 (h.mfree hd))
  have hB := hide (h.fail_ hd)
  have hmin := hsp.inside L.mb (.inr (.inl ⟨by omega, rfl⟩))
  clear h m1 m2 m3
  go_enter Try.func25, Try.ntmps25
  go_wp2_with (first
    | (go_at_call 48; refine HT.out.mono ?_; rintro _ _ ⟨rfl, rfl⟩)
    | (go_at_call 50; refine HF.out.mono ?_; rintro _ w4 ⟨rfl, hw4⟩; have HW4 := hide hw4; clear hw4))
  go_ret
  rw [HW4.out]
  exact ⟨rfl, hB.out, (((Turn.refl _ _).set ⟨L.mb, d * 5 + 1, none⟩ (.inl hmin) _).set ⟨L.mb, d * 5 + 2, none⟩ (.inl hmin) _).set ⟨L.mb, d * 5 + 3, none⟩ (.inl hmin) _⟩
set_option maxRecDepth 100000 in
theorem failAt_any (h : BankIn w b L S) (d : Nat) (hd : d < S.n) (n : Int) (a : Nat) (ha : (a : Int) = if 0 < n then n else 0) {F : Nat → Prop} (hsp : Span b L S F) :
    Calls Try.prog 24 #[.pointer (some ⟨b, 0, none⟩), .int .i64 (d : Int), .int .i64 n] w fun e w' => e = .returned (.tuple #[]) ∧ BankIn w' b L (S.willFail d a) ∧ Turn F w w' := by
  have HA := hide (fun w' => after_any (w := w') n a ha)
  have HT := hide (there_yes h d hd)
  have c0 := h.c0
  rw [L.ad_pos hd] at c0
  have hdw : (d : Int) < (S.n : Int) := by omega
  obtain ⟨_, _, _, _, m4⟩ := h.m hd
  have f4 := h.mfree hd (d * 5 + 4)
  have hB := hide (h.drew.set_fail hd a)
  have hmin := hsp.inside L.mb (.inr (.inl ⟨by omega, rfl⟩))
  clear h ha
  go_enter Try.func24, Try.ntmps24
  go_wp2_with (first
    | (go_at_call 48; refine HT.out.mono ?_; rintro _ _ ⟨rfl, rfl⟩))
  have c0d : w.drew.cell? ⟨b, 0, none⟩ = some (.slice (some ⟨L.mb, 0, none⟩) S.n L.cap) := c0
  have m4d : w.drew.cell? ⟨L.mb, d * 5 + 4, none⟩ = some (.int .i64 (S.failAt d : Int)) := m4
  have f4d : w.drew.frozen? ⟨L.mb, d * 5 + 4, none⟩ = false := f4
  refine wp_region_still_tail 9 (by kernel_rfl) (by kernel_rfl) ?_
  change wpStill _ _ w.drew _ _ _
  simp only [List.take_succ_cons, List.take_zero, List.drop_succ_cons, List.drop_zero]
  iterate 6 still_step
  still_call ((HA.out _).mono fun _ _ ⟨h1, h2⟩ => ⟨h1, h2.symm⟩)
  iterate 2 still_step
  refine wpStill_nil ?_
  change wpList _ _ _ _ _ w.drew
  go_wp2
  go_end0
  exact ⟨rfl, hB.out, ((Turn.refl _ _).drew).set ⟨L.mb, d * 5 + 4, none⟩ (.inl hmin) _⟩
/-- Lists of the loose places of one disk. -/
def looseOf (S : Bank) (i : Nat) : List Nat := (S.order.filter fun p => p.1 == i).map (·.2)
theorem looseOf_mem (S : Bank) (i k : Nat) : k ∈ looseOf S i ↔ (i, k) ∈ S.order := by
  unfold looseOf
  rw [List.mem_map]
  constructor
  · rintro ⟨p, hp, rfl⟩
    obtain ⟨h1, h2⟩ := List.mem_filter.1 hp
    have : p.1 = i := by simpa using h2
    rw [← this]
    exact h1
  · intro h
    exact ⟨(i, k), List.mem_filter.2 ⟨h, by simp⟩, rfl⟩
theorem looseOf_nodup (S : Bank) (hok : S.Ok) (i : Nat) : (looseOf S i).Nodup := by
  unfold looseOf
  have h1 : (S.order.filter fun p => p.1 == i).Nodup := hok.nodup.sublist List.filter_sublist
  rw [List.Nodup, List.pairwise_map]
  refine List.Pairwise.imp_of_mem (fun {p q} hp hq hne e => hne ?_) h1
  have e1 : p.1 = i := by simpa using (List.mem_filter.1 hp).2
  have e2 : q.1 = i := by simpa using (List.mem_filter.1 hq).2
  exact Prod.ext (by rw [e1, e2]) e
theorem loose_count (l : List (Nat × Nat)) (j : Nat) : (l.filter fun p => decide (p.1 < j + 1)).length = (l.filter fun p => decide (p.1 < j)).length + (l.filter fun p => p.1 == j).length := by
  induction l with
  | nil => rfl
  | cons p l ih =>
    simp only [List.filter_cons]
    rcases Nat.lt_trichotomy p.1 j with h | h | h
    · have h1 : decide (p.1 < j + 1) = true := by simp; omega
      have h2 : decide (p.1 < j) = true := by simpa using h
      have h3 : (p.1 == j) = false := by simp; omega
      simp only [h1, h2, h3, if_true, Bool.false_eq_true, if_false, List.length_cons, ih]
      omega
    · have h1 : decide (p.1 < j + 1) = true := by simp; omega
      have h2 : decide (p.1 < j) = false := by simp; omega
      have h3 : (p.1 == j) = true := by simpa using h
      simp only [h1, h2, h3, if_true, Bool.false_eq_true, if_false, List.length_cons, ih]
      omega
    · have h1 : decide (p.1 < j + 1) = false := by simp; omega
      have h2 : decide (p.1 < j) = false := by simp; omega
      have h3 : (p.1 == j) = false := by simp; omega
      simp only [h1, h2, h3, Bool.false_eq_true, if_false, ih]
end
end Go.Proofs.Ytjafhlljigaibaa
