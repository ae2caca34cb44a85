/- Two banks side by side; writes and sectors in whatever world of a class. -/
import Derived.Test.YtdpfjehodnlojaaCalm
import Derived.Test.YtdpfjehodnlojaaWhenQ
namespace Go.Proofs.Ytdpfjehodnlojaa
open Go.RowKit

theorem maskN (v : Int) (e : Nat) (he : e ≤ 62) : ∃ m : Nat, bits .and .i64 v (2 ^ e - 1) = (m : Int) ∧ m < 2 ^ e := by
  have h := i64_mask v e he
  have h0 := Int.emod_nonneg v (show (2 : Int) ^ e ≠ 0 by have : (0 : Int) < 2 ^ e := Int.pow_pos (by decide); omega)
  have h1 := Int.emod_lt_of_pos v (show (0 : Int) < 2 ^ e from Int.pow_pos (by decide))
  refine ⟨(v % 2 ^ e).toNat, by rw [Int.toNat_of_nonneg h0]; exact h, ?_⟩
  have : (((v % 2 ^ e).toNat : Nat) : Int) < ((2 ^ e : Nat) : Int) := by
    rw [Int.toNat_of_nonneg h0]
    push_cast
    exact h1
  exact_mod_cast this
theorem mask16 (v : Int) : ∃ m : Nat, bits .and .i64 v 65535 = (m : Int) ∧ m < 65536 := maskN v 16 (by decide)
theorem mask5 (v : Int) : ∃ m : Nat, bits .and .i64 v 31 = (m : Int) ∧ m < 32 := maskN v 5 (by decide)
theorem mask4 (v : Int) : ∃ m : Nat, bits .and .i64 v 15 = (m : Int) ∧ m < 16 := maskN v 4 (by decide)
theorem mask3 (v : Int) : ∃ m : Nat, bits .and .i64 v 7 = (m : Int) ∧ m < 8 := maskN v 3 (by decide)
theorem mask2 (v : Int) : ∃ m : Nat, bits .and .i64 v 3 = (m : Int) ∧ m < 4 := maskN v 2 (by decide)
theorem mask_nat (i : Nat) : bits .and .i64 (i : Int) 7 = ((i % 8 : Nat) : Int) := by
  have h := i64_mask (i : Int) 3 (by decide)
  rw [show (2 : Int) ^ 3 - 1 = 7 by decide] at h
  rw [h, show (2 : Int) ^ 3 = 8 by decide]
  omega
theorem lt64 {U : List Value} (h : U.length = 64) {j : Nat} {v : Value} (hj : U[j]? = some v) : j < 64 := by
  rcases Nat.lt_or_ge j U.length with h1 | h1
  · omega
  · rw [List.getElem?_eq_none h1] at hj
    cases hj

section
variable {w : World} {b lo hi : Nat} {S : Bank}
theorem sector_held (n : Int) (s : Sec) (hs : s = secOf n) {U : List Value} (hU : U = secL s) : ∀ w', Below w.heap.size w w' → Calls Try.prog 13 #[.int .i64 n] w' fun e w'' => e = .returned (.agg U.toArray) ∧ Below w.heap.size w w'' := fun w' hb => by
  refine (sector_any n w').mono ?_
  rintro e w'' ⟨rfl, h⟩
  refine ⟨?_, hb.trans (h.mono hb.size)⟩
  rw [hU, hs]
  rfl
theorem write_held (hB : BankAt w b lo hi S) (hw : S.writes < 4611686018427387904) (d k : Nat) (s : Sec) {U : List Value} (hU : U = secL s) :
    ∀ w', Below w.heap.size w w' → Calls Try.prog 12 #[.pointer (some ⟨b, 0, none⟩), .agg #[.int .i64 (d : Int), .int .i64 (k : Int)], .agg U.toArray] w' fun e w'' => e = .returned (.int .i64 ((S.write d k s).1 : Int)) ∧ BankAt w'' b lo hi (S.write d k s).2 ∧ Upto lo hi w w'' := fun w' hb => by
  have h := bank_write (hB.later hb) hw d k s
  rw [show secV s = .agg U.toArray by rw [hU]; rfl] at h
  refine h.mono ?_
  rintro e w'' ⟨rfl, h1, h2⟩
  exact ⟨rfl, h1, (Upto.of_below hb).trans h2⟩
end
theorem crash_up {S : Bank} (h : S.down = false) (m : Nat) : S.crash m = { S with flushed := S.kept m, newest := S.kept m, order := [], down := true, armed := 0 } := by
  unfold Bank.crash
  rw [if_neg (by rw [h]; decide)]
theorem crash_writes (S : Bank) (m : Nat) : (S.crash m).writes = S.writes := by
  unfold Bank.crash
  split <;> rfl
theorem count_writes (S : Bank) : S.writes ≤ S.count.2.writes ∧ S.count.2.writes ≤ S.writes + 1 := by
  unfold Bank.count
  split
  · exact ⟨Nat.le_refl _, Nat.le_succ _⟩
  · have ht : S.ticked.writes = S.writes + 1 := (tick_keeps S.wrote S.n).2.2.2.1
    simp only
    split
    · simp only; omega
    · split
      · constructor
        · show S.writes ≤ (Bank.crash _ _).writes
          rw [crash_writes]
          show S.writes ≤ S.ticked.writes
          omega
        · show (Bank.crash _ _).writes ≤ _
          rw [crash_writes]
          show S.ticked.writes ≤ _
          omega
      · simp only; omega
theorem write_writes (S : Bank) (d k : Nat) (s : Sec) : S.writes ≤ (S.write d k s).2.writes ∧ (S.write d k s).2.writes ≤ S.writes + 1 := by
  have h := count_writes S
  unfold Bank.write
  simp only
  split
  · exact h
  · split
    · exact h
    · exact h

/-! ### A bank that is armed, beside one that is not -/
structure Before (A B : Bank) (y m : Nat) : Prop where
  eq : A = { B with armed := y, mask := m }
  n : B.n = 3
  up : B.down = false
  arm : B.armed = 0
  fail : ∀ d, d < 3 → B.failAt d = 0
structure After (A B : Bank) : Prop where
  eq : ∃ x z, A = { B with writes := x, mask := z }
  n : B.n = 3
  down : B.down = true
theorem Before.counts {A B : Bank} {y m : Nat} (h : Before A B y m) : B.count = (false, B.wrote) ∧ A.ticked = { B.wrote with armed := y, mask := m } := by
  have hB : B.ticked = B.wrote := tick_calm (S := B.wrote) (fun d hd => h.fail d (by have : d < B.n := hd; rw [h.n] at this; exact this)) B.n (Nat.le_refl _)
  have hA : A.ticked = A.wrote := tick_calm (S := A.wrote) (fun d hd => by
    have hd' : d < A.n := hd
    rw [h.eq] at hd' ⊢
    exact h.fail d (by have : d < B.n := hd'; rw [h.n] at this; exact this)) A.n (Nat.le_refl _)
  refine ⟨?_, by rw [hA, h.eq]; rfl⟩
  unfold Bank.count
  rw [if_neg (by rw [h.up]; decide), hB]
  simp only
  rw [if_pos (show B.wrote.armed = 0 from h.arm)]
theorem Before.write {A B : Bank} {y m : Nat} (h : Before A B y m) (hy : 2 ≤ y) (d k : Nat) (s : Sec) :
    (A.write d k s).1 = (B.write d k s).1 ∧ Before (A.write d k s).2 (B.write d k s).2 (y - 1) m := by
  obtain ⟨hB, hA⟩ := h.counts
  have hAd : A.down = false := by rw [h.eq]; exact h.up
  have hcA : A.count = (false, { B.wrote with armed := y - 1, mask := m }) := by
    unfold Bank.count
    rw [if_neg (by rw [hAd]; decide), hA]
    simp only
    rw [if_neg (by omega), if_neg (by omega)]
  have hp : Bank.place { B.wrote with armed := y - 1, mask := m } d k = B.wrote.place d k := rfl
  unfold Bank.write
  rw [hcA, hB]
  simp only [Bool.false_eq_true, if_false, hp]
  split
  · exact ⟨rfl, rfl, h.n, h.up, h.arm, h.fail⟩
  · exact ⟨rfl, rfl, h.n, h.up, h.arm, h.fail⟩
theorem Before.hit {A B : Bank} {m : Nat} (h : Before A B 1 m) (d k : Nat) (s : Sec) : (A.write d k s).1 = 6 ∧ After (A.write d k s).2 (B.crash m) := by
  obtain ⟨hB, hA⟩ := h.counts
  have hAd : A.down = false := by rw [h.eq]; exact h.up
  have hcA : A.count = (true, Bank.crash { B.wrote with armed := 0, mask := m } m) := by
    unfold Bank.count
    rw [if_neg (by rw [hAd]; decide), hA]
    simp only
    rw [if_neg (by omega)]
    simp
  have e1 : Bank.crash { B.wrote with armed := 0, mask := m } m = { B.wrote with flushed := B.kept m, newest := B.kept m, order := [], down := true, armed := 0, mask := m } := crash_up (S := { B.wrote with armed := 0, mask := m }) h.up m
  have e2 : B.crash m = { B with flushed := B.kept m, newest := B.kept m, order := [], down := true, armed := 0 } := crash_up h.up m
  unfold Bank.write
  rw [hcA, e1, e2]
  exact ⟨rfl, ⟨_, _, rfl⟩, h.n, rfl⟩
theorem Before.may {A B : Bank} {y m : Nat} (h : Before A B y m) (d : Nat) : A.may d = B.may d := by rw [h.eq]; rfl
theorem Before.flush {A B : Bank} {y m : Nat} (h : Before A B y m) (d : Nat) : Before (if A.may d = 0 then A.flush d else A) (if B.may d = 0 then B.flush d else B) y m := by
  rw [h.may]
  split
  · exact ⟨by rw [h.eq]; rfl, h.n, h.up, h.arm, h.fail⟩
  · exact h
theorem After.may {A B : Bank} (h : After A B) (d : Nat) : A.may d = B.may d := by obtain ⟨⟨x, z, e⟩, _, _⟩ := h; rw [e]; rfl
theorem After.may_no {A B : Bank} (h : After A B) (d : Nat) : B.may d ≠ 0 := by
  unfold Bank.may
  split
  · decide
  · split
    · decide
    · rw [if_pos h.down]; decide
theorem After.flush {A B : Bank} (h : After A B) (d : Nat) : After (if A.may d = 0 then A.flush d else A) (if B.may d = 0 then B.flush d else B) := by
  rw [h.may, if_neg (h.may_no d), if_neg (h.may_no d)]
  exact h
theorem After.write {A B : Bank} (h : After A B) (d k : Nat) (s : Sec) : (A.write d k s).1 = (B.write d k s).1 ∧ After (A.write d k s).2 (B.write d k s).2 := by
  obtain ⟨x, z, e⟩ := h.eq
  have hA : A.down = true := by rw [e]; exact h.down
  have hB0 : B.place d k ≠ 0 := fun hp => h.may_no d (place_lt hp).1
  have hAB : A.place d k = B.place d k := by rw [e]; rfl
  unfold Bank.write
  rw [count_down hA, count_down h.down]
  simp only [Bool.false_eq_true, if_false, hAB, if_neg hB0]
  exact ⟨trivial, h⟩
theorem Before.same {A B : Bank} {y m : Nat} (h : Before A B y m) : A.down = B.down ∧ A.order.length = B.order.length := by rw [h.eq]; exact ⟨rfl, rfl⟩
theorem After.same {A B : Bank} (h : After A B) : A.down = B.down ∧ A.order.length = B.order.length := by obtain ⟨⟨x, z, e⟩, _, _⟩ := h; rw [e]; exact ⟨rfl, rfl⟩
theorem Before.reads {A B : Bank} {y m : Nat} (h : Before A B y m) (d k : Nat) : readV A.start d k = readV B.start d k := by rw [h.eq]; rfl
theorem After.reads {A B : Bank} (h : After A B) (d k : Nat) : readV A.start d k = readV B.start d k := by obtain ⟨⟨x, z, e⟩, _, _⟩ := h; rw [e]; rfl
/-- .. at any time: t writes behind, armed at write n. -/
def Armed (A B : Bank) (t n m : Nat) : Prop := (t < n ∧ Before A B (n - t) m) ∨ (n ≤ t ∧ After A B)
theorem Armed.may {A B : Bank} {t n m : Nat} (h : Armed A B t n m) (d : Nat) : A.may d = B.may d := h.elim (fun h => h.2.may d) (fun h => h.2.may d)
theorem Armed.same {A B : Bank} {t n m : Nat} (h : Armed A B t n m) : A.down = B.down ∧ A.order.length = B.order.length := h.elim (fun h => h.2.same) (fun h => h.2.same)
theorem Armed.reads {A B : Bank} {t n m : Nat} (h : Armed A B t n m) (d k : Nat) : readV A.start d k = readV B.start d k := h.elim (fun h => h.2.reads d k) (fun h => h.2.reads d k)
theorem Armed.flush {A B : Bank} {t n m : Nat} (h : Armed A B t n m) (d : Nat) : Armed (if A.may d = 0 then A.flush d else A) (if B.may d = 0 then B.flush d else B) t n m :=
  h.elim (fun h => .inl ⟨h.1, h.2.flush d⟩) (fun h => .inr ⟨h.1, h.2.flush d⟩)
theorem Armed.write {A B : Bank} {t n m : Nat} (h : Armed A B t n m) (hne : t + 1 ≠ n) (d k : Nat) (s : Sec) : (A.write d k s).1 = (B.write d k s).1 ∧ Armed (A.write d k s).2 (B.write d k s).2 (t + 1) n m :=
  h.elim (fun h => by
    obtain ⟨h1, h2⟩ := h.2.write (by omega) d k s
    exact ⟨h1, .inl ⟨by omega, by rw [show n - (t + 1) = n - t - 1 by omega]; exact h2⟩⟩) (fun h => by
    obtain ⟨h1, h2⟩ := h.2.write d k s
    exact ⟨h1, .inr ⟨by omega, h2⟩⟩)
theorem Armed.hit {A B : Bank} {t n m : Nat} (h : Armed A B t n m) (he : t + 1 = n) (d k : Nat) (s : Sec) : (A.write d k s).1 = 6 ∧ Armed (A.write d k s).2 (B.crash m) (t + 1) n m := by
  rcases h with ⟨_, h⟩ | ⟨h, _⟩
  · rw [show n - t = 1 by omega] at h
    obtain ⟨h1, h2⟩ := h.hit d k s
    exact ⟨h1, .inr ⟨by omega, h2⟩⟩
  · omega
theorem armed_laid (n m : Nat) (hn : 0 < n) : Armed (Laid.arm n m) Laid 0 n m := .inl ⟨hn, rfl, rfl, rfl, rfl, fun d hd => calm_laid.fail d hd⟩
end Go.Proofs.Ytdpfjehodnlojaa
