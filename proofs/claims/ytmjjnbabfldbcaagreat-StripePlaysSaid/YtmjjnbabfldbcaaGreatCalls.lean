/- The calls of a bank, each as one law of the bank in its span. -/
import Derived.Test.YtmjjnbabfldbcaaGreatAdd
namespace Go.Proofs.YtmjjnbabfldbcaaGreat
open Go.RowKit

section
variable {w : World} {b lo hi : Nat} {S : Bank}
theorem BankAt.lo_le (h : BankAt w b lo hi S) : lo ≤ w.heap.size := by
  obtain ⟨h1, _, L, h3, h4⟩ := h
  have hq : lo ≤ b ∧ b < hi := h4.inside b (.inl rfl)
  omega
theorem on_write {F : Nat → Prop} (h : BankOn w b F S) (hw : S.writes < 4611686018427387904) (d k : Nat) (s : Sec) :
    Calls Tryz.prog 34 #[.pointer (some ⟨b, 0, none⟩), .agg #[.int .i64 (d : Int), .int .i64 (k : Int)], secV s] w fun e w' => e = .returned (.int .i64 ((S.write d k s).1 : Int)) ∧ BankOn w' b F (S.write d k s).2 ∧ Turn F w w' := by
  obtain ⟨h1, h2, L, h3, h4⟩ := h
  exact (writeB_any h3 h2 hw d k s h4 h1).mono fun e w' ⟨he, hu, L', hB, hS⟩ => ⟨he, ⟨fun x hx => Nat.lt_of_lt_of_le (h1 x hx) hu.size, h2.write d k s, L', hB, hS⟩, hu⟩
theorem on_flush {F : Nat → Prop} (h : BankOn w b F S) (d : Nat) :
    Calls Tryz.prog 45 #[.pointer (some ⟨b, 0, none⟩), .int .i64 (d : Int)] w fun e w' => e = .returned (.int .i64 (S.may d : Int)) ∧ BankOn w' b F (if S.may d = 0 then S.flush d else S) ∧ Turn F w w' := by
  obtain ⟨h1, h2, L, h3, h4⟩ := h
  refine (flushB_any h3 h2 d h4).mono fun e w' ⟨he, hB, hu⟩ => ⟨he, ⟨fun x hx => Nat.lt_of_lt_of_le (h1 x hx) hu.size, ?_, L, hB, ?_⟩, hu⟩
  · split
    · exact h2.flush d
    · exact h2
  · split
    · exact h4.same rfl ⟨rfl, rfl, rfl⟩
    · exact h4
theorem on_crash {F : Nat → Prop} (h : BankOn w b F S) (m : Nat) (hm : m < 18446744073709551616) :
    Calls Tryz.prog 41 #[.pointer (some ⟨b, 0, none⟩), .int .u64 (m : Int)] w fun e w' => e = .returned (.tuple #[]) ∧ BankOn w' b F (S.crash m) ∧ Turn F w w' := by
  obtain ⟨h1, h2, L, h3, h4⟩ := h
  cases hd : S.down with
  | false =>
    have hn : (S.crash m).n = S.n := by unfold Bank.crash; rw [if_neg (by rw [hd]; decide)]
    exact (crash_any h3 h2 m hm hd h4 h1).mono fun e w' ⟨he, hB, hu⟩ => ⟨he, ⟨fun x hx => Nat.lt_of_lt_of_le (h1 x hx) hu.size, h2.crash m, L, hB, h4.same hn ⟨rfl, rfl, rfl⟩⟩, hu⟩
  | true =>
    have hc : S.crash m = S := by unfold Bank.crash; rw [if_pos hd]
    rw [hc]
    have c1 := h3.c1
    rw [hd] at c1
    go_enter Tryz.func41, Tryz.ntmps41
    go_wp2
    exact bodyPost_ret (results_none rfl _ _ _) rfl ⟨rfl, ⟨h1, h2, L, h3, h4⟩, Turn.refl _ _⟩
theorem on_start {F : Nat → Prop} (h : BankOn w b F S) :
    Calls Tryz.prog 43 #[.pointer (some ⟨b, 0, none⟩)] w fun e w' => e = .returned (.tuple #[]) ∧ BankOn w' b F S.start ∧ Turn F w w' := by
  obtain ⟨h1, h2, L, h3, h4⟩ := h
  exact (start_any h3 h4).mono fun e w' ⟨he, hB, hu⟩ => ⟨he, ⟨fun x hx => Nat.lt_of_lt_of_le (h1 x hx) hu.size, h2.start, L, hB, h4.same rfl ⟨rfl, rfl, rfl⟩⟩, hu⟩
theorem on_fail {F : Nat → Prop} (h : BankOn w b F S) (d : Nat) (hd : d < S.n) :
    Calls Tryz.prog 21 #[.pointer (some ⟨b, 0, none⟩), .int .i64 (d : Int)] w fun e w' => e = .returned (.int .i64 0) ∧ BankOn w' b F (S.fail d) ∧ Turn F w w' := by
  obtain ⟨h1, h2, L, h3, h4⟩ := h
  exact (failB_any h3 d hd h4).mono fun e w' ⟨he, hB, hu⟩ => ⟨he, ⟨fun x hx => Nat.lt_of_lt_of_le (h1 x hx) hu.size, h2.fail d, _, hB, h4.drop rfl⟩, hu⟩
theorem on_arm {F : Nat → Prop} (h : BankOn w b F S) (n : Int) (a m : Nat) (ha : (a : Int) = if 0 < n then n else 0) (ha2 : a < 9223372036854775808) (hm : m < 18446744073709551616) :
    Calls Tryz.prog 39 #[.pointer (some ⟨b, 0, none⟩), .int .i64 n, .int .u64 (m : Int)] w fun e w' => e = .returned (.tuple #[]) ∧ BankOn w' b F (S.arm a m) ∧ Turn F w w' := by
  obtain ⟨h1, h2, L, h3, h4⟩ := h
  exact (arm_any h3 n a m ha h4).mono fun e w' ⟨he, hB, hu⟩ => ⟨he, ⟨fun x hx => Nat.lt_of_lt_of_le (h1 x hx) hu.size, h2.arm ha2 hm, L, hB, h4.same rfl ⟨rfl, rfl, rfl⟩⟩, hu⟩
theorem on_failAt {F : Nat → Prop} (h : BankOn w b F S) (d : Nat) (hd : d < S.n) (n : Int) (a : Nat) (ha : (a : Int) = if 0 < n then n else 0) (ha2 : a < 9223372036854775808) :
    Calls Tryz.prog 37 #[.pointer (some ⟨b, 0, none⟩), .int .i64 (d : Int), .int .i64 n] w fun e w' => e = .returned (.tuple #[]) ∧ BankOn w' b F (S.willFail d a) ∧ Turn F w w' := by
  obtain ⟨h1, h2, L, h3, h4⟩ := h
  exact (failAt_any h3 d hd n a ha h4).mono fun e w' ⟨he, hB, hu⟩ => ⟨he, ⟨fun x hx => Nat.lt_of_lt_of_le (h1 x hx) hu.size, h2.setFail d ha2, L, hB, h4.same rfl ⟨rfl, rfl, rfl⟩⟩, hu⟩
theorem on_read {F : Nat → Prop} (h : BankOn w b F S) (d k : Nat) :
    Calls Tryz.prog 13 #[.pointer (some ⟨b, 0, none⟩), .agg #[.int .i64 (d : Int), .int .i64 (k : Int)]] w fun e w' => e = .returned (readV S d k) ∧ Below w.heap.size w w' := by
  obtain ⟨h1, h2, L, h3, h4⟩ := h
  exact read_any h3 h2 d k
theorem on_up {F : Nat → Prop} (h : BankOn w b F S) :
    Calls Tryz.prog 11 #[.pointer (some ⟨b, 0, none⟩)] w fun e w' => e = .returned (.bool (!S.down)) ∧ w = w' := by
  obtain ⟨h1, h2, L, h3, h4⟩ := h
  exact up_any h3
theorem on_add {F : Nat → Prop} (h : BankOn w b F S) (z : Nat) (hz1 : 1 ≤ z) (hz2 : z ≤ 4096) (hn : S.n < 32) :
    Calls Tryz.prog 25 #[.pointer (some ⟨b, 0, none⟩), .int .i64 (z : Int)] w fun e w' => e = .returned (.tuple #[.int .i64 (S.n : Int), .int .i64 0]) ∧ BankOn w' b (fun y => F y ∨ (w.heap.size ≤ y ∧ y < w'.heap.size)) (S.add z) ∧ Turn F w w' := by
  obtain ⟨h1, h2, L, h3, h4⟩ := h
  exact add_any h3 h2 z hz1 hz2 hn h4 h1
theorem bank_add (h : BankAt w b lo hi S) (z : Nat) (hz1 : 1 ≤ z) (hz2 : z ≤ 4096) (hn : S.n < 32) :
    Calls Tryz.prog 25 #[.pointer (some ⟨b, 0, none⟩), .int .i64 (z : Int)] w fun e w' => e = .returned (.tuple #[.int .i64 (S.n : Int), .int .i64 0]) ∧ BankAt w' b lo w'.heap.size (S.add z) ∧ Upto lo hi w w' := by
  refine (on_add h.on z hz1 hz2 hn).mono fun _ _ ⟨he, hB, hu⟩ => ⟨he, (hB.wider (fun y hy => ?_) (fun x hx => hx.2)).at_ (Nat.le_refl _), hu.upto_in⟩
  have hlo := h.lo_le
  have hs := hu.size
  rcases hy with hy | hy
  · have h1 := h.1
    exact ⟨hy.1, by have := hy.2; omega⟩
  · exact ⟨by omega, hy.2⟩
end
end Go.Proofs.YtmjjnbabfldbcaaGreat
