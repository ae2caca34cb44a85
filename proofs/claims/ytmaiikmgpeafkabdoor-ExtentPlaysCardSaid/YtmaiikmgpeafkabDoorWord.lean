/- Plain lemmas on numbers of which each bit says something: the number of a row of bits, its bits, how many are 1, the least that is 1. No program is named here. -/
import Derived.WalkKit
import Derived.Laws.BitsAllLaws
import Derived.Lib.TrailingZeros
namespace Go.Proofs.YtmaiikmgpeafkabDoor
open Go.RowKit

/-- The number whose bit k is f k, for k below m. -/
def word (f : Nat → Bool) : Nat → Nat
  | 0 => 0
  | m + 1 => (f 0).toNat + 2 * word (fun k => f (k + 1)) m

theorem word_lt : ∀ (m : Nat) (f : Nat → Bool), word f m < 2 ^ m
  | 0, _ => by simp [word]
  | m + 1, f => by
    have := word_lt m (fun k => f (k + 1))
    rw [word, Nat.pow_succ]
    have hb : (f 0).toNat ≤ 1 := Bool.toNat_le _
    omega
theorem word_lt64 (f : Nat → Bool) : word f 64 < 18446744073709551616 := word_lt 64 f
theorem word_bit : ∀ (m : Nat) (f : Nat → Bool) (k : Nat), (word f m).testBit k = (decide (k < m) && f k)
  | 0, _, k => by simp [word]
  | m + 1, f, 0 => by
    rw [word, Nat.testBit_zero]
    cases f 0 <;> simp <;> omega
  | m + 1, f, k + 1 => by
    have hb : (f 0).toNat ≤ 1 := Bool.toNat_le _
    have e : (word f (m + 1)) / 2 = word (fun k => f (k + 1)) m := by rw [word]; omega
    rw [Nat.testBit_succ, e, word_bit m]
    simp
theorem word_of_bits {x m : Nat} {f : Nat → Bool} (hx : x < 2 ^ m) (h : ∀ k, k < m → x.testBit k = f k) : x = word f m := by
  apply Nat.eq_of_testBit_eq
  intro k
  rw [word_bit]
  by_cases hk : k < m
  · simp [hk, h k hk]
  · simp [hk, Nat.testBit_lt_two_pow (Nat.lt_of_lt_of_le hx (Nat.pow_le_pow_right (by decide) (Nat.le_of_not_lt hk)))]
theorem word_congr {m : Nat} {f g : Nat → Bool} (h : ∀ k, k < m → f k = g k) : word f m = word g m :=
  word_of_bits (word_lt m f) (fun k hk => by rw [word_bit]; simp [hk, h k hk])
theorem word_zero {m : Nat} {f : Nat → Bool} (h : ∀ k, k < m → f k = false) : word f m = 0 :=
  (word_of_bits (x := 0) (Nat.two_pow_pos m) (fun k hk => by simp [h k hk])).symm
theorem word_eq_zero {m : Nat} {f : Nat → Bool} (h : word f m = 0) {k : Nat} (hk : k < m) : f k = false := by
  have := word_bit m f k
  rw [h] at this
  simpa [hk] using this.symm
theorem pow_lt64 {k : Nat} (hk : k < 64) : 2 ^ k < 18446744073709551616 :=
  Nat.lt_of_lt_of_le (Nat.pow_lt_pow_right (by decide) hk) (by decide)

/-- One bit of a word. -/
theorem word_and_bit (f : Nat → Bool) {k : Nat} (hk : k < 64) : (word f 64 &&& 2 ^ k) = if f k then 2 ^ k else 0 := by
  apply Nat.eq_of_testBit_eq
  intro i
  rw [Nat.testBit_and, word_bit, Nat.testBit_two_pow]
  by_cases e : k = i
  · subst e
    cases f k <;> simp [hk]
  · cases f k <;> simp [e]
theorem word_or_bit (f : Nat → Bool) {k : Nat} (hk : k < 64) : (word f 64 ||| 2 ^ k) = word (fun i => if i = k then true else f i) 64 := by
  apply word_of_bits (Nat.or_lt_two_pow (word_lt 64 f) (Nat.pow_lt_pow_right (by decide) hk))
  intro i hi
  rw [Nat.testBit_or, word_bit, Nat.testBit_two_pow]
  by_cases e : i = k
  · simp [e]
  · have : ¬ k = i := fun h => e h.symm
    simp [e, this, hi]
theorem word_not (f : Nat → Bool) : 18446744073709551615 - word f 64 = word (fun i => !f i) 64 := by
  have h := word_lt64 f
  have e : 18446744073709551615 - word f 64 = 2 ^ 64 - (word f 64 + 1) := by omega
  rw [e]
  apply word_of_bits (by omega)
  intro i hi
  rw [Nat.testBit_two_pow_sub_succ (word_lt 64 f), word_bit]
  simp [hi]
theorem word_and (f g : Nat → Bool) (m : Nat) : (word f m &&& word g m) = word (fun i => f i && g i) m := by
  apply word_of_bits (Nat.and_lt_two_pow _ (word_lt m g))
  intro i hi
  rw [Nat.testBit_and, word_bit, word_bit]
  simp [hi]
theorem word_pow {k : Nat} (hk : k < 64) : 2 ^ k = word (fun i => decide (i = k)) 64 := by
  apply word_of_bits (Nat.pow_lt_pow_right (by decide) hk)
  intro i _
  rw [Nat.testBit_two_pow]
  by_cases e : i = k
  · simp [e]
  · have : ¬ k = i := fun h => e h.symm
    simp [e, this]
theorem word_ones {k : Nat} (hk : k < 64) : 2 ^ k - 1 = word (fun i => decide (i < k)) 64 := by
  apply word_of_bits
  · have : 2 ^ k < 2 ^ 64 := Nat.pow_lt_pow_right (by decide) hk
    omega
  · intro i _
    rw [Nat.testBit_two_pow_sub_one]
theorem word_clear_bit (f : Nat → Bool) {k : Nat} (hk : k < 64) : (word f 64 &&& (18446744073709551615 - 2 ^ k)) = word (fun i => if i = k then false else f i) 64 := by
  rw [word_pow hk, word_not, word_and]
  apply word_congr
  intro i _
  by_cases e : i = k <;> simp [e]
theorem word_from (f : Nat → Bool) {k : Nat} (hk : k < 64) : (word f 64 &&& (18446744073709551615 - (2 ^ k - 1))) = word (fun i => f i && decide (k ≤ i)) 64 := by
  rw [word_ones hk, word_not, word_and]
  apply word_congr
  intro i _
  congr 1
  rw [Bool.eq_iff_iff]
  simp

/-- The least bit that is 1. -/
theorem ctz_word {f : Nat → Bool} (h0 : word f 64 ≠ 0) : Lib.ctz 64 (word f 64) < 64 ∧ f (Lib.ctz 64 (word f 64)) = true ∧ ∀ i, i < Lib.ctz 64 (word f 64) → f i = false := by
  obtain ⟨m, hm, hk⟩ := Lib.ctzFrom_spec 64 (word f 64) (by omega) (word_lt 64 f)
  have e : Lib.ctz 64 (word f 64) = Lib.ctzFrom 64 (word f 64) := by simp [Lib.ctz, h0]
  rw [e]
  have hb : ∀ i, (word f 64).testBit i = (decide (Lib.ctzFrom 64 (word f 64) ≤ i) && (2 * m + 1).testBit (i - Lib.ctzFrom 64 (word f 64))) := by
    intro i
    conv => lhs; rw [hm, Nat.mul_comm]
    rw [Nat.testBit_mul_two_pow]
  refine ⟨hk, ?_, fun i hi => ?_⟩
  · have := hb (Lib.ctzFrom 64 (word f 64))
    rw [word_bit] at this
    simpa [hk, Nat.testBit_zero] using this
  · have := hb i
    rw [word_bit] at this
    have h1 : i < 64 := by omega
    have h2 : ¬ Lib.ctzFrom 64 (word f 64) ≤ i := by omega
    simpa [h1, h2] using this

/-! ### How many bits are 1 -/
/-- How many of the places below m are so. -/
def cnt (f : Nat → Bool) : Nat → Nat
  | 0 => 0
  | m + 1 => cnt f m + (f m).toNat
theorem cnt_le (f : Nat → Bool) : ∀ m, cnt f m ≤ m
  | 0 => Nat.le_refl _
  | m + 1 => by
    have := cnt_le f m
    have hb : (f m).toNat ≤ 1 := Bool.toNat_le _
    rw [cnt]; omega
theorem cnt_add (f : Nat → Bool) (a : Nat) : ∀ b, cnt f (a + b) = cnt f a + cnt (fun k => f (a + k)) b
  | 0 => rfl
  | b + 1 => by rw [← Nat.add_assoc, cnt, cnt, cnt_add f a b]; omega
theorem cnt_congr {f g : Nat → Bool} : ∀ {m : Nat}, (∀ k, k < m → f k = g k) → cnt f m = cnt g m
  | 0, _ => rfl
  | m + 1, h => by rw [cnt, cnt, cnt_congr (fun k hk => h k (by omega)), h m (by omega)]
theorem cnt_zero {f : Nat → Bool} : ∀ {m : Nat}, (∀ k, k < m → f k = false) → cnt f m = 0
  | 0, _ => rfl
  | m + 1, h => by rw [cnt, cnt_zero (fun k hk => h k (by omega)), h m (by omega)]; rfl
theorem cnt_all {f : Nat → Bool} : ∀ {m : Nat}, (∀ k, k < m → f k = true) → cnt f m = m
  | 0, _ => rfl
  | m + 1, h => by rw [cnt, cnt_all (fun k hk => h k (by omega)), h m (by omega)]; rfl

/-- How many bits of x are 1, of the m lowest. -/
def pop : Nat → Nat → Nat
  | 0, _ => 0
  | m + 1, x => x % 2 + pop m (x / 2)
theorem cnt_front (f : Nat → Bool) (m : Nat) : cnt f (m + 1) = (f 0).toNat + cnt (fun k => f (k + 1)) m := by
  have := cnt_add f 1 m
  rw [Nat.add_comm 1 m] at this
  rw [this]
  have e : (fun k => f (1 + k)) = fun k => f (k + 1) := by funext k; rw [Nat.add_comm]
  rw [e]
  simp [cnt]
theorem pop_word : ∀ (m : Nat) (f : Nat → Bool), pop m (word f m) = cnt f m
  | 0, _ => rfl
  | m + 1, f => by
    have hb : (f 0).toNat ≤ 1 := Bool.toNat_le _
    have e1 : (word f (m + 1)) % 2 = (f 0).toNat := by rw [word]; omega
    have e2 : (word f (m + 1)) / 2 = word (fun k => f (k + 1)) m := by rw [word]; omega
    rw [pop, e1, e2, pop_word m, cnt_front]
theorem pop_byte (m a y : Nat) (ha : a < 256) : pop (8 + m) (a + 256 * y) = pop 8 a + pop m y := by
  have e : 8 + m = m + 1 + 1 + 1 + 1 + 1 + 1 + 1 + 1 := by omega
  have h8 : (a + 256 * y) / 2 / 2 / 2 / 2 / 2 / 2 / 2 / 2 = y := by omega
  have d0 : (a + 256 * y) % 2 = a % 2 := by omega
  have d1 : (a + 256 * y) / 2 % 2 = a / 2 % 2 := by omega
  have d2 : (a + 256 * y) / 2 / 2 % 2 = a / 2 / 2 % 2 := by omega
  have d3 : (a + 256 * y) / 2 / 2 / 2 % 2 = a / 2 / 2 / 2 % 2 := by omega
  have d4 : (a + 256 * y) / 2 / 2 / 2 / 2 % 2 = a / 2 / 2 / 2 / 2 % 2 := by omega
  have d5 : (a + 256 * y) / 2 / 2 / 2 / 2 / 2 % 2 = a / 2 / 2 / 2 / 2 / 2 % 2 := by omega
  have d6 : (a + 256 * y) / 2 / 2 / 2 / 2 / 2 / 2 % 2 = a / 2 / 2 / 2 / 2 / 2 / 2 % 2 := by omega
  have d7 : (a + 256 * y) / 2 / 2 / 2 / 2 / 2 / 2 / 2 % 2 = a / 2 / 2 / 2 / 2 / 2 / 2 / 2 % 2 := by omega
  rw [e]
  simp only [pop, h8, d0, d1, d2, d3, d4, d5, d6, d7]
  omega
theorem pop8_le (a : Nat) : pop 8 a ≤ 8 := by simp only [pop]; omega

/-- Two numbers' lowest bytes and the rest are taken together apart. -/
theorem and_byte (a c x y : Nat) (ha : a < 256) (hc : c < 256) : ((a + 256 * x) &&& (c + 256 * y)) = (a &&& c) + 256 * (x &&& y) := by
  apply Nat.eq_of_testBit_eq
  intro i
  have hac : (a &&& c) < 2 ^ 8 := Nat.and_lt_two_pow _ hc
  have e1 : a + 256 * x = 2 ^ 8 * x + a := by omega
  have e2 : c + 256 * y = 2 ^ 8 * y + c := by omega
  have e3 : (a &&& c) + 256 * (x &&& y) = 2 ^ 8 * (x &&& y) + (a &&& c) := by omega
  rw [Nat.testBit_and, e1, e2, e3, Nat.testBit_two_pow_mul_add _ ha, Nat.testBit_two_pow_mul_add _ hc, Nat.testBit_two_pow_mul_add _ hac]
  by_cases h : i < 8 <;> simp [h, Nat.testBit_and]

/-! ### math/bits.OnesCount64: what its steps make of each byte -/
/-- The byte c, k times. -/
def rep (c : Nat) : Nat → Nat
  | 0 => 0
  | k + 1 => c + 256 * rep c k
def one1 (a : Nat) : Nat := (a / 2 &&& 85) + (a &&& 85)
def one2 (a : Nat) : Nat := (one1 a / 4 &&& 51) + (one1 a &&& 51)
theorem one_a : ∀ a, a < 256 → ∀ b, b < 2 → (((a / 2 + 128 * b) &&& 85) = (a / 2 &&& 85) ∧ one1 a < 256) := by decide +kernel
theorem one_b : ∀ a, a < 256 → ∀ b, b < 4 → (((one1 a / 4 + 64 * b) &&& 51) = (one1 a / 4 &&& 51) ∧ one2 a ≤ 68 ∧ one2 a % 16 ≤ 4) := by decide +kernel
theorem one_c : ∀ a, a < 256 → ∀ b, b < 5 → (((one2 a / 16 + 16 * b + one2 a) &&& 15) = pop 8 a ∧ one2 a / 16 + 16 * b + one2 a < 256) := by decide +kernel
def stepA (k x : Nat) : Nat := (x / 2 &&& rep 85 k) + (x &&& rep 85 k)
def stepB (k x : Nat) : Nat := (stepA k x / 4 &&& rep 51 k) + (stepA k x &&& rep 51 k)
def stepC (k x : Nat) : Nat := (stepB k x / 16 + stepB k x) &&& rep 15 k
theorem stepA_byte (k a y : Nat) (ha : a < 256) : stepA (k + 1) (a + 256 * y) = one1 a + 256 * stepA k y := by
  have e : (a + 256 * y) / 2 = (a / 2 + 128 * (y % 2)) + 256 * (y / 2) := by omega
  obtain ⟨h1, _⟩ := one_a a ha (y % 2) (by omega)
  rw [stepA, rep, e, and_byte _ 85 _ _ (by omega) (by decide), and_byte a 85 _ _ ha (by decide), h1, one1, stepA]
  omega
theorem stepB_byte (k a y : Nat) (ha : a < 256) : stepB (k + 1) (a + 256 * y) = one2 a + 256 * stepB k y := by
  obtain ⟨_, h0⟩ := one_a a ha 0 (by decide)
  have e : (one1 a + 256 * stepA k y) / 4 = (one1 a / 4 + 64 * (stepA k y % 4)) + 256 * (stepA k y / 4) := by omega
  obtain ⟨h1, _⟩ := one_b a ha (stepA k y % 4) (by omega)
  rw [stepB, stepA_byte k a y ha, rep, e, and_byte _ 51 _ _ (by omega) (by decide), and_byte _ 51 _ _ h0 (by decide), h1, one2, stepB]
  omega
theorem stepB_low : ∀ (k y : Nat), stepB k y % 16 ≤ 4
  | 0, y => by simp [stepB, stepA, rep]
  | k + 1, y => by
    have e : y = y % 256 + 256 * (y / 256) := by omega
    rw [e, stepB_byte k _ _ (by omega)]
    obtain ⟨_, _, h⟩ := one_b (y % 256) (by omega) 0 (by decide)
    omega
theorem stepC_byte (k a y : Nat) (ha : a < 256) : stepC (k + 1) (a + 256 * y) = pop 8 a + 256 * stepC k y := by
  have hl := stepB_low k y
  obtain ⟨h1, h2⟩ := one_c a ha (stepB k y % 16) (by omega)
  have e : (one2 a + 256 * stepB k y) / 16 + (one2 a + 256 * stepB k y) = (one2 a / 16 + 16 * (stepB k y % 16) + one2 a) + 256 * (stepB k y / 16 + stepB k y) := by omega
  rw [stepC, stepB_byte k a y ha, rep, e, and_byte _ 15 _ _ h2 (by decide), h1, stepC]
theorem stepC_cut (k x : Nat) : stepC (k + 1) x = pop 8 (x % 256) + 256 * stepC k (x / 256) := by
  have e : x = x % 256 + 256 * (x / 256) := by omega
  conv => lhs; rw [e]
  exact stepC_byte k _ _ (by omega)
theorem pop_cut (m x : Nat) : pop (8 + m) x = pop 8 (x % 256) + pop m (x / 256) := by
  have e : x = x % 256 + 256 * (x / 256) := by omega
  conv => lhs; rw [e]
  exact pop_byte m _ _ (by omega)
theorem pop64_sum (x : Nat) : ∃ a b c d e f g h : Nat, a ≤ 8 ∧ b ≤ 8 ∧ c ≤ 8 ∧ d ≤ 8 ∧ e ≤ 8 ∧ f ≤ 8 ∧ g ≤ 8 ∧ h ≤ 8 ∧ pop 64 x = a + b + c + d + e + f + g + h ∧
    stepC 8 x = a + 256 * (b + 256 * (c + 256 * (d + 256 * (e + 256 * (f + 256 * (g + 256 * h)))))) := by
  refine ⟨_, _, _, _, _, _, _, _, pop8_le (x % 256), pop8_le (x / 256 % 256), pop8_le (x / 256 / 256 % 256), pop8_le (x / 256 / 256 / 256 % 256), pop8_le (x / 256 / 256 / 256 / 256 % 256),
    pop8_le (x / 256 / 256 / 256 / 256 / 256 % 256), pop8_le (x / 256 / 256 / 256 / 256 / 256 / 256 % 256), pop8_le (x / 256 / 256 / 256 / 256 / 256 / 256 / 256 % 256), ?_, ?_⟩
  · have h0 : ∀ y, pop 0 y = 0 := fun _ => rfl
    rw [show (64 : Nat) = 8 + (8 + (8 + (8 + (8 + (8 + (8 + (8 + 0))))))) from rfl, pop_cut, pop_cut, pop_cut, pop_cut, pop_cut, pop_cut, pop_cut, pop_cut, h0]
    omega
  · have h0 : ∀ y, stepC 0 y = 0 := fun _ => by simp [stepC, rep]
    rw [stepC_cut, stepC_cut, stepC_cut, stepC_cut, stepC_cut, stepC_cut, stepC_cut, stepC_cut, h0, Nat.mul_zero, Nat.add_zero]
theorem rep85 : rep 85 8 = 6148914691236517205 := by decide
theorem rep51 : rep 51 8 = 3689348814741910323 := by decide
theorem rep15 : rep 15 8 = 1085102592571150095 := by decide
theorem stepA_lt (x : Nat) : stepA 8 x < 18446744073709551616 := by
  have h1 : (x / 2 &&& rep 85 8) ≤ rep 85 8 := Nat.and_le_right
  have h2 : (x &&& rep 85 8) ≤ rep 85 8 := Nat.and_le_right
  rw [rep85] at h1 h2
  rw [stepA, rep85]
  omega
theorem stepB_lt (x : Nat) : stepB 8 x ≤ 7378697629483820646 := by
  have h1 : (stepA 8 x / 4 &&& rep 51 8) ≤ rep 51 8 := Nat.and_le_right
  have h2 : (stepA 8 x &&& rep 51 8) ≤ rep 51 8 := Nat.and_le_right
  rw [rep51] at h1 h2
  rw [stepB, rep51]
  omega
theorem div_is {x q r m : Nat} (h : x = m * q + r) (hr : r < m) : x / m = q := by
  subst h
  rw [Nat.mul_add_div (by omega), Nat.div_eq_of_lt hr, Nat.add_zero]
theorem mod_is {x q r m : Nat} (h : x = m * q + r) (hr : r < m) : x % m = r := by
  subst h
  rw [Nat.mul_add_mod, Nat.mod_eq_of_lt hr]
theorem sum_1 (a b c d e f g h : Nat) : (a + 256 * (b + 256 * (c + 256 * (d + 256 * (e + 256 * (f + 256 * (g + 256 * h))))))) = 256 * (b + 256 * (c + 256 * (d + 256 * (e + 256 * (f + 256 * (g + 256 * h)))))) + a := by omega
theorem sum_2 (a b c d e f g h : Nat) : (a + 256 * (b + 256 * (c + 256 * (d + 256 * (e + 256 * (f + 256 * (g + 256 * h))))))) + (b + 256 * (c + 256 * (d + 256 * (e + 256 * (f + 256 * (g + 256 * h)))))) = 65536 * ((c + d) + 256 * ((d + e) + 256 * ((e + f) + 256 * ((f + g) + 256 * ((g + h) + 256 * h))))) + (a + b + 256 * (b + c)) := by omega
theorem sum_3 (a b c d e f g h : Nat) : (a + 256 * (b + 256 * (c + 256 * (d + 256 * (e + 256 * (f + 256 * (g + 256 * h))))))) + (b + 256 * (c + 256 * (d + 256 * (e + 256 * (f + 256 * (g + 256 * h)))))) + ((c + d) + 256 * ((d + e) + 256 * ((e + f) + 256 * ((f + g) + 256 * ((g + h) + 256 * h))))) = 4294967296 * ((e + f + g + h) + 256 * ((f + g + h) + 256 * (g + h + 256 * h))) + (a + b + c + d + 256 * (b + c + d + e) + 65536 * (c + d + e + f) + 16777216 * (d + e + f + g)) := by omega
theorem sum_4 (a b c d e f g h : Nat) : (a + 256 * (b + 256 * (c + 256 * (d + 256 * (e + 256 * (f + 256 * (g + 256 * h))))))) + (b + 256 * (c + 256 * (d + 256 * (e + 256 * (f + 256 * (g + 256 * h)))))) + ((c + d) + 256 * ((d + e) + 256 * ((e + f) + 256 * ((f + g) + 256 * ((g + h) + 256 * h))))) + ((e + f + g + h) + 256 * ((f + g + h) + 256 * (g + h + 256 * h))) = 128 * (2 * ((b + c + d + e) + 256 * (c + d + e + f) + 65536 * (d + e + f + g) + 16777216 * (e + f + g + h) + 4294967296 * (f + g + h) + 1099511627776 * (g + h) + 281474976710656 * h + ((f + g + h) + 256 * (g + h + 256 * h)))) + (a + b + c + d + e + f + g + h) := by omega
theorem stepC_sum (x : Nat) : stepC 8 x ≤ 1085102592571150095 ∧ (stepC 8 x + stepC 8 x / 256 + (stepC 8 x + stepC 8 x / 256) / 65536 + (stepC 8 x + stepC 8 x / 256 + (stepC 8 x + stepC 8 x / 256) / 65536) / 4294967296) % 128 = pop 64 x := by
  refine ⟨by rw [stepC, ← rep15]; exact Nat.and_le_right, ?_⟩
  obtain ⟨a, b, c, d, e, f, g, h, ha, hb, hc, hd, he, hf, hg, hh, h1, h2⟩ := pop64_sum x
  rw [h1, h2, div_is (sum_1 a b c d e f g h) (by omega), div_is (sum_2 a b c d e f g h) (by clear h1 h2; omega), div_is (sum_3 a b c d e f g h) (by clear h1 h2; omega)]
  exact mod_is (sum_4 a b c d e f g h) (by clear h1 h2; omega)
#print axioms stepC_sum
#print axioms ctz_word
end Go.Proofs.YtmaiikmgpeafkabDoor
