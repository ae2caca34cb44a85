/- More plain lemmas on bytes and numbers: the mask of a width, and that bytes of one length are ordered as the numbers that they say. No program is named here. -/
import Derived.Test.YtkjbjhciafnbeaaNum
namespace Go.Proofs.Ytkjbjhciafnbeaa
open Go.RowKit

/-- The mask of width 1 + k, as the walk writes it. -/
theorem mask_is (k : Nat) (hk : k ≤ 5) : ∃ M : Int, (2 : Int) ^ (8 * (1 + k)) = M ∧ M = 256 ^ (1 + k) ∧ 256 ≤ M ∧ M ≤ 281474976710656 ∧ ∀ v, bits .and .i64 v (M - 1) = v % M := by
  refine ⟨_, rfl, by rw [pow8]; simp, ?_, ?_, fun v => i64_mask v _ (by omega)⟩
  · rw [pow8]
    have : 256 ^ 1 ≤ 256 ^ (1 + k) := Nat.pow_le_pow_right (by omega) (by omega)
    omega
  · rw [pow8]
    have := pow256_lt (k := 1 + k) (by omega)
    omega
theorem num_cons (x : UInt8) (l : List UInt8) : num (x :: l) = x.toNat * 256 ^ l.length + num l := by
  induction l using snoc_ind with
  | h0 => simp [num]
  | hs l b ih =>
    rw [← List.cons_append, num_snoc, ih, num_snoc, List.length_append, List.length_singleton, Nat.pow_succ, Nat.add_mul, Nat.mul_assoc]
    omega
/-- Bytes of one length are ordered as the numbers that they say. -/
theorem less_num : ∀ (a b : List UInt8), a.length = b.length → Op.bytesLess a b = decide (num a < num b)
  | [], [], _ => by simp [Op.bytesLess]
  | x :: a, y :: b, h => by
    have hl : a.length = b.length := by simpa using h
    have ih := less_num a b hl
    have h1 := num_lt a
    have h2 := num_lt b
    rw [Op.bytesLess, ih, num_cons, num_cons, hl]
    rw [hl] at h1
    generalize 256 ^ b.length = P at *
    rw [Bool.eq_iff_iff]
    simp only [Bool.or_eq_true, Bool.and_eq_true, decide_eq_true_eq, beq_iff_eq]
    by_cases hxy : x = y
    · subst hxy
      simp [UInt8.lt_irrefl]
    · have hne : x.toNat ≠ y.toNat := fun e => hxy (UInt8.toNat_inj.1 e)
      rw [UInt8.lt_iff_toNat_lt]
      constructor
      · rintro (h | h)
        · have := Nat.mul_le_mul_right P (show x.toNat + 1 ≤ y.toNat by omega)
          rw [Nat.add_mul, Nat.one_mul] at this
          omega
        · exact absurd h.1 hxy
      · intro h
        left
        rcases Nat.lt_or_ge x.toNat y.toNat with hlt | hge
        · exact hlt
        · have := Nat.mul_le_mul_right P (show y.toNat + 1 ≤ x.toNat by omega)
          rw [Nat.add_mul, Nat.one_mul] at this
          omega
theorem be_inj {k v w : Nat} (hv : v < 256 ^ k) (hw : w < 256 ^ k) (h : be k v = be k w) : v = w := by
  have := congrArg num h
  rwa [num_be_lt hv, num_be_lt hw] at this
#print axioms less_num
end Go.Proofs.Ytkjbjhciafnbeaa
