/- The bytes of a map of places, as a list; and the map that bytes are. No walk stands here. -/
import Derived.Test.YtpakipacclmimaaDoorLow
namespace Go.Proofs.YtpakipacclmimaaDoor
open Go.RowKit

/-- What is taken of the places below i. -/
def cut (t : Nat → Bool) (i : Nat) : Nat → Bool := fun k => decide (k < i) && t k
/-- Byte j of what is taken. -/
def byteOf (t : Nat → Bool) (j : Nat) : UInt8 := UInt8.ofNat (word (fun k => t (8 * j + k)) 8)
/-- The bytes of a map of n places. -/
def bytesOf (n : Nat) (t : Nat → Bool) : List UInt8 := (List.range ((n + 7) / 8)).map (byteOf t)
/-- Bit i of some bytes. -/
def bitAt (bs : List UInt8) (i : Nat) : Bool := (bs.getD (i / 8) 0).toNat.testBit (i % 8)

theorem bytesOf_length (n : Nat) (t : Nat → Bool) : (bytesOf n t).length = (n + 7) / 8 := by simp [bytesOf]
theorem byteOf_toNat (t : Nat → Bool) (j : Nat) : (byteOf t j).toNat = word (fun k => t (8 * j + k)) 8 := by
  have := word_lt 8 (fun k => t (8 * j + k))
  rw [byteOf, UInt8.toNat_ofNat_of_lt' this]
theorem bytesOf_at (n : Nat) (t : Nat → Bool) {j : Nat} (hj : j < (n + 7) / 8) : (bytesOf n t)[j]? = some (byteOf t j) := by simp [bytesOf, hj]
theorem cut_0 (t : Nat → Bool) : cut t 0 = fun _ => false := by funext k; simp [cut]
theorem cut_all {t : Nat → Bool} {n : Nat} (h : ∀ i, n ≤ i → t i = false) : cut t n = t := by
  funext k
  by_cases hk : k < n
  · simp [cut, hk]
  · simp [cut, hk, h k (by omega)]
theorem cut_no {t : Nat → Bool} {i : Nat} (h : t i = false) : cut t (i + 1) = cut t i := by
  funext k
  by_cases e : k = i
  · subst e; simp [cut, h]
  · have : (k < i + 1) = (k < i) := by rw [eq_iff_iff]; omega
    simp only [cut, this]
theorem cut_yes {t : Nat → Bool} {i : Nat} (h : t i = true) : cut t (i + 1) = put (cut t i) i true := by
  funext k
  by_cases e : k = i
  · subst e; simp [cut, put, h]
  · have : (k < i + 1) = (k < i) := by rw [eq_iff_iff]; omega
    simp only [cut, put, this, e, if_false]
theorem bytesOf_0 (n : Nat) (t : Nat → Bool) : bytesOf n (cut t 0) = List.replicate ((n + 7) / 8) 0 := by
  rw [cut_0, bytesOf]
  have e : byteOf (fun _ => false) = fun _ => 0 := by
    funext j
    rw [byteOf, word_zero (fun _ _ => rfl)]
    rfl
  rw [e, List.map_const', List.length_range]
theorem byteOf_put_self (t : Nat → Bool) (i : Nat) : (byteOf (put t i true) (i / 8)).toNat = ((byteOf t (i / 8)).toNat ||| 2 ^ (i % 8)) := by
  rw [byteOf_toNat, byteOf_toNat]
  symm
  apply word_of_bits (Nat.or_lt_two_pow (word_lt 8 _) (Nat.pow_lt_pow_right (by decide) (Nat.mod_lt _ (by decide))))
  intro k hk
  rw [Nat.testBit_or, word_bit, Nat.testBit_two_pow]
  have e1 : (i % 8 = k) = (8 * (i / 8) + k = i) := by rw [eq_iff_iff]; omega
  simp only [e1, put, hk, decide_true, Bool.true_and]
  by_cases e : 8 * (i / 8) + k = i
  · simp [e]
  · simp [e]
theorem byteOf_put_ne (t : Nat → Bool) (i : Nat) {j : Nat} (hj : j ≠ i / 8) : byteOf (put t i true) j = byteOf t j := by
  rw [byteOf, byteOf]
  congr 1
  apply word_congr
  intro k hk
  have : ¬ (8 * j + k = i) := by omega
  simp only [put, this, if_false]
theorem bytesOf_set (n : Nat) (t : Nat → Bool) {i : Nat} (hi : i < n) : (B8 (bytesOf n t)).set (i / 8) (.int .u8 ((((byteOf t (i / 8)).toNat ||| 2 ^ (i % 8)) : Nat) : Int)) = B8 (bytesOf n (put t i true)) := by
  apply List.ext_getElem?
  intro k
  rw [List.getElem?_set, B8_length, bytesOf_length]
  by_cases e : i / 8 = k
  · subst e
    have hk : i / 8 < (n + 7) / 8 := by omega
    rw [if_pos rfl, if_pos hk, B8, List.getElem?_map, bytesOf_at n _ hk, Option.map_some, byteOf_put_self]
  · rw [if_neg e, B8, B8, List.getElem?_map, List.getElem?_map]
    by_cases hk : k < (n + 7) / 8
    · rw [bytesOf_at n _ hk, bytesOf_at n _ hk, byteOf_put_ne t i (fun h => e h.symm)]
    · rw [List.getElem?_eq_none (by rw [bytesOf_length]; omega), List.getElem?_eq_none (by rw [bytesOf_length]; omega)]

/-! ### Bytes that are a map -/
theorem bitAt_above {bs : List UInt8} {i : Nat} (h : 8 * bs.length ≤ i) : bitAt bs i = false := by
  rw [bitAt, List.getD_eq_getElem?_getD, List.getElem?_eq_none (by omega)]
  simp
/-- The error with which Of answers: of no length of a map, of no bytes of one. -/
def ofCode (n : Int) (bs : List UInt8) : Int :=
  if n < 0 ∨ 65536 < n then 1 else if bs.length ≠ (n.toNat + 7) / 8 then 2 else
  if (List.range (8 * bs.length)).all (fun i => !bitAt bs i || decide (i < n.toNat)) then 0 else 2
theorem bitAt_bytesOf {n : Nat} {t : Nat → Bool} (h : ∀ i, n ≤ i → t i = false) (i : Nat) : bitAt (bytesOf n t) i = t i := by
  by_cases hi : i / 8 < (n + 7) / 8
  · rw [bitAt, List.getD_eq_getElem?_getD, bytesOf_at n t hi, Option.getD_some, byteOf_toNat, word_bit]
    have e : 8 * (i / 8) + i % 8 = i := by omega
    simp [e, Nat.mod_lt]
  · rw [bitAt_above (by rw [bytesOf_length]; omega), h i (by omega)]
theorem bytesOf_bits {n : Nat} {bs : List UInt8} (hl : bs.length = (n + 7) / 8) : bytesOf n (bitAt bs) = bs := by
  apply List.ext_getElem?
  intro j
  by_cases hj : j < (n + 7) / 8
  · have hjl : j < bs.length := by omega
    rw [bytesOf_at n _ hj, List.getElem?_eq_getElem hjl]
    congr 1
    apply UInt8.toNat_inj.1
    rw [byteOf_toNat]
    symm
    apply word_of_bits (UInt8.toNat_lt _)
    intro k hk
    have e1 : (8 * j + k) / 8 = j := by omega
    have e2 : (8 * j + k) % 8 = k := by omega
    rw [bitAt, e1, e2, List.getD_eq_getElem?_getD, List.getElem?_eq_getElem hjl, Option.getD_some]
  · rw [List.getElem?_eq_none (by rw [bytesOf_length]; omega), List.getElem?_eq_none (by omega)]
theorem of_bytesOf {n : Nat} {t : Nat → Bool} (hn : n ≤ 65536) (h : ∀ i, n ≤ i → t i = false) : ofCode n (bytesOf n t) = 0 := by
  unfold ofCode
  rw [if_neg (by omega), Int.toNat_natCast, if_neg (by rw [bytesOf_length]; simp), if_pos]
  rw [List.all_eq_true]
  intro i _
  rw [bitAt_bytesOf h]
  by_cases hi : i < n
  · simp [hi]
  · simp [h i (by omega)]
#print axioms of_bytesOf
end Go.Proofs.YtpakipacclmimaaDoor
