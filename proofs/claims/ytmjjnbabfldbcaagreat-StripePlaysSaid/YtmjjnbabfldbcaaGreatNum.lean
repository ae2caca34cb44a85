/- Plain lemmas on bytes and the numbers that they say, highest byte first: what k bytes of v say is v modulo 256^k; what a row of bytes says is written as that row again. No program is named here. -/
import Derived.WalkKit
import Derived.Laws.BitsAllLaws
namespace Go.Proofs.YtmjjnbabfldbcaaGreat
open Go.RowKit

/-- The number that a row of bytes says, the highest first. -/
def num (l : List UInt8) : Nat := l.foldl (fun a b => a * 256 + b.toNat) 0

/-- The bytes of v, k of them, the highest first. -/
def be : Nat → Nat → List UInt8
  | 0, _ => []
  | k + 1, v => be k (v / 256) ++ [UInt8.ofNat (v % 256)]

/-- The cells of a row of bytes; of a row of numbers. -/
def B8 (l : List UInt8) : List Value := l.map fun b => .int .u8 (b.toNat : Int)
def I64 (l : List Int) : List Value := l.map (Value.int .i64)
theorem B8_length (l : List UInt8) : (B8 l).length = l.length := by simp [B8]
theorem I64_length (l : List Int) : (I64 l).length = l.length := by simp [I64]
theorem B8_append (a b : List UInt8) : B8 (a ++ b) = B8 a ++ B8 b := by simp [B8]
theorem B8_one (l : List UInt8) : ∀ u ∈ B8 l, u.oneCell' = true := by
  intro u hu
  simp only [B8, List.mem_map] at hu
  obtain ⟨b, _, rfl⟩ := hu
  rfl
theorem I64_at (l : List Int) {k : Nat} (h : k < l.length) : (I64 l)[k]? = some (.int .i64 l[k]) := by simp [I64, h]
theorem B8_take (l : List UInt8) (k : Nat) : (B8 l).take k = B8 (l.take k) := by simp [B8]
theorem B8_drop (l : List UInt8) (k : Nat) : (B8 l).drop k = B8 (l.drop k) := by simp [B8]
theorem ofInt_i64_nat (a : Nat) (ha : a < 9223372036854775808) : (BitVec.ofInt 64 (a : Int)).toNat = a := by
  rw [BitVec.ofInt_natCast, BitVec.toNat_ofNat]; exact Nat.mod_eq_of_lt (by omega)
/-- 'v & mask' where mask is 2^k - 1. -/
theorem i64_mask (v : Int) (k : Nat) (hk : k ≤ 62) : bits .and .i64 v (2 ^ k - 1) = v % 2 ^ k := by
  have hp : (2 : Nat) ^ k ≤ 2 ^ 62 := Nat.pow_le_pow_right (by omega) hk
  have hp0 : 0 < (2 : Nat) ^ k := Nat.two_pow_pos k
  have em : (2 : Int) ^ k - 1 = ((2 ^ k - 1 : Nat) : Int) := by
    rw [Int.natCast_sub (by omega)]; simp
  rw [em]
  show IntKind.i64.wrap ((BitVec.ofInt 64 v &&& BitVec.ofInt 64 ((2 ^ k - 1 : Nat) : Int)).toNat : Int) = _
  rw [BitVec.toNat_and, ofInt_i64_nat _ (by omega), Nat.and_two_pow_sub_one_eq_mod, BitVec.toNat_ofInt]
  have hd : ((2 ^ k : Nat) : Int) ∣ ((2 ^ 64 : Nat) : Int) := Int.natCast_dvd_natCast.2 (Nat.pow_dvd_pow 2 (by omega))
  have e1 : (((v % ((2 ^ 64 : Nat) : Int)).toNat % 2 ^ k : Nat) : Int) = v % 2 ^ k := by
    rw [Int.natCast_emod, Int.toNat_of_nonneg (Int.emod_nonneg _ (by simp)), Int.emod_emod_of_dvd _ hd]
    simp
  rw [e1, IntKind.wrap_i64]
  have h0 : (0 : Int) ≤ v % 2 ^ k := Int.emod_nonneg _ (by have : (0 : Int) < 2 ^ k := Int.pow_pos (by decide); omega)
  have h1 : v % 2 ^ k < 2 ^ k := Int.emod_lt_of_pos _ (Int.pow_pos (by decide))
  have h2 : (2 : Int) ^ k ≤ 4611686018427387904 := by
    have := Int.ofNat_le.2 hp
    simpa using this
  omega
end Go.Proofs.YtmjjnbabfldbcaaGreat
