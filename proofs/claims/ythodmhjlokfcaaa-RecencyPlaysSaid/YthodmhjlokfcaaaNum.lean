/- Plain lemmas on bytes and the numbers that they say, highest byte first: what k bytes of v say is v modulo 256^k; what a row of bytes says is written as that row again. No program is named here. -/
import Derived.WalkKit
import Derived.Laws.BitsAllLaws
namespace Go.Proofs.Ythodmhjlokfcaaa
open Go.RowKit

/-- The number that a row of bytes says, the highest first. -/
def num (l : List UInt8) : Nat := l.foldl (fun a b => a * 256 + b.toNat) 0

/-- The bytes of v, k of them, the highest first. -/
def be : Nat → Nat → List UInt8
  | 0, _ => []
  | k + 1, v => be k (v / 256) ++ [UInt8.ofNat (v % 256)]

theorem num_nil : num [] = 0 := rfl
theorem num_snoc (l : List UInt8) (b : UInt8) : num (l ++ [b]) = num l * 256 + b.toNat := by simp [num]
theorem be_length : ∀ (k v : Nat), (be k v).length = k
  | 0, _ => rfl
  | k + 1, v => by simp [be, be_length k]
theorem num_be : ∀ (k v : Nat), num (be k v) = v % 256 ^ k
  | 0, v => by simp [be, num_nil, Nat.mod_one]
  | k + 1, v => by
    rw [be, num_snoc, num_be k, Nat.pow_succ, Nat.mul_comm (256 ^ k) 256, Nat.mod_mul]
    have : (UInt8.ofNat (v % 256)).toNat = v % 256 := by simp
    omega
theorem num_be_lt {k v : Nat} (h : v < 256 ^ k) : num (be k v) = v := by rw [num_be, Nat.mod_eq_of_lt h]
theorem snoc_ind {α : Type} {Q : List α → Prop} (h0 : Q []) (hs : ∀ (l : List α) (b : α), Q l → Q (l ++ [b])) (l : List α) : Q l := by
  have h : ∀ r : List α, Q r.reverse := by
    intro r
    induction r with
    | nil => exact h0
    | cons b r ih => rw [List.reverse_cons]; exact hs _ _ ih
  have := h l.reverse
  rwa [List.reverse_reverse] at this
theorem num_lt (l : List UInt8) : num l < 256 ^ l.length := by
  induction l using snoc_ind with
  | h0 => simp [num]
  | hs l b ih =>
    rw [num_snoc, List.length_append, List.length_singleton, Nat.pow_succ]
    have := b.toNat_lt
    omega
theorem be_num (l : List UInt8) : be l.length (num l) = l := by
  induction l using snoc_ind with
  | h0 => rfl
  | hs l b ih =>
    have hb := b.toNat_lt
    rw [List.length_append, List.length_singleton, be, num_snoc]
    have e1 : (num l * 256 + b.toNat) / 256 = num l := by omega
    have e2 : (num l * 256 + b.toNat) % 256 = b.toNat := by omega
    rw [e1, e2, ih]
    simp
theorem num_take_succ (l : List UInt8) {k : Nat} (h : k < l.length) : num (l.take (k + 1)) = num (l.take k) * 256 + (l[k]).toNat := by
  rw [List.take_succ_eq_append_getElem h, num_snoc]
theorem num_take_lt (l : List UInt8) (k : Nat) : num (l.take k) < 256 ^ k := by
  have h := num_lt (l.take k)
  have hl : (l.take k).length ≤ k := List.length_take_le _ _
  exact Nat.lt_of_lt_of_le h (Nat.pow_le_pow_right (by omega) hl)
/-- After j rounds of writing v in k bytes. -/
theorem be_step (k v j : Nat) (h : j < k) : be (j + 1) (v / 256 ^ (k - (j + 1))) = be j (v / 256 ^ (k - j)) ++ [UInt8.ofNat (v / 256 ^ (k - (j + 1)) % 256)] := by
  rw [be]
  have e : k - j = (k - (j + 1)) + 1 := by omega
  rw [e, Nat.pow_succ, Nat.div_div_eq_div_mul]
theorem pow8 (i : Nat) : (2 : Int) ^ (8 * i) = ((256 ^ i : Nat) : Int) := by
  rw [Int.pow_mul]; simp
theorem pow256_lt {k : Nat} (h : k ≤ 6) : 256 ^ k ≤ 281474976710656 := by
  have : 256 ^ k ≤ 256 ^ 6 := Nat.pow_le_pow_right (by omega) h
  omega

/-- The cells of a row of bytes; of a row of numbers. -/
def B8 (l : List UInt8) : List Value := l.map fun b => .int .u8 (b.toNat : Int)
def I64 (l : List Int) : List Value := l.map (Value.int .i64)
theorem B8_length (l : List UInt8) : (B8 l).length = l.length := by simp [B8]
theorem I64_length (l : List Int) : (I64 l).length = l.length := by simp [I64]
theorem B8_append (a b : List UInt8) : B8 (a ++ b) = B8 a ++ B8 b := by simp [B8]
theorem I64_append (a b : List Int) : I64 (a ++ b) = I64 a ++ I64 b := by simp [I64]
theorem B8_nil : B8 [] = [] := rfl
theorem I64_nil : I64 [] = [] := rfl
theorem B8_one (l : List UInt8) : ∀ u ∈ B8 l, u.oneCell' = true := by
  intro u hu
  simp only [B8, List.mem_map] at hu
  obtain ⟨b, _, rfl⟩ := hu
  rfl
theorem I64_one (l : List Int) : ∀ u ∈ I64 l, u.oneCell' = true := by
  intro u hu
  simp only [I64, List.mem_map] at hu
  obtain ⟨b, _, rfl⟩ := hu
  rfl
theorem B8_at (l : List UInt8) {k : Nat} (h : k < l.length) : (B8 l)[k]? = some (.int .u8 ((l[k]).toNat : Int)) := by simp [B8, h]
theorem I64_at (l : List Int) {k : Nat} (h : k < l.length) : (I64 l)[k]? = some (.int .i64 l[k]) := by simp [I64, h]
theorem B8_take (l : List UInt8) (k : Nat) : (B8 l).take k = B8 (l.take k) := by simp [B8]
theorem B8_drop (l : List UInt8) (k : Nat) : (B8 l).drop k = B8 (l.drop k) := by simp [B8]
theorem I64_take (l : List Int) (k : Nat) : (I64 l).take k = I64 (l.take k) := by simp [I64]
theorem I64_drop (l : List Int) (k : Nat) : (I64 l).drop k = I64 (l.drop k) := by simp [I64]
/-- A list of numbers, each a byte's, is a row of bytes. -/
theorem bytes_of (zs : List Int) (h : ∀ z ∈ zs, 0 ≤ z ∧ z ≤ 255) : ∃ l : List UInt8, l.length = zs.length ∧ zs.map (Value.int .u8) = B8 l := by
  refine ⟨zs.map fun z => UInt8.ofNat z.toNat, by simp, ?_⟩
  simp only [B8, List.map_map]
  apply List.map_congr_left
  intro z hz
  have := h z hz
  simp only [Function.comp]
  congr 1
  simp
  omega

theorem ofInt_i64_nat (a : Nat) (ha : a < 9223372036854775808) : (BitVec.ofInt 64 (a : Int)).toNat = a := by
  rw [BitVec.ofInt_natCast, BitVec.toNat_ofNat]; exact Nat.mod_eq_of_lt (by omega)
/-- 'v<<8 | x' of a number that has room. -/
theorem i64_join (a b : Nat) (ha : a < 1099511627776) (hb : b < 256) : bits .or .i64 (((a * 256 : Nat) : Int)) (b : Int) = ((a * 256 + b : Nat) : Int) := by
  show IntKind.i64.wrap ((BitVec.ofInt 64 ((a * 256 : Nat) : Int) ||| BitVec.ofInt 64 (b : Int)).toNat : Int) = _
  rw [BitVec.toNat_or, ofInt_i64_nat _ (by omega), ofInt_i64_nat _ (by omega), nat_join 8 (a * 256) b (by omega) (by omega), IntKind.wrap_i64]
  omega
/-- 'v & mask' where mask is 2^k - 1. -/
theorem i64_mask (v : Int) (k : Nat) (hk : k ≤ 62) : bits .and .i64 v (2 ^ k - 1) = v % 2 ^ k := by
  have hp : (2 : Nat) ^ k ≤ 2 ^ 62 := Nat.pow_le_pow_right (by omega) hk
  have hp0 : 0 < (2 : Nat) ^ k := Nat.two_pow_pos k
  have em : (2 : Int) ^ k - 1 = ((2 ^ k - 1 : Nat) : Int) := by
    rw [Int.natCast_sub (by omega)]; simp
  rw [em]
  show IntKind.i64.wrap ((BitVec.ofInt 64 v &&& BitVec.ofInt 64 ((2 ^ k - 1 : Nat) : Int)).toNat : Int) = _
  rw [BitVec.toNat_and, ofInt_i64_nat _ (by omega), Nat.and_two_pow_sub_one_eq_mod, BitVec.toNat_ofInt]
  have hd : ((2 ^ k : Nat) : Int) ∣ ((2 ^ 64 : Nat) : Int) := Int.natCast_dvd_natCast.2 (Nat.pow_dvd_pow 2 (by omega))
  have e1 : (((v % ((2 ^ 64 : Nat) : Int)).toNat % 2 ^ k : Nat) : Int) = v % 2 ^ k := by
    rw [Int.natCast_emod, Int.toNat_of_nonneg (Int.emod_nonneg _ (by simp)), Int.emod_emod_of_dvd _ hd]
    simp
  rw [e1, IntKind.wrap_i64]
  have h0 : (0 : Int) ≤ v % 2 ^ k := Int.emod_nonneg _ (by have : (0 : Int) < 2 ^ k := Int.pow_pos (by decide); omega)
  have h1 : v % 2 ^ k < 2 ^ k := Int.emod_lt_of_pos _ (Int.pow_pos (by decide))
  have h2 : (2 : Int) ^ k ≤ 4611686018427387904 := by
    have := Int.ofNat_le.2 hp
    simpa using this
  omega
#print axioms i64_mask
#print axioms i64_join
end Go.Proofs.Ythodmhjlokfcaaa
