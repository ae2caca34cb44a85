/- Sectors as lists of sixty-four bytes, their exclusive or, and the parity of a list of them, by definition alone. -/
import Derived.Test.YtmjjnbabfldbcaaGreatArr
namespace Go.Proofs.YtmjjnbabfldbcaaGreat
open Go.RowKit

def xorL (a b : List UInt8) : List UInt8 := List.zipWith (· ^^^ ·) a b
def zeroL : List UInt8 := List.replicate 64 0
/-- The parity of some sectors. -/
def parOf (l : List (List UInt8)) : List UInt8 := l.foldl xorL zeroL
/-- All of them are sectors. -/
def Secs (l : List (List UInt8)) : Prop := ∀ s ∈ l, s.length = 64
theorem zeroL_length : zeroL.length = 64 := by simp [zeroL]
theorem xorL_length {a b : List UInt8} (ha : a.length = 64) (hb : b.length = 64) : (xorL a b).length = 64 := by simp [xorL, ha, hb]
theorem xorL_comm (a b : List UInt8) : xorL a b = xorL b a := by
  unfold xorL
  rw [List.zipWith_comm]
  congr 1
  funext x y
  exact UInt8.xor_comm _ _
theorem xorL_assoc : ∀ a b c : List UInt8, xorL (xorL a b) c = xorL a (xorL b c)
  | [], b, c => by simp [xorL]
  | x :: a, [], c => by simp [xorL]
  | x :: a, y :: b, [] => by simp [xorL]
  | x :: a, y :: b, z :: c => by
    have ih := xorL_assoc a b c
    unfold xorL at ih ⊢
    simp only [List.zipWith_cons_cons, UInt8.xor_assoc, ih]
theorem xorL_rep : ∀ a : List UInt8, xorL a (List.replicate a.length 0) = a
  | [] => rfl
  | x :: a => by
    have ih := xorL_rep a
    unfold xorL at ih ⊢
    rw [List.length_cons, List.replicate_succ, List.zipWith_cons_cons, ih, UInt8.xor_zero]
theorem xorL_zero {a : List UInt8} (ha : a.length = 64) : xorL a zeroL = a := by
  have h := xorL_rep a
  rwa [ha] at h
theorem zero_xorL {a : List UInt8} (ha : a.length = 64) : xorL zeroL a = a := by rw [xorL_comm, xorL_zero ha]
section
variable {l m : List (List UInt8)}
theorem Secs.one {s : List UInt8} (h : s.length = 64) : Secs [s] := fun x hx => by simp at hx; rw [hx]; exact h
theorem Secs.head {s : List UInt8} (h : Secs (s :: l)) : s.length = 64 := h s (by simp)
theorem Secs.tail {s : List UInt8} (h : Secs (s :: l)) : Secs l := fun x hx => h x (by simp [hx])
theorem fold_length : ∀ {l : List (List UInt8)} {z : List UInt8}, Secs l → z.length = 64 → (l.foldl xorL z).length = 64
  | [], _, _, hz => hz
  | s :: l, z, h, hz => by
    rw [List.foldl_cons]
    exact fold_length h.tail (xorL_length hz h.head)
theorem par_length (h : Secs l) : (parOf l).length = 64 := fold_length h zeroL_length
theorem fold_from : ∀ {l : List (List UInt8)} {z : List UInt8}, Secs l → z.length = 64 → l.foldl xorL z = xorL z (parOf l)
  | [], z, _, hz => (xorL_zero hz).symm
  | s :: l, z, h, hz => by
    have e : parOf (s :: l) = l.foldl xorL (xorL zeroL s) := rfl
    rw [e, List.foldl_cons, fold_from h.tail (xorL_length hz h.head), fold_from h.tail (xorL_length zeroL_length h.head), zero_xorL h.head, xorL_assoc]
theorem par_one {s : List UInt8} (h : s.length = 64) : parOf [s] = s := zero_xorL h
theorem par_cons {s : List UInt8} (h : Secs (s :: l)) : parOf (s :: l) = xorL s (parOf l) := by
  show l.foldl xorL (xorL zeroL s) = _
  rw [zero_xorL h.head, fold_from h.tail h.head]
theorem par_append (h : Secs l) (k : Secs m) : parOf (l ++ m) = xorL (parOf l) (parOf m) := by
  unfold parOf
  rw [List.foldl_append]
  exact fold_from k (par_length h)
theorem par_snoc {s : List UInt8} (h : Secs l) (hs : s.length = 64) : parOf (l ++ [s]) = xorL (parOf l) s := by rw [par_append h (Secs.one hs), par_one hs]
/-- The others. -/
def rebOf (l : List (List UInt8)) (i : Nat) : List UInt8 := parOf (l.take i ++ l.drop (i + 1))
theorem Secs.take (h : Secs l) (i : Nat) : Secs (l.take i) := fun s hs => h s (List.mem_of_mem_take hs)
end
/-- The sectors of bytes. -/
def secsOf (bs : List UInt8) (n : Nat) : List (List UInt8) := (List.range n).map (secAt bs)
theorem secs_of {bs : List UInt8} {n : Nat} (h : bs.length = n * 64) : Secs (secsOf bs n) := fun s hs => by
  obtain ⟨k, hk, rfl⟩ := List.mem_map.1 hs
  exact secAt_length h (List.mem_range.1 hk)
theorem secsOf_take {bs : List UInt8} {n k : Nat} (hk : k ≤ n) : (secsOf bs n).take k = secsOf bs k := by
  unfold secsOf
  rw [← List.map_take, List.take_range, Nat.min_eq_left hk]
theorem secsOf_succ (bs : List UInt8) (n : Nat) : secsOf bs (n + 1) = secsOf bs n ++ [secAt bs n] := by
  unfold secsOf
  rw [List.range_succ, List.map_append]
  rfl
/-- The first bytes of one, then those of another. -/
def mixL (x z : List UInt8) (i : Nat) : List UInt8 := x.take i ++ z.drop i
theorem mix_zero (x z : List UInt8) : mixL x z 0 = z := by simp [mixL]
theorem mix_all {x z : List UInt8} (hx : x.length = 64) (hz : z.length = 64) : mixL x z 64 = x := by
  unfold mixL
  rw [List.take_of_length_le (by omega), List.drop_of_length_le (by omega), List.append_nil]
theorem mix_length {x z : List UInt8} (hx : x.length = 64) (hz : z.length = 64) {i : Nat} (hi : i ≤ 64) : (mixL x z i).length = 64 := by
  unfold mixL
  rw [List.length_append, List.length_take, List.length_drop]
  omega
theorem mix_succ {x z : List UInt8} (hx : x.length = 64) (hz : z.length = 64) {i : Nat} {v : UInt8} (hv : x[i]? = some v) : (B8 (mixL x z i)).set i (.int .u8 (v.toNat : Int)) = B8 (mixL x z (i + 1)) := by
  obtain ⟨hi, he⟩ := List.getElem?_eq_some_iff.1 hv
  apply List.ext_getElem?
  intro j
  unfold mixL B8
  rw [List.getElem?_set, List.getElem?_map, List.getElem?_map]
  have hl : (x.take i).length = i := by rw [List.length_take]; omega
  have hl2 : (x.take (i + 1)).length = i + 1 := by rw [List.length_take]; omega
  by_cases e : i = j
  · subst e
    have hlt : i < (List.map (fun u : UInt8 => Value.int .u8 (u.toNat : Int)) (x.take i ++ z.drop i)).length := by simp; omega
    rw [if_pos rfl, if_pos hlt, List.getElem?_append_left (by omega), List.getElem?_take, if_pos (by omega), hv]
    rfl
  · rw [if_neg e]
    by_cases h : j < i
    · rw [List.getElem?_append_left (by omega), List.getElem?_append_left (by omega), List.getElem?_take, List.getElem?_take, if_pos h, if_pos (by omega)]
    · rw [List.getElem?_append_right (by omega), List.getElem?_append_right (by omega), List.getElem?_drop, List.getElem?_drop, hl, hl2, show i + (j - i) = i + 1 + (j - (i + 1)) by omega]
theorem xorL_at {a b : List UInt8} {i : Nat} {x y : UInt8} (ha : a[i]? = some x) (hb : b[i]? = some y) : (xorL a b)[i]? = some (x ^^^ y) := by
  unfold xorL
  rw [List.getElem?_zipWith, ha, hb]
theorem secsOf_cons (bs : List UInt8) (n : Nat) : secsOf bs (n + 1) = secAt bs 0 :: secsOf (bs.drop 64) n := by
  unfold secsOf
  rw [List.range_succ_eq_map, List.map_cons, List.map_map]
  congr 1
  apply List.map_congr_left
  intro k _
  show secAt bs (k + 1) = secAt (bs.drop 64) k
  unfold secAt
  rw [List.drop_drop, show (k + 1) * 64 = 64 + k * 64 by omega]
theorem secsOf_flat : ∀ {l : List (List UInt8)}, Secs l → secsOf l.flatten l.length = l
  | [], _ => rfl
  | s :: l, h => by
    have ih := secsOf_flat h.tail
    have hs := h.head
    rw [List.length_cons, secsOf_cons, List.flatten_cons]
    have e1 : (s ++ l.flatten).drop 64 = l.flatten := by rw [List.drop_append_of_le_length (by omega), List.drop_of_length_le (by omega), List.nil_append]
    have e2 : secAt (s ++ l.flatten) 0 = s := by
      unfold secAt
      rw [Nat.zero_mul, List.drop_zero, List.take_append_of_le_length (by omega), List.take_of_length_le (by omega)]
    rw [e1, e2, ih]
/-- What Rebuild answers. -/
def rebE (n : Nat) (i : Int) : Nat := if 0 ≤ i ∧ i < n then 0 else 3
def rebS (l : List (List UInt8)) (i : Int) : List UInt8 := if 0 ≤ i ∧ i < l.length then rebOf l i.toNat else zeroL
end Go.Proofs.YtmjjnbabfldbcaaGreat
