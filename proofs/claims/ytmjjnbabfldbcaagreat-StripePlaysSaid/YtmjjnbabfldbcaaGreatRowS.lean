/- A row of sectors, one behind the other, as cells. No program is named here. -/
import Derived.Test.YtmjjnbabfldbcaaGreatPure
namespace Go.Proofs.YtmjjnbabfldbcaaGreat
open Go.RowKit
set_option linter.unusedVariables false
/-! ### A row of sectors, one behind the other -/
def rowS (T : Nat → Sec) : Nat → List Value
  | 0 => []
  | n + 1 => rowS T n ++ secL (T n)
theorem rowS_length (T : Nat → Sec) : ∀ n, (rowS T n).length = n * 64
  | 0 => rfl
  | n + 1 => by rw [rowS, List.length_append, rowS_length T n, secL_length]; omega
theorem rowS_size (T : Nat → Sec) (n : Nat) : (rowS T n).toArray.size = n * 64 := by rw [List.size_toArray, rowS_length]
theorem rowS_at (T : Nat → Sec) : ∀ (n i j : Nat), i < n → j < 64 → (rowS T n)[i * 64 + j]? = (secL (T i))[j]?
  | 0, i, j, hi, _ => by omega
  | n + 1, i, j, hi, hj => by
    rw [rowS]
    by_cases h : i < n
    · rw [List.getElem?_append_left (by rw [rowS_length]; omega)]
      exact rowS_at T n i j h hj
    · obtain rfl : i = n := by omega
      rw [List.getElem?_append_right (by rw [rowS_length]; omega), rowS_length]
      congr 1
      omega
theorem rowS_congr {T T' : Nat → Sec} : ∀ n, (∀ i, i < n → T i = T' i) → rowS T n = rowS T' n
  | 0, _ => rfl
  | n + 1, h => by rw [rowS, rowS, rowS_congr n (fun i hi => h i (by omega)), h n (by omega)]
theorem rowS_put (T : Nat → Sec) (s : Sec) (i : Nat) : ∀ n, i < n → (rowS T n).take (i * 64) ++ secL s ++ (rowS T n).drop (i * 64 + (secL s).length) = rowS (upd T i s) n
  | 0, hi => by omega
  | n + 1, hi => by
    rw [secL_length]
    by_cases h : i < n
    · have ih := rowS_put T s i n h
      rw [secL_length] at ih
      rw [rowS, rowS, ← ih, upd_ne _ _ (by omega), List.take_append_of_le_length (by rw [rowS_length]; omega), List.drop_append_of_le_length (by rw [rowS_length]; omega)]
      simp only [List.append_assoc]
    · obtain rfl : i = n := by omega
      rw [rowS, rowS, upd_self, List.take_append_of_le_length (by rw [rowS_length]; omega), List.take_of_length_le (by rw [rowS_length]; omega), List.drop_of_length_le (by rw [List.length_append, rowS_length, secL_length]; omega), List.append_nil]
      rw [rowS_congr (T := T) (T' := upd T i s) i (fun j hj => (upd_ne _ _ (by omega : j ≠ i)).symm)]
theorem rowS_zero {z : Nat} {cs : Array Value} (hs : cs.size = z * 64) (h : ∀ (i : Nat) (v : Value), cs[i]? = some v → v = Value.int .u8 0) : cs = (rowS (fun _ => zeroSec) z).toArray := by
  apply Array.ext'
  rw [show (rowS (fun _ => zeroSec) z).toArray.toList = rowS (fun _ => zeroSec) z from rfl]
  have hz : ∀ n, ∀ v ∈ rowS (fun _ => zeroSec) n, v = Value.int .u8 0 := by
    intro n
    induction n with
    | zero => intro v hv; cases hv
    | succ n ih =>
      intro v hv
      rw [rowS] at hv
      rcases List.mem_append.1 hv with hv | hv
      · exact ih v hv
      · simp [secL, zeroSec, B8] at hv
        exact hv
  apply List.ext_getElem
  · rw [Array.length_toList, hs, rowS_length]
  · intro i h1 h2
    rw [hz z _ (List.getElem_mem h2)]
    rw [Array.getElem_toList]
    exact h i _ (Array.getElem?_eq_getElem (by simpa using h1))
end Go.Proofs.YtmjjnbabfldbcaaGreat
