/- Plain lemmas on rows of numbers in bytes: what was written is read, cut anywhere it is not. No call is walked here. -/
import Derived.Test.YtkjbjhciafnbeaaGet
import Derived.Test.YtkjbjhciafnbeaaNum2
namespace Go.Proofs.Ytkjbjhciafnbeaa
open Go.RowKit

theorem drop_front {α : Type} (a b : List α) (n j : Nat) (h : a.length = n) : (a ++ b).drop (n + j) = b.drop j := by
  subst h
  rw [List.drop_append, List.drop_eq_nil_of_le (by omega), List.nil_append]
  congr 1
  omega
theorem take_front {α : Type} (a b : List α) (n : Nat) (h : a.length = n) : (a ++ b).take n = a := by
  subst h
  simp
theorem flat_at (l : List Int) (m : Nat) (more : List UInt8) : ∀ (i : Nat) (h : i < l.length), (((l.flatMap fun v => be m v.toNat) ++ more).drop (i * m)).take m = be m (l[i]).toNat := by
  induction l with
  | nil => intro i h; simp at h
  | cons v l ih =>
    intro i h
    cases i with
    | zero =>
      simp only [Nat.zero_mul, List.drop_zero, List.flatMap_cons, List.getElem_cons_zero, List.append_assoc]
      rw [take_front _ _ m (be_length _ _)]
    | succ i =>
      rw [List.flatMap_cons, List.append_assoc, Nat.add_mul, Nat.one_mul, Nat.add_comm, drop_front _ _ m _ (be_length _ _), ih i (by simpa using h)]
      simp

theorem two : (2 : Int).toNat = 2 := rfl
theorem pow_two : 256 ^ 2 = 65536 := rfl
theorem get2_yes (N : Nat) (hN : N ≤ 65535) (more : List UInt8) : getO (be 2 N ++ more) 2 = true ∧ getV (be 2 N ++ more) 2 = N := by
  have ho : getO (be 2 N ++ more) 2 = true := by simp [getO, be_length]; omega
  refine ⟨ho, ?_⟩
  rw [getV_yes ho, two, List.take_append_of_le_length (by rw [be_length]; omega), List.take_of_length_le (by rw [be_length]; omega), num_be_lt (by rw [pow_two]; omega)]

theorem get_put {v width : Int} (h : fitsB v width = true) (more : List UInt8) : getO (be width.toNat v.toNat ++ more) width = true ∧ (getV (be width.toNat v.toNat ++ more) width : Int) = v := by
  obtain ⟨h1, h6, h0, hlt⟩ := fits_parts h
  have ho : getO (be width.toNat v.toNat ++ more) width = true := by simp [getO, be_length]; omega
  refine ⟨ho, ?_⟩
  have hc : (256 : Int) ^ width.toNat = ((256 ^ width.toNat : Nat) : Int) := by simp
  rw [hc] at hlt
  rw [getV_yes ho, List.take_append_of_le_length (by rw [be_length]; omega), List.take_of_length_le (by rw [be_length]; omega), num_be_lt (by omega)]
  omega

theorem get_cut {xs : List UInt8} {width : Int} {t : Nat} (h : (t : Int) < width) : getO (xs.take t) width = false := by
  simp only [getO, decide_eq_false_iff_not, List.length_take]
  omega

theorem row_yes {l : List Int} {width : Int} (h : rowB l width = true) (more : List UInt8) :
    rowO (rowBytes l width ++ more) width = true ∧ rowL (rowBytes l width ++ more) width = l ∧ rowN (rowBytes l width ++ more) width = 2 + l.length * width.toNat := by
  obtain ⟨h1, h6, h65, hall⟩ := rowB_parts h
  obtain ⟨ho, hv⟩ := get2_yes l.length h65 ((l.flatMap fun v => be width.toNat v.toNat) ++ more)
  rw [← List.append_assoc] at ho hv
  have hw : wideB width = true := by simp [wideB]; omega
  have hr : rowO (rowBytes l width ++ more) width = true := by
    rw [rowO, rowBytes, ho, hw, hv]
    simp only [Bool.true_and, decide_eq_true_eq, List.length_append, be_length, flat_length]
    omega
  refine ⟨hr, ?_, ?_⟩
  · rw [rowL, if_pos hr]
    apply List.ext_getElem
    · rw [List.length_map, List.length_range, rowBytes, hv]
    · intro i hi1 hi2
      rw [List.getElem_map, List.getElem_range, rowAt, rowBytes, List.append_assoc, drop_front _ _ 2 _ (be_length _ _), flat_at l width.toNat more i hi2]
      have hf := hall l[i] (List.getElem_mem hi2)
      obtain ⟨_, _, h0, hlt⟩ := fits_parts hf
      have hc : (256 : Int) ^ width.toNat = ((256 ^ width.toNat : Nat) : Int) := by simp
      rw [hc] at hlt
      rw [num_be_lt (by omega)]
      omega
  · rw [rowN, if_pos hr, rowBytes, hv]

theorem row_cut {l : List Int} {width : Int} (h : rowB l width = true) {t : Nat} (ht : t < (rowBytes l width).length) : rowO ((rowBytes l width).take t) width = false ∧ rowN ((rowBytes l width).take t) width = 0 := by
  obtain ⟨h1, h6, h65, hall⟩ := rowB_parts h
  rw [rowBytes_length] at ht
  have hr : rowO ((rowBytes l width).take t) width = false := by
    by_cases h2 : t < 2
    · rw [rowO, get_cut (by omega)]; rfl
    · have e : (rowBytes l width).take t = be 2 l.length ++ (l.flatMap fun v => be width.toNat v.toNat).take (t - 2) := by
        rw [rowBytes, List.take_append, be_length, List.take_of_length_le (by rw [be_length]; omega)]
      obtain ⟨ho, hv⟩ := get2_yes l.length h65 ((l.flatMap fun v => be width.toNat v.toNat).take (t - 2))
      rw [e, rowO, hv]
      have : decide (2 + l.length * width.toNat ≤ (be 2 l.length ++ (l.flatMap fun v => be width.toNat v.toNat).take (t - 2)).length) = false := by
        rw [decide_eq_false_iff_not, List.length_append, be_length, List.length_take, flat_length]
        omega
      rw [this, Bool.and_false]
  exact ⟨hr, by rw [rowN, hr]; rfl⟩

/-- What the laws cut their numbers to. -/
def cutL (l : List Int) (M : Int) (k : Nat) : List Int := (l.take k).map (· % M)
theorem cutL_step {l : List Int} {M x : Int} {k : Nat} (h : l.take (k + 1) = l.take k ++ [x]) : cutL l M (k + 1) = cutL l M k ++ [x % M] := by simp [cutL, h]
theorem cutL_length (l : List Int) (M : Int) (k : Nat) : (cutL l M k).length ≤ k := by rw [cutL, List.length_map]; exact List.length_take_le _ _
theorem cutL_fits {l : List Int} {M : Int} {k j : Nat} (hj : j ≤ 5) (hM : M = 256 ^ (1 + j)) (hM0 : 0 < M) : ∀ v ∈ cutL l M k, fitsB v (1 + (j : Int)) = true ∧ v ≤ M := by
  intro v hv
  simp only [cutL, List.mem_map] at hv
  obtain ⟨u, _, rfl⟩ := hv
  have e : (1 + (j : Int)).toNat = 1 + j := by omega
  have h1 := Int.emod_lt_of_pos u hM0
  have h0 := Int.emod_nonneg u (show M ≠ 0 by omega)
  refine ⟨?_, by omega⟩
  simp only [fitsB, decide_eq_true_eq, e]
  exact ⟨by omega, by omega, h0, by rw [← hM]; exact h1⟩
theorem cutL_row {l : List Int} {M : Int} {k j : Nat} (hj : j ≤ 5) (hM : M = 256 ^ (1 + j)) (hM0 : 0 < M) (hk : k ≤ 65535) : rowB (cutL l M k) (1 + (j : Int)) = true := by
  refine rowB_yes (by simp [wideB]; omega) (Nat.le_trans (cutL_length _ _ _) hk) ?_
  rw [List.all_eq_true]
  exact fun v hv => (cutL_fits hj hM hM0 v hv).1
#print axioms row_yes
#print axioms row_cut
end Go.Proofs.Ytkjbjhciafnbeaa
