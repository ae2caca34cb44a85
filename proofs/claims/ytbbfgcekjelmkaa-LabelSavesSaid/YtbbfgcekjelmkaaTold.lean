/- What is told of a row of members when its first k have been looked at. No program is named here. -/
import Derived.Test.YtbbfgcekjelmkaaRightL
namespace Go.Proofs.Ytbbfgcekjelmkaa
open Go.RowKit

/-- The number ahead of place k. -/
def lastOf (l : List Mb) (k : Nat) : Int := if k = 0 then -1 else (l[k - 1]?.getD (0, 0, 0)).1
theorem lastOf_zero (l : List Mb) : lastOf l 0 = -1 := rfl
theorem lastOf_succ {l : List Mb} {k : Nat} {m : Mb} (h : l[k]? = some m) : lastOf l (k + 1) = m.1 := by simp [lastOf, h]
theorem step_no {l : List Mb} {k : Nat} {m : Mb} {last : Int} (h : l[k]? = some m) (hc : ¬ ((last + 1 ≤ m.1 ∧ m.1 ≤ 31) ∧ (160 ≤ m.2.1 ∧ m.2.1 ≤ 4096) ∧ 0 ≤ m.2.2 ∧ m.2.2 ≤ 2)) : risingB last (l.drop k) = false := by
  rw [rising_step last h]
  cases hq : inB m.1 (last + 1) 31 && memberB m with
  | false => rfl
  | true =>
    simp only [memberB, Bool.and_eq_true, inB_iff] at hq
    exact absurd ⟨hq.1, hq.2.1, hq.2.2⟩ hc
theorem step_yes {l : List Mb} {k : Nat} {m : Mb} {last : Int} (h : l[k]? = some m) (hc : (last + 1 ≤ m.1 ∧ m.1 ≤ 31) ∧ (160 ≤ m.2.1 ∧ m.2.1 ≤ 4096) ∧ 0 ≤ m.2.2 ∧ m.2.2 ≤ 2) : risingB last (l.drop k) = risingB m.1 (l.drop (k + 1)) := by
  rw [rising_step last h]
  have h1 : inB m.1 (last + 1) 31 = true := inB_iff.2 hc.1
  have h2 : memberB m = true := by simp only [memberB, Bool.and_eq_true, inB_iff]; exact hc.2
  rw [h1, h2]
  rfl
/-- What the walk has told behind k places. -/
structure Told (l : List Mb) (own : Int) (k : Nat) (ok yes : Bool) : Prop where
  right : membersB l = (ok && risingB (lastOf l k) (l.drop k))
  own : ownB l own = (yes || ownB (l.drop k) own)
  low : ok = true → -1 ≤ lastOf l k
theorem told_zero (l : List Mb) (own : Int) : Told l own 0 (inB (l.length : Int) 3 12) false := ⟨rfl, rfl, fun _ => by rw [lastOf_zero]; omega⟩
theorem Told.no {l : List Mb} {own : Int} {k : Nat} {m : Mb} {ok yes : Bool} (h : Told l own k ok yes) (hm : l[k]? = some m) (hc : ok = true → ¬ ((lastOf l k + 1 ≤ m.1 ∧ m.1 ≤ 31) ∧ (160 ≤ m.2.1 ∧ m.2.1 ≤ 4096) ∧ 0 ≤ m.2.2 ∧ m.2.2 ≤ 2)) : Told l own (k + 1) false (yes || m.1 == own) := by
  refine ⟨?_, by rw [h.own, own_step own hm, Bool.or_assoc], fun e => by cases e⟩
  rw [h.right]
  cases ok with
  | false => rfl
  | true => rw [step_no hm (hc rfl)]; rfl
theorem Told.yes_ {l : List Mb} {own : Int} {k : Nat} {m : Mb} {yes : Bool} (h : Told l own k true yes) (hm : l[k]? = some m) (hc : (lastOf l k + 1 ≤ m.1 ∧ m.1 ≤ 31) ∧ (160 ≤ m.2.1 ∧ m.2.1 ≤ 4096) ∧ 0 ≤ m.2.2 ∧ m.2.2 ≤ 2) : Told l own (k + 1) true (yes || m.1 == own) := by
  have hl := h.low rfl
  refine ⟨?_, by rw [h.own, own_step own hm, Bool.or_assoc], fun _ => by rw [lastOf_succ hm]; omega⟩
  rw [h.right, step_yes hm hc, lastOf_succ hm]
theorem Told.last_ {l : List Mb} {own : Int} {k : Nat} {m : Mb} {yes : Bool} (h : Told l own k true yes) (hm : l[k]? = some m) (_h0 : 0 < k) (hc : (0 ≤ m.1 ∧ m.1 ≤ 31) ∧ (160 ≤ m.2.1 ∧ m.2.1 ≤ 4096) ∧ 0 ≤ m.2.2 ∧ m.2.2 ≤ 2) : Told l own (k + 1) (decide (lastOf l k < m.1)) (yes || m.1 == own) := by
  by_cases hlt : lastOf l k < m.1
  · rw [decide_eq_true hlt]
    exact h.yes_ hm ⟨⟨by omega, hc.1.2⟩, hc.2⟩
  · rw [decide_eq_false hlt]
    exact h.no hm (fun _ hh => hlt (by omega))
theorem Told.end_ {l : List Mb} {own : Int} {ok yes : Bool} (h : Told l own l.length ok yes) : membersB l = ok ∧ ownB l own = yes := by
  have h1 := h.right
  have h2 := h.own
  rw [rising_end _ rfl, Bool.and_true] at h1
  rw [List.drop_eq_nil_of_le (Nat.le_refl _)] at h2
  exact ⟨h1, by rw [h2]; simp [ownB]⟩
#print axioms Told.end_
end Go.Proofs.Ytbbfgcekjelmkaa
