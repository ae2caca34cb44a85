/- What Count, Place and Index of extent answer, and those of the reference. -/
import Derived.Test.YtmaiikmgpeafkabDoorLow
import Derived.Outline
namespace Go.Proofs.YtmaiikmgpeafkabDoor
open Go.RowKit

/-- How many extents a member of s sectors has. -/
def countZ (s : Int) : Nat := if s < 114 then 0 else ((s - 114) / 8).toNat
/-- An extent begins at this sector; which one. -/
def okI (p : Int) : Bool := decide (114 ≤ p) && decide ((p - 114) % 8 = 0)
def idxI (p : Int) : Nat := if okI p then ((p - 114) / 8).toNat else 0
theorem okI_at {p : Int} (h : okI p = true) : p = 114 + 8 * (idxI p : Int) := by
  unfold idxI
  rw [if_pos h]
  unfold okI at h
  simp only [Bool.and_eq_true, decide_eq_true_eq] at h
  omega
theorem okI_place (i : Nat) : okI (114 + 8 * (i : Int)) = true := by
  unfold okI
  simp only [Bool.and_eq_true, decide_eq_true_eq]
  omega
theorem idxI_place (i : Nat) : idxI (114 + 8 * (i : Int)) = i := by
  have := okI_at (okI_place i)
  omega
theorem countZ_lt {s : Int} {i : Nat} : i < countZ s ↔ 114 + 8 * ((i : Int) + 1) ≤ s := by
  unfold countZ
  split <;> omega
theorem countZ_le {s : Int} (h : s ≤ 4096) : countZ s ≤ 497 := by
  unfold countZ
  split <;> omega
theorem countZ_of {s : Int} (h : 114 ≤ s) : ((countZ s : Nat) : Int) = (s - 114) / 8 := by
  unfold countZ
  rw [if_neg (by omega)]
  omega
section
variable {w : World}
theorem extCount_any (s : Int) (h1 : -9223372036854775808 ≤ s) (h2 : s < 9223372036854775808) :
    Calls Tryd.prog 14 #[.int .i64 s] w fun e w' => e = .returned (.int .i64 ((countZ s : Nat) : Int)) ∧ w = w' := by
  by_cases h : s < 114
  · go_enter Tryd.func14, Tryd.ntmps14
    go_wp2
    go_ret
    exact ⟨ret_of (by unfold countZ; rw [if_pos h]; rfl), rfl⟩
  · go_enter Tryd.func14, Tryd.ntmps14
    go_wp2
    go_ret
    exact ⟨ret_of (countZ_of (by omega)).symm, rfl⟩
theorem extPlace_any (i : Int) (h1 : -9223372036854775808 ≤ i * 8) (h2 : i * 8 + 114 < 9223372036854775808) :
    Calls Tryd.prog 15 #[.int .i64 i] w fun e w' => e = .returned (.int .i64 (114 + 8 * i)) ∧ w = w' := by
  go_enter Tryd.func15, Tryd.ntmps15
  go_wp2
  go_ret
  exact ⟨ret_of (by omega), rfl⟩
theorem extIndex_any (p : Int) (h1 : -9223372036854775808 ≤ p) (h2 : p < 9223372036854775808) :
    Calls Tryd.prog 13 #[.int .i64 p] w fun e w' => e = .returned (.tuple #[.int .i64 ((idxI p : Nat) : Int), .bool (okI p)]) ∧ w = w' := by
  have hc : ((countZ p : Nat) : Int) * 8 + 114 < 9223372036854775808 + 114 ∧ (114 ≤ p → ((countZ p : Nat) : Int) = (p - 114) / 8) ∧ (p < 114 → countZ p = 0) := by
    refine ⟨?_, countZ_of, fun h => by unfold countZ; rw [if_pos h]⟩
    unfold countZ
    split <;> omega
  have hd : okI p = decide ((114 : Int) + 8 * ((countZ p : Nat) : Int) = p) := by
    unfold okI
    rw [Bool.eq_iff_iff]
    simp only [Bool.and_eq_true, decide_eq_true_eq]
    by_cases h : 114 ≤ p
    · have := hc.2.1 h
      omega
    · have := hc.2.2 (by omega)
      omega
  have hi : okI p = true → idxI p = countZ p := by
    intro h
    have h0 := okI_at h
    have h3 : 114 ≤ p := by unfold okI at h; simp only [Bool.and_eq_true, decide_eq_true_eq] at h; exact h.1
    have := hc.2.1 h3
    omega
  have hr : ((countZ p : Nat) : Int) * 8 + 114 < 9223372036854775808 := by
    by_cases h : 114 ≤ p
    · have := hc.2.1 h
      omega
    · have := hc.2.2 (by omega)
      omega
  have HI := hide hi
  have HD := hide hd
  clear hi hd hc
  generalize hq : countZ p = q at HI HD hr
  have HQ := hide hq
  clear hq
  cases ho : okI p
  · have HO := hide ho
    rw [ho] at HD
    have hne : (((114 : Int) + 8 * (q : Int)) != p) = true := by have := HD.out; simpa using this.symm
    clear ho
    go_enter Tryd.func13, Tryd.ntmps13
    go_wp2_with (first
      | (go_at_call 14; refine (extCount_any p h1 h2).mono ?_; rw [HQ.out]; rintro _ _ ⟨rfl, rfl⟩)
      | (go_at_call 15; refine (extPlace_any (q : Int) (by omega) (by omega)).mono ?_; rintro _ _ ⟨rfl, rfl⟩))
    go_ret2
    exact ⟨by unfold idxI; rw [HO.out]; rfl, rfl⟩
  · have HO := hide ho
    rw [ho] at HD HI
    have he : (114 : Int) + 8 * (q : Int) = p := by have := HD.out; simpa using this.symm
    clear ho
    have hiq := HI.out rfl
    rw [hiq]
    clear hiq
    go_enter Tryd.func13, Tryd.ntmps13
    go_wp2_with (first
      | (go_at_call 14; refine (extCount_any p h1 h2).mono ?_; rw [HQ.out]; rintro _ _ ⟨rfl, rfl⟩)
      | (go_at_call 15; refine (extPlace_any (q : Int) (by omega) (by omega)).mono ?_; rintro _ _ ⟨rfl, rfl⟩))
    go_ret2
    exact ⟨rfl, rfl⟩
end
#print axioms extIndex_any
end Go.Proofs.YtmaiikmgpeafkabDoor
