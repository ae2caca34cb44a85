/- What Add of the reference's map answers where nothing is added. -/
import Derived.Test.YtmaiikmgpeafkabDoorRefOn
namespace Go.Proofs.YtmaiikmgpeafkabDoor
open Go.RowKit

section
variable {w : World} {r : Nat} {vm : Value} {vt : Nat → Value} {S : Ext}
set_option maxRecDepth 100000 in
theorem refAdd_bad (d s : Int) (h : d < 0 ∨ s < 0 ∨ 4096 < s) :
    Calls Tryd.prog 17 #[.pointer (some ⟨r, 0, none⟩), .int .i64 d, .int .i64 s] w fun e w' => e = .returned (.int .i64 1) ∧ w = w' := by
  by_cases h1 : d < 0
  · have e1 : decide (d < 0) = true := by simpa using h1
    go_enter Tryd.func17, Tryd.ntmps17
    go_wp2_with fail
    go_ret
    exact ⟨rfl, rfl⟩
  · have e1 : decide (d < 0) = false := by simpa using h1
    by_cases h2 : s < 0
    · have e2 : decide (s < 0) = true := by simpa using h2
      go_enter Tryd.func17, Tryd.ntmps17
      go_wp2_with fail
      go_ret
      exact ⟨rfl, rfl⟩
    · have e2 : decide (s < 0) = false := by simpa using h2
      have e3 : decide (4096 < s) = true := by simp; omega
      clear h
      go_enter Tryd.func17, Tryd.ntmps17
      go_wp2_with fail
      go_ret
      exact ⟨rfl, rfl⟩
set_option maxRecDepth 100000 in
theorem refAdd_old (h : RefE w r vm vt S) (hok : S.Ok) (d : Nat) (s : Int) (h0 : 0 ≤ s) (h1 : s ≤ 4096) (g2 : d < 9223372036854775808) (hd : d ∈ S.ks) :
    Calls Tryd.prog 17 #[.pointer (some ⟨r, 0, none⟩), .int .i64 (d : Int), .int .i64 s] w fun e w' => e = .returned (.int .i64 9) ∧ w = w' := by
  have HAT := hide (refAt_any h hok (d : Int) (by omega) (by omega))
  obtain ⟨k, hk, _⟩ := atE_in hd
  rw [hk] at HAT
  have e1 : decide ((d : Int) < 0) = false := by simp
  have e2 : decide (s < 0) = false := by simp; omega
  have e3 : decide (4096 < s) = false := by simp; omega
  have e4 : decide ((0 : Int) ≤ (k : Int)) = true := by simp
  clear h hd hk h0 h1
  go_enter Tryd.func17, Tryd.ntmps17
  go_wp2_with (first
    | (go_at_call 33; refine HAT.out.mono ?_; rintro _ _ ⟨rfl, rfl⟩))
  go_ret
  exact ⟨rfl, rfl⟩
end
#print axioms refAdd_old
end Go.Proofs.YtmaiikmgpeafkabDoor
