/- What Count, Place and Index of the reference answer. -/
import Derived.Test.YtmaiikmgpeafkabDoorExtC
import Derived.Outline
namespace Go.Proofs.YtmaiikmgpeafkabDoor
open Go.RowKit
section
variable {w : World}
theorem refCount_any (s : Int) (h1 : -9223372036854775808 ≤ s) (h2 : s ≤ 4611686018427387904) :
    Calls Tryd.prog 34 #[.int .i64 s] w fun e w' => e = .returned (.int .i64 ((countZ s : Nat) : Int)) ∧ w = w' := by
  have hc : ∀ k : Nat, k < countZ s ↔ 114 + 8 * ((k : Int) + 1) ≤ s := fun k => countZ_lt
  obtain ⟨n, hn⟩ : ∃ n, n = countZ s := ⟨_, rfl⟩
  rw [← hn] at hc ⊢
  clear hn
  have HC := hide hc
  clear hc
  go_enter Tryd.func34, Tryd.ntmps34
  go_wp2_with fail
  go_loop [3] (fun a => ∃ k : Nat, k ≤ n ∧ a = .int .i64 (k : Int)) (fun a => n - (intOf a).toNat)
  case atStart => exact ⟨0, Nat.zero_le _, rfl⟩
  case round =>
    obtain ⟨k, hk, rfl⟩ := hrel
    by_cases hlt : k < n
    · have hh := (HC.out k).1 hlt
      have hd : (114 : Int) + ((k : Int) + 1) * 8 ≤ s := by omega
      go_wp2_with fail
      go_round
      case rel => exact ⟨k + 1, by omega, by go_num⟩
      case measure => simp [intOf]; omega
    · have hh : ¬ (114 + 8 * ((k : Int) + 1) ≤ s) := fun h => hlt ((HC.out k).2 h)
      have hd2 : s < (114 : Int) + ((k : Int) + 1) * 8 := by omega
      have hd : decide ((114 : Int) + ((k : Int) + 1) * 8 ≤ s) = false := by simp; omega
      have hkb : (k : Int) ≤ 576460752303423488 := by
        rcases Nat.eq_zero_or_pos k with h0 | h0
        · omega
        · have := (HC.out (k - 1)).1 (by omega)
          omega
      obtain rfl : k = n := by omega
      go_wp2_with fail
      go_ret
      exact ⟨rfl, rfl⟩
theorem refPlace_any (i : Int) (h1 : -9223372036854775808 ≤ i * 8) (h2 : i * 8 + 114 < 9223372036854775808) :
    Calls Tryd.prog 42 #[.int .i64 i] w fun e w' => e = .returned (.int .i64 (114 + 8 * i)) ∧ w = w' := by
  go_enter Tryd.func42, Tryd.ntmps42
  go_wp2
  go_ret
  exact ⟨ret_of (by omega), rfl⟩
end
end Go.Proofs.YtmaiikmgpeafkabDoor
