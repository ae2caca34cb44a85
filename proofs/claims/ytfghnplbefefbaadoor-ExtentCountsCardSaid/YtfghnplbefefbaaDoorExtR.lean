/- What Count, Place and Index of the reference answer. -/
import Derived.Test.YtfghnplbefefbaaDoorExtC
import Derived.Outline
namespace Go.Proofs.YtfghnplbefefbaaDoor
open Go.RowKit
section
variable {w : World}
theorem refCount_any (s : Int) (h1 : -9223372036854775808 ≤ s) (h2 : s ≤ 4611686018427387904) :
    Calls Tryd.prog 11 #[.int .i64 s] w fun e w' => e = .returned (.int .i64 ((countZ s : Nat) : Int)) ∧ w = w' := by
  have hc : ∀ k : Nat, k < countZ s ↔ 114 + 8 * ((k : Int) + 1) ≤ s := fun k => countZ_lt
  obtain ⟨n, hn⟩ : ∃ n, n = countZ s := ⟨_, rfl⟩
  rw [← hn] at hc ⊢
  clear hn
  have HC := hide hc
  clear hc
  go_enter Tryd.func11, Tryd.ntmps11
  go_wp2_with fail
  go_loop [3] (fun a => ∃ k : Nat, k ≤ n ∧ a = .int .i64 (k : Int)) (fun a => n - (intOf a).toNat)
  case atStart => exact ⟨0, Nat.zero_le _, rfl⟩
  case round =>
    obtain ⟨k, hk, rfl⟩ := hrel
    by_cases hlt : k < n
    · have hh := (HC.out k).1 hlt
      have hd : (114 : Int) + ((k : Int) + 1) * 8 ≤ s := by omega
      go_wp2_with fail
      go_round
      case rel => exact ⟨k + 1, by omega, by go_num⟩
      case measure => simp [intOf]; omega
    · have hh : ¬ (114 + 8 * ((k : Int) + 1) ≤ s) := fun h => hlt ((HC.out k).2 h)
      have hd2 : s < (114 : Int) + ((k : Int) + 1) * 8 := by omega
      have hd : decide ((114 : Int) + ((k : Int) + 1) * 8 ≤ s) = false := by simp; omega
      have hkb : (k : Int) ≤ 576460752303423488 := by
        rcases Nat.eq_zero_or_pos k with h0 | h0
        · omega
        · have := (HC.out (k - 1)).1 (by omega)
          omega
      obtain rfl : k = n := by omega
      go_wp2_with fail
      go_ret
      exact ⟨rfl, rfl⟩
theorem refPlace_any (i : Int) (h1 : -9223372036854775808 ≤ i * 8) (h2 : i * 8 + 114 < 9223372036854775808) :
    Calls Tryd.prog 14 #[.int .i64 i] w fun e w' => e = .returned (.int .i64 (114 + 8 * i)) ∧ w = w' := by
  go_enter Tryd.func14, Tryd.ntmps14
  go_wp2
  go_ret
  exact ⟨ret_of (by omega), rfl⟩
theorem refIndex_any (p : Int) (h1 : -9223372036854775808 ≤ p) (h2 : p < 9223372036854775808) :
    Calls Tryd.prog 15 #[.int .i64 p] w fun e w' => e = .returned (.tuple #[.int .i64 ((idxI p : Nat) : Int), .bool (okI p)]) ∧ w = w' := by
  by_cases h : p < 114
  · have ho : okI p = false := by unfold okI; simp; omega
    have hi : idxI p = 0 := by unfold idxI; rw [ho]; rfl
    rw [ho, hi]
    clear ho hi
    go_enter Tryd.func15, Tryd.ntmps15
    go_wp2
    go_ret2
    exact ⟨rfl, rfl⟩
  · have hm : (p - 114).tmod 8 = (p - 114) % 8 := Int.tmod_eq_emod_of_nonneg (by omega)
    by_cases hr : (p - 114) % 8 = 0
    · have ho : okI p = true := by unfold okI; simp; omega
      have hi : ((idxI p : Nat) : Int) = (p - 114) / 8 := by unfold idxI; rw [ho]; simp; omega
      rw [ho, hi]
      have hr1 : ((p - 114) % 8 != 0) = false := by simpa using hr
      have hr2 : ((p - 114).tmod 8 != 0) = false := by rw [hm]; exact hr1
      clear ho hi hm hr
      go_enter Tryd.func15, Tryd.ntmps15
      go_wp2
      go_ret2
      exact ⟨rfl, rfl⟩
    · have ho : okI p = false := by unfold okI; simp; omega
      have hi : idxI p = 0 := by unfold idxI; rw [ho]; rfl
      rw [ho, hi]
      have hr1 : ((p - 114) % 8 != 0) = true := by simpa using hr
      have hr2 : ((p - 114).tmod 8 != 0) = true := by rw [hm]; exact hr1
      clear ho hi hm hr
      go_enter Tryd.func15, Tryd.ntmps15
      go_wp2
      go_ret2
      exact ⟨rfl, rfl⟩
end
#print axioms refIndex_any
end Go.Proofs.YtfghnplbefefbaaDoor
