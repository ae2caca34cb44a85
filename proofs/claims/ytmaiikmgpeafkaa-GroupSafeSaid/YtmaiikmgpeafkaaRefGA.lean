/- The reference's AllSafe. -/
import Derived.Test.YtmaiikmgpeafkaaRefGH
import Derived.Test.YtmaiikmgpeafkaaGrpA
namespace Go.Proofs.Ytmaiikmgpeafkaa
open Go.RowKit

set_option maxHeartbeats 1000000 in
theorem refAllSafe_any (A : Option Addr) (n c : Nat) (L : List GrV) (AR : Option Addr) (cR : Nat) (rm : List Int) (B0 : Nat) (w : World) (hr : GsIn w B0 A n c L) (hrm : Reads w B0 1 AR rm.length (I64 rm)) (hB0 : B0 ≤ w.heap.size) (hn : n ≤ 1000000) (hrn : rm.length ≤ 16) (hfew : ∀ v ∈ rm, v ≤ 1000000) :
    Calls Try.prog 19 #[.slice A n c, .slice AR rm.length cR] w fun e w' => e = .returned (.bool (allSafeB rm L)) ∧ Below w.heap.size w w' := by
  have HR := hide hr
  have HRM := hide hrm
  have HFEW := hide hfew
  unfold allSafeB
  obtain ⟨p, hp⟩ : ∃ p : Nat → Bool, p = fun (d : Nat) => safeB rm L (d : Int) := ⟨_, rfl⟩
  rw [← hp]
  have HP := hide hp
  clear hp hr hrm hfew
  go_enter Try.func19, Try.ntmps19
  go_wp2
  go_loopw [5] (fun i wr => ∃ k : Nat, k ≤ rm.length ∧ i = .int .i64 k ∧ Hid (∀ d, d < k → p d = true) ∧ Below w.heap.size w wr) (fun i _ => rm.length - (intOf i).toNat)
  case atStart => exact ⟨0, Nat.zero_le _, rfl, hide (fun d h => absurd h (Nat.not_lt_zero _)), Below.refl _ _⟩
  case round =>
    obtain ⟨k, hk, rfl, HA, hbel⟩ := hrel
    by_cases hkn : k < rm.length
    · have hc := refSafe_any A n c L AR cR rm (k : Int) B0 wr (HR.out.below (hbel.mono hB0)) (HRM.out.below (hbel.mono hB0)) (Nat.le_trans hB0 hbel.size) hn hrn HFEW.out
      have hpk : safeB rm L (k : Int) = p k := by rw [HP.out]
      rw [hpk] at hc
      have HC := hide hc
      clear hc hpk
      cases hq : p k with
      | true =>
        have HC2 := hide HC.out
        rw [hq] at HC2
        have HA2 : Hid (∀ d, d < k + 1 → p d = true) := hide (fun d hd => by
          by_cases e : d = k
          · rw [e]; exact hq
          · exact HA.out d (by omega))
        clear HC hq
        go_wp2_with (first | (go_at_call 17; refine HC2.out.mono ?_; rintro _ w2 ⟨rfl, hl2⟩))
        have hl3 := hbel.trans (hl2.mono hbel.size)
        go_roundw
        case rel => exact ⟨k + 1, by omega, by go_num, HA2, hl3⟩
        case measure => simp [intOf]; omega
      | false =>
        have HC2 := hide HC.out
        rw [hq] at HC2
        have HQ := hide (all_take hkn hq)
        clear HC hq
        go_wp2_with (first | (go_at_call 17; refine HC2.out.mono ?_; rintro _ w2 ⟨rfl, hl2⟩))
        have hl3 := hbel.trans (hl2.mono hbel.size)
        go_ret
        exact ⟨ret_bool HQ.out.symm, hl3⟩
    · obtain rfl : k = rm.length := by omega
      have HQ := hide (all_range HA.out)
      go_wp2
      go_ret
      exact ⟨ret_bool HQ.out.symm, hbel⟩
#print axioms refAllSafe_any
end Go.Proofs.Ytmaiikmgpeafkaa
