/- What the laws' walks on maps have in common: the length that a law makes of any number; a loop's row of places. -/
import Derived.Test.YtpakipacclmimaaDoorSeen
import Derived.Test.YtpakipacclmimaaDoorArg
namespace Go.Proofs.YtpakipacclmimaaDoor
open Go.RowKit

theorem mask_law (n : Int) : ∃ M N : Nat, bits .and .i64 n 65535 = (M : Int) ∧ (M : Int) % 2001 = (N : Int) ∧ (M : Int).tmod 2001 = (N : Int) ∧ N ≤ 2000 ∧ clamp N = N := by
  have h := i64_mask n 16 (by decide)
  refine ⟨(n % 65536).toNat, ((n % 65536).toNat % 2001), ?_, by omega, by rw [Int.tmod_eq_emod_of_nonneg (by omega)]; omega, by omega, by unfold clamp; omega⟩
  have e : (65535 : Int) = 2 ^ 16 - 1 := by decide
  rw [e, h]
  have e2 : (2 : Int) ^ 16 = 65536 := by decide
  rw [e2]
  omega
#print axioms mask_law
end Go.Proofs.YtpakipacclmimaaDoor
