/- The numbers that the laws of stage 6 make of any number. -/
import Derived.Test.YtmaiikmgpeafkabDoorShown6
import Derived.Test.YtmaiikmgpeafkabDoorLaidT
namespace Go.Proofs.YtmaiikmgpeafkabDoor
open Go.RowKit
theorem mask6 (n : Int) : ∃ M N : Nat, bits .and .i64 n 1048575 = (M : Int) ∧ (M : Int) % 4097 = (N : Int) ∧ (M : Int).tmod 4097 = (N : Int) ∧ N ≤ 4096 ∧ M ≤ 1048575 := by
  have h := i64_mask n 20 (by decide)
  refine ⟨(n % 1048576).toNat, ((n % 1048576).toNat % 4097), ?_, by omega, by rw [Int.tmod_eq_emod_of_nonneg (by omega)]; omega, by omega, by omega⟩
  have e : (1048575 : Int) = 2 ^ 20 - 1 := by decide
  rw [e, h]
  have e2 : (2 : Int) ^ 20 = 1048576 := by decide
  rw [e2]
  omega
theorem mask20 (n : Int) : ∃ M : Nat, bits .and .i64 n 1048575 = (M : Int) ∧ M ≤ 1048575 := by
  obtain ⟨M, _, h, _, _, _, h2⟩ := mask6 n
  exact ⟨M, h, h2⟩
theorem mask16 (n : Int) : ∃ M : Nat, bits .and .i64 n 65535 = (M : Int) ∧ M ≤ 65535 := by
  have h := i64_mask n 16 (by decide)
  refine ⟨(n % 65536).toNat, ?_, by omega⟩
  have e : (65535 : Int) = 2 ^ 16 - 1 := by decide
  rw [e, h]
  have e2 : (2 : Int) ^ 16 = 65536 := by decide
  rw [e2]
  omega
theorem mask24 (n : Int) : ∃ M : Nat, bits .and .i64 n 16777215 = (M : Int) ∧ M ≤ 16777215 := by
  have h := i64_mask n 24 (by decide)
  refine ⟨(n % 16777216).toNat, ?_, by omega⟩
  have e : (16777215 : Int) = 2 ^ 24 - 1 := by decide
  rw [e, h]
  have e2 : (2 : Int) ^ 24 = 16777216 := by decide
  rw [e2]
  omega
#print axioms mask24
end Go.Proofs.YtmaiikmgpeafkabDoor
