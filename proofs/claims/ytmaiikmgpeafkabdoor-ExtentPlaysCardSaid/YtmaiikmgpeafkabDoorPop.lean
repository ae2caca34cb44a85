/- What math/bits.OnesCount64 and TrailingZeros64 answer. -/
import Derived.Test.YtmaiikmgpeafkabDoorLow
import Derived.Laws.Bits64b
namespace Go.Proofs.YtmaiikmgpeafkabDoor
open Go.RowKit

theorem tz64_zero (w : World) : Calls Tryd.prog 60 #[.int .u64 0] w fun e w' => e = .returned (.int .i64 64) ∧ w = w' := by
  go_enter Tryd.func60, Tryd.ntmps60
  go_wp2
  go_ret
  exact ⟨rfl, rfl⟩
theorem tz64_core (x k idx : Nat) (w : World) (hx0 : ((x : Int) == 0) = false)
    (key : IntKind.u64.wrap (bits BinOp.and IntKind.u64 (x : Int) (IntKind.u64.wrap (-(x : Int))) * 285870213051353865) / 288230376151711744 = (idx : Int))
    (hi : idx < 64) (hk : k < 64) (hcell : w.cell? ⟨0, idx, none⟩ = some (.int .u8 k)) :
    Calls Tryd.prog 60 #[.int .u64 x] w fun e w' => e = .returned (.int .i64 k) ∧ w = w' := by
  go_enter Tryd.func60, Tryd.ntmps60
  go_wp2_with (simp only [key])
  go_ret
  exact ⟨rfl, rfl⟩
theorem tz64_key (x a : Nat) (hx : x < 18446744073709551616) (hx0 : x ≠ 0) (hlow : x &&& (18446744073709551616 - x) = a) :
    IntKind.u64.wrap (bits BinOp.and IntKind.u64 (x : Int) (IntKind.u64.wrap (-(x : Int))) * 285870213051353865) / 288230376151711744 = ((a * 285870213051353865 % 18446744073709551616 / 288230376151711744 : Nat) : Int) := by
  have e1 : IntKind.u64.wrap (-(x : Int)) = ((18446744073709551616 - x : Nat) : Int) := by rw [IntKind.wrap_u64]; omega
  rw [e1, u64_and_nat x _ hx (by omega), hlow, IntKind.wrap_u64]
  omega
theorem tz64_any (x : Nat) (hx : x < 18446744073709551616) (hx0 : x ≠ 0) (w : World) (hT : Tab w) :
    Calls Tryd.prog 60 #[.int .u64 x] w fun e w' => e = .returned (.int .i64 (Lib.ctz 64 x)) ∧ w = w' := by
  obtain ⟨hlow, hk⟩ := Lib.lowest_bit 64 x hx0 hx
  obtain ⟨hi, htab⟩ := Lib.deBruijn64_at _ hk
  have hcell := hT _ hi
  rw [htab] at hcell
  exact tz64_core x _ _ w (by simp; omega) (tz64_key x _ hx hx0 hlow) hi hk hcell

theorem ones_core (x A B C D E F : Nat) (r : Int) (w : World)
    (k1 : IntKind.u64.wrap (bits BinOp.and IntKind.u64 ((x : Int) / 2) 6148914691236517205 + bits BinOp.and IntKind.u64 (x : Int) 6148914691236517205) = (A : Int))
    (k2 : IntKind.u64.wrap (bits BinOp.and IntKind.u64 ((A : Int) / 4) 3689348814741910323 + bits BinOp.and IntKind.u64 (A : Int) 3689348814741910323) = (B : Int))
    (k3 : bits BinOp.and IntKind.u64 (IntKind.u64.wrap ((B : Int) / 16 + (B : Int))) 1085102592571150095 = (C : Int))
    (k4 : IntKind.u64.wrap ((C : Int) + (C : Int) / 256) = (D : Int))
    (k5 : IntKind.u64.wrap ((D : Int) + (D : Int) / 65536) = (E : Int))
    (k6 : IntKind.u64.wrap ((E : Int) + (E : Int) / 4294967296) = (F : Int))
    (k7 : bits BinOp.and IntKind.i64 (F : Int) 127 = r) (hF : F ≤ 9223372036854775807) :
    Calls Tryd.prog 55 #[.int .u64 x] w fun e w' => e = .returned (.int .i64 r) ∧ w = w' := by
  go_enter Tryd.func55, Tryd.ntmps55
  go_wp2
  go_ret
  exact ⟨rfl, rfl⟩
theorem and_lit (x c : Nat) (X C : Int) (hX : X = (x : Int)) (hC : C = (c : Int)) (hx : x < 18446744073709551616) (hc : c < 18446744073709551616) : bits .and .u64 X C = ((x &&& c : Nat) : Int) := by
  rw [hX, hC]
  exact u64_and_nat x c hx hc
theorem wrap_nat (x : Nat) (X : Int) (hX : X = (x : Int)) (hx : x < 18446744073709551616) : IntKind.u64.wrap X = (x : Int) := by
  rw [hX, IntKind.wrap_u64]
  omega
theorem add_div_cast (a m : Nat) : (a : Int) + (a : Int) / (m : Int) = ((a + a / m : Nat) : Int) := by rw [Int.natCast_add, Int.natCast_ediv]
theorem ones_any (x : Nat) (hx : x < 18446744073709551616) (w : World) :
    Calls Tryd.prog 55 #[.int .u64 x] w fun e w' => e = .returned (.int .i64 (pop 64 x)) ∧ w = w' := by
  obtain ⟨hC, hS⟩ := stepC_sum x
  have hA := stepA_lt x
  have hB := stepB_lt x
  refine ones_core x (stepA 8 x) (stepB 8 x) (stepC 8 x) (stepC 8 x + stepC 8 x / 256) (stepC 8 x + stepC 8 x / 256 + (stepC 8 x + stepC 8 x / 256) / 65536)
    (stepC 8 x + stepC 8 x / 256 + (stepC 8 x + stepC 8 x / 256) / 65536 + (stepC 8 x + stepC 8 x / 256 + (stepC 8 x + stepC 8 x / 256) / 65536) / 4294967296) _ w ?_ ?_ ?_ ?_ ?_ ?_ ?_ ?_
  · rw [and_lit (x / 2) 6148914691236517205 _ _ (by rw [Int.natCast_ediv]; rfl) (by rfl) (by omega) (by decide), and_lit x 6148914691236517205 _ _ rfl (by rfl) hx (by decide)]
    rw [stepA, rep85] at *
    exact wrap_nat _ _ (by rw [Int.natCast_add]) hA
  · rw [and_lit (stepA 8 x / 4) 3689348814741910323 _ _ (by rw [Int.natCast_ediv]; rfl) (by rfl) (by omega) (by decide), and_lit (stepA 8 x) 3689348814741910323 _ _ rfl (by rfl) hA (by decide)]
    rw [stepB, rep51] at *
    exact wrap_nat _ _ (by rw [Int.natCast_add]) (by omega)
  · rw [wrap_nat (stepB 8 x / 16 + stepB 8 x) _ (by rw [Int.natCast_add, Int.natCast_ediv]; rfl) (by omega), and_lit (stepB 8 x / 16 + stepB 8 x) 1085102592571150095 _ _ rfl (by rfl) (by omega) (by decide)]
    rw [stepC, rep15]
  · exact wrap_nat _ _ (add_div_cast (stepC 8 x) 256) (by omega)
  · exact wrap_nat _ _ (add_div_cast (stepC 8 x + stepC 8 x / 256) 65536) (by omega)
  · exact wrap_nat _ _ (add_div_cast (stepC 8 x + stepC 8 x / 256 + (stepC 8 x + stepC 8 x / 256) / 65536) 4294967296) (by omega)
  · have := i64_mask (((stepC 8 x + stepC 8 x / 256 + (stepC 8 x + stepC 8 x / 256) / 65536 + (stepC 8 x + stepC 8 x / 256 + (stepC 8 x + stepC 8 x / 256) / 65536) / 4294967296 : Nat) : Int)) 7 (by decide)
    rw [show (127 : Int) = 2 ^ 7 - 1 from rfl, this, ← hS, Int.natCast_emod]
    rfl
  · omega
#print axioms ones_any
#print axioms tz64_any
end Go.Proofs.YtmaiikmgpeafkabDoor
