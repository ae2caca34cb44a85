/- The small case that each law of pack begins with: it works. -/
import Derived.Test.YtkjbjhciafnbeaaSec
namespace Go.Proofs.Ytkjbjhciafnbeaa
open Go.RowKit

theorem put_shown : putB [5] 258 3 = [5, 0, 1, 2] := by decide
theorem row_shown : putRowB [] [1, 2] 1 = [0, 2, 1, 2] := by decide
theorem own_conv {P : Program} {w : World} {base n c : Nat} {A : Option Addr} {l : List UInt8} (src e dst : TypeId) (hs : P.underlying src = some (.slice e)) (he : P.underlying e = some (.int .u8)) (hd : P.underlying dst = some .string)
    (h : w.ownsRow base e 1 (.slice A n c) n (B8 l)) : (convert src dst (.slice A n c)).run P w = .ok (.string ⟨l.toArray⟩) w := run_conv_reads w src e dst hs he hd _ A n c l (Reads.of_own h)
theorem sec_shown {w : World} {base n : Nat} {v : Value} {e : TypeId} (h : w.ownsRow base e 64 v n (B8 (pad (List.replicate 65 0)))) : n = 2 := by
  have := h.1
  rw [B8_length, pad_length, List.length_replicate] at this
  omega
def Z65 : List Value := B8 (List.replicate 65 0)
theorem Z65_is : Z65 = List.replicate 65 (Value.int .u8 0) := by simp [Z65, B8]
theorem make65 (w : World) : (Instr.makeSlice 22 (.int .i64 65) (.int .i64 65)).run Try.prog w = .ok (.slice (some ⟨w.heap.size, 0, none⟩) 65 65) (w.alloc (.cells Z65.toArray 5)) := by
  obtain ⟨i0, hi0, hz0, hz1, hz2⟩ := info_parts u8_info
  exact run_make_list w 22 5 i0 _ Try.underlying22 hi0 hz0 hz1 rfl 65 Z65 Z65_is (by rw [hz2]; omega) (by omega)

set_option maxRecDepth 100000 in
set_option maxHeartbeats 2000000 in
theorem shown_any (w : World) : Calls Try.prog 11 #[] w fun e w' => e = .returned (.bool true) ∧ Below w.heap.size w w' := by
  have r1 : ∀ x t, Reads (w.alloc (.cells #[x] t)) (w.alloc (.cells #[x] t)).heap.size 1 (some ⟨w.heap.size, 0, none⟩) 1 [x] := fun x t => Reads.one w x t _ (by rw [World.size_alloc]; omega)
  have R1 := hide r1
  clear r1
  go_enter Try.func11, Try.ntmps11
  go_wp2_with fail
  refine (put_any (some ⟨w.heap.size, 0, none⟩) 1 1 [5] 258 3 _ (R1.out _ _) (by omega) (by omega) (by omega) (by omega)).mono ?_
  rintro e w1 ⟨A1, n1, c1, rfl, hn1, hc1, hown1, hbel1⟩
  rw [put_shown] at hown1
  have hk1 := own_conv 22 5 9 Try.underlying22 Try.underlying5 Try.underlying9 hown1
  have hk1' := hide hk1
  go_wp2_with fail
  have hb1 : Below w.heap.size w w1 := ((Below.refl _ _).alloc (Nat.le_refl _) _).trans (hbel1.mono (by rw [World.size_alloc]; omega))
  have hf := Reads.fresh w1 (I64 [1, 2]) 3 (w1.heap.size + 1) 1 2 (by omega) rfl
  refine (putRow_any none (some ⟨w1.heap.size, 0, none⟩) 0 0 2 2 [] [1, 2] 1 _ Reads.none_ (hf.more (by rw [World.size_alloc]; omega)) (by omega) (by omega) (by omega) (by omega) (by simp)).mono ?_
  rintro e w2 ⟨A2, n2, c2, rfl, hn2, hc2, hown2, hbel2⟩
  rw [row_shown] at hown2
  have hb2 : Below w.heap.size w w2 := (hb1.alloc hb1.size _).trans (hbel2.mono (Nat.le_trans hb1.size (by rw [World.size_alloc]; omega)))
  have hk2 := own_conv 22 5 9 Try.underlying22 Try.underlying5 Try.underlying9 hown2
  have hmk := make65
  go_wp2_with fail
  have hb3 := hb2.alloc hb2.size (.cells Z65.toArray 5)
  have hr3 := Reads.fresh w2 (B8 (List.replicate 65 0)) 5 (w2.heap.size + 1) 1 65 (by omega) (by rw [B8_length]; rfl)
  refine (sectors_any _ _ _ (List.replicate 65 0) _ (hr3.more (by rw [World.size_alloc]; omega)) (by omega) (by omega) (by omega)).mono ?_
  rintro e w4 ⟨A4, n4, c4, rfl, hn4, hc4, hown4, hbel4⟩
  have hn4' := sec_shown hown4
  subst hn4'
  have hb4 := hb3.trans (hbel4.mono hb3.size)
  go_wp2
  go_ret
  exact ⟨rfl, hb4⟩
#print axioms shown_any
end Go.Proofs.Ytkjbjhciafnbeaa
