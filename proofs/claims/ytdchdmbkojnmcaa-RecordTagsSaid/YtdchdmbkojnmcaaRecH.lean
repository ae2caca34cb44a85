/- The small case that each law of record begins with: it works. -/
import Derived.Test.YtdchdmbkojnmcaaRecS
import Derived.Test.YtdchdmbkojnmcaaRecJ
import Derived.Lib.SlBytesConst
namespace Go.Proofs.Ytdchdmbkojnmcaa
open Go.RowKit

theorem split_ab : (splitT 7 1 [97, 98]).take 14 = [0, 0, 0, 7, 0, 0, 0, 1, 0, 1, 2, 97, 98, 0] := by decide +kernel
theorem parts_ab : partsN ([97, 98] : List UInt8).length = 1 := by decide
theorem parts_54 : partsI 54 = 2 := by decide
theorem join_ab : joinB 7 1 1 (splitT 7 1 [97, 98]) = true ∧ joinL 7 1 1 (splitT 7 1 [97, 98]) = [97, 98] := join_split (b := [97, 98]) (by decide) (by decide) (by decide)

theorem own_conv8 {P : Program} {w : World} {base n c : Nat} {A : Option Addr} {l : List UInt8} (src e dst : TypeId) (hs : P.underlying src = some (.slice e)) (he : P.underlying e = some (.int .u8)) (hd : P.underlying dst = some .string)
    (h : w.ownsRow base e 1 (.slice A n c) n (B8 l)) : (convert src dst (.slice A n c)).run P w = .ok (.string ⟨l.toArray⟩) w := run_conv_reads w src e dst hs he hd _ A n c l (Reads.of_own h)
set_option maxRecDepth 100000 in
set_option maxHeartbeats 2000000 in
theorem shown_any (w : World) : Calls Try.prog 10 #[] w fun e w' => e = .returned (.bool true) ∧ Below w.heap.size w w' := by
  have HP := hide (recParts_any 54)
  rw [parts_54] at HP
  have kc := fun (w : World) (C : Array Value) (n c : Nat) => Lib.run_convert_bytes_const (P := Try.prog) w 22 5 C n c Try.underlying22 Try.underlying5
  have hr0 := Reads.marked (w := w) (B8 [97, 98]) 5 (2, 3) (w.heap.size + 1) 1 2 (by omega) rfl
  have HS := hide (recSplit_any 7 1 (some ⟨w.heap.size, 0, none⟩) 2 2 [97, 98] (w.heap.size + 1) _ hr0 (by rw [World.size_alloc]; exact Nat.le_refl _) (by omega) (by omega) (by decide) (by decide))
  have HB0 := hide ((Below.refl w.heap.size w).alloc (Nat.le_refl _) (.cells (B8 [97, 98]).toArray 5 (2, 3)))
  rw [parts_ab] at HS
  go_enter Try.func10, Try.ntmps10
  go_wp2_with fail
  refine HS.out.mono ?_
  rintro _ w1 ⟨g, rfl, hg, hb1, hl1⟩
  have HL1 := hide (HB0.out.trans (hl1.mono (by rw [World.size_alloc]; omega)))
  have hx1 := hb1.lt
  have HB1 := hide hb1
  clear hr0 kc hb1 hl1 hg
  go_wp2_with fail
  have hs64 : (splitT 7 1 [97, 98]).length = 64 := by rw [split_length, parts_ab]
  have hr1 : Reads w1 w1.heap.size 64 (some ⟨g, 0, none⟩) 1 (B8 (splitT 7 1 [97, 98])) := ⟨by rw [B8_length, hs64], fun _ => ⟨_, rfl, hx1, fun j u hu => blk_at HB1.out j u hu⟩⟩
  refine (recJoin_any 7 1 (some ⟨g, 0, none⟩) 1 1 (splitT 7 1 [97, 98]) w1.heap.size w1 hr1 (Nat.le_refl _) (by omega)).mono ?_
  rintro _ w2 ⟨R2, k2, d2, rfl, hk2, hd2, ho2, hl2⟩
  rw [join_ab.2] at ho2
  rw [join_ab.1]
  have HB2 := HB1.out.below hl2 hx1
  have hr2 := HB2.reads (B := w2.heap.size) (off := 0) (n := 64) HB2.lt (by rw [hs64])
  rw [List.drop_zero] at hr2
  have hr3 := hr2.head (k := 14) (by omega)
  rw [Nat.mul_one, B8_take, split_ab] at hr3
  have hk1 := run_conv_reads (P := Try.prog) w2 22 5 9 Try.underlying22 Try.underlying5 Try.underlying9 _ (some ⟨g, 0, none⟩) 14 64 _ hr3
  have hk3 := own_conv8 22 5 9 Try.underlying22 Try.underlying5 Try.underlying9 ho2
  have HL2 := hide (HL1.out.trans (hl2.mono HL1.out.size))
  clear hr1 ho2 hl2 HB2 hr2 hr3 hs64
  go_wp2_with (go_at_call 14; refine (HP.out _).mono ?_; rintro _ w3 ⟨rfl, rfl⟩)
  go_ret
  exact ⟨rfl, HL2.out⟩
#print axioms shown_any
end Go.Proofs.Ytdchdmbkojnmcaa
