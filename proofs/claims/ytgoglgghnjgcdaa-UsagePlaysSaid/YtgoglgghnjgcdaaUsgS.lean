/- The small case of law 14: it works. -/
import Derived.Test.YtgoglgghnjgcdaaUsgI
namespace Go.Proofs.Ytgoglgghnjgcdaa
open Go.RowKit Go.Maps

def sh1 : Us := (⟨[⟨3, 4⟩], []⟩ : Us)
def sh2 : Us := (⟨[⟨3, 4⟩, ⟨5, 2⟩], []⟩ : Us)
def sh3 : Us := (⟨[⟨3, 4⟩, ⟨5, 2⟩], [⟨3, 1, 7⟩]⟩ : Us)
def sh4 : Us := (⟨[⟨3, 4⟩, ⟨5, 2⟩], [⟨3, 1, 7⟩, ⟨5, 0, 8⟩]⟩ : Us)
def sh5 : Us := (⟨[⟨3, 4⟩, ⟨5, 2⟩], [⟨5, 0, 8⟩, ⟨5, 1, 7⟩]⟩ : Us)
theorem ok_small (i : Int) (h1 : 0 ≤ i) (h2 : i < 100) : okI64 i := by unfold okI64; omega
theorem run_build_ints3 (w : World) (a b c : Int) : (Instr.buildSlice 32 3 #[(0, .int .i64 a), (1, .int .i64 b), (2, .int .i64 c)]).run Try.prog w = .ok (.slice (some ⟨w.heap.size, 0, none⟩) 3 3) (w.alloc (.cells #[.int .i64 a, .int .i64 b, .int .i64 c] 3)) := by kernel_rfl
theorem reads3 (w : World) (a b c : Int) : Reads (w.alloc (.cells #[.int .i64 a, .int .i64 b, .int .i64 c] 3)) (w.alloc (.cells #[.int .i64 a, .int .i64 b, .int .i64 c] 3)).heap.size 1 (some ⟨w.heap.size, 0, none⟩) 3 (I64 [a, b, c]) := by
  refine ⟨rfl, fun _ => ⟨_, rfl, by rw [World.size_alloc]; exact Nat.lt_succ_self _, fun j u hu => ?_⟩⟩
  have hadd : (⟨w.heap.size, 0, none⟩ : Addr).add j = ⟨w.heap.size, j, none⟩ := by unfold Addr.add; split <;> simp_all
  rw [hadd, (Blk.new w 3 #[.int .i64 a, .int .i64 b, .int .i64 c]).cell j]
  simpa [I64] using hu
set_option maxRecDepth 100000 in
set_option maxHeartbeats 4000000 in
theorem shown14_any (w : World) : Calls Try.prog 9 #[] w fun e w' => e = .returned (.bool true) ∧ Below w.heap.size w w' := by
  have E0 := hide (show Us.none_.openE 3 4 = 0 by rfl)
  have O0 := hide (show Us.none_.open' 3 4 = sh1 by rfl)
  have E1 := hide (show sh1.openE 5 2 = 0 by rfl)
  have O1 := hide (show sh1.open' 5 2 = sh2 by rfl)
  have E2 := hide (show sh2.putE 3 1 7 = 0 by rfl)
  have O2 := hide (show sh2.put' 3 1 7 = sh3 by rfl)
  have E3 := hide (show sh3.putE 5 0 8 = 0 by rfl)
  have O3 := hide (show sh3.put' 5 0 8 = sh4 by rfl)
  have E4 := hide (show sh4.putE 5 1 7 = 0 by rfl)
  have O4 := hide (show sh4.put' 5 1 7 = sh5 by rfl)
  have EF := hide (show (sh5.fnd 7).getD (0, 0) = (5, 1) by rfl)
  have EF2 := hide (show (sh5.fnd 7).isSome = true by rfl)
  have EH := hide (show sh5.hole 5 = none by rfl)
  have EE := hide (show sh5.emptiest [5, 3, 9] = some 3 by rfl)
  have EB := hide (show sh5.at_ 5 0 = some 8 by rfl)
  have EC := hide (show sh5.cnt 3 = 0 by rfl)
  have EP := hide (show sh5.putE 5 0 9 = 9 by rfl)
  have OP := hide (show sh5.put' 5 0 9 = sh5 by rfl)
  have EL := hide (show sh5.clearE 3 1 = 9 by rfl)
  have OL := hide (show sh5.clear' 3 1 = sh5 by rfl)
  have hnl := run_eql_tab
  have hbs := run_build_ints3
  go_enter Try.func9, Try.ntmps9
  go_wp2_with (first
    | (go_at_call 17; with_reducible refine (HT9.out.clear_ 3 1 (ok_small 3 (by decide) (by decide)) (ok_small 1 (by decide) (by decide))).mono ?_; rw [EL.out, OL.out]; rintro _ wc ⟨rfl, htc, huc⟩)
    | (go_at_call 18; with_reducible refine (HT8.out.put_ 5 0 9 (ok_small 5 (by decide) (by decide)) (ok_small 0 (by decide) (by decide)) (ok_small 9 (by decide) (by decide)) (by omega)).mono ?_; rw [EP.out, OP.out]; rintro _ wp ⟨rfl, htp, hup⟩; have HT9 := hide htp; clear htp hup)
    | (go_at_call 25; with_reducible refine (HT8.out.count_ 3 (ok_small 3 (by decide) (by decide))).mono ?_; rw [EC.out]; rintro _ _ ⟨rfl, rfl⟩)
    | (go_at_call 20; with_reducible refine (HT8.out.block_ 5 0 (ok_small 5 (by decide) (by decide)) (ok_small 0 (by decide) (by decide))).mono ?_; rw [EB.out]; rintro _ _ ⟨rfl, rfl⟩)
    | (go_at_call 28; refine ((HT6.out.alloc _).emptiest_ _ 3 3 [5, 3, 9] (reads3 _ 5 3 9) (by intro v hv; simp at hv; rcases hv with rfl | rfl | rfl <;> (unfold okI64; omega)) (by decide)).mono ?_; rw [EE.out]; rintro _ w8 ⟨rfl, ht8, hu8⟩; have HT8 := hide ht8; clear ht8 hu8)
    | (go_at_call 22; with_reducible refine (HT6.out.hole_ 5 (ok_small 5 (by decide) (by decide))).mono ?_; rw [EH.out]; rintro _ _ ⟨rfl, rfl⟩)
    | (go_at_call 21; with_reducible refine (HT5.out.find_ 7 (ok_small 7 (by decide) (by decide))).mono ?_; rw [EF.out, EF2.out]; rintro _ w7 ⟨rfl, ht6, hu6⟩; have HT6 := hide ht6; clear ht6 hu6)
    | (go_at_call 18; with_reducible refine (HT4.out.put_ 5 1 7 (ok_small 5 (by decide) (by decide)) (ok_small 1 (by decide) (by decide)) (ok_small 7 (by decide) (by decide)) (by omega)).mono ?_; rw [E4.out, O4.out]; rintro _ w6 ⟨rfl, ht5, hu5⟩; have HT5 := hide ht5; clear ht5 hu5)
    | (go_at_call 18; with_reducible refine (HT3.out.put_ 5 0 8 (ok_small 5 (by decide) (by decide)) (ok_small 0 (by decide) (by decide)) (ok_small 8 (by decide) (by decide)) (by omega)).mono ?_; rw [E3.out, O3.out]; rintro _ w5 ⟨rfl, ht4, hu4⟩; have HT4 := hide ht4; clear ht4 hu4)
    | (go_at_call 18; with_reducible refine (HT2.out.put_ 3 1 7 (ok_small 3 (by decide) (by decide)) (ok_small 1 (by decide) (by decide)) (ok_small 7 (by decide) (by decide)) (by omega)).mono ?_; rw [E2.out, O2.out]; rintro _ w4 ⟨rfl, ht3, hu3⟩; have HT3 := hide ht3; clear ht3 hu3)
    | (go_at_call 16; with_reducible refine (HT1.out.open_ 5 2 (ok_small 5 (by decide) (by decide)) (by omega)).mono ?_; rw [E1.out, O1.out]; rintro _ w3 ⟨rfl, ht2, hu2⟩; have HT2 := hide ht2; clear ht2 hu2)
    | (go_at_call 16; with_reducible refine (HT0.out.open_ 3 4 (ok_small 3 (by decide) (by decide)) (by omega)).mono ?_; rw [E0.out, O0.out]; rintro _ w2 ⟨rfl, ht1, hu1⟩; have HT1 := hide ht1; clear ht1 hu1)
    | (go_at_call 10; refine (Tbl.new w w (Below.refl _ _)).mono ?_; rintro _ w1 ⟨rfl, ht0, _, _⟩; have HT0 := hide ht0; clear ht0))
  go_ret
  exact ⟨rfl, htc.low⟩
#print axioms shown14_any
end Go.Proofs.Ytgoglgghnjgcdaa
