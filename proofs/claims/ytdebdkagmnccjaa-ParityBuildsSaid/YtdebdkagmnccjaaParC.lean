/- The landed code's Xor, Build, Rebuild, Plug and Check of sectors are what their definitions say. -/
import Derived.Test.YtdebdkagmnccjaaParT
namespace Go.Proofs.Ytdebdkagmnccjaa
open Go.RowKit
theorem hid_info {a : List UInt8} (h : a.length = 64) : Hid ((Try.prog.info? 24).map (·.size) = some (B8 a).length) := hide (by rw [B8_length, h]; exact psec_info)
theorem hid_zero {a : List UInt8} (h : a.length = 64) : Hid ((B8 a).length = (B8 zeroL).toArray.size) := hide (by rw [List.size_toArray, B8_length, B8_length, h, zeroL_length])
theorem together_two (w : World) (t : TypeId) (a b : List UInt8) (ha : a.length = 64) (hb : b.length = 64) :
    Calls Try.prog 18 #[.slice (some ⟨w.heap.size, 0, none⟩) 2 2] (w.alloc (.cells (B8 (a ++ b)).toArray t)) fun e w' => e = .returned (.agg (B8 (xorL a b)).toArray) ∧ Below w.heap.size w w' := by
  have hS : Secs [a, b] := fun s hs => by
    rcases List.mem_cons.1 hs with rfl | hs
    · exact ha
    · rw [List.mem_singleton.1 hs]; exact hb
  have hf : [a, b].flatten = a ++ b := by simp
  have hr : Reads (w.alloc (.cells (B8 (a ++ b)).toArray t)) (w.alloc (.cells (B8 (a ++ b)).toArray t)).heap.size 64 (some ⟨w.heap.size, 0, none⟩) 2 (B8 [a, b].flatten) := by
    rw [hf]
    exact Reads.fresh w (B8 (a ++ b)) t _ 64 2 (by rw [World.size_alloc]; omega) (by rw [B8_length, List.length_append, ha, hb])
  refine (together_any _ _ 2 2 [a, b] hS rfl hr (by decide)).mono ?_
  rintro _ w' ⟨rfl, hl⟩
  have e : parOf [a, b] = xorL a b := by rw [par_cons hS, par_one hb]
  rw [e]
  exact ⟨rfl, ((Below.refl _ w).alloc (Nat.le_refl _) _).trans (hl.mono (by rw [World.size_alloc]; omega))⟩
theorem together_three (w : World) (t : TypeId) (a b c : List UInt8) (ha : a.length = 64) (hb : b.length = 64) (hc : c.length = 64) :
    Calls Try.prog 18 #[.slice (some ⟨w.heap.size, 0, none⟩) 3 3] (w.alloc (.cells (B8 (a ++ (b ++ c))).toArray t)) fun e w' => e = .returned (.agg (B8 (xorL (xorL a b) c)).toArray) ∧ Below w.heap.size w w' := by
  have hT : Secs [b, c] := fun s hs => by
    rcases List.mem_cons.1 hs with rfl | hs
    · exact hb
    · rw [List.mem_singleton.1 hs]; exact hc
  have hS : Secs [a, b, c] := fun s hs => by
    rcases List.mem_cons.1 hs with rfl | hs
    · exact ha
    · exact hT s hs
  have hf : [a, b, c].flatten = a ++ (b ++ c) := by simp
  have hr : Reads (w.alloc (.cells (B8 (a ++ (b ++ c))).toArray t)) (w.alloc (.cells (B8 (a ++ (b ++ c))).toArray t)).heap.size 64 (some ⟨w.heap.size, 0, none⟩) 3 (B8 [a, b, c].flatten) := by
    rw [hf]
    exact Reads.fresh w (B8 (a ++ (b ++ c))) t _ 64 3 (by rw [World.size_alloc]; omega) (by rw [B8_length, List.length_append, List.length_append, ha, hb, hc])
  refine (together_any _ _ 3 3 [a, b, c] hS rfl hr (by decide)).mono ?_
  rintro _ w' ⟨rfl, hl⟩
  have e : parOf [a, b, c] = xorL (xorL a b) c := by rw [par_cons hS, par_cons hT, par_one hc, xorL_assoc]
  rw [e]
  exact ⟨rfl, ((Below.refl _ w).alloc (Nat.le_refl _) _).trans (hl.mono (by rw [World.size_alloc]; omega))⟩
set_option maxRecDepth 100000 in
set_option maxHeartbeats 4000000 in
theorem pxor_any (w : World) (a b : List UInt8) (ha : a.length = 64) (hb : b.length = 64) :
    Calls Try.prog 13 #[.agg (B8 a).toArray, .agg (B8 b).toArray] w fun e w' => e = .returned (.agg (B8 (xorL a b)).toArray) ∧ Below w.heap.size w w' := by
  have HVA := hide (show (Value.agg (B8 a).toArray).cells = (B8 a).toArray from rfl)
  have HVB := hide (show (Value.agg (B8 b).toArray).cells = (B8 b).toArray from rfl)
  have HAI := hid_info ha
  have HBI := hid_info hb
  have HXI := hid_info (xorL_length ha hb)
  have HXZ := hid_zero (xorL_length ha hb)
  have LA := hide ha
  have LB := hide hb
  have HT := hide (fun w => together_two w 24 a b ha hb)
  clear ha hb
  go_enter Try.func13, Try.ntmps13
  go_wp2_with (first
    | ((with_reducible refine at_slot 2 ?_); refine wpList_box_blk rfl 24 _ rfl (.agg (B8 a).toArray) rfl ?_; intro w1 hb1 hl1 hs1; rw [HVA.out] at hb1; have HA1 := hide hb1; have HL1 := hide hl1; clear hb1 hl1 hs1)
    | ((with_reducible refine at_slot 3 ?_); refine wpList_box_blk rfl 24 _ rfl (.agg (B8 b).toArray) rfl ?_; intro w2 hb2 hl2 hs2; rw [HVB.out] at hb2; have HB2 := hide hb2; have HA2 := hide (HA1.out.below hl2 HA1.out.lt); have HL2 := hide (HL1.out.trans (hl2.mono HL1.out.size)); clear hb2 hl2 hs2)
    | ((with_reducible refine at_slot 4 ?_); refine wpList_alloc_blk rfl 24 rfl _ (psec_nought _) ?_; intro w3 hb3q hl3 hs3; have HC3 : Hid (Blk w3 w2.heap.size 24 (B8 zeroL).toArray) := hide hb3q; have HB3 := hide (HB2.out.below hl3 HB2.out.lt); have HA3 := hide (HA2.out.below hl3 HA2.out.lt); have HL3 := hide (HL2.out.trans (hl3.mono HL2.out.size)); clear hb3q hl3 hs3)
    | ((with_reducible refine at_slot 5 ?_); refine wpList_load_blk rfl 24 (.tmp 2) rfl w.heap.size 0 24 _ HA3.out rfl (B8 a) _ (fun j v hj => by rw [Nat.zero_add]; simpa using hj) Try.underlying24 rfl HAI.out ?_)
    | ((with_reducible refine at_slot 6 ?_); refine wpList_load_blk rfl 24 (.tmp 3) rfl w1.heap.size 0 24 _ HB3.out rfl (B8 b) _ (fun j v hj => by rw [Nat.zero_add]; simpa using hj) Try.underlying24 rfl HBI.out ?_)
    | ((with_reducible refine at_slot 7 ?_); refine when_secs2 rfl (.tmp 5) (.tmp 6) rfl a b LA.out LB.out rfl rfl ?_)
    | (go_at_call 18; refine (HT.out w3).mono ?_; rintro _ w4 ⟨rfl, hl4⟩; have HC4 := hide (HC3.out.below hl4 HC3.out.lt); have HL4 := hide (HL3.out.trans (hl4.mono HL3.out.size)); clear hl4)
    | ((with_reducible refine at_store 4 ?_); refine wpList_store_all rfl 24 (.tmp 4) (.tmp 8) rfl w2.heap.size 24 _ HC4.out rfl (B8 (xorL a b)) rfl HXI.out HXZ.out (B8_one _) ?_; intro w5 hb5 hg5 hs5; clear hs5))
  refine ret_cell rfl w2.heap.size 24 (B8 (xorL a b)) _ hb5 rfl Try.underlying24 rfl HXI.out rfl ⟨rfl, ?_⟩
  exact HL4.out.grown hg5 HL4.out.size (fun g e => by injection e with e; have := HL2.out.size; omega)
set_option maxRecDepth 100000 in
set_option maxHeartbeats 4000000 in
theorem pplug_any (w : World) (a b c : List UInt8) (ha : a.length = 64) (hb : b.length = 64) (hc : c.length = 64) :
    Calls Try.prog 15 #[.agg (B8 a).toArray, .agg (B8 b).toArray, .agg (B8 c).toArray] w fun e w' => e = .returned (.agg (B8 (xorL (xorL a b) c)).toArray) ∧ Below w.heap.size w w' := by
  have HVA := hide (show (Value.agg (B8 a).toArray).cells = (B8 a).toArray from rfl)
  have HVB := hide (show (Value.agg (B8 b).toArray).cells = (B8 b).toArray from rfl)
  have HVC := hide (show (Value.agg (B8 c).toArray).cells = (B8 c).toArray from rfl)
  have HAI := hid_info ha
  have HBI := hid_info hb
  have HCI := hid_info hc
  have HXI := hid_info (xorL_length (xorL_length ha hb) hc)
  have HXZ := hid_zero (xorL_length (xorL_length ha hb) hc)
  have LA := hide ha
  have LB := hide hb
  have LC := hide hc
  have HT := hide (fun w => together_three w 24 a b c ha hb hc)
  clear ha hb hc
  go_enter Try.func15, Try.ntmps15
  go_wp2_with (first
    | ((with_reducible refine at_slot 3 ?_); refine wpList_box_blk rfl 24 _ rfl (.agg (B8 a).toArray) rfl ?_; intro w1 hb1 hl1 hs1; rw [HVA.out] at hb1; have HA1 := hide hb1; have HL1 := hide hl1; clear hb1 hl1 hs1)
    | ((with_reducible refine at_slot 4 ?_); refine wpList_box_blk rfl 24 _ rfl (.agg (B8 b).toArray) rfl ?_; intro w2 hb2 hl2 hs2; rw [HVB.out] at hb2; have HB2 := hide hb2; have HA2 := hide (HA1.out.below hl2 HA1.out.lt); have HL2 := hide (HL1.out.trans (hl2.mono HL1.out.size)); clear hb2 hl2 hs2)
    | ((with_reducible refine at_slot 5 ?_); refine wpList_box_blk rfl 24 _ rfl (.agg (B8 c).toArray) rfl ?_; intro w3 hb3 hl3 hs3; rw [HVC.out] at hb3; have HC3 := hide hb3; have HB3 := hide (HB2.out.below hl3 HB2.out.lt); have HA3 := hide (HA2.out.below hl3 HA2.out.lt); have HL3 := hide (HL2.out.trans (hl3.mono HL2.out.size)); clear hb3 hl3 hs3)
    | ((with_reducible refine at_slot 6 ?_); refine wpList_alloc_blk rfl 24 rfl _ (psec_nought _) ?_; intro w4 hb4q hl4 hs4; have HD4 : Hid (Blk w4 w3.heap.size 24 (B8 zeroL).toArray) := hide hb4q; have HC4 := hide (HC3.out.below hl4 HC3.out.lt); have HB4 := hide (HB3.out.below hl4 HB3.out.lt); have HA4 := hide (HA3.out.below hl4 HA3.out.lt); have HL4 := hide (HL3.out.trans (hl4.mono HL3.out.size)); clear hb4q hl4 hs4)
    | ((with_reducible refine at_slot 7 ?_); refine wpList_load_blk rfl 24 (.tmp 3) rfl w.heap.size 0 24 _ HA4.out rfl (B8 a) _ (fun j v hj => by rw [Nat.zero_add]; simpa using hj) Try.underlying24 rfl HAI.out ?_)
    | ((with_reducible refine at_slot 8 ?_); refine wpList_load_blk rfl 24 (.tmp 4) rfl w1.heap.size 0 24 _ HB4.out rfl (B8 b) _ (fun j v hj => by rw [Nat.zero_add]; simpa using hj) Try.underlying24 rfl HBI.out ?_)
    | ((with_reducible refine at_slot 9 ?_); refine wpList_load_blk rfl 24 (.tmp 5) rfl w2.heap.size 0 24 _ HC4.out rfl (B8 c) _ (fun j v hj => by rw [Nat.zero_add]; simpa using hj) Try.underlying24 rfl HCI.out ?_)
    | ((with_reducible refine at_slot 10 ?_); refine when_secs3 rfl (.tmp 7) (.tmp 8) (.tmp 9) rfl a b c LA.out LB.out LC.out rfl rfl rfl ?_)
    | (go_at_call 18; refine (HT.out w4).mono ?_; rintro _ w5 ⟨rfl, hl5⟩; have HD5 := hide (HD4.out.below hl5 HD4.out.lt); have HL5 := hide (HL4.out.trans (hl5.mono HL4.out.size)); clear hl5)
    | ((with_reducible refine at_store 6 ?_); refine wpList_store_all rfl 24 (.tmp 6) (.tmp 11) rfl w3.heap.size 24 _ HD5.out rfl (B8 (xorL (xorL a b) c)) rfl HXI.out HXZ.out (B8_one _) ?_; intro w6 hb6 hg6 hs6; clear hs6))
  refine ret_cell rfl w3.heap.size 24 (B8 (xorL (xorL a b) c)) _ hb6 rfl Try.underlying24 rfl HXI.out rfl ⟨rfl, ?_⟩
  exact HL5.out.grown hg6 HL5.out.size (fun g e => by injection e with e; have := HL3.out.size; omega)
set_option maxRecDepth 100000 in
set_option maxHeartbeats 4000000 in
theorem pbuild_any (w : World) (A : Option Addr) (n c : Nat) (L : List (List UInt8)) (hL : Secs L) (hn : L.length = n) (hr : Reads w w.heap.size 64 A n (B8 L.flatten)) (h5 : n ≤ 1000000) :
    Calls Try.prog 11 #[.slice A n c] w fun e w' => e = .returned (.agg (B8 (parOf L)).toArray) ∧ Below w.heap.size w w' := by
  have HR := hide hr
  have HXI := hid_info (par_length hL)
  have HXZ := hid_zero (par_length hL)
  have HT := hide (fun w hr => together_any w A n c L hL hn hr h5)
  clear hr hL hn
  go_enter Try.func11, Try.ntmps11
  go_wp2_with (first
    | ((with_reducible refine at_slot 2 ?_); refine wpList_alloc_blk rfl 24 rfl _ (psec_nought _) ?_; intro w1 hb1q hl1 hs1; have HC1 : Hid (Blk w1 w.heap.size 24 (B8 zeroL).toArray) := hide hb1q; have HL1 := hide hl1; have HR1 := hide (HR.out.later hl1); clear hb1q hl1 hs1)
    | (go_at_call 18; refine (HT.out w1 HR1.out).mono ?_; rintro _ w4 ⟨rfl, hl4⟩; have HC4 := hide (HC1.out.below hl4 HC1.out.lt); have HL4 := hide (HL1.out.trans (hl4.mono HL1.out.size)); clear hl4)
    | ((with_reducible refine at_store 2 ?_); refine wpList_store_all rfl 24 (.tmp 2) (.tmp 4) rfl w.heap.size 24 _ HC4.out rfl (B8 (parOf L)) rfl HXI.out HXZ.out (B8_one _) ?_; intro w5 hb5 hg5 hs5; clear hs5))
  refine ret_cell rfl w.heap.size 24 (B8 (parOf L)) _ hb5 rfl Try.underlying24 rfl HXI.out rfl ⟨rfl, ?_⟩
  exact HL4.out.grown hg5 HL4.out.size (fun g e => by injection e with e; omega)
set_option maxRecDepth 100000 in
set_option maxHeartbeats 4000000 in
theorem pcheck_any (w : World) (A : Option Addr) (n c : Nat) (L : List (List UInt8)) (hL : Secs L) (hn : L.length = n) (hr : Reads w w.heap.size 64 A n (B8 L.flatten)) (h5 : n ≤ 1000000) :
    Calls Try.prog 17 #[.slice A n c] w fun e w' => e = .returned (.bool (decide (parOf L = zeroL))) ∧ Below w.heap.size w w' := by
  obtain ⟨ui, UI0⟩ : ∃ ui, Try.prog.info? 5 = some ui := ⟨_, pu8_info⟩
  have UI := hide UI0
  have HT := hide (pbuild_any w A n c L hL hn hr h5)
  have LP := hide (par_length hL)
  obtain ⟨d, hd⟩ : ∃ d : Bool, decide (parOf L = zeroL) = d := ⟨_, rfl⟩
  rw [hd]
  have HD := hide hd
  clear hr hL hn UI0 hd
  go_enter Try.func17, Try.ntmps17
  go_wp2_with (first
    | (go_at_call 11; refine HT.out.mono ?_; rintro _ w4 ⟨rfl, hl4⟩; have HL4 := hide hl4; clear hl4)
    | ((with_reducible refine at_slot 5 ?_); refine wpList_build_is rfl 24 #[] rfl [] (by simp) _ psec_built ?_)
    | ((with_reducible refine at_slot 6 ?_); refine wpList_eql_bytes rfl 24 5 _ (.tmp 4) (.tmp 5) rfl 64 ui Try.underlying24 Try.underlying5 UI.out (by kernel_rfl) (by kernel_rfl) (parOf L) zeroL LP.out zeroL_length rfl rfl d HD.out ?_))
  go_ret
  exact ⟨rfl, HL4.out⟩
#print axioms pcheck_any
end Go.Proofs.Ytdebdkagmnccjaa
