/- ParityAlone's walk over the contracts. -/
import Derived.Test.YtdebdkagmnccjaaParR
namespace Go.Proofs.Ytdebdkagmnccjaa
open Go.RowKit
section
variable {ops : Array Oper} {o : Oper} {a : Act} {w : World} {K : Act → World → Prop} {Q : Exit → Act → World → Prop} {E : Prop}
theorem step_build_sec (hw : Region.wanted o (yielded ops a.tmps) = true) (x : Operand) (ho : o.op = .buildSlice 22 1 #[(0, x)]) (s : List UInt8) (hs : s.length = 64) (hx : a.eval x = .agg (B8 s).toArray)
    (hK : K (a.put o.dst (.slice (some ⟨w.heap.size, 0, none⟩) 1 1)) (w.alloc (.cells (B8 s).toArray 24))) : if Region.wanted o (yielded ops a.tmps) = true then Oper.wp Try.prog o a w K Q else E := by
  rw [if_pos hw]
  obtain ⟨i0, hi0, hz0, hz1, hz2⟩ := info_parts psec_parts
  have hrun := run_build_agg (P := Try.prog) w 22 24 i0 _ 64 Try.underlying22 hi0 (psec_nought _) hz1 (by decide) (by decide) (B8 s).toArray (B8_size hs)
  unfold Oper.wp
  simp [execOp, ho, hx, hrun, Result.andThen]
  exact hK
end
theorem reb_two {a b : List UInt8} (hb : b.length = 64) : rebS [a, b] 0 = b := by
  unfold rebS
  rw [if_pos (by simp)]
  exact par_one hb
theorem reb_one (a : List UInt8) : rebS [a] 0 = zeroL := by
  unfold rebS
  rw [if_pos (by simp)]
  rfl
theorem xor_own {a b : List UInt8} (ha : a.length = 64) (hb : b.length = 64) : xorL (xorL a a) b = b := by rw [xorL_same ha, zero_xorL hb]
set_option maxRecDepth 100000 in
set_option maxHeartbeats 8000000 in
theorem parityAlone_walk (K : ParK) (a b : List UInt8) (ha : a.length = 64) (hb : b.length = 64) (w : World) :
    Calls Try.prog 7 #[.agg (B8 a).toArray, .agg (B8 b).toArray] w fun e w' => e = .returned (.bool true) ∧ Below w.heap.size w w' := by
  obtain ⟨ui, UI0⟩ : ∃ ui, Try.prog.info? 5 = some ui := ⟨_, pu8_info⟩
  have UI := hide UI0
  have LA := hide ha
  have LB := hide hb
  obtain ⟨t, ht⟩ : ∃ t, t = xorL a b := ⟨_, rfl⟩
  have hlt : t.length = 64 := by rw [ht]; exact xorL_length ha hb
  have LT := hide hlt
  have HT := hide ht
  have HR2 := hide (reb_two (a := a) hb)
  have HR1 := hide (reb_one a)
  have HP1 := hide (par_one ha)
  have HB1 := hide (show xorL t b = a by rw [ht]; exact xorL_back ha hb)
  have HB2 := hide (show xorL b a = t by rw [ht]; exact xorL_comm b a)
  have HB3 := hide (xorL_same ha)
  have HB4 := hide (xor_own ha hb)
  have HVA := hide (show (Value.agg (B8 a).toArray).cells = (B8 a).toArray from rfl)
  have HVB := hide (show (Value.agg (B8 b).toArray).cells = (B8 b).toArray from rfl)
  have HSH := hide (fun w => shown11_any K w)
  have HUN : Hid (Try.prog.underlying 24 = some (.array 64 5)) := Try.underlying24
  have IA := hide (show (Try.prog.info? 24).map (·.size) = some (B8 a).length by rw [B8_length, ha]; exact psec_info)
  have IB := hide (show (Try.prog.info? 24).map (·.size) = some (B8 b).length by rw [B8_length, hb]; exact psec_info)
  have IT := hide (show (Try.prog.info? 24).map (·.size) = some (B8 t).length by rw [B8_length, hlt]; exact psec_info)
  have IZ := hide (show (Try.prog.info? 24).map (·.size) = some (B8 zeroL).length by rw [B8_length, zeroL_length]; exact psec_info)
  clear ha hb ht hlt UI0
  go_enter Try.func7, Try.ntmps7
  go_wp2_with (first
    | ((with_reducible refine at_slot 2 ?_); refine wpList_box_blk rfl 24 _ rfl (.agg (B8 a).toArray) rfl ?_; intro y1 hbq hl hs; rw [HVA.out] at hbq; have Ha_y1 : Hid (Blk y1 w.heap.size 24 (B8 a).toArray) := hide hbq; have HL_y1 := hide (hl); clear hbq hl hs)
    | ((with_reducible refine at_slot 3 ?_); refine wpList_box_blk rfl 24 _ rfl (.agg (B8 b).toArray) rfl ?_; intro y2 hbq hl hs; rw [HVB.out] at hbq; have Hb_y2 : Hid (Blk y2 y1.heap.size 24 (B8 b).toArray) := hide hbq; have HL_y2 := hide (HL_y1.out.trans (hl.mono HL_y1.out.size)); have Ha_y2 := hide (Ha_y1.out.below hl Ha_y1.out.lt); clear hbq hl hs)
    | (go_at_call 8; (with_reducible refine (HSH.out _).mono ?_); rintro _ y3 ⟨rfl, hl⟩; have HL_y3 := hide (HL_y2.out.trans (hl.mono HL_y2.out.size)); have Ha_y3 := hide (Ha_y2.out.below hl Ha_y2.out.lt); have Hb_y3 := hide (Hb_y2.out.below hl Hb_y2.out.lt); clear hl)
    | ((with_reducible refine at_slot 13 ?_); refine when_load rfl 24 (.tmp 2) rfl w.heap.size 0 24 _ Ha_y3.out rfl (B8 a) _ (fun j v hj => by rw [Nat.zero_add]; simpa using hj) Try.underlying24 rfl IA.out ?_)
    | ((with_reducible refine at_slot 14 ?_); refine when_load rfl 24 (.tmp 3) rfl y1.heap.size 0 24 _ Hb_y3.out rfl (B8 b) _ (fun j v hj => by rw [Nat.zero_add]; simpa using hj) Try.underlying24 rfl IB.out ?_)
    | ((with_reducible refine at_slot 15 ?_); refine when_secs2 rfl (.tmp 13) (.tmp 14) rfl a b LA.out LB.out rfl rfl ?_; have hb : Blk (y3.alloc (.cells (B8 (a ++ b)).toArray 24)) y3.heap.size 24 (B8 (a ++ b)).toArray := Blk.new _ _ _; have hl : Below y3.heap.size y3 (y3.alloc (.cells (B8 (a ++ b)).toArray 24)) := (Below.refl _ _).alloc (Nat.le_refl _) _; generalize y3.alloc (.cells (B8 (a ++ b)).toArray 24) = y4 at hb hl ⊢; have HR_y4 := hide hb; have HL_y4 := hide (HL_y3.out.trans (hl.mono HL_y3.out.size)); have Ha_y4 := hide (Ha_y3.out.below hl Ha_y3.out.lt); have Hb_y4 := hide (Hb_y3.out.below hl Hb_y3.out.lt); clear hb hl)
    | (go_at_call 9; (with_reducible refine (K.reb2 LA.out LB.out HR_y4.out 0 (by decide) (by decide)).mono ?_); rintro _ y5 ⟨rfl, hl⟩; rw [HR2.out, show ((rebE 2 0 : Nat) : Int) = 0 from rfl]; have HL_y5 := hide (HL_y4.out.trans (hl.mono HL_y4.out.size)); have Ha_y5 := hide (Ha_y4.out.below hl Ha_y4.out.lt); have Hb_y5 := hide (Hb_y4.out.below hl Hb_y4.out.lt); clear hl)
    | ((with_reducible refine at_slot 6 ?_); refine wpList_alloc_blk rfl 24 rfl _ (psec_nought _) ?_; intro y6 hbq hl1 hs1; have hb1 : Blk y6 y5.heap.size 24 (B8 zeroL).toArray := hbq; clear hbq hs1)
    | ((with_reducible refine at_store 6 ?_); refine wpList_store_all rfl 24 (.tmp 6) (.tmp 17) rfl y5.heap.size 24 _ hb1 rfl (B8 b) rfl IB.out (by rw [List.size_toArray, B8_length, B8_length, LB.out, zeroL_length]) (B8_one _) ?_; intro y7 hbz hg hs; have hz := hb1.lt; have hl : Below y5.heap.size y5 y7 := hl1.grown hg (by omega) (fun g e => by injection e with e; omega); have Hx_y7 := hide hbz; have HL_y7 := hide (HL_y5.out.trans (hl.mono HL_y5.out.size)); have Ha_y7 := hide (Ha_y5.out.below hl Ha_y5.out.lt); have Hb_y7 := hide (Hb_y5.out.below hl Hb_y5.out.lt); clear hz hl hs hg hbz hb1 hl1)
    | ((with_reducible refine at_slot 20 ?_); refine when_load rfl 24 (.tmp 2) rfl w.heap.size 0 24 _ Ha_y7.out rfl (B8 a) _ (fun j v hj => by rw [Nat.zero_add]; simpa using hj) Try.underlying24 rfl IA.out ?_)
    | ((with_reducible refine at_slot 21 ?_); refine when_secs1 rfl (.tmp 20) rfl a LA.out rfl ?_; have hb : Blk (y7.alloc (.cells (B8 a).toArray 24)) y7.heap.size 24 (B8 a).toArray := Blk.new _ _ _; have hl : Below y7.heap.size y7 (y7.alloc (.cells (B8 a).toArray 24)) := (Below.refl _ _).alloc (Nat.le_refl _) _; generalize y7.alloc (.cells (B8 a).toArray 24) = y8 at hb hl ⊢; have HR_y8 := hide hb; have HL_y8 := hide (HL_y7.out.trans (hl.mono HL_y7.out.size)); have Ha_y8 := hide (Ha_y7.out.below hl Ha_y7.out.lt); have Hb_y8 := hide (Hb_y7.out.below hl Hb_y7.out.lt); have Hx_y8 := hide (Hx_y7.out.below hl Hx_y7.out.lt); clear hb hl)
    | (go_at_call 9; (with_reducible refine (K.reb1 LA.out HR_y8.out 0 (by decide) (by decide)).mono ?_); rintro _ y9 ⟨rfl, hl⟩; rw [HR1.out, show ((rebE 1 0 : Nat) : Int) = 0 from rfl]; have HL_y9 := hide (HL_y8.out.trans (hl.mono HL_y8.out.size)); have Ha_y9 := hide (Ha_y8.out.below hl Ha_y8.out.lt); have Hb_y9 := hide (Hb_y8.out.below hl Hb_y8.out.lt); have Hx_y9 := hide (Hx_y8.out.below hl Hx_y8.out.lt); clear hl)
    | ((with_reducible refine at_slot 8 ?_); refine wpList_alloc_blk rfl 24 rfl _ (psec_nought _) ?_; intro y10 hbq hl1 hs1; have hb1 : Blk y10 y9.heap.size 24 (B8 zeroL).toArray := hbq; clear hbq hs1)
    | ((with_reducible refine at_store 8 ?_); refine wpList_store_all rfl 24 (.tmp 8) (.tmp 23) rfl y9.heap.size 24 _ hb1 rfl (B8 zeroL) rfl IZ.out rfl (B8_one _) ?_; intro y11 hbz hg hs; have hz := hb1.lt; have hl : Below y9.heap.size y9 y11 := hl1.grown hg (by omega) (fun g e => by injection e with e; omega); have Hy_y11 := hide hbz; have HL_y11 := hide (HL_y9.out.trans (hl.mono HL_y9.out.size)); have Ha_y11 := hide (Ha_y9.out.below hl Ha_y9.out.lt); have Hb_y11 := hide (Hb_y9.out.below hl Hb_y9.out.lt); have Hx_y11 := hide (Hx_y9.out.below hl Hx_y9.out.lt); clear hz hl hs hg hbz hb1 hl1)
    | ((with_reducible refine at_slot 25 ?_); refine when_load rfl 24 (.tmp 2) rfl w.heap.size 0 24 _ Ha_y11.out rfl (B8 a) _ (fun j v hj => by rw [Nat.zero_add]; simpa using hj) Try.underlying24 rfl IA.out ?_)
    | ((with_reducible refine at_slot 26 ?_); refine when_load rfl 24 (.tmp 3) rfl y1.heap.size 0 24 _ Hb_y11.out rfl (B8 b) _ (fun j v hj => by rw [Nat.zero_add]; simpa using hj) Try.underlying24 rfl IB.out ?_)
    | (go_at_call 13; (with_reducible refine (K.xor_any _ a b LA.out LB.out).mono ?_); rintro _ y12 ⟨rfl, hl⟩; rw [← HT.out]; have HL_y12 := hide (HL_y11.out.trans (hl.mono HL_y11.out.size)); have Ha_y12 := hide (Ha_y11.out.below hl Ha_y11.out.lt); have Hb_y12 := hide (Hb_y11.out.below hl Hb_y11.out.lt); have Hx_y12 := hide (Hx_y11.out.below hl Hx_y11.out.lt); have Hy_y12 := hide (Hy_y11.out.below hl Hy_y11.out.lt); clear hl)
    | ((with_reducible refine at_slot 10 ?_); refine wpList_alloc_blk rfl 24 rfl _ (psec_nought _) ?_; intro y13 hbq hl1 hs1; have hb1 : Blk y13 y12.heap.size 24 (B8 zeroL).toArray := hbq; clear hbq hs1)
    | ((with_reducible refine at_store 10 ?_); refine wpList_store_all rfl 24 (.tmp 10) (.tmp 27) rfl y12.heap.size 24 _ hb1 rfl (B8 t) rfl IT.out (by rw [List.size_toArray, B8_length, B8_length, LT.out, zeroL_length]) (B8_one _) ?_; intro y14 hbz hg hs; have hz := hb1.lt; have hl : Below y12.heap.size y12 y14 := hl1.grown hg (by omega) (fun g e => by injection e with e; omega); have Ht_y14 := hide hbz; have HL_y14 := hide (HL_y12.out.trans (hl.mono HL_y12.out.size)); have Ha_y14 := hide (Ha_y12.out.below hl Ha_y12.out.lt); have Hb_y14 := hide (Hb_y12.out.below hl Hb_y12.out.lt); have Hx_y14 := hide (Hx_y12.out.below hl Hx_y12.out.lt); have Hy_y14 := hide (Hy_y12.out.below hl Hy_y12.out.lt); clear hz hl hs hg hbz hb1 hl1))
  have HDR := hide ((Below.refl y14.heap.size y14).drew)
  have HFF : Hid (∀ W', Below y14.heap.size y14 W' → (W'.rangeAt w.heap.size 0 (B8 a) ∧ W'.rangeAt y1.heap.size 0 (B8 b) ∧ W'.rangeAt y5.heap.size 0 (B8 b) ∧ W'.rangeAt y9.heap.size 0 (B8 zeroL) ∧ W'.rangeAt y12.heap.size 0 (B8 t) ∧ Below y14.heap.size y14 W')) := hide fun W' h => ⟨range_of64 (Ha_y14.out.below h Ha_y14.out.lt), range_of64 (Hb_y14.out.below h Hb_y14.out.lt), range_of64 (Hx_y14.out.below h Hx_y14.out.lt), range_of64 (Hy_y14.out.below h Hy_y14.out.lt), range_of64 (Ht_y14.out.below h Ht_y14.out.lt), h⟩
  refine wp_region_held_drew (S := (fun W => W.rangeAt w.heap.size 0 (B8 a) ∧ W.rangeAt y1.heap.size 0 (B8 b) ∧ W.rangeAt y5.heap.size 0 (B8 b) ∧ W.rangeAt y9.heap.size 0 (B8 zeroL) ∧ W.rangeAt y12.heap.size 0 (B8 t) ∧ Below y14.heap.size y14 W)) (by kernel_rfl) ?_ (fun hHeld => ?_)
  · exact HFF.out _ HDR.out
  refine heldTake (i := 0) (v := ?_) rfl (by kernel_rfl) (by kernel_rfl) (by kernel_rfl) (fun _ _ _ h => h) (Or.inl ⟨by rfl, ?_⟩) (by assumption) ?_
  rotate_left
  · intro w hSw; (try dsimp only at hSw); go_simp <;> (with_reducible rfl)
  try simp only [Act.put, List.setIfInBounds_toArray, List.set_cons_zero, List.set_cons_succ]
  refine heldTake (i := 1) (v := ?_) rfl (by kernel_rfl) (by kernel_rfl) (by kernel_rfl) (fun _ _ _ h => h) (Or.inl ⟨by rfl, ?_⟩) (by assumption) ?_
  rotate_left
  · intro w hSw; (try dsimp only at hSw); go_simp <;> (with_reducible rfl)
  try simp only [Act.put, List.setIfInBounds_toArray, List.set_cons_zero, List.set_cons_succ]
  refine heldTake (i := 2) (v := .agg (B8 a).toArray) rfl (by kernel_rfl) (by kernel_rfl) (by kernel_rfl) (fun _ _ _ h => h) (yieldsIf_load_mid (by rfl) _ _ rfl _ _ rfl (B8 a) _ (fun W hW => hW.1) HUN.out rfl IA.out) (by assumption) ?_
  try simp only [Act.put, List.setIfInBounds_toArray, List.set_cons_zero, List.set_cons_succ]
  refine heldTake (i := 5) (v := .agg (B8 a).toArray) rfl (by kernel_rfl) (by kernel_rfl) (by kernel_rfl) (fun _ _ _ h => h) (yieldsIf_load_mid (by rfl) _ _ rfl _ _ rfl (B8 a) _ (fun W hW => hW.1) HUN.out rfl IA.out) (by assumption) ?_
  try simp only [Act.put, List.setIfInBounds_toArray, List.set_cons_zero, List.set_cons_succ]
  refine wpAnyH_ready (rs := [3]) (by kernel_rfl) (by simp) ?_
  refine heldCons (i := 3) rfl (fun Kq hKq => ?_) AllReadyH.nil
  refine step_build_sec (by rfl) (.tmp 30) rfl a LA.out rfl ?_
  have hbq : Blk (y14.drew.alloc (.cells (B8 a).toArray 24)) y14.drew.heap.size 24 (B8 a).toArray := Blk.new _ _ _
  have hq0 : Below y14.heap.size y14 (y14.drew.alloc (.cells (B8 a).toArray 24)) := HDR.out.alloc HDR.out.size _
  refine hKq.out _ _ (HFF.out _ hq0) (fun hHeld => ?_)
  clear hKq Kq
  try simp only [Act.put, List.setIfInBounds_toArray, List.set_cons_zero, List.set_cons_succ]
  refine wpAnyH_ready (rs := [4]) (by kernel_rfl) (by simp) ?_
  refine heldCons (i := 4) rfl (fun Kq hKq => ?_) AllReadyH.nil
  go_simp
  go_at_call 11
  refine (K.build1 LA.out hbq).mono ?_
  rintro _ z1 ⟨rfl, hz1⟩
  rw [HP1.out]
  have hq1 : Below y14.heap.size y14 z1 := hq0.trans (hz1.mono hq0.size)
  first | (refine hKq.out _ _ (HFF.out _ hq1) (fun hHeld => ?_)) | (go_wp2_with fail; refine hKq.out _ _ (HFF.out _ hq1) (fun hHeld => ?_))
  clear hKq Kq
  try simp only [Act.put, List.setIfInBounds_toArray, List.set_cons_zero, List.set_cons_succ]
  refine heldTake (i := 6) (v := .bool true) rfl (by kernel_rfl) (by kernel_rfl) (by kernel_rfl) (fun _ _ _ h => h) (Or.inl ⟨by rfl, fun W hW => run_eql_secs UI.out W _ (.tmp 32) (.tmp 33) _ rfl a a LA.out LA.out rfl rfl true (by simp)⟩) (by assumption) ?_
  try simp only [Act.put, List.setIfInBounds_toArray, List.set_cons_zero, List.set_cons_succ]
  refine heldTake (i := 7) (v := ?_) rfl (by kernel_rfl) (by kernel_rfl) (by kernel_rfl) (fun _ _ _ h => h) (Or.inl ⟨by rfl, ?_⟩) (by assumption) ?_
  rotate_left
  · intro w hSw; (try dsimp only at hSw); go_simp <;> (with_reducible rfl)
  try simp only [Act.put, List.setIfInBounds_toArray, List.set_cons_zero, List.set_cons_succ]
  refine heldTake (i := 8) (v := ?_) rfl (by kernel_rfl) (by kernel_rfl) (by kernel_rfl) (fun _ _ _ h => h) (Or.inl ⟨by rfl, ?_⟩) (by assumption) ?_
  rotate_left
  · intro w hSw; (try dsimp only at hSw); go_simp <;> (with_reducible rfl)
  try simp only [Act.put, List.setIfInBounds_toArray, List.set_cons_zero, List.set_cons_succ]
  refine heldTake (i := 9) (v := .agg (B8 b).toArray) rfl (by kernel_rfl) (by kernel_rfl) (by kernel_rfl) (fun _ _ _ h => h) (yieldsIf_load_mid (by rfl) _ _ rfl _ _ rfl (B8 b) _ (fun W hW => hW.2.2.1) HUN.out rfl IB.out) (by assumption) ?_
  try simp only [Act.put, List.setIfInBounds_toArray, List.set_cons_zero, List.set_cons_succ]
  refine heldTake (i := 10) (v := .agg (B8 b).toArray) rfl (by kernel_rfl) (by kernel_rfl) (by kernel_rfl) (fun _ _ _ h => h) (yieldsIf_load_mid (by rfl) _ _ rfl _ _ rfl (B8 b) _ (fun W hW => hW.2.1) HUN.out rfl IB.out) (by assumption) ?_
  try simp only [Act.put, List.setIfInBounds_toArray, List.set_cons_zero, List.set_cons_succ]
  refine heldTake (i := 11) (v := .bool true) rfl (by kernel_rfl) (by kernel_rfl) (by kernel_rfl) (fun _ _ _ h => h) (Or.inl ⟨by rfl, fun W hW => run_eql_secs UI.out W _ (.tmp 37) (.tmp 38) _ rfl b b LB.out LB.out rfl rfl true (by simp)⟩) (by assumption) ?_
  try simp only [Act.put, List.setIfInBounds_toArray, List.set_cons_zero, List.set_cons_succ]
  refine heldTake (i := 12) (v := ?_) rfl (by kernel_rfl) (by kernel_rfl) (by kernel_rfl) (fun _ _ _ h => h) (Or.inl ⟨by rfl, ?_⟩) (by assumption) ?_
  rotate_left
  · intro w hSw; (try dsimp only at hSw); go_simp <;> (with_reducible rfl)
  try simp only [Act.put, List.setIfInBounds_toArray, List.set_cons_zero, List.set_cons_succ]
  refine heldTake (i := 13) (v := ?_) rfl (by kernel_rfl) (by kernel_rfl) (by kernel_rfl) (fun _ _ _ h => h) (Or.inl ⟨by rfl, ?_⟩) (by assumption) ?_
  rotate_left
  · intro w hSw; (try dsimp only at hSw); go_simp <;> (with_reducible rfl)
  try simp only [Act.put, List.setIfInBounds_toArray, List.set_cons_zero, List.set_cons_succ]
  refine heldTake (i := 14) (v := ?_) rfl (by kernel_rfl) (by kernel_rfl) (by kernel_rfl) (fun _ _ _ h => h) (Or.inl ⟨by rfl, ?_⟩) (by assumption) ?_
  rotate_left
  · intro w hSw; (try dsimp only at hSw); go_simp <;> (with_reducible rfl)
  try simp only [Act.put, List.setIfInBounds_toArray, List.set_cons_zero, List.set_cons_succ]
  refine heldTake (i := 15) (v := ?_) rfl (by kernel_rfl) (by kernel_rfl) (by kernel_rfl) (fun _ _ _ h => h) (Or.inl ⟨by rfl, ?_⟩) (by assumption) ?_
  rotate_left
  · intro w hSw; (try dsimp only at hSw); go_simp <;> (with_reducible rfl)
  try simp only [Act.put, List.setIfInBounds_toArray, List.set_cons_zero, List.set_cons_succ]
  refine heldTake (i := 16) (v := ?_) rfl (by kernel_rfl) (by kernel_rfl) (by kernel_rfl) (fun _ _ _ h => h) (Or.inl ⟨by rfl, ?_⟩) (by assumption) ?_
  rotate_left
  · intro w hSw; (try dsimp only at hSw); go_simp <;> (with_reducible rfl)
  try simp only [Act.put, List.setIfInBounds_toArray, List.set_cons_zero, List.set_cons_succ]
  refine heldTake (i := 17) (v := ?_) rfl (by kernel_rfl) (by kernel_rfl) (by kernel_rfl) (fun _ _ _ h => h) (Or.inl ⟨by rfl, ?_⟩) (by assumption) ?_
  rotate_left
  · intro w hSw; (try dsimp only at hSw); go_simp <;> (with_reducible rfl)
  try simp only [Act.put, List.setIfInBounds_toArray, List.set_cons_zero, List.set_cons_succ]
  refine heldTake (i := 18) (v := .agg (B8 zeroL).toArray) rfl (by kernel_rfl) (by kernel_rfl) (by kernel_rfl) (fun _ _ _ h => h) (yieldsIf_load_mid (by rfl) _ _ rfl _ _ rfl (B8 zeroL) _ (fun W hW => hW.2.2.2.1) HUN.out rfl IZ.out) (by assumption) ?_
  try simp only [Act.put, List.setIfInBounds_toArray, List.set_cons_zero, List.set_cons_succ]
  refine heldTake (i := 19) (v := .agg (B8 zeroL).toArray) rfl (by kernel_rfl) (by kernel_rfl) (by kernel_rfl) (fun _ _ _ h => h) (Or.inl ⟨by rfl, fun W hW => run_build_none W _ rfl⟩) (by assumption) ?_
  try simp only [Act.put, List.setIfInBounds_toArray, List.set_cons_zero, List.set_cons_succ]
  refine heldTake (i := 20) (v := .bool true) rfl (by kernel_rfl) (by kernel_rfl) (by kernel_rfl) (fun _ _ _ h => h) (Or.inl ⟨by rfl, fun W hW => run_eql_secs UI.out W _ (.tmp 46) (.tmp 47) _ rfl zeroL zeroL zeroL_length zeroL_length rfl rfl true (by simp)⟩) (by assumption) ?_
  try simp only [Act.put, List.setIfInBounds_toArray, List.set_cons_zero, List.set_cons_succ]
  refine heldTake (i := 21) (v := ?_) rfl (by kernel_rfl) (by kernel_rfl) (by kernel_rfl) (fun _ _ _ h => h) (Or.inl ⟨by rfl, ?_⟩) (by assumption) ?_
  rotate_left
  · intro w hSw; (try dsimp only at hSw); go_simp <;> (with_reducible rfl)
  try simp only [Act.put, List.setIfInBounds_toArray, List.set_cons_zero, List.set_cons_succ]
  refine heldTake (i := 22) (v := ?_) rfl (by kernel_rfl) (by kernel_rfl) (by kernel_rfl) (fun _ _ _ h => h) (Or.inl ⟨by rfl, ?_⟩) (by assumption) ?_
  rotate_left
  · intro w hSw; (try dsimp only at hSw); go_simp <;> (with_reducible rfl)
  try simp only [Act.put, List.setIfInBounds_toArray, List.set_cons_zero, List.set_cons_succ]
  refine heldTake (i := 23) (v := ?_) rfl (by kernel_rfl) (by kernel_rfl) (by kernel_rfl) (fun _ _ _ h => h) (Or.inl ⟨by rfl, ?_⟩) (by assumption) ?_
  rotate_left
  · intro w hSw; (try dsimp only at hSw); go_simp <;> (with_reducible rfl)
  try simp only [Act.put, List.setIfInBounds_toArray, List.set_cons_zero, List.set_cons_succ]
  refine heldTake (i := 24) (v := ?_) rfl (by kernel_rfl) (by kernel_rfl) (by kernel_rfl) (fun _ _ _ h => h) (Or.inl ⟨by rfl, ?_⟩) (by assumption) ?_
  rotate_left
  · intro w hSw; (try dsimp only at hSw); go_simp <;> (with_reducible rfl)
  try simp only [Act.put, List.setIfInBounds_toArray, List.set_cons_zero, List.set_cons_succ]
  refine heldTake (i := 25) (v := ?_) rfl (by kernel_rfl) (by kernel_rfl) (by kernel_rfl) (fun _ _ _ h => h) (Or.inl ⟨by rfl, ?_⟩) (by assumption) ?_
  rotate_left
  · intro w hSw; (try dsimp only at hSw); go_simp <;> (with_reducible rfl)
  try simp only [Act.put, List.setIfInBounds_toArray, List.set_cons_zero, List.set_cons_succ]
  refine heldTake (i := 26) (v := ?_) rfl (by kernel_rfl) (by kernel_rfl) (by kernel_rfl) (fun _ _ _ h => h) (Or.inl ⟨by rfl, ?_⟩) (by assumption) ?_
  rotate_left
  · intro w hSw; (try dsimp only at hSw); go_simp <;> (with_reducible rfl)
  try simp only [Act.put, List.setIfInBounds_toArray, List.set_cons_zero, List.set_cons_succ]
  refine heldTake (i := 27) (v := .agg (B8 t).toArray) rfl (by kernel_rfl) (by kernel_rfl) (by kernel_rfl) (fun _ _ _ h => h) (yieldsIf_load_mid (by rfl) _ _ rfl _ _ rfl (B8 t) _ (fun W hW => hW.2.2.2.2.1) HUN.out rfl IT.out) (by assumption) ?_
  try simp only [Act.put, List.setIfInBounds_toArray, List.set_cons_zero, List.set_cons_succ]
  refine heldTake (i := 28) (v := .agg (B8 b).toArray) rfl (by kernel_rfl) (by kernel_rfl) (by kernel_rfl) (fun _ _ _ h => h) (yieldsIf_load_mid (by rfl) _ _ rfl _ _ rfl (B8 b) _ (fun W hW => hW.2.1) HUN.out rfl IB.out) (by assumption) ?_
  try simp only [Act.put, List.setIfInBounds_toArray, List.set_cons_zero, List.set_cons_succ]
  refine heldTake (i := 30) (v := .agg (B8 a).toArray) rfl (by kernel_rfl) (by kernel_rfl) (by kernel_rfl) (fun _ _ _ h => h) (yieldsIf_load_mid (by rfl) _ _ rfl _ _ rfl (B8 a) _ (fun W hW => hW.1) HUN.out rfl IA.out) (by assumption) ?_
  try simp only [Act.put, List.setIfInBounds_toArray, List.set_cons_zero, List.set_cons_succ]
  refine wpAnyH_ready (rs := [29]) (by kernel_rfl) (by simp) ?_
  refine heldCons (i := 29) rfl (fun Kq hKq => ?_) AllReadyH.nil
  go_simp
  go_at_call 13
  refine (K.xor_any _ t b LT.out LB.out).mono ?_
  rintro _ z2 ⟨rfl, hz2⟩
  rw [HB1.out]
  have hq2 : Below y14.heap.size y14 z2 := hq1.trans (hz2.mono hq1.size)
  first | (refine hKq.out _ _ (HFF.out _ hq2) (fun hHeld => ?_)) | (go_wp2_with fail; refine hKq.out _ _ (HFF.out _ hq2) (fun hHeld => ?_))
  clear hKq Kq
  try simp only [Act.put, List.setIfInBounds_toArray, List.set_cons_zero, List.set_cons_succ]
  refine heldTake (i := 31) (v := .bool true) rfl (by kernel_rfl) (by kernel_rfl) (by kernel_rfl) (fun _ _ _ h => h) (Or.inl ⟨by rfl, fun W hW => run_eql_secs UI.out W _ (.tmp 57) (.tmp 58) _ rfl a a LA.out LA.out rfl rfl true (by simp)⟩) (by assumption) ?_
  try simp only [Act.put, List.setIfInBounds_toArray, List.set_cons_zero, List.set_cons_succ]
  refine heldTake (i := 32) (v := ?_) rfl (by kernel_rfl) (by kernel_rfl) (by kernel_rfl) (fun _ _ _ h => h) (Or.inl ⟨by rfl, ?_⟩) (by assumption) ?_
  rotate_left
  · intro w hSw; (try dsimp only at hSw); go_simp <;> (with_reducible rfl)
  try simp only [Act.put, List.setIfInBounds_toArray, List.set_cons_zero, List.set_cons_succ]
  refine heldTake (i := 33) (v := ?_) rfl (by kernel_rfl) (by kernel_rfl) (by kernel_rfl) (fun _ _ _ h => h) (Or.inl ⟨by rfl, ?_⟩) (by assumption) ?_
  rotate_left
  · intro w hSw; (try dsimp only at hSw); go_simp <;> (with_reducible rfl)
  try simp only [Act.put, List.setIfInBounds_toArray, List.set_cons_zero, List.set_cons_succ]
  refine heldTake (i := 34) (v := .agg (B8 b).toArray) rfl (by kernel_rfl) (by kernel_rfl) (by kernel_rfl) (fun _ _ _ h => h) (yieldsIf_load_mid (by rfl) _ _ rfl _ _ rfl (B8 b) _ (fun W hW => hW.2.1) HUN.out rfl IB.out) (by assumption) ?_
  try simp only [Act.put, List.setIfInBounds_toArray, List.set_cons_zero, List.set_cons_succ]
  refine heldTake (i := 35) (v := .agg (B8 a).toArray) rfl (by kernel_rfl) (by kernel_rfl) (by kernel_rfl) (fun _ _ _ h => h) (yieldsIf_load_mid (by rfl) _ _ rfl _ _ rfl (B8 a) _ (fun W hW => hW.1) HUN.out rfl IA.out) (by assumption) ?_
  try simp only [Act.put, List.setIfInBounds_toArray, List.set_cons_zero, List.set_cons_succ]
  refine heldTake (i := 37) (v := .agg (B8 t).toArray) rfl (by kernel_rfl) (by kernel_rfl) (by kernel_rfl) (fun _ _ _ h => h) (yieldsIf_load_mid (by rfl) _ _ rfl _ _ rfl (B8 t) _ (fun W hW => hW.2.2.2.2.1) HUN.out rfl IT.out) (by assumption) ?_
  try simp only [Act.put, List.setIfInBounds_toArray, List.set_cons_zero, List.set_cons_succ]
  refine wpAnyH_ready (rs := [36]) (by kernel_rfl) (by simp) ?_
  refine heldCons (i := 36) rfl (fun Kq hKq => ?_) AllReadyH.nil
  go_simp
  go_at_call 13
  refine (K.xor_any _ b a LB.out LA.out).mono ?_
  rintro _ z3 ⟨rfl, hz3⟩
  rw [HB2.out]
  have hq3 : Below y14.heap.size y14 z3 := hq2.trans (hz3.mono hq2.size)
  first | (refine hKq.out _ _ (HFF.out _ hq3) (fun hHeld => ?_)) | (go_wp2_with fail; refine hKq.out _ _ (HFF.out _ hq3) (fun hHeld => ?_))
  clear hKq Kq
  try simp only [Act.put, List.setIfInBounds_toArray, List.set_cons_zero, List.set_cons_succ]
  refine heldTake (i := 38) (v := .bool true) rfl (by kernel_rfl) (by kernel_rfl) (by kernel_rfl) (fun _ _ _ h => h) (Or.inl ⟨by rfl, fun W hW => run_eql_secs UI.out W _ (.tmp 64) (.tmp 65) _ rfl t t LT.out LT.out rfl rfl true (by simp)⟩) (by assumption) ?_
  try simp only [Act.put, List.setIfInBounds_toArray, List.set_cons_zero, List.set_cons_succ]
  refine heldTake (i := 39) (v := ?_) rfl (by kernel_rfl) (by kernel_rfl) (by kernel_rfl) (fun _ _ _ h => h) (Or.inl ⟨by rfl, ?_⟩) (by assumption) ?_
  rotate_left
  · intro w hSw; (try dsimp only at hSw); go_simp <;> (with_reducible rfl)
  try simp only [Act.put, List.setIfInBounds_toArray, List.set_cons_zero, List.set_cons_succ]
  refine heldTake (i := 40) (v := ?_) rfl (by kernel_rfl) (by kernel_rfl) (by kernel_rfl) (fun _ _ _ h => h) (Or.inl ⟨by rfl, ?_⟩) (by assumption) ?_
  rotate_left
  · intro w hSw; (try dsimp only at hSw); go_simp <;> (with_reducible rfl)
  try simp only [Act.put, List.setIfInBounds_toArray, List.set_cons_zero, List.set_cons_succ]
  refine heldTake (i := 41) (v := .agg (B8 a).toArray) rfl (by kernel_rfl) (by kernel_rfl) (by kernel_rfl) (fun _ _ _ h => h) (yieldsIf_load_mid (by rfl) _ _ rfl _ _ rfl (B8 a) _ (fun W hW => hW.1) HUN.out rfl IA.out) (by assumption) ?_
  try simp only [Act.put, List.setIfInBounds_toArray, List.set_cons_zero, List.set_cons_succ]
  refine heldTake (i := 42) (v := .agg (B8 a).toArray) rfl (by kernel_rfl) (by kernel_rfl) (by kernel_rfl) (fun _ _ _ h => h) (yieldsIf_load_mid (by rfl) _ _ rfl _ _ rfl (B8 a) _ (fun W hW => hW.1) HUN.out rfl IA.out) (by assumption) ?_
  try simp only [Act.put, List.setIfInBounds_toArray, List.set_cons_zero, List.set_cons_succ]
  refine heldTake (i := 44) (v := .agg (B8 zeroL).toArray) rfl (by kernel_rfl) (by kernel_rfl) (by kernel_rfl) (fun _ _ _ h => h) (Or.inl ⟨by rfl, fun W hW => run_build_none W _ rfl⟩) (by assumption) ?_
  try simp only [Act.put, List.setIfInBounds_toArray, List.set_cons_zero, List.set_cons_succ]
  refine wpAnyH_ready (rs := [43]) (by kernel_rfl) (by simp) ?_
  refine heldCons (i := 43) rfl (fun Kq hKq => ?_) AllReadyH.nil
  go_simp
  go_at_call 13
  refine (K.xor_any _ a a LA.out LA.out).mono ?_
  rintro _ z4 ⟨rfl, hz4⟩
  rw [HB3.out]
  have hq4 : Below y14.heap.size y14 z4 := hq3.trans (hz4.mono hq3.size)
  first | (refine hKq.out _ _ (HFF.out _ hq4) (fun hHeld => ?_)) | (go_wp2_with fail; refine hKq.out _ _ (HFF.out _ hq4) (fun hHeld => ?_))
  clear hKq Kq
  try simp only [Act.put, List.setIfInBounds_toArray, List.set_cons_zero, List.set_cons_succ]
  refine heldTake (i := 45) (v := .bool true) rfl (by kernel_rfl) (by kernel_rfl) (by kernel_rfl) (fun _ _ _ h => h) (Or.inl ⟨by rfl, fun W hW => run_eql_secs UI.out W _ (.tmp 71) (.tmp 72) _ rfl zeroL zeroL zeroL_length zeroL_length rfl rfl true (by simp)⟩) (by assumption) ?_
  try simp only [Act.put, List.setIfInBounds_toArray, List.set_cons_zero, List.set_cons_succ]
  refine heldTake (i := 46) (v := ?_) rfl (by kernel_rfl) (by kernel_rfl) (by kernel_rfl) (fun _ _ _ h => h) (Or.inl ⟨by rfl, ?_⟩) (by assumption) ?_
  rotate_left
  · intro w hSw; (try dsimp only at hSw); go_simp <;> (with_reducible rfl)
  try simp only [Act.put, List.setIfInBounds_toArray, List.set_cons_zero, List.set_cons_succ]
  refine heldTake (i := 47) (v := ?_) rfl (by kernel_rfl) (by kernel_rfl) (by kernel_rfl) (fun _ _ _ h => h) (Or.inl ⟨by rfl, ?_⟩) (by assumption) ?_
  rotate_left
  · intro w hSw; (try dsimp only at hSw); go_simp <;> (with_reducible rfl)
  try simp only [Act.put, List.setIfInBounds_toArray, List.set_cons_zero, List.set_cons_succ]
  refine heldTake (i := 48) (v := .agg (B8 a).toArray) rfl (by kernel_rfl) (by kernel_rfl) (by kernel_rfl) (fun _ _ _ h => h) (yieldsIf_load_mid (by rfl) _ _ rfl _ _ rfl (B8 a) _ (fun W hW => hW.1) HUN.out rfl IA.out) (by assumption) ?_
  try simp only [Act.put, List.setIfInBounds_toArray, List.set_cons_zero, List.set_cons_succ]
  refine heldTake (i := 49) (v := .agg (B8 a).toArray) rfl (by kernel_rfl) (by kernel_rfl) (by kernel_rfl) (fun _ _ _ h => h) (yieldsIf_load_mid (by rfl) _ _ rfl _ _ rfl (B8 a) _ (fun W hW => hW.1) HUN.out rfl IA.out) (by assumption) ?_
  try simp only [Act.put, List.setIfInBounds_toArray, List.set_cons_zero, List.set_cons_succ]
  refine heldTake (i := 50) (v := .agg (B8 b).toArray) rfl (by kernel_rfl) (by kernel_rfl) (by kernel_rfl) (fun _ _ _ h => h) (yieldsIf_load_mid (by rfl) _ _ rfl _ _ rfl (B8 b) _ (fun W hW => hW.2.1) HUN.out rfl IB.out) (by assumption) ?_
  try simp only [Act.put, List.setIfInBounds_toArray, List.set_cons_zero, List.set_cons_succ]
  refine heldTake (i := 52) (v := .agg (B8 b).toArray) rfl (by kernel_rfl) (by kernel_rfl) (by kernel_rfl) (fun _ _ _ h => h) (yieldsIf_load_mid (by rfl) _ _ rfl _ _ rfl (B8 b) _ (fun W hW => hW.2.1) HUN.out rfl IB.out) (by assumption) ?_
  try simp only [Act.put, List.setIfInBounds_toArray, List.set_cons_zero, List.set_cons_succ]
  refine wpAnyH_ready (rs := [51]) (by kernel_rfl) (by simp) ?_
  refine heldCons (i := 51) rfl (fun Kq hKq => ?_) AllReadyH.nil
  go_simp
  go_at_call 15
  refine (K.plug_any _ a a b LA.out LA.out LB.out).mono ?_
  rintro _ z5 ⟨rfl, hz5⟩
  rw [HB4.out]
  have hq5 : Below y14.heap.size y14 z5 := hq4.trans (hz5.mono hq4.size)
  first | (refine hKq.out _ _ (HFF.out _ hq5) (fun hHeld => ?_)) | (go_wp2_with fail; refine hKq.out _ _ (HFF.out _ hq5) (fun hHeld => ?_))
  clear hKq Kq
  try simp only [Act.put, List.setIfInBounds_toArray, List.set_cons_zero, List.set_cons_succ]
  refine heldTake (i := 53) (v := .bool true) rfl (by kernel_rfl) (by kernel_rfl) (by kernel_rfl) (fun _ _ _ h => h) (Or.inl ⟨by rfl, fun W hW => run_eql_secs UI.out W _ (.tmp 79) (.tmp 80) _ rfl b b LB.out LB.out rfl rfl true (by simp)⟩) (by assumption) ?_
  try simp only [Act.put, List.setIfInBounds_toArray, List.set_cons_zero, List.set_cons_succ]
  refine heldTake (i := 54) (v := ?_) rfl (by kernel_rfl) (by kernel_rfl) (by kernel_rfl) (fun _ _ _ h => h) (Or.inl ⟨by rfl, ?_⟩) (by assumption) ?_
  rotate_left
  · intro w hSw; (try dsimp only at hSw); go_simp <;> (with_reducible rfl)
  try simp only [Act.put, List.setIfInBounds_toArray, List.set_cons_zero, List.set_cons_succ]
  refine heldTake (i := 55) (v := ?_) rfl (by kernel_rfl) (by kernel_rfl) (by kernel_rfl) (fun _ _ _ h => h) (Or.inl ⟨by rfl, ?_⟩) (by assumption) ?_
  rotate_left
  · intro w hSw; (try dsimp only at hSw); go_simp <;> (with_reducible rfl)
  try simp only [Act.put, List.setIfInBounds_toArray, List.set_cons_zero, List.set_cons_succ]
  refine wpAnyH_done (by kernel_rfl) ?_ _
  go_wp2_with fail
  go_ret
  exact ⟨rfl, HL_y14.out.trans (hq5.mono HL_y14.out.size)⟩
#print axioms parityAlone_walk
end Go.Proofs.Ytdebdkagmnccjaa
