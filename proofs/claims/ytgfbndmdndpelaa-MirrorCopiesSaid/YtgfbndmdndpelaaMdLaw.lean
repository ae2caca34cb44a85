/- MirrorDown's walk over the contracts. -/
import Derived.Test.YtgfbndmdndpelaaMirS
import Derived.Test.YtgfbndmdndpelaaMirQ
import Derived.Deep.DeepCutAuto
namespace Go.Proofs.Ytgfbndmdndpelaa
open Go.RowKit
set_option linter.unusedVariables false
theorem mask3 (v : Int) : ∃ N : Nat, bits .and .i64 v 7 = (N : Int) ∧ N < 8 := by
  have h := i64_mask v 3 (by decide)
  have h2 : bits .and .i64 v 7 = v % 8 := h
  exact ⟨(v % 8).toNat, by rw [h2]; omega, by omega⟩
theorem mask1 (v : Int) : ∃ N : Nat, bits .and .i64 v 1 = (N : Int) ∧ N ≤ 1 := by
  have h := i64_mask v 1 (by decide)
  have h2 : bits .and .i64 v 1 = v % 2 := h
  exact ⟨(v % 2).toNat, by rw [h2]; omega, by omega⟩
set_option maxRecDepth 100000 in
set_option maxHeartbeats 8000000 in
theorem mirrorDown_walk (K : MirK) (at_ n m : Int) (mk : Nat) (hmk : mk < 18446744073709551616) (w : World) :
    Calls Try.prog 8 #[.int .i64 at_, .int .i64 n, .int .i64 m, .int .u64 (mk : Int)] w fun e w' => e = .returned (.bool true) ∧ Below w.heap.size w w' := by
  obtain ⟨k, hk, hk8⟩ := mask3 at_
  obtain ⟨q, hq, hq1⟩ := mask1 m
  obtain ⟨a, ha⟩ : ∃ a, a = secOf n := ⟨_, rfl⟩
  obtain ⟨b, hb⟩ : ∃ b, b = secOf m := ⟨_, rfl⟩
  have HA := hide (fun w => ha ▸ sector_any n w)
  have HB := hide (fun w => hb ▸ sector_any m w)
  obtain ⟨c, S1, S4, hD⟩ := down_course k q mk hk8 hq1 a b
  have HD := hide hD
  have HW1 := hide (show ((LaidN 2).mwrite 0 k 1 (11 - k) a).1 = 0 from congrArg Prod.fst hD.w1)
  have HT1 := hide (show ((LaidN 2).mwrite 0 k 1 (11 - k) a).2 = S1 from congrArg Prod.snd hD.w1)
  obtain ⟨S3, hS3⟩ : ∃ S3, S3 = ((S1.flush 0).flush 1).arm (1 + q) mk := ⟨_, rfl⟩
  have HS3 := hide hS3
  have HF3 := hide (show S3.writes ≤ 2 by rw [hS3]; exact hD.few3)
  have HW2 := hide (show (S3.mwrite 0 k 1 (11 - k) b).1 = 6 by rw [hS3]; exact congrArg Prod.fst hD.w2)
  have HT2 := hide (show (S3.mwrite 0 k 1 (11 - k) b).2 = S4 by rw [hS3]; exact congrArg Prod.snd hD.w2)
  have HR1 := hide (show (S4.mread 0 k 1 (11 - k)).1 = zeroSec from congrArg Prod.fst hD.r)
  have HR2 := hide (show (S4.mread 0 k 1 (11 - k)).2 = 6 from congrArg Prod.snd hD.r)
  have HAL := hide (show (S4.malike 0 k 1 (11 - k)).1.1 = false ∧ (S4.malike 0 k 1 (11 - k)).1.2 = 6 ∧ (S4.malike 0 k 1 (11 - k)).2 = S4 by rw [hD.al]; exact ⟨rfl, rfl, rfl⟩)
  have HRR := hide (show (S4.start.mread 0 k 1 (11 - k)).1 = c ∧ (S4.start.mread 0 k 1 (11 - k)).2 = 0 by rw [hD.rr]; exact ⟨rfl, rfl⟩)
  have HNK := hide (show nI (11 - (k : Int)) = 11 - k by rw [show (11 - (k : Int)) = ((11 - k : Nat) : Int) by omega, nI_nat])
  have HSH := hide (fun w => shown12_any K w)
  have HAR := hide (show ((1 + q : Nat) : Int) = if 0 < 1 + (q : Int) then 1 + (q : Int) else 0 by rw [if_pos (by omega)]; omega)
  have HQ := hide hq
  clear ha hb hD hS3
  go_enter Try.func8, Try.ntmps8
  go_wp2_with (first
    | (go_at_call 9; refine (HSH.out _).mono ?_; rintro _ y1 ⟨rfl, hlq⟩; have HL_y1 := hide (hlq); clear hlq)
    | (go_at_call 10; refine (sit_laid w y1 HL_y1.out 2 (by decide)).mono ?_; rintro _ y2 ⟨rfl, hsq⟩; have HS_y2 : Hid (Sit w y2 y1.heap.size y2.heap.size (LaidN 2) []) := hide hsq; clear hsq)
    | ((with_reducible refine at_slot 11 ?_); refine wpList_alloc_blk rfl 33 rfl _ (mplace_zero _) ?_; intro y3 hbq hl1 hs1; clear hs1)
    | ((with_reducible refine at_store 11 ?_); refine wpList_store_all rfl 33 (.tmp 11) (.tmp 30) rfl y2.heap.size 33 _ hbq rfl (plL (0) ((k : Int))) rfl mplace_info rfl (mplace_one _ _) ?_; intro y4 hbz hg hs; have HS_y4 : Hid (Sit w y4 y1.heap.size y2.heap.size (LaidN 2) [(y2.heap.size, 33, plL (0) ((k : Int)))]) := hide (HS_y2.out.new hl1 hg hbz); clear hs hbq hl1 hg hbz)
    | ((with_reducible refine at_slot 12 ?_); refine wpList_alloc_blk rfl 33 rfl _ (mplace_zero _) ?_; intro y5 hbq hl1 hs1; clear hs1)
    | ((with_reducible refine at_store 12 ?_); refine wpList_store_all rfl 33 (.tmp 12) (.tmp 34) rfl y4.heap.size 33 _ hbq rfl (plL (1) (11 - (k : Int))) rfl mplace_info rfl (mplace_one _ _) ?_; intro y6 hbz hg hs; have HS_y6 : Hid (Sit w y6 y1.heap.size y2.heap.size (LaidN 2) [(y2.heap.size, 33, plL (0) ((k : Int))), (y4.heap.size, 33, plL (1) (11 - (k : Int)))]) := hide (HS_y4.out.new hl1 hg hbz); clear hs hbq hl1 hg hbz))
  refine wp_region_held_drew (S := (fun W => OwnV W y2.heap.size [(y2.heap.size, 33, plL (0) ((k : Int))), (y4.heap.size, 33, plL (1) (11 - (k : Int)))])) (by kernel_rfl) ?_ (fun hHeld => ?_)
  · exact HS_y6.out.drew.own
  have HS_dy6 := hide (HS_y6.out.drew)
  refine heldTake (i := 0) (v := ?_) rfl (by kernel_rfl) (by kernel_rfl) (by kernel_rfl) (fun _ _ _ h => h) (Or.inl ⟨by rfl, ?_⟩) (by assumption) ?_
  rotate_left
  · intro w hSw; (try dsimp only at hSw); go_simp <;> (with_reducible rfl)
  try simp only [Act.put, List.setIfInBounds_toArray, List.set_cons_zero, List.set_cons_succ]
  refine heldTake (i := 1) (v := .agg (plL (0) ((k : Int))).toArray) rfl (by kernel_rfl) (by kernel_rfl) (by kernel_rfl) (fun _ _ _ h => h) (yieldsIf_load_mid (by rfl) _ _ rfl _ _ rfl (plL (0) ((k : Int))) _ (fun W hW => hW.range 0 rfl) Try.underlying33 rfl mplace_info) (by assumption) ?_
  try simp only [Act.put, List.setIfInBounds_toArray, List.set_cons_zero, List.set_cons_succ]
  refine heldTake (i := 2) (v := .agg (plL (1) (11 - (k : Int))).toArray) rfl (by kernel_rfl) (by kernel_rfl) (by kernel_rfl) (fun _ _ _ h => h) (yieldsIf_load_mid (by rfl) _ _ rfl _ _ rfl (plL (1) (11 - (k : Int))) _ (fun W hW => hW.range 1 rfl) Try.underlying33 rfl mplace_info) (by assumption) ?_
  try simp only [Act.put, List.setIfInBounds_toArray, List.set_cons_zero, List.set_cons_succ]
  refine heldTake (i := 3) (v := ?_) rfl (by kernel_rfl) (by kernel_rfl) (by kernel_rfl) (fun _ _ _ h => h) (Or.inl ⟨by rfl, ?_⟩) (by assumption) ?_
  rotate_left
  · intro w hSw; (try dsimp only at hSw); go_simp <;> (with_reducible rfl)
  try simp only [Act.put, List.setIfInBounds_toArray, List.set_cons_zero, List.set_cons_succ]
  refine wpAnyH_ready (rs := [4]) (by kernel_rfl) (by simp) ?_
  refine heldCons (i := 4) rfl (fun Kq hKq => ?_) AllReadyH.nil
  go_simp
  go_at_call 23
  (with_reducible refine (HA.out _).mono ?_)
  rintro _ y7 ⟨rfl, hlq⟩
  have HS_y7 : Hid (Sit w y7 y1.heap.size y2.heap.size (LaidN 2) [(y2.heap.size, 33, plL (0) ((k : Int))), (y4.heap.size, 33, plL (1) (11 - (k : Int)))]) := hide (HS_dy6.out.later hlq)
  clear hlq
  first | (refine hKq.out _ _ HS_y7.out.own (fun hHeld => ?_)) | (go_wp2_with fail; refine hKq.out _ _ HS_y7.out.own (fun hHeld => ?_))
  clear hKq Kq
  try simp only [Act.put, List.setIfInBounds_toArray, List.set_cons_zero, List.set_cons_succ]
  refine wpAnyH_ready (rs := [5]) (by kernel_rfl) (by simp) ?_
  refine heldCons (i := 5) rfl (fun Kq hKq => ?_) AllReadyH.nil
  go_simp
  go_at_call 22
  (with_reducible refine (HS_y7.out.mwrite K (by rw [HD.out.few]; decide) (d := 0) (k := k) (d' := 1) (k' := 11 - k) rfl (nI_nat k) rfl HNK.out a).mono ?_)
  rintro _ y8 ⟨rfl, hsq⟩
  rw [HT1.out] at hsq
  rw [HW1.out]
  have HS_y8 : Hid (Sit w y8 y1.heap.size y2.heap.size S1 [(y2.heap.size, 33, plL (0) ((k : Int))), (y4.heap.size, 33, plL (1) (11 - (k : Int)))]) := hide (hsq)
  clear hsq
  first | (refine hKq.out _ _ HS_y8.out.own (fun hHeld => ?_)) | (go_wp2_with fail; refine hKq.out _ _ HS_y8.out.own (fun hHeld => ?_))
  clear hKq Kq
  try simp only [Act.put, List.setIfInBounds_toArray, List.set_cons_zero, List.set_cons_succ]
  refine heldTake (i := 6) (v := ?_) rfl (by kernel_rfl) (by kernel_rfl) (by kernel_rfl) (fun _ _ _ h => h) (Or.inl ⟨by rfl, ?_⟩) (by assumption) ?_
  rotate_left
  · intro w hSw; (try dsimp only at hSw); go_simp <;> (with_reducible rfl)
  try simp only [Act.put, List.setIfInBounds_toArray, List.set_cons_zero, List.set_cons_succ]
  refine heldTake (i := 7) (v := ?_) rfl (by kernel_rfl) (by kernel_rfl) (by kernel_rfl) (fun _ _ _ h => h) (Or.inl ⟨by rfl, ?_⟩) (by assumption) ?_
  rotate_left
  · intro w hSw; (try dsimp only at hSw); go_simp <;> (with_reducible rfl)
  try simp only [Act.put, List.setIfInBounds_toArray, List.set_cons_zero, List.set_cons_succ]
  refine heldTake (i := 8) (v := ?_) rfl (by kernel_rfl) (by kernel_rfl) (by kernel_rfl) (fun _ _ _ h => h) (Or.inl ⟨by rfl, ?_⟩) (by assumption) ?_
  rotate_left
  · intro w hSw; (try dsimp only at hSw); go_simp <;> (with_reducible rfl)
  try simp only [Act.put, List.setIfInBounds_toArray, List.set_cons_zero, List.set_cons_succ]
  refine wpAnyH_ready (rs := [9]) (by kernel_rfl) (by simp) ?_
  refine heldCons (i := 9) rfl (fun Kq hKq => ?_) AllReadyH.nil
  go_simp
  go_at_call 26
  (with_reducible refine (HS_y8.out.flush (di := 0) 0 rfl).mono ?_)
  rintro _ y9 ⟨rfl, hsq⟩
  rw [HD.out.f0, if_pos rfl] at hsq
  rw [HD.out.f0]
  have HS_y9 : Hid (Sit w y9 y1.heap.size y2.heap.size (S1.flush 0) [(y2.heap.size, 33, plL (0) ((k : Int))), (y4.heap.size, 33, plL (1) (11 - (k : Int)))]) := hide (hsq)
  clear hsq
  first | (refine hKq.out _ _ HS_y9.out.own (fun hHeld => ?_)) | (go_wp2_with fail; refine hKq.out _ _ HS_y9.out.own (fun hHeld => ?_))
  clear hKq Kq
  try simp only [Act.put, List.setIfInBounds_toArray, List.set_cons_zero, List.set_cons_succ]
  refine heldTake (i := 10) (v := ?_) rfl (by kernel_rfl) (by kernel_rfl) (by kernel_rfl) (fun _ _ _ h => h) (Or.inl ⟨by rfl, ?_⟩) (by assumption) ?_
  rotate_left
  · intro w hSw; (try dsimp only at hSw); go_simp <;> (with_reducible rfl)
  try simp only [Act.put, List.setIfInBounds_toArray, List.set_cons_zero, List.set_cons_succ]
  refine heldTake (i := 11) (v := ?_) rfl (by kernel_rfl) (by kernel_rfl) (by kernel_rfl) (fun _ _ _ h => h) (Or.inl ⟨by rfl, ?_⟩) (by assumption) ?_
  rotate_left
  · intro w hSw; (try dsimp only at hSw); go_simp <;> (with_reducible rfl)
  try simp only [Act.put, List.setIfInBounds_toArray, List.set_cons_zero, List.set_cons_succ]
  refine heldTake (i := 12) (v := ?_) rfl (by kernel_rfl) (by kernel_rfl) (by kernel_rfl) (fun _ _ _ h => h) (Or.inl ⟨by rfl, ?_⟩) (by assumption) ?_
  rotate_left
  · intro w hSw; (try dsimp only at hSw); go_simp <;> (with_reducible rfl)
  try simp only [Act.put, List.setIfInBounds_toArray, List.set_cons_zero, List.set_cons_succ]
  refine heldTake (i := 13) (v := ?_) rfl (by kernel_rfl) (by kernel_rfl) (by kernel_rfl) (fun _ _ _ h => h) (Or.inl ⟨by rfl, ?_⟩) (by assumption) ?_
  rotate_left
  · intro w hSw; (try dsimp only at hSw); go_simp <;> (with_reducible rfl)
  try simp only [Act.put, List.setIfInBounds_toArray, List.set_cons_zero, List.set_cons_succ]
  refine wpAnyH_ready (rs := [14]) (by kernel_rfl) (by simp) ?_
  refine heldCons (i := 14) rfl (fun Kq hKq => ?_) AllReadyH.nil
  go_simp
  go_at_call 26
  (with_reducible refine (HS_y9.out.flush (di := 1) 1 rfl).mono ?_)
  rintro _ y10 ⟨rfl, hsq⟩
  rw [HD.out.f1, if_pos rfl] at hsq
  rw [HD.out.f1]
  have HS_y10 : Hid (Sit w y10 y1.heap.size y2.heap.size (((S1.flush 0).flush 1)) [(y2.heap.size, 33, plL (0) ((k : Int))), (y4.heap.size, 33, plL (1) (11 - (k : Int)))]) := hide (hsq)
  clear hsq
  first | (refine hKq.out _ _ HS_y10.out.own (fun hHeld => ?_)) | (go_wp2_with fail; refine hKq.out _ _ HS_y10.out.own (fun hHeld => ?_))
  clear hKq Kq
  try simp only [Act.put, List.setIfInBounds_toArray, List.set_cons_zero, List.set_cons_succ]
  refine heldTake (i := 15) (v := ?_) rfl (by kernel_rfl) (by kernel_rfl) (by kernel_rfl) (fun _ _ _ h => h) (Or.inl ⟨by rfl, ?_⟩) (by assumption) ?_
  rotate_left
  · intro w hSw; (try dsimp only at hSw); go_simp <;> (with_reducible rfl)
  try simp only [Act.put, List.setIfInBounds_toArray, List.set_cons_zero, List.set_cons_succ]
  refine heldTake (i := 16) (v := ?_) rfl (by kernel_rfl) (by kernel_rfl) (by kernel_rfl) (fun _ _ _ h => h) (Or.inl ⟨by rfl, ?_⟩) (by assumption) ?_
  rotate_left
  · intro w hSw; (try dsimp only at hSw); go_simp <;> (with_reducible rfl)
  try simp only [Act.put, List.setIfInBounds_toArray, List.set_cons_zero, List.set_cons_succ]
  refine wpAnyH_done (by kernel_rfl) ?_ _
  clear hHeld
  go_upto_region 10 with (first
    | (go_at_call 33; (with_reducible refine (HS_y10.out.arm (1 + (q : Int)) (1 + q) mk HAR.out (by omega) hmk).mono ?_); rintro _ y11 ⟨rfl, hsq⟩; rw [← HS3.out] at hsq; have HS_y11 : Hid (Sit w y11 y1.heap.size y2.heap.size S3 [(y2.heap.size, 33, plL (0) ((k : Int))), (y4.heap.size, 33, plL (1) (11 - (k : Int)))]) := hide (hsq); clear hsq))
  refine wp_region_held_drew (S := (fun W => OwnV W y2.heap.size [(y2.heap.size, 33, plL (0) ((k : Int))), (y4.heap.size, 33, plL (1) (11 - (k : Int)))])) (by kernel_rfl) ?_ (fun hHeld => ?_)
  · exact HS_y11.out.drew.own
  have HS_dy11 := hide (HS_y11.out.drew)
  refine heldTake (i := 0) (v := ?_) rfl (by kernel_rfl) (by kernel_rfl) (by kernel_rfl) (fun _ _ _ h => h) (Or.inl ⟨by rfl, ?_⟩) (by assumption) ?_
  rotate_left
  · intro w hSw; (try dsimp only at hSw); go_simp <;> (with_reducible rfl)
  try simp only [Act.put, List.setIfInBounds_toArray, List.set_cons_zero, List.set_cons_succ]
  refine heldTake (i := 1) (v := .agg (plL (0) ((k : Int))).toArray) rfl (by kernel_rfl) (by kernel_rfl) (by kernel_rfl) (fun _ _ _ h => h) (yieldsIf_load_mid (by rfl) _ _ rfl _ _ rfl (plL (0) ((k : Int))) _ (fun W hW => hW.range 0 rfl) Try.underlying33 rfl mplace_info) (by assumption) ?_
  try simp only [Act.put, List.setIfInBounds_toArray, List.set_cons_zero, List.set_cons_succ]
  refine heldTake (i := 2) (v := .agg (plL (1) (11 - (k : Int))).toArray) rfl (by kernel_rfl) (by kernel_rfl) (by kernel_rfl) (fun _ _ _ h => h) (yieldsIf_load_mid (by rfl) _ _ rfl _ _ rfl (plL (1) (11 - (k : Int))) _ (fun W hW => hW.range 1 rfl) Try.underlying33 rfl mplace_info) (by assumption) ?_
  try simp only [Act.put, List.setIfInBounds_toArray, List.set_cons_zero, List.set_cons_succ]
  refine heldTake (i := 3) (v := ?_) rfl (by kernel_rfl) (by kernel_rfl) (by kernel_rfl) (fun _ _ _ h => h) (Or.inl ⟨by rfl, ?_⟩) (by assumption) ?_
  rotate_left
  · intro w hSw; (try dsimp only at hSw); go_simp <;> (with_reducible rfl)
  try simp only [Act.put, List.setIfInBounds_toArray, List.set_cons_zero, List.set_cons_succ]
  refine wpAnyH_ready (rs := [4]) (by kernel_rfl) (by simp) ?_
  refine heldCons (i := 4) rfl (fun Kq hKq => ?_) AllReadyH.nil
  go_simp
  go_at_call 23
  (with_reducible refine (HB.out _).mono ?_)
  rintro _ y12 ⟨rfl, hlq⟩
  have HS_y12 : Hid (Sit w y12 y1.heap.size y2.heap.size S3 [(y2.heap.size, 33, plL (0) ((k : Int))), (y4.heap.size, 33, plL (1) (11 - (k : Int)))]) := hide (HS_dy11.out.later hlq)
  clear hlq
  first | (refine hKq.out _ _ HS_y12.out.own (fun hHeld => ?_)) | (go_wp2_with fail; refine hKq.out _ _ HS_y12.out.own (fun hHeld => ?_))
  clear hKq Kq
  try simp only [Act.put, List.setIfInBounds_toArray, List.set_cons_zero, List.set_cons_succ]
  refine wpAnyH_ready (rs := [5]) (by kernel_rfl) (by simp) ?_
  refine heldCons (i := 5) rfl (fun Kq hKq => ?_) AllReadyH.nil
  go_simp
  go_at_call 22
  (with_reducible refine (HS_y12.out.mwrite K (by have := HF3.out; omega) (d := 0) (k := k) (d' := 1) (k' := 11 - k) rfl (nI_nat k) rfl HNK.out b).mono ?_)
  rintro _ y13 ⟨rfl, hsq⟩
  rw [HT2.out] at hsq
  rw [HW2.out]
  have HS_y13 : Hid (Sit w y13 y1.heap.size y2.heap.size S4 [(y2.heap.size, 33, plL (0) ((k : Int))), (y4.heap.size, 33, plL (1) (11 - (k : Int)))]) := hide (hsq)
  clear hsq
  first | (refine hKq.out _ _ HS_y13.out.own (fun hHeld => ?_)) | (go_wp2_with fail; refine hKq.out _ _ HS_y13.out.own (fun hHeld => ?_))
  clear hKq Kq
  try simp only [Act.put, List.setIfInBounds_toArray, List.set_cons_zero, List.set_cons_succ]
  refine heldTake (i := 6) (v := ?_) rfl (by kernel_rfl) (by kernel_rfl) (by kernel_rfl) (fun _ _ _ h => h) (Or.inl ⟨by rfl, ?_⟩) (by assumption) ?_
  rotate_left
  · intro w hSw; (try dsimp only at hSw); go_simp <;> (with_reducible rfl)
  try simp only [Act.put, List.setIfInBounds_toArray, List.set_cons_zero, List.set_cons_succ]
  refine wpAnyH_done (by kernel_rfl) ?_ _
  clear hHeld
  go_upto_region 12 with (first
    | ((with_reducible refine at_slot 66 ?_); refine when_own rfl (.tmp 11) rfl HS_y13.out.own 0 rfl rfl Try.underlying33 rfl mplace_info ?_)
    | ((with_reducible refine at_slot 67 ?_); refine when_own rfl (.tmp 12) rfl HS_y13.out.own 1 rfl rfl Try.underlying33 rfl mplace_info ?_)
    | (go_at_call 24; (with_reducible refine (HS_y13.out.mread K (d := 0) (k := k) (d' := 1) (k' := 11 - k) rfl (nI_nat k) rfl HNK.out).mono ?_); rintro _ y14 ⟨rfl, hsq⟩; rw [HR1.out, HR2.out]; have HS_y14 : Hid (Sit w y14 y1.heap.size y2.heap.size S4 [(y2.heap.size, 33, plL (0) ((k : Int))), (y4.heap.size, 33, plL (1) (11 - (k : Int)))]) := hide (hsq); clear hsq)
    | ((with_reducible refine at_slot 14 ?_); refine wpList_alloc_blk rfl 43 rfl _ (sec_zero _) ?_; intro y15 hbq hl1 hs1; clear hs1)
    | ((with_reducible refine at_store 14 ?_); refine wpList_store_all rfl 43 (.tmp 14) (.tmp 69) rfl y14.heap.size 43 _ hbq rfl (secL zeroSec) rfl (msec_size _) (msec_len _ _) (secL_one _) ?_; intro y16 hbz hg hs; have HS_y16 : Hid (Sit w y16 y1.heap.size y2.heap.size S4 [(y2.heap.size, 33, plL (0) ((k : Int))), (y4.heap.size, 33, plL (1) (11 - (k : Int))), (y14.heap.size, 43, secL zeroSec)]) := hide (HS_y14.out.new hl1 hg hbz); clear hs hbq hl1 hg hbz))
  go_upto_region 13 with (first
    | ((with_reducible refine at_slot 73 ?_); refine when_own rfl (.tmp 11) rfl HS_y16.out.own 0 rfl rfl Try.underlying33 rfl mplace_info ?_)
    | ((with_reducible refine at_slot 74 ?_); refine when_own rfl (.tmp 12) rfl HS_y16.out.own 1 rfl rfl Try.underlying33 rfl mplace_info ?_)
    | (go_at_call 25; (with_reducible refine (HS_y16.out.malike K (by have := HD.out.few4; omega) (d := 0) (k := k) (d' := 1) (k' := 11 - k) rfl (nI_nat k) rfl HNK.out).mono ?_); rintro _ y17 ⟨rfl, hsq⟩; rw [HAL.out.2.2] at hsq; rw [HAL.out.1, HAL.out.2.1]; have HS_y17 : Hid (Sit w y17 y1.heap.size y2.heap.size S4 [(y2.heap.size, 33, plL (0) ((k : Int))), (y4.heap.size, 33, plL (1) (11 - (k : Int))), (y14.heap.size, 43, secL zeroSec)]) := hide (hsq); clear hsq))
  go_upto_region 14 with (first
    | (go_at_call 28; (with_reducible refine (HS_y17.out.start).mono ?_); rintro _ y18 ⟨rfl, hsq⟩; have HS_y18 : Hid (Sit w y18 y1.heap.size y2.heap.size S4.start [(y2.heap.size, 33, plL (0) ((k : Int))), (y4.heap.size, 33, plL (1) (11 - (k : Int))), (y14.heap.size, 43, secL zeroSec)]) := hide (hsq); clear hsq))
  go_upto_region 15 with (first
    | ((with_reducible refine at_slot 82 ?_); refine when_own rfl (.tmp 11) rfl HS_y18.out.own 0 rfl rfl Try.underlying33 rfl mplace_info ?_)
    | (go_at_call 17; (with_reducible refine (HS_y18.out.read (d := 0) (k := k) rfl (nI_nat k)).mono ?_); rintro _ y19 ⟨rfl, hsq⟩; rw [HD.out.rx.1, HD.out.rx.2]; have HS_y19 : Hid (Sit w y19 y1.heap.size y2.heap.size S4.start [(y2.heap.size, 33, plL (0) ((k : Int))), (y4.heap.size, 33, plL (1) (11 - (k : Int))), (y14.heap.size, 43, secL zeroSec)]) := hide (hsq); clear hsq)
    | ((with_reducible refine at_slot 18 ?_); refine wpList_alloc_blk rfl 43 rfl _ (sec_zero _) ?_; intro y20 hbq hl1 hs1; clear hs1)
    | ((with_reducible refine at_store 18 ?_); refine wpList_store_all rfl 43 (.tmp 18) (.tmp 84) rfl y19.heap.size 43 _ hbq rfl (secL c) rfl (msec_size _) (msec_len _ _) (secL_one _) ?_; intro y21 hbz hg hs; have HS_y21 : Hid (Sit w y21 y1.heap.size y2.heap.size S4.start [(y2.heap.size, 33, plL (0) ((k : Int))), (y4.heap.size, 33, plL (1) (11 - (k : Int))), (y14.heap.size, 43, secL zeroSec), (y19.heap.size, 43, secL c)]) := hide (HS_y19.out.new hl1 hg hbz); clear hs hbq hl1 hg hbz))
  go_upto_region 16 with (first
    | ((with_reducible refine at_slot 88 ?_); refine when_own rfl (.tmp 12) rfl HS_y21.out.own 1 rfl rfl Try.underlying33 rfl mplace_info ?_)
    | (go_at_call 17; (with_reducible refine (HS_y21.out.read (d := 1) (k := 11 - k) rfl HNK.out).mono ?_); rintro _ y22 ⟨rfl, hsq⟩; rw [HD.out.ry.1, HD.out.ry.2]; have HS_y22 : Hid (Sit w y22 y1.heap.size y2.heap.size S4.start [(y2.heap.size, 33, plL (0) ((k : Int))), (y4.heap.size, 33, plL (1) (11 - (k : Int))), (y14.heap.size, 43, secL zeroSec), (y19.heap.size, 43, secL c)]) := hide (hsq); clear hsq)
    | ((with_reducible refine at_slot 20 ?_); refine wpList_alloc_blk rfl 43 rfl _ (sec_zero _) ?_; intro y23 hbq hl1 hs1; clear hs1)
    | ((with_reducible refine at_store 20 ?_); refine wpList_store_all rfl 43 (.tmp 20) (.tmp 90) rfl y22.heap.size 43 _ hbq rfl (secL a) rfl (msec_size _) (msec_len _ _) (secL_one _) ?_; intro y24 hbz hg hs; have HS_y24 : Hid (Sit w y24 y1.heap.size y2.heap.size S4.start [(y2.heap.size, 33, plL (0) ((k : Int))), (y4.heap.size, 33, plL (1) (11 - (k : Int))), (y14.heap.size, 43, secL zeroSec), (y19.heap.size, 43, secL c), (y22.heap.size, 43, secL a)]) := hide (HS_y22.out.new hl1 hg hbz); clear hs hbq hl1 hg hbz))
  go_upto_region 17 with (first
    | ((with_reducible refine at_slot 94 ?_); refine when_own rfl (.tmp 11) rfl HS_y24.out.own 0 rfl rfl Try.underlying33 rfl mplace_info ?_)
    | ((with_reducible refine at_slot 95 ?_); refine when_own rfl (.tmp 12) rfl HS_y24.out.own 1 rfl rfl Try.underlying33 rfl mplace_info ?_)
    | (go_at_call 24; (with_reducible refine (HS_y24.out.mread K (d := 0) (k := k) (d' := 1) (k' := 11 - k) rfl (nI_nat k) rfl HNK.out).mono ?_); rintro _ y25 ⟨rfl, hsq⟩; rw [HRR.out.1, HRR.out.2]; have HS_y25 : Hid (Sit w y25 y1.heap.size y2.heap.size S4.start [(y2.heap.size, 33, plL (0) ((k : Int))), (y4.heap.size, 33, plL (1) (11 - (k : Int))), (y14.heap.size, 43, secL zeroSec), (y19.heap.size, 43, secL c), (y22.heap.size, 43, secL a)]) := hide (hsq); clear hsq)
    | ((with_reducible refine at_slot 22 ?_); refine wpList_alloc_blk rfl 43 rfl _ (sec_zero _) ?_; intro y26 hbq hl1 hs1; clear hs1)
    | ((with_reducible refine at_store 22 ?_); refine wpList_store_all rfl 43 (.tmp 22) (.tmp 97) rfl y25.heap.size 43 _ hbq rfl (secL c) rfl (msec_size _) (msec_len _ _) (secL_one _) ?_; intro y27 hbz hg hs; have HS_y27 : Hid (Sit w y27 y1.heap.size y2.heap.size S4.start [(y2.heap.size, 33, plL (0) ((k : Int))), (y4.heap.size, 33, plL (1) (11 - (k : Int))), (y14.heap.size, 43, secL zeroSec), (y19.heap.size, 43, secL c), (y22.heap.size, 43, secL a), (y25.heap.size, 43, secL c)]) := hide (HS_y25.out.new hl1 hg hbz); clear hs hbq hl1 hg hbz))
  go_upto_region 19 with (first
    | ((with_reducible refine at_slot 122 ?_); refine when_own rfl (.tmp 22) rfl HS_y27.out.own 5 rfl rfl Try.underlying43 rfl (msec_size _) ?_)
    | ((with_reducible refine at_slot 123 ?_); refine when_own rfl (.tmp 18) rfl HS_y27.out.own 3 rfl rfl Try.underlying43 rfl (msec_size _) ?_)
    | ((with_reducible refine at_slot 124 ?_); refine when_neS rfl (.tmp 122) (.tmp 123) _ rfl c c rfl rfl false (by simp) ?_))
  by_cases hca : c = a
  · subst hca
    refine wp_region_held_drew (S := (fun W => OwnV W y2.heap.size [(y2.heap.size, 33, plL (0) ((k : Int))), (y4.heap.size, 33, plL (1) (11 - (k : Int))), (y14.heap.size, 43, secL zeroSec), (y19.heap.size, 43, secL c), (y22.heap.size, 43, secL c), (y25.heap.size, 43, secL c)])) (by kernel_rfl) ?_ (fun hHeld => ?_)
    · exact HS_y27.out.drew.own
    have HS_dy27 := hide (HS_y27.out.drew)
    refine heldTake (i := 0) (v := ?_) rfl (by kernel_rfl) (by kernel_rfl) (by kernel_rfl) (fun _ _ _ h => h) (Or.inl ⟨by rfl, ?_⟩) (by assumption) ?_
    rotate_left
    · intro w hSw; (try dsimp only at hSw); go_simp <;> (with_reducible rfl)
    try simp only [Act.put, List.setIfInBounds_toArray, List.set_cons_zero, List.set_cons_succ]
    refine heldTake (i := 1) (v := ?_) rfl (by kernel_rfl) (by kernel_rfl) (by kernel_rfl) (fun _ _ _ h => h) (Or.inl ⟨by rfl, ?_⟩) (by assumption) ?_
    rotate_left
    · intro w hSw; (try dsimp only at hSw); go_simp <;> (with_reducible rfl)
    try simp only [Act.put, List.setIfInBounds_toArray, List.set_cons_zero, List.set_cons_succ]
    refine heldTake (i := 2) (v := .agg (secL c).toArray) rfl (by kernel_rfl) (by kernel_rfl) (by kernel_rfl) (fun _ _ _ h => h) (yieldsIf_load_mid (by rfl) _ _ rfl _ _ rfl (secL c) _ (fun W hW => hW.range 3 rfl) Try.underlying43 rfl (msec_size _)) (by assumption) ?_
    try simp only [Act.put, List.setIfInBounds_toArray, List.set_cons_zero, List.set_cons_succ]
    refine heldTake (i := 3) (v := ?_) rfl (by kernel_rfl) (by kernel_rfl) (by kernel_rfl) (fun _ _ _ h => h) (Or.inl ⟨by rfl, ?_⟩) (by assumption) ?_
    rotate_left
    · intro w hSw; (try dsimp only at hSw); go_simp <;> (with_reducible rfl)
    try simp only [Act.put, List.setIfInBounds_toArray, List.set_cons_zero, List.set_cons_succ]
    refine wpAnyH_ready (rs := [4]) (by kernel_rfl) (by simp) ?_
    refine heldCons (i := 4) rfl (fun Kq hKq => ?_) AllReadyH.nil
    go_simp
    go_at_call 23
    (with_reducible refine (HA.out _).mono ?_)
    rintro _ y28 ⟨rfl, hlq⟩
    have HS_y28 : Hid (Sit w y28 y1.heap.size y2.heap.size S4.start [(y2.heap.size, 33, plL (0) ((k : Int))), (y4.heap.size, 33, plL (1) (11 - (k : Int))), (y14.heap.size, 43, secL zeroSec), (y19.heap.size, 43, secL c), (y22.heap.size, 43, secL c), (y25.heap.size, 43, secL c)]) := hide (HS_dy27.out.later hlq)
    clear hlq
    first | (refine hKq.out _ _ HS_y28.out.own (fun hHeld => ?_)) | (go_wp2_with fail; refine hKq.out _ _ HS_y28.out.own (fun hHeld => ?_))
    clear hKq Kq
    try simp only [Act.put, List.setIfInBounds_toArray, List.set_cons_zero, List.set_cons_succ]
    refine heldTake (i := 5) (v := .bool true) rfl (by kernel_rfl) (by kernel_rfl) (by kernel_rfl) (fun _ _ _ h => h) (Or.inl ⟨by rfl, fun W hW => run_eqS W _ (.tmp 128) (.tmp 130) _ rfl c c rfl rfl true (by simp)⟩) (by assumption) ?_
    try simp only [Act.put, List.setIfInBounds_toArray, List.set_cons_zero, List.set_cons_succ]
    refine heldTake (i := 6) (v := ?_) rfl (by kernel_rfl) (by kernel_rfl) (by kernel_rfl) (fun _ _ _ h => h) (Or.inl ⟨by rfl, ?_⟩) (by assumption) ?_
    rotate_left
    · intro w hSw; (try dsimp only at hSw); go_simp <;> (with_reducible rfl)
    try simp only [Act.put, List.setIfInBounds_toArray, List.set_cons_zero, List.set_cons_succ]
    refine heldTake (i := 7) (v := undef) rfl (by kernel_rfl) (by kernel_rfl) (by kernel_rfl) (fun _ _ _ h => h) (Or.inr ⟨by rfl, rfl⟩) (by assumption) ?_
    try simp only [Act.put, List.setIfInBounds_toArray, List.set_cons_zero, List.set_cons_succ]
    refine heldTake (i := 8) (v := undef) rfl (by kernel_rfl) (by kernel_rfl) (by kernel_rfl) (fun _ _ _ h => h) (Or.inr ⟨by rfl, rfl⟩) (by assumption) ?_
    try simp only [Act.put, List.setIfInBounds_toArray, List.set_cons_zero, List.set_cons_succ]
    refine heldTake (i := 9) (v := undef) rfl (by kernel_rfl) (by kernel_rfl) (by kernel_rfl) (fun _ _ _ h => h) (Or.inr ⟨by rfl, rfl⟩) (by assumption) ?_
    try simp only [Act.put, List.setIfInBounds_toArray, List.set_cons_zero, List.set_cons_succ]
    refine heldTake (i := 10) (v := undef) rfl (by kernel_rfl) (by kernel_rfl) (by kernel_rfl) (fun _ _ _ h => h) (Or.inr ⟨by rfl, rfl⟩) (by assumption) ?_
    try simp only [Act.put, List.setIfInBounds_toArray, List.set_cons_zero, List.set_cons_succ]
    refine heldTake (i := 11) (v := undef) rfl (by kernel_rfl) (by kernel_rfl) (by kernel_rfl) (fun _ _ _ h => h) (Or.inr ⟨by rfl, rfl⟩) (by assumption) ?_
    try simp only [Act.put, List.setIfInBounds_toArray, List.set_cons_zero, List.set_cons_succ]
    refine heldTake (i := 12) (v := undef) rfl (by kernel_rfl) (by kernel_rfl) (by kernel_rfl) (fun _ _ _ h => h) (Or.inr ⟨by rfl, rfl⟩) (by assumption) ?_
    try simp only [Act.put, List.setIfInBounds_toArray, List.set_cons_zero, List.set_cons_succ]
    refine heldTake (i := 13) (v := undef) rfl (by kernel_rfl) (by kernel_rfl) (by kernel_rfl) (fun _ _ _ h => h) (Or.inr ⟨by rfl, rfl⟩) (by assumption) ?_
    try simp only [Act.put, List.setIfInBounds_toArray, List.set_cons_zero, List.set_cons_succ]
    refine heldTake (i := 14) (v := undef) rfl (by kernel_rfl) (by kernel_rfl) (by kernel_rfl) (fun _ _ _ h => h) (Or.inr ⟨by rfl, rfl⟩) (by assumption) ?_
    try simp only [Act.put, List.setIfInBounds_toArray, List.set_cons_zero, List.set_cons_succ]
    refine heldTake (i := 15) (v := undef) rfl (by kernel_rfl) (by kernel_rfl) (by kernel_rfl) (fun _ _ _ h => h) (Or.inr ⟨by rfl, rfl⟩) (by assumption) ?_
    try simp only [Act.put, List.setIfInBounds_toArray, List.set_cons_zero, List.set_cons_succ]
    refine heldTake (i := 16) (v := ?_) rfl (by kernel_rfl) (by kernel_rfl) (by kernel_rfl) (fun _ _ _ h => h) (Or.inl ⟨by rfl, ?_⟩) (by assumption) ?_
    rotate_left
    · intro w hSw; (try dsimp only at hSw); go_simp <;> (with_reducible rfl)
    try simp only [Act.put, List.setIfInBounds_toArray, List.set_cons_zero, List.set_cons_succ]
    refine heldTake (i := 17) (v := ?_) rfl (by kernel_rfl) (by kernel_rfl) (by kernel_rfl) (fun _ _ _ h => h) (Or.inl ⟨by rfl, ?_⟩) (by assumption) ?_
    rotate_left
    · intro w hSw; (try dsimp only at hSw); go_simp <;> (with_reducible rfl)
    try simp only [Act.put, List.setIfInBounds_toArray, List.set_cons_zero, List.set_cons_succ]
    refine heldTake (i := 18) (v := ?_) rfl (by kernel_rfl) (by kernel_rfl) (by kernel_rfl) (fun _ _ _ h => h) (Or.inl ⟨by rfl, ?_⟩) (by assumption) ?_
    rotate_left
    · intro w hSw; (try dsimp only at hSw); go_simp <;> (with_reducible rfl)
    try simp only [Act.put, List.setIfInBounds_toArray, List.set_cons_zero, List.set_cons_succ]
    refine heldTake (i := 19) (v := .agg (secL c).toArray) rfl (by kernel_rfl) (by kernel_rfl) (by kernel_rfl) (fun _ _ _ h => h) (yieldsIf_load_mid (by rfl) _ _ rfl _ _ rfl (secL c) _ (fun W hW => hW.range 4 rfl) Try.underlying43 rfl (msec_size _)) (by assumption) ?_
    try simp only [Act.put, List.setIfInBounds_toArray, List.set_cons_zero, List.set_cons_succ]
    refine heldTake (i := 20) (v := ?_) rfl (by kernel_rfl) (by kernel_rfl) (by kernel_rfl) (fun _ _ _ h => h) (Or.inl ⟨by rfl, ?_⟩) (by assumption) ?_
    rotate_left
    · intro w hSw; (try dsimp only at hSw); go_simp <;> (with_reducible rfl)
    try simp only [Act.put, List.setIfInBounds_toArray, List.set_cons_zero, List.set_cons_succ]
    refine wpAnyH_ready (rs := [21]) (by kernel_rfl) (by simp) ?_
    refine heldCons (i := 21) rfl (fun Kq hKq => ?_) AllReadyH.nil
    go_simp
    go_at_call 23
    (with_reducible refine (HA.out _).mono ?_)
    rintro _ y29 ⟨rfl, hlq⟩
    have HS_y29 : Hid (Sit w y29 y1.heap.size y2.heap.size S4.start [(y2.heap.size, 33, plL (0) ((k : Int))), (y4.heap.size, 33, plL (1) (11 - (k : Int))), (y14.heap.size, 43, secL zeroSec), (y19.heap.size, 43, secL c), (y22.heap.size, 43, secL c), (y25.heap.size, 43, secL c)]) := hide (HS_y28.out.later hlq)
    clear hlq
    first | (refine hKq.out _ _ HS_y29.out.own (fun hHeld => ?_)) | (go_wp2_with fail; refine hKq.out _ _ HS_y29.out.own (fun hHeld => ?_))
    clear hKq Kq
    try simp only [Act.put, List.setIfInBounds_toArray, List.set_cons_zero, List.set_cons_succ]
    refine heldTake (i := 22) (v := .bool true) rfl (by kernel_rfl) (by kernel_rfl) (by kernel_rfl) (fun _ _ _ h => h) (Or.inl ⟨by rfl, fun W hW => run_eqS W _ (.tmp 145) (.tmp 147) _ rfl c c rfl rfl true (by simp)⟩) (by assumption) ?_
    try simp only [Act.put, List.setIfInBounds_toArray, List.set_cons_zero, List.set_cons_succ]
    refine heldTake (i := 23) (v := ?_) rfl (by kernel_rfl) (by kernel_rfl) (by kernel_rfl) (fun _ _ _ h => h) (Or.inl ⟨by rfl, ?_⟩) (by assumption) ?_
    rotate_left
    · intro w hSw; (try dsimp only at hSw); go_simp <;> (with_reducible rfl)
    try simp only [Act.put, List.setIfInBounds_toArray, List.set_cons_zero, List.set_cons_succ]
    refine heldTake (i := 24) (v := ?_) rfl (by kernel_rfl) (by kernel_rfl) (by kernel_rfl) (fun _ _ _ h => h) (Or.inl ⟨by rfl, ?_⟩) (by assumption) ?_
    rotate_left
    · intro w hSw; (try dsimp only at hSw); go_simp <;> (with_reducible rfl)
    try simp only [Act.put, List.setIfInBounds_toArray, List.set_cons_zero, List.set_cons_succ]
    refine wpAnyH_done (by kernel_rfl) ?_ _
    go_wp2_with fail
    go_ret
    exact ⟨rfl, HS_y29.out.low⟩
  · obtain ⟨rfl, rfl⟩ := HD.out.either.resolve_left hca
    refine wp_region_held_drew (S := (fun W => OwnV W y2.heap.size [(y2.heap.size, 33, plL (0) ((k : Int))), (y4.heap.size, 33, plL (1) (11 - (k : Int))), (y14.heap.size, 43, secL zeroSec), (y19.heap.size, 43, secL c), (y22.heap.size, 43, secL a), (y25.heap.size, 43, secL c)])) (by kernel_rfl) ?_ (fun hHeld => ?_)
    · exact HS_y27.out.drew.own
    have HS_dy27 := hide (HS_y27.out.drew)
    refine heldTake (i := 0) (v := ?_) rfl (by kernel_rfl) (by kernel_rfl) (by kernel_rfl) (fun _ _ _ h => h) (Or.inl ⟨by rfl, ?_⟩) (by assumption) ?_
    rotate_left
    · intro w hSw; (try dsimp only at hSw); go_simp <;> (with_reducible rfl)
    try simp only [Act.put, List.setIfInBounds_toArray, List.set_cons_zero, List.set_cons_succ]
    refine heldTake (i := 1) (v := ?_) rfl (by kernel_rfl) (by kernel_rfl) (by kernel_rfl) (fun _ _ _ h => h) (Or.inl ⟨by rfl, ?_⟩) (by assumption) ?_
    rotate_left
    · intro w hSw; (try dsimp only at hSw); go_simp <;> (with_reducible rfl)
    try simp only [Act.put, List.setIfInBounds_toArray, List.set_cons_zero, List.set_cons_succ]
    refine heldTake (i := 2) (v := .agg (secL c).toArray) rfl (by kernel_rfl) (by kernel_rfl) (by kernel_rfl) (fun _ _ _ h => h) (yieldsIf_load_mid (by rfl) _ _ rfl _ _ rfl (secL c) _ (fun W hW => hW.range 3 rfl) Try.underlying43 rfl (msec_size _)) (by assumption) ?_
    try simp only [Act.put, List.setIfInBounds_toArray, List.set_cons_zero, List.set_cons_succ]
    refine heldTake (i := 3) (v := ?_) rfl (by kernel_rfl) (by kernel_rfl) (by kernel_rfl) (fun _ _ _ h => h) (Or.inl ⟨by rfl, ?_⟩) (by assumption) ?_
    rotate_left
    · intro w hSw; (try dsimp only at hSw); go_simp <;> (with_reducible rfl)
    try simp only [Act.put, List.setIfInBounds_toArray, List.set_cons_zero, List.set_cons_succ]
    refine wpAnyH_ready (rs := [4]) (by kernel_rfl) (by simp) ?_
    refine heldCons (i := 4) rfl (fun Kq hKq => ?_) AllReadyH.nil
    go_simp
    go_at_call 23
    (with_reducible refine (HA.out _).mono ?_)
    rintro _ y28 ⟨rfl, hlq⟩
    have HS_y28 : Hid (Sit w y28 y1.heap.size y2.heap.size S4.start [(y2.heap.size, 33, plL (0) ((k : Int))), (y4.heap.size, 33, plL (1) (11 - (k : Int))), (y14.heap.size, 43, secL zeroSec), (y19.heap.size, 43, secL c), (y22.heap.size, 43, secL a), (y25.heap.size, 43, secL c)]) := hide (HS_dy27.out.later hlq)
    clear hlq
    first | (refine hKq.out _ _ HS_y28.out.own (fun hHeld => ?_)) | (go_wp2_with fail; refine hKq.out _ _ HS_y28.out.own (fun hHeld => ?_))
    clear hKq Kq
    try simp only [Act.put, List.setIfInBounds_toArray, List.set_cons_zero, List.set_cons_succ]
    refine heldTake (i := 5) (v := .bool false) rfl (by kernel_rfl) (by kernel_rfl) (by kernel_rfl) (fun _ _ _ h => h) (Or.inl ⟨by rfl, fun W hW => run_eqS W _ (.tmp 128) (.tmp 130) _ rfl c a rfl rfl false (by simpa using hca)⟩) (by assumption) ?_
    try simp only [Act.put, List.setIfInBounds_toArray, List.set_cons_zero, List.set_cons_succ]
    refine heldTake (i := 6) (v := ?_) rfl (by kernel_rfl) (by kernel_rfl) (by kernel_rfl) (fun _ _ _ h => h) (Or.inl ⟨by rfl, ?_⟩) (by assumption) ?_
    rotate_left
    · intro w hSw; (try dsimp only at hSw); go_simp <;> (with_reducible rfl)
    try simp only [Act.put, List.setIfInBounds_toArray, List.set_cons_zero, List.set_cons_succ]
    refine heldTake (i := 7) (v := .agg (secL c).toArray) rfl (by kernel_rfl) (by kernel_rfl) (by kernel_rfl) (fun _ _ _ h => h) (yieldsIf_load_mid (by rfl) _ _ rfl _ _ rfl (secL c) _ (fun W hW => hW.range 3 rfl) Try.underlying43 rfl (msec_size _)) (by assumption) ?_
    try simp only [Act.put, List.setIfInBounds_toArray, List.set_cons_zero, List.set_cons_succ]
    refine heldTake (i := 8) (v := ?_) rfl (by kernel_rfl) (by kernel_rfl) (by kernel_rfl) (fun _ _ _ h => h) (Or.inl ⟨by rfl, ?_⟩) (by assumption) ?_
    rotate_left
    · intro w hSw; (try dsimp only at hSw); go_simp <;> (with_reducible rfl)
    try simp only [Act.put, List.setIfInBounds_toArray, List.set_cons_zero, List.set_cons_succ]
    refine wpAnyH_ready (rs := [9]) (by kernel_rfl) (by simp) ?_
    refine heldCons (i := 9) rfl (fun Kq hKq => ?_) AllReadyH.nil
    go_simp
    go_at_call 23
    (with_reducible refine (HB.out _).mono ?_)
    rintro _ y29 ⟨rfl, hlq⟩
    have HS_y29 : Hid (Sit w y29 y1.heap.size y2.heap.size S4.start [(y2.heap.size, 33, plL (0) ((k : Int))), (y4.heap.size, 33, plL (1) (11 - (k : Int))), (y14.heap.size, 43, secL zeroSec), (y19.heap.size, 43, secL c), (y22.heap.size, 43, secL a), (y25.heap.size, 43, secL c)]) := hide (HS_y28.out.later hlq)
    clear hlq
    first | (refine hKq.out _ _ HS_y29.out.own (fun hHeld => ?_)) | (go_wp2_with fail; refine hKq.out _ _ HS_y29.out.own (fun hHeld => ?_))
    clear hKq Kq
    try simp only [Act.put, List.setIfInBounds_toArray, List.set_cons_zero, List.set_cons_succ]
    refine heldTake (i := 10) (v := .bool true) rfl (by kernel_rfl) (by kernel_rfl) (by kernel_rfl) (fun _ _ _ h => h) (Or.inl ⟨by rfl, fun W hW => run_eqS W _ (.tmp 133) (.tmp 135) _ rfl c c rfl rfl true (by simp)⟩) (by assumption) ?_
    try simp only [Act.put, List.setIfInBounds_toArray, List.set_cons_zero, List.set_cons_succ]
    refine heldTake (i := 11) (v := ?_) rfl (by kernel_rfl) (by kernel_rfl) (by kernel_rfl) (fun _ _ _ h => h) (Or.inl ⟨by rfl, ?_⟩) (by assumption) ?_
    rotate_left
    · intro w hSw; (try dsimp only at hSw); go_simp <;> (with_reducible rfl)
    try simp only [Act.put, List.setIfInBounds_toArray, List.set_cons_zero, List.set_cons_succ]
    refine heldTake (i := 12) (v := ?_) rfl (by kernel_rfl) (by kernel_rfl) (by kernel_rfl) (fun _ _ _ h => h) (Or.inl ⟨by rfl, ?_⟩) (by assumption) ?_
    rotate_left
    · intro w hSw; (try dsimp only at hSw); go_simp <;> (with_reducible rfl)
    try simp only [Act.put, List.setIfInBounds_toArray, List.set_cons_zero, List.set_cons_succ]
    refine heldTake (i := 13) (v := ?_) rfl (by kernel_rfl) (by kernel_rfl) (by kernel_rfl) (fun _ _ _ h => h) (Or.inl ⟨by rfl, ?_⟩) (by assumption) ?_
    rotate_left
    · intro w hSw; (try dsimp only at hSw); go_simp <;> (with_reducible rfl)
    try simp only [Act.put, List.setIfInBounds_toArray, List.set_cons_zero, List.set_cons_succ]
    refine heldTake (i := 14) (v := ?_) rfl (by kernel_rfl) (by kernel_rfl) (by kernel_rfl) (fun _ _ _ h => h) (Or.inl ⟨by rfl, ?_⟩) (by assumption) ?_
    rotate_left
    · intro w hSw; (try dsimp only at hSw); go_simp <;> (with_reducible rfl)
    try simp only [Act.put, List.setIfInBounds_toArray, List.set_cons_zero, List.set_cons_succ]
    refine heldTake (i := 15) (v := ?_) rfl (by kernel_rfl) (by kernel_rfl) (by kernel_rfl) (fun _ _ _ h => h) (Or.inl ⟨by rfl, ?_⟩) (by assumption) ?_
    rotate_left
    · intro w hSw; (try dsimp only at hSw); go_simp <;> (with_reducible rfl)
    try simp only [Act.put, List.setIfInBounds_toArray, List.set_cons_zero, List.set_cons_succ]
    refine heldTake (i := 16) (v := ?_) rfl (by kernel_rfl) (by kernel_rfl) (by kernel_rfl) (fun _ _ _ h => h) (Or.inl ⟨by rfl, ?_⟩) (by assumption) ?_
    rotate_left
    · intro w hSw; (try dsimp only at hSw); go_simp <;> (with_reducible rfl)
    try simp only [Act.put, List.setIfInBounds_toArray, List.set_cons_zero, List.set_cons_succ]
    refine heldTake (i := 17) (v := ?_) rfl (by kernel_rfl) (by kernel_rfl) (by kernel_rfl) (fun _ _ _ h => h) (Or.inl ⟨by rfl, ?_⟩) (by assumption) ?_
    rotate_left
    · intro w hSw; (try dsimp only at hSw); go_simp <;> (with_reducible rfl)
    try simp only [Act.put, List.setIfInBounds_toArray, List.set_cons_zero, List.set_cons_succ]
    refine heldTake (i := 18) (v := ?_) rfl (by kernel_rfl) (by kernel_rfl) (by kernel_rfl) (fun _ _ _ h => h) (Or.inl ⟨by rfl, ?_⟩) (by assumption) ?_
    rotate_left
    · intro w hSw; (try dsimp only at hSw); go_simp <;> (with_reducible rfl)
    try simp only [Act.put, List.setIfInBounds_toArray, List.set_cons_zero, List.set_cons_succ]
    refine heldTake (i := 19) (v := .agg (secL a).toArray) rfl (by kernel_rfl) (by kernel_rfl) (by kernel_rfl) (fun _ _ _ h => h) (yieldsIf_load_mid (by rfl) _ _ rfl _ _ rfl (secL a) _ (fun W hW => hW.range 4 rfl) Try.underlying43 rfl (msec_size _)) (by assumption) ?_
    try simp only [Act.put, List.setIfInBounds_toArray, List.set_cons_zero, List.set_cons_succ]
    refine heldTake (i := 20) (v := ?_) rfl (by kernel_rfl) (by kernel_rfl) (by kernel_rfl) (fun _ _ _ h => h) (Or.inl ⟨by rfl, ?_⟩) (by assumption) ?_
    rotate_left
    · intro w hSw; (try dsimp only at hSw); go_simp <;> (with_reducible rfl)
    try simp only [Act.put, List.setIfInBounds_toArray, List.set_cons_zero, List.set_cons_succ]
    refine wpAnyH_ready (rs := [21]) (by kernel_rfl) (by simp) ?_
    refine heldCons (i := 21) rfl (fun Kq hKq => ?_) AllReadyH.nil
    go_simp
    go_at_call 23
    (with_reducible refine (HA.out _).mono ?_)
    rintro _ y30 ⟨rfl, hlq⟩
    have HS_y30 : Hid (Sit w y30 y1.heap.size y2.heap.size S4.start [(y2.heap.size, 33, plL (0) ((k : Int))), (y4.heap.size, 33, plL (1) (11 - (k : Int))), (y14.heap.size, 43, secL zeroSec), (y19.heap.size, 43, secL c), (y22.heap.size, 43, secL a), (y25.heap.size, 43, secL c)]) := hide (HS_y29.out.later hlq)
    clear hlq
    first | (refine hKq.out _ _ HS_y30.out.own (fun hHeld => ?_)) | (go_wp2_with fail; refine hKq.out _ _ HS_y30.out.own (fun hHeld => ?_))
    clear hKq Kq
    try simp only [Act.put, List.setIfInBounds_toArray, List.set_cons_zero, List.set_cons_succ]
    refine heldTake (i := 22) (v := .bool true) rfl (by kernel_rfl) (by kernel_rfl) (by kernel_rfl) (fun _ _ _ h => h) (Or.inl ⟨by rfl, fun W hW => run_eqS W _ (.tmp 145) (.tmp 147) _ rfl a a rfl rfl true (by simp)⟩) (by assumption) ?_
    try simp only [Act.put, List.setIfInBounds_toArray, List.set_cons_zero, List.set_cons_succ]
    refine heldTake (i := 23) (v := ?_) rfl (by kernel_rfl) (by kernel_rfl) (by kernel_rfl) (fun _ _ _ h => h) (Or.inl ⟨by rfl, ?_⟩) (by assumption) ?_
    rotate_left
    · intro w hSw; (try dsimp only at hSw); go_simp <;> (with_reducible rfl)
    try simp only [Act.put, List.setIfInBounds_toArray, List.set_cons_zero, List.set_cons_succ]
    refine heldTake (i := 24) (v := ?_) rfl (by kernel_rfl) (by kernel_rfl) (by kernel_rfl) (fun _ _ _ h => h) (Or.inl ⟨by rfl, ?_⟩) (by assumption) ?_
    rotate_left
    · intro w hSw; (try dsimp only at hSw); go_simp <;> (with_reducible rfl)
    try simp only [Act.put, List.setIfInBounds_toArray, List.set_cons_zero, List.set_cons_succ]
    refine wpAnyH_done (by kernel_rfl) ?_ _
    go_wp2_with fail
    go_ret
    exact ⟨rfl, HS_y30.out.low⟩
#print axioms mirrorDown_walk
end Go.Proofs.Ytgfbndmdndpelaa
