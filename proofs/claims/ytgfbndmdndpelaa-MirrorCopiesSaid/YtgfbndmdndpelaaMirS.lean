/- The small case that each law of stage 12 begins with: it works. -/
import Derived.Test.YtgfbndmdndpelaaMirC
namespace Go.Proofs.Ytgfbndmdndpelaa
open Go.RowKit
set_option linter.unusedVariables false
set_option maxRecDepth 100000 in
set_option maxHeartbeats 8000000 in
theorem shown12_any (K : MirK) (w : World) : Calls Try.prog 9 #[] w fun e w' => e = .returned (.bool true) ∧ Below w.heap.size w w' := by
  obtain ⟨a, ha⟩ : ∃ a, a = secOf 1 := ⟨_, rfl⟩
  obtain ⟨c, hc⟩ : ∃ c, c = secOf 2 := ⟨_, rfl⟩
  have HA := hide (fun w => ha ▸ sector_any 1 w)
  have HC := hide (fun w => hc ▸ sector_any 2 w)
  have HQ1 := hide (ha ▸ sq1 : sh0.writes = 0 ∧ (sh0.mwrite 0 3 1 5 a).1 = 0)
  have HS1 := hide (show (sh0.mwrite 0 3 1 5 a).2 = sh1 by rw [ha]; rfl)
  have HQ3 := hide (show sh2.writes = 2 ∧ (sh2.mread 0 3 1 5).1 = a ∧ (sh2.mread 0 3 1 5).2 = 0 ∧ (sh2.mwrite 0 3 1 5 c).1 = 0 by rw [ha, hc]; exact sq3)
  have HS3 := hide (show (sh2.mwrite 0 3 1 5 c).2 = sh3 by rw [hc]; rfl)
  have HQ4 := hide (show sh3.n = 2 ∧ (sh3.mread 0 3 1 5).1 = c ∧ (sh3.mread 0 3 1 5).2 = 0 by rw [hc]; exact sq4)
  clear ha hc
  go_enter Try.func9, Try.ntmps9
  go_wp2_with (first
    | (go_at_call 10; refine (sit_laid w w (Below.refl _ _) 2 (by decide)).mono ?_; rintro _ y1 ⟨rfl, hsq⟩; have HS_y1 : Hid (Sit w y1 w.heap.size y1.heap.size sh0 []) := hide hsq; clear hsq)
    | ((with_reducible refine at_slot 2 ?_); refine wpList_alloc_blk rfl 33 rfl _ (mplace_zero _) ?_; intro y2 hbq hl1 hs1; clear hs1)
    | ((with_reducible refine at_store 2 ?_); refine wpList_store_all rfl 33 (.tmp 2) (.tmp 19) rfl y1.heap.size 33 _ hbq rfl (plL (0) (3)) rfl mplace_info rfl (mplace_one _ _) ?_; intro y3 hbz hg hs; have HS_y3 : Hid (Sit w y3 w.heap.size y1.heap.size sh0 [(y1.heap.size, 33, plL (0) (3))]) := hide (HS_y1.out.new hl1 hg hbz); clear hs hbq hl1 hg hbz)
    | ((with_reducible refine at_slot 3 ?_); refine wpList_alloc_blk rfl 33 rfl _ (mplace_zero _) ?_; intro y4 hbq hl1 hs1; clear hs1)
    | ((with_reducible refine at_store 3 ?_); refine wpList_store_all rfl 33 (.tmp 3) (.tmp 20) rfl y3.heap.size 33 _ hbq rfl (plL (1) (5)) rfl mplace_info rfl (mplace_one _ _) ?_; intro y5 hbz hg hs; have HS_y5 : Hid (Sit w y5 w.heap.size y1.heap.size sh0 [(y1.heap.size, 33, plL (0) (3)), (y3.heap.size, 33, plL (1) (5))]) := hide (HS_y3.out.new hl1 hg hbz); clear hs hbq hl1 hg hbz))
  refine wp_region_held_drew (S := (fun W => OwnV W y1.heap.size [(y1.heap.size, 33, plL (0) (3)), (y3.heap.size, 33, plL (1) (5))])) (by kernel_rfl) ?_ (fun hHeld => ?_)
  · exact HS_y5.out.drew.own
  have HS_dy5 := hide (HS_y5.out.drew)
  refine heldTake (i := 0) (v := ?_) rfl (by kernel_rfl) (by kernel_rfl) (by kernel_rfl) (fun _ _ _ h => h) (Or.inl ⟨by rfl, ?_⟩) (by assumption) ?_
  rotate_left
  · intro w hSw; (try dsimp only at hSw); go_simp <;> (with_reducible rfl)
  try simp only [Act.put, List.setIfInBounds_toArray, List.set_cons_zero, List.set_cons_succ]
  refine heldTake (i := 1) (v := .agg (plL (0) (3)).toArray) rfl (by kernel_rfl) (by kernel_rfl) (by kernel_rfl) (fun _ _ _ h => h) (yieldsIf_load_mid (by rfl) _ _ rfl _ _ rfl (plL (0) (3)) _ (fun W hW => hW.range 0 rfl) Try.underlying33 rfl mplace_info) (by assumption) ?_
  try simp only [Act.put, List.setIfInBounds_toArray, List.set_cons_zero, List.set_cons_succ]
  refine heldTake (i := 2) (v := .agg (plL (1) (5)).toArray) rfl (by kernel_rfl) (by kernel_rfl) (by kernel_rfl) (fun _ _ _ h => h) (yieldsIf_load_mid (by rfl) _ _ rfl _ _ rfl (plL (1) (5)) _ (fun W hW => hW.range 1 rfl) Try.underlying33 rfl mplace_info) (by assumption) ?_
  try simp only [Act.put, List.setIfInBounds_toArray, List.set_cons_zero, List.set_cons_succ]
  refine wpAnyH_ready (rs := [3]) (by kernel_rfl) (by simp) ?_
  refine heldCons (i := 3) rfl (fun Kq hKq => ?_) AllReadyH.nil
  go_simp
  go_at_call 23
  (with_reducible refine (HA.out _).mono ?_)
  rintro _ y6 ⟨rfl, hlq⟩
  have HS_y6 : Hid (Sit w y6 w.heap.size y1.heap.size sh0 [(y1.heap.size, 33, plL (0) (3)), (y3.heap.size, 33, plL (1) (5))]) := hide (HS_dy5.out.later hlq)
  clear hlq
  first | (refine hKq.out _ _ HS_y6.out.own (fun hHeld => ?_)) | (go_wp2_with fail; refine hKq.out _ _ HS_y6.out.own (fun hHeld => ?_))
  clear hKq Kq
  try simp only [Act.put, List.setIfInBounds_toArray, List.set_cons_zero, List.set_cons_succ]
  refine wpAnyH_ready (rs := [4]) (by kernel_rfl) (by simp) ?_
  refine heldCons (i := 4) rfl (fun Kq hKq => ?_) AllReadyH.nil
  go_simp
  go_at_call 22
  (with_reducible refine (HS_y6.out.mwrite K (by rw [HQ1.out.1]; decide) (d := 0) (k := 3) (d' := 1) (k' := 5) rfl rfl rfl rfl a).mono ?_)
  rintro _ y7 ⟨rfl, hsq⟩
  rw [HS1.out] at hsq
  rw [HQ1.out.2]
  have HS_y7 : Hid (Sit w y7 w.heap.size y1.heap.size sh1 [(y1.heap.size, 33, plL (0) (3)), (y3.heap.size, 33, plL (1) (5))]) := hide (hsq)
  clear hsq
  first | (refine hKq.out _ _ HS_y7.out.own (fun hHeld => ?_)) | (go_wp2_with fail; refine hKq.out _ _ HS_y7.out.own (fun hHeld => ?_))
  clear hKq Kq
  try simp only [Act.put, List.setIfInBounds_toArray, List.set_cons_zero, List.set_cons_succ]
  refine heldTake (i := 5) (v := ?_) rfl (by kernel_rfl) (by kernel_rfl) (by kernel_rfl) (fun _ _ _ h => h) (Or.inl ⟨by rfl, ?_⟩) (by assumption) ?_
  rotate_left
  · intro w hSw; (try dsimp only at hSw); go_simp <;> (with_reducible rfl)
  try simp only [Act.put, List.setIfInBounds_toArray, List.set_cons_zero, List.set_cons_succ]
  refine heldTake (i := 6) (v := ?_) rfl (by kernel_rfl) (by kernel_rfl) (by kernel_rfl) (fun _ _ _ h => h) (Or.inl ⟨by rfl, ?_⟩) (by assumption) ?_
  rotate_left
  · intro w hSw; (try dsimp only at hSw); go_simp <;> (with_reducible rfl)
  try simp only [Act.put, List.setIfInBounds_toArray, List.set_cons_zero, List.set_cons_succ]
  refine wpAnyH_done (by kernel_rfl) ?_ _
  go_wp2_with (first
    | (go_at_call 30; (with_reducible refine (HS_y7.out.fail (di := 0) 0 rfl (by rw [sq2]; decide)).mono ?_); rintro _ y8 ⟨rfl, hsq⟩; have HS_y8 : Hid (Sit w y8 w.heap.size y1.heap.size sh2 [(y1.heap.size, 33, plL (0) (3)), (y3.heap.size, 33, plL (1) (5))]) := hide (hsq); clear hsq)
    | ((with_reducible refine at_slot 31 ?_); refine when_own rfl (.tmp 2) rfl HS_y8.out.own 0 rfl rfl Try.underlying33 rfl mplace_info ?_)
    | ((with_reducible refine at_slot 32 ?_); refine when_own rfl (.tmp 3) rfl HS_y8.out.own 1 rfl rfl Try.underlying33 rfl mplace_info ?_)
    | (go_at_call 24; (with_reducible refine (HS_y8.out.mread K (d := 0) (k := 3) (d' := 1) (k' := 5) rfl rfl rfl rfl).mono ?_); rintro _ y9 ⟨rfl, hsq⟩; rw [HQ3.out.2.1, HQ3.out.2.2.1]; have HS_y9 : Hid (Sit w y9 w.heap.size y1.heap.size sh2 [(y1.heap.size, 33, plL (0) (3)), (y3.heap.size, 33, plL (1) (5))]) := hide (hsq); clear hsq)
    | ((with_reducible refine at_slot 5 ?_); refine wpList_alloc_blk rfl 43 rfl _ (sec_zero _) ?_; intro y10 hbq hl1 hs1; clear hs1)
    | ((with_reducible refine at_store 5 ?_); refine wpList_store_all rfl 43 (.tmp 5) (.tmp 34) rfl y9.heap.size 43 _ hbq rfl (secL a) rfl (msec_size _) (msec_len _ _) (secL_one _) ?_; intro y11 hbz hg hs; have HS_y11 : Hid (Sit w y11 w.heap.size y1.heap.size sh2 [(y1.heap.size, 33, plL (0) (3)), (y3.heap.size, 33, plL (1) (5)), (y9.heap.size, 43, secL a)]) := hide (HS_y9.out.new hl1 hg hbz); clear hs hbq hl1 hg hbz))
  refine wp_region_held_drew (S := (fun W => OwnV W y1.heap.size [(y1.heap.size, 33, plL (0) (3)), (y3.heap.size, 33, plL (1) (5)), (y9.heap.size, 43, secL a)])) (by kernel_rfl) ?_ (fun hHeld => ?_)
  · exact HS_y11.out.drew.own
  have HS_dy11 := hide (HS_y11.out.drew)
  refine heldTake (i := 0) (v := ?_) rfl (by kernel_rfl) (by kernel_rfl) (by kernel_rfl) (fun _ _ _ h => h) (Or.inl ⟨by rfl, ?_⟩) (by assumption) ?_
  rotate_left
  · intro w hSw; (try dsimp only at hSw); go_simp <;> (with_reducible rfl)
  try simp only [Act.put, List.setIfInBounds_toArray, List.set_cons_zero, List.set_cons_succ]
  refine heldTake (i := 1) (v := .agg (plL (0) (3)).toArray) rfl (by kernel_rfl) (by kernel_rfl) (by kernel_rfl) (fun _ _ _ h => h) (yieldsIf_load_mid (by rfl) _ _ rfl _ _ rfl (plL (0) (3)) _ (fun W hW => hW.range 0 rfl) Try.underlying33 rfl mplace_info) (by assumption) ?_
  try simp only [Act.put, List.setIfInBounds_toArray, List.set_cons_zero, List.set_cons_succ]
  refine heldTake (i := 2) (v := .agg (plL (1) (5)).toArray) rfl (by kernel_rfl) (by kernel_rfl) (by kernel_rfl) (fun _ _ _ h => h) (yieldsIf_load_mid (by rfl) _ _ rfl _ _ rfl (plL (1) (5)) _ (fun W hW => hW.range 1 rfl) Try.underlying33 rfl mplace_info) (by assumption) ?_
  try simp only [Act.put, List.setIfInBounds_toArray, List.set_cons_zero, List.set_cons_succ]
  refine wpAnyH_ready (rs := [3]) (by kernel_rfl) (by simp) ?_
  refine heldCons (i := 3) rfl (fun Kq hKq => ?_) AllReadyH.nil
  go_simp
  go_at_call 23
  (with_reducible refine (HC.out _).mono ?_)
  rintro _ y12 ⟨rfl, hlq⟩
  have HS_y12 : Hid (Sit w y12 w.heap.size y1.heap.size sh2 [(y1.heap.size, 33, plL (0) (3)), (y3.heap.size, 33, plL (1) (5)), (y9.heap.size, 43, secL a)]) := hide (HS_dy11.out.later hlq)
  clear hlq
  first | (refine hKq.out _ _ HS_y12.out.own (fun hHeld => ?_)) | (go_wp2_with fail; refine hKq.out _ _ HS_y12.out.own (fun hHeld => ?_))
  clear hKq Kq
  try simp only [Act.put, List.setIfInBounds_toArray, List.set_cons_zero, List.set_cons_succ]
  refine wpAnyH_ready (rs := [4]) (by kernel_rfl) (by simp) ?_
  refine heldCons (i := 4) rfl (fun Kq hKq => ?_) AllReadyH.nil
  go_simp
  go_at_call 22
  (with_reducible refine (HS_y12.out.mwrite K (by rw [HQ3.out.1]; decide) (d := 0) (k := 3) (d' := 1) (k' := 5) rfl rfl rfl rfl c).mono ?_)
  rintro _ y13 ⟨rfl, hsq⟩
  rw [HS3.out] at hsq
  rw [HQ3.out.2.2.2]
  have HS_y13 : Hid (Sit w y13 w.heap.size y1.heap.size sh3 [(y1.heap.size, 33, plL (0) (3)), (y3.heap.size, 33, plL (1) (5)), (y9.heap.size, 43, secL a)]) := hide (hsq)
  clear hsq
  first | (refine hKq.out _ _ HS_y13.out.own (fun hHeld => ?_)) | (go_wp2_with fail; refine hKq.out _ _ HS_y13.out.own (fun hHeld => ?_))
  clear hKq Kq
  try simp only [Act.put, List.setIfInBounds_toArray, List.set_cons_zero, List.set_cons_succ]
  refine heldTake (i := 5) (v := ?_) rfl (by kernel_rfl) (by kernel_rfl) (by kernel_rfl) (fun _ _ _ h => h) (Or.inl ⟨by rfl, ?_⟩) (by assumption) ?_
  rotate_left
  · intro w hSw; (try dsimp only at hSw); go_simp <;> (with_reducible rfl)
  try simp only [Act.put, List.setIfInBounds_toArray, List.set_cons_zero, List.set_cons_succ]
  refine heldTake (i := 6) (v := ?_) rfl (by kernel_rfl) (by kernel_rfl) (by kernel_rfl) (fun _ _ _ h => h) (Or.inl ⟨by rfl, ?_⟩) (by assumption) ?_
  rotate_left
  · intro w hSw; (try dsimp only at hSw); go_simp <;> (with_reducible rfl)
  try simp only [Act.put, List.setIfInBounds_toArray, List.set_cons_zero, List.set_cons_succ]
  refine wpAnyH_done (by kernel_rfl) ?_ _
  go_upto_region 11 with (first
    | ((with_reducible refine at_slot 44 ?_); refine when_own rfl (.tmp 2) rfl HS_y13.out.own 0 rfl rfl Try.underlying33 rfl mplace_info ?_)
    | ((with_reducible refine at_slot 45 ?_); refine when_own rfl (.tmp 3) rfl HS_y13.out.own 1 rfl rfl Try.underlying33 rfl mplace_info ?_)
    | (go_at_call 24; (with_reducible refine (HS_y13.out.mread K (d := 0) (k := 3) (d' := 1) (k' := 5) rfl rfl rfl rfl).mono ?_); rintro _ y14 ⟨rfl, hsq⟩; rw [HQ4.out.2.1, HQ4.out.2.2]; have HS_y14 : Hid (Sit w y14 w.heap.size y1.heap.size sh3 [(y1.heap.size, 33, plL (0) (3)), (y3.heap.size, 33, plL (1) (5)), (y9.heap.size, 43, secL a)]) := hide (hsq); clear hsq)
    | ((with_reducible refine at_slot 8 ?_); refine wpList_alloc_blk rfl 43 rfl _ (sec_zero _) ?_; intro y15 hbq hl1 hs1; clear hs1)
    | ((with_reducible refine at_store 8 ?_); refine wpList_store_all rfl 43 (.tmp 8) (.tmp 47) rfl y14.heap.size 43 _ hbq rfl (secL c) rfl (msec_size _) (msec_len _ _) (secL_one _) ?_; intro y16 hbz hg hs; have HS_y16 : Hid (Sit w y16 w.heap.size y1.heap.size sh3 [(y1.heap.size, 33, plL (0) (3)), (y3.heap.size, 33, plL (1) (5)), (y9.heap.size, 43, secL a), (y14.heap.size, 43, secL c)]) := hide (HS_y14.out.new hl1 hg hbz); clear hs hbq hl1 hg hbz))
  go_upto_region 12 with (first
    | (go_at_call 30; (with_reducible refine (HS_y16.out.fail (di := 1) 1 rfl (by rw [HQ4.out.1]; decide)).mono ?_); rintro _ y17 ⟨rfl, hsq⟩; have HS_y17 : Hid (Sit w y17 w.heap.size y1.heap.size sh4 [(y1.heap.size, 33, plL (0) (3)), (y3.heap.size, 33, plL (1) (5)), (y9.heap.size, 43, secL a), (y14.heap.size, 43, secL c)]) := hide (hsq); clear hsq))
  go_upto_region 13 with (first
    | ((with_reducible refine at_slot 53 ?_); refine when_own rfl (.tmp 2) rfl HS_y17.out.own 0 rfl rfl Try.underlying33 rfl mplace_info ?_)
    | ((with_reducible refine at_slot 54 ?_); refine when_own rfl (.tmp 3) rfl HS_y17.out.own 1 rfl rfl Try.underlying33 rfl mplace_info ?_)
    | (go_at_call 24; (with_reducible refine (HS_y17.out.mread K (d := 0) (k := 3) (d' := 1) (k' := 5) rfl rfl rfl rfl).mono ?_); rintro _ y18 ⟨rfl, hsq⟩; rw [sq5.1, sq5.2]; have HS_y18 : Hid (Sit w y18 w.heap.size y1.heap.size sh4 [(y1.heap.size, 33, plL (0) (3)), (y3.heap.size, 33, plL (1) (5)), (y9.heap.size, 43, secL a), (y14.heap.size, 43, secL c)]) := hide (hsq); clear hsq)
    | ((with_reducible refine at_slot 10 ?_); refine wpList_alloc_blk rfl 43 rfl _ (sec_zero _) ?_; intro y19 hbq hl1 hs1; clear hs1)
    | ((with_reducible refine at_store 10 ?_); refine wpList_store_all rfl 43 (.tmp 10) (.tmp 56) rfl y18.heap.size 43 _ hbq rfl (secL zeroSec) rfl (msec_size _) (msec_len _ _) (secL_one _) ?_; intro y20 hbz hg hs; have HS_y20 : Hid (Sit w y20 w.heap.size y1.heap.size sh4 [(y1.heap.size, 33, plL (0) (3)), (y3.heap.size, 33, plL (1) (5)), (y9.heap.size, 43, secL a), (y14.heap.size, 43, secL c), (y18.heap.size, 43, secL zeroSec)]) := hide (HS_y18.out.new hl1 hg hbz); clear hs hbq hl1 hg hbz))
  go_upto_region 14 with (first
    | (go_at_call 19; (with_reducible refine (K.home_any _ (4) (114) (7) (by decide) (by decide) (by decide) (by decide)).mono ?_); rintro _ y21 ⟨rfl, hlq⟩; rw [show homeV (4) (114) (7) = .tuple #[.agg #[.int .i64 4, .int .i64 121], .bool true] from rfl]; have HS_y21 : Hid (Sit w y21 w.heap.size y1.heap.size sh4 [(y1.heap.size, 33, plL (0) (3)), (y3.heap.size, 33, plL (1) (5)), (y9.heap.size, 43, secL a), (y14.heap.size, 43, secL c), (y18.heap.size, 43, secL zeroSec)]) := hide (HS_y20.out.later hlq); clear hlq)
    | ((with_reducible refine at_slot 12 ?_); refine wpList_alloc_blk rfl 33 rfl _ (mplace_zero _) ?_; intro y22 hbq hl1 hs1; clear hs1)
    | ((with_reducible refine at_store 12 ?_); refine wpList_store_all rfl 33 (.tmp 12) (.tmp 61) rfl y21.heap.size 33 _ hbq rfl (plL (4) (121)) rfl mplace_info rfl (mplace_one _ _) ?_; intro y23 hbz hg hs; have HS_y23 : Hid (Sit w y23 w.heap.size y1.heap.size sh4 [(y1.heap.size, 33, plL (0) (3)), (y3.heap.size, 33, plL (1) (5)), (y9.heap.size, 43, secL a), (y14.heap.size, 43, secL c), (y18.heap.size, 43, secL zeroSec), (y21.heap.size, 33, plL (4) (121))]) := hide (HS_y21.out.new hl1 hg hbz); clear hs hbq hl1 hg hbz))
  go_wp2_with (first
    | (go_at_call 19; (with_reducible refine (K.home_any _ (0) (0) (8) (by decide) (by decide) (by decide) (by decide)).mono ?_); rintro _ y24 ⟨rfl, hlq⟩; rw [show homeV (0) (0) (8) = .tuple #[.agg #[.int .i64 0, .int .i64 0], .bool false] from rfl]; have HS_y24 : Hid (Sit w y24 w.heap.size y1.heap.size sh4 [(y1.heap.size, 33, plL (0) (3)), (y3.heap.size, 33, plL (1) (5)), (y9.heap.size, 43, secL a), (y14.heap.size, 43, secL c), (y18.heap.size, 43, secL zeroSec), (y21.heap.size, 33, plL (4) (121))]) := hide (HS_y23.out.later hlq); clear hlq)
    | ((with_reducible refine at_slot 14 ?_); refine wpList_alloc_blk rfl 33 rfl _ (mplace_zero _) ?_; intro y25 hbq hl1 hs1; clear hs1)
    | ((with_reducible refine at_store 14 ?_); refine wpList_store_all rfl 33 (.tmp 14) (.tmp 66) rfl y24.heap.size 33 _ hbq rfl (plL (0) (0)) rfl mplace_info rfl (mplace_one _ _) ?_; intro y26 hbz hg hs; have HS_y26 : Hid (Sit w y26 w.heap.size y1.heap.size sh4 [(y1.heap.size, 33, plL (0) (3)), (y3.heap.size, 33, plL (1) (5)), (y9.heap.size, 43, secL a), (y14.heap.size, 43, secL c), (y18.heap.size, 43, secL zeroSec), (y21.heap.size, 33, plL (4) (121)), (y24.heap.size, 33, plL (0) (0))]) := hide (HS_y24.out.new hl1 hg hbz); clear hs hbq hl1 hg hbz))
  refine wp_region_held_drew (S := (fun W => OwnV W y1.heap.size [(y1.heap.size, 33, plL (0) (3)), (y3.heap.size, 33, plL (1) (5)), (y9.heap.size, 43, secL a), (y14.heap.size, 43, secL c), (y18.heap.size, 43, secL zeroSec), (y21.heap.size, 33, plL (4) (121)), (y24.heap.size, 33, plL (0) (0))])) (by kernel_rfl) ?_ (fun hHeld => ?_)
  · exact HS_y26.out.drew.own
  have HS_dy26 := hide (HS_y26.out.drew)
  refine heldTake (i := 0) (v := ?_) rfl (by kernel_rfl) (by kernel_rfl) (by kernel_rfl) (fun _ _ _ h => h) (Or.inl ⟨by rfl, ?_⟩) (by assumption) ?_
  rotate_left
  · intro w hSw; (try dsimp only at hSw); go_simp <;> (with_reducible rfl)
  try simp only [Act.put, List.setIfInBounds_toArray, List.set_cons_zero, List.set_cons_succ]
  refine heldTake (i := 1) (v := ?_) rfl (by kernel_rfl) (by kernel_rfl) (by kernel_rfl) (fun _ _ _ h => h) (Or.inl ⟨by rfl, ?_⟩) (by assumption) ?_
  rotate_left
  · intro w hSw; (try dsimp only at hSw); go_simp <;> (with_reducible rfl)
  try simp only [Act.put, List.setIfInBounds_toArray, List.set_cons_zero, List.set_cons_succ]
  refine heldTake (i := 2) (v := .agg (secL a).toArray) rfl (by kernel_rfl) (by kernel_rfl) (by kernel_rfl) (fun _ _ _ h => h) (yieldsIf_load_mid (by rfl) _ _ rfl _ _ rfl (secL a) _ (fun W hW => hW.range 2 rfl) Try.underlying43 rfl (msec_size _)) (by assumption) ?_
  try simp only [Act.put, List.setIfInBounds_toArray, List.set_cons_zero, List.set_cons_succ]
  refine wpAnyH_ready (rs := [3]) (by kernel_rfl) (by simp) ?_
  refine heldCons (i := 3) rfl (fun Kq hKq => ?_) AllReadyH.nil
  go_simp
  go_at_call 23
  (with_reducible refine (HA.out _).mono ?_)
  rintro _ y27 ⟨rfl, hlq⟩
  have HS_y27 : Hid (Sit w y27 w.heap.size y1.heap.size sh4 [(y1.heap.size, 33, plL (0) (3)), (y3.heap.size, 33, plL (1) (5)), (y9.heap.size, 43, secL a), (y14.heap.size, 43, secL c), (y18.heap.size, 43, secL zeroSec), (y21.heap.size, 33, plL (4) (121)), (y24.heap.size, 33, plL (0) (0))]) := hide (HS_dy26.out.later hlq)
  clear hlq
  first | (refine hKq.out _ _ HS_y27.out.own (fun hHeld => ?_)) | (go_wp2_with fail; refine hKq.out _ _ HS_y27.out.own (fun hHeld => ?_))
  clear hKq Kq
  try simp only [Act.put, List.setIfInBounds_toArray, List.set_cons_zero, List.set_cons_succ]
  refine heldTake (i := 4) (v := .bool true) rfl (by kernel_rfl) (by kernel_rfl) (by kernel_rfl) (fun _ _ _ h => h) (Or.inl ⟨by rfl, fun W hW => run_eqS W _ (.tmp 70) (.tmp 71) _ rfl a a rfl rfl true (by simp)⟩) (by assumption) ?_
  try simp only [Act.put, List.setIfInBounds_toArray, List.set_cons_zero, List.set_cons_succ]
  refine heldTake (i := 5) (v := ?_) rfl (by kernel_rfl) (by kernel_rfl) (by kernel_rfl) (fun _ _ _ h => h) (Or.inl ⟨by rfl, ?_⟩) (by assumption) ?_
  rotate_left
  · intro w hSw; (try dsimp only at hSw); go_simp <;> (with_reducible rfl)
  try simp only [Act.put, List.setIfInBounds_toArray, List.set_cons_zero, List.set_cons_succ]
  refine heldTake (i := 6) (v := ?_) rfl (by kernel_rfl) (by kernel_rfl) (by kernel_rfl) (fun _ _ _ h => h) (Or.inl ⟨by rfl, ?_⟩) (by assumption) ?_
  rotate_left
  · intro w hSw; (try dsimp only at hSw); go_simp <;> (with_reducible rfl)
  try simp only [Act.put, List.setIfInBounds_toArray, List.set_cons_zero, List.set_cons_succ]
  refine heldTake (i := 7) (v := ?_) rfl (by kernel_rfl) (by kernel_rfl) (by kernel_rfl) (fun _ _ _ h => h) (Or.inl ⟨by rfl, ?_⟩) (by assumption) ?_
  rotate_left
  · intro w hSw; (try dsimp only at hSw); go_simp <;> (with_reducible rfl)
  try simp only [Act.put, List.setIfInBounds_toArray, List.set_cons_zero, List.set_cons_succ]
  refine heldTake (i := 8) (v := ?_) rfl (by kernel_rfl) (by kernel_rfl) (by kernel_rfl) (fun _ _ _ h => h) (Or.inl ⟨by rfl, ?_⟩) (by assumption) ?_
  rotate_left
  · intro w hSw; (try dsimp only at hSw); go_simp <;> (with_reducible rfl)
  try simp only [Act.put, List.setIfInBounds_toArray, List.set_cons_zero, List.set_cons_succ]
  refine heldTake (i := 9) (v := ?_) rfl (by kernel_rfl) (by kernel_rfl) (by kernel_rfl) (fun _ _ _ h => h) (Or.inl ⟨by rfl, ?_⟩) (by assumption) ?_
  rotate_left
  · intro w hSw; (try dsimp only at hSw); go_simp <;> (with_reducible rfl)
  try simp only [Act.put, List.setIfInBounds_toArray, List.set_cons_zero, List.set_cons_succ]
  refine heldTake (i := 10) (v := ?_) rfl (by kernel_rfl) (by kernel_rfl) (by kernel_rfl) (fun _ _ _ h => h) (Or.inl ⟨by rfl, ?_⟩) (by assumption) ?_
  rotate_left
  · intro w hSw; (try dsimp only at hSw); go_simp <;> (with_reducible rfl)
  try simp only [Act.put, List.setIfInBounds_toArray, List.set_cons_zero, List.set_cons_succ]
  refine heldTake (i := 11) (v := ?_) rfl (by kernel_rfl) (by kernel_rfl) (by kernel_rfl) (fun _ _ _ h => h) (Or.inl ⟨by rfl, ?_⟩) (by assumption) ?_
  rotate_left
  · intro w hSw; (try dsimp only at hSw); go_simp <;> (with_reducible rfl)
  try simp only [Act.put, List.setIfInBounds_toArray, List.set_cons_zero, List.set_cons_succ]
  refine heldTake (i := 12) (v := ?_) rfl (by kernel_rfl) (by kernel_rfl) (by kernel_rfl) (fun _ _ _ h => h) (Or.inl ⟨by rfl, ?_⟩) (by assumption) ?_
  rotate_left
  · intro w hSw; (try dsimp only at hSw); go_simp <;> (with_reducible rfl)
  try simp only [Act.put, List.setIfInBounds_toArray, List.set_cons_zero, List.set_cons_succ]
  refine heldTake (i := 13) (v := ?_) rfl (by kernel_rfl) (by kernel_rfl) (by kernel_rfl) (fun _ _ _ h => h) (Or.inl ⟨by rfl, ?_⟩) (by assumption) ?_
  rotate_left
  · intro w hSw; (try dsimp only at hSw); go_simp <;> (with_reducible rfl)
  try simp only [Act.put, List.setIfInBounds_toArray, List.set_cons_zero, List.set_cons_succ]
  refine heldTake (i := 14) (v := .agg (secL c).toArray) rfl (by kernel_rfl) (by kernel_rfl) (by kernel_rfl) (fun _ _ _ h => h) (yieldsIf_load_mid (by rfl) _ _ rfl _ _ rfl (secL c) _ (fun W hW => hW.range 3 rfl) Try.underlying43 rfl (msec_size _)) (by assumption) ?_
  try simp only [Act.put, List.setIfInBounds_toArray, List.set_cons_zero, List.set_cons_succ]
  refine wpAnyH_ready (rs := [15]) (by kernel_rfl) (by simp) ?_
  refine heldCons (i := 15) rfl (fun Kq hKq => ?_) AllReadyH.nil
  go_simp
  go_at_call 23
  (with_reducible refine (HC.out _).mono ?_)
  rintro _ y28 ⟨rfl, hlq⟩
  have HS_y28 : Hid (Sit w y28 w.heap.size y1.heap.size sh4 [(y1.heap.size, 33, plL (0) (3)), (y3.heap.size, 33, plL (1) (5)), (y9.heap.size, 43, secL a), (y14.heap.size, 43, secL c), (y18.heap.size, 43, secL zeroSec), (y21.heap.size, 33, plL (4) (121)), (y24.heap.size, 33, plL (0) (0))]) := hide (HS_y27.out.later hlq)
  clear hlq
  first | (refine hKq.out _ _ HS_y28.out.own (fun hHeld => ?_)) | (go_wp2_with fail; refine hKq.out _ _ HS_y28.out.own (fun hHeld => ?_))
  clear hKq Kq
  try simp only [Act.put, List.setIfInBounds_toArray, List.set_cons_zero, List.set_cons_succ]
  refine heldTake (i := 16) (v := .bool true) rfl (by kernel_rfl) (by kernel_rfl) (by kernel_rfl) (fun _ _ _ h => h) (Or.inl ⟨by rfl, fun W hW => run_eqS W _ (.tmp 82) (.tmp 83) _ rfl c c rfl rfl true (by simp)⟩) (by assumption) ?_
  try simp only [Act.put, List.setIfInBounds_toArray, List.set_cons_zero, List.set_cons_succ]
  refine heldTake (i := 17) (v := ?_) rfl (by kernel_rfl) (by kernel_rfl) (by kernel_rfl) (fun _ _ _ h => h) (Or.inl ⟨by rfl, ?_⟩) (by assumption) ?_
  rotate_left
  · intro w hSw; (try dsimp only at hSw); go_simp <;> (with_reducible rfl)
  try simp only [Act.put, List.setIfInBounds_toArray, List.set_cons_zero, List.set_cons_succ]
  refine heldTake (i := 18) (v := ?_) rfl (by kernel_rfl) (by kernel_rfl) (by kernel_rfl) (fun _ _ _ h => h) (Or.inl ⟨by rfl, ?_⟩) (by assumption) ?_
  rotate_left
  · intro w hSw; (try dsimp only at hSw); go_simp <;> (with_reducible rfl)
  try simp only [Act.put, List.setIfInBounds_toArray, List.set_cons_zero, List.set_cons_succ]
  refine heldTake (i := 19) (v := ?_) rfl (by kernel_rfl) (by kernel_rfl) (by kernel_rfl) (fun _ _ _ h => h) (Or.inl ⟨by rfl, ?_⟩) (by assumption) ?_
  rotate_left
  · intro w hSw; (try dsimp only at hSw); go_simp <;> (with_reducible rfl)
  try simp only [Act.put, List.setIfInBounds_toArray, List.set_cons_zero, List.set_cons_succ]
  refine heldTake (i := 20) (v := ?_) rfl (by kernel_rfl) (by kernel_rfl) (by kernel_rfl) (fun _ _ _ h => h) (Or.inl ⟨by rfl, ?_⟩) (by assumption) ?_
  rotate_left
  · intro w hSw; (try dsimp only at hSw); go_simp <;> (with_reducible rfl)
  try simp only [Act.put, List.setIfInBounds_toArray, List.set_cons_zero, List.set_cons_succ]
  refine heldTake (i := 21) (v := ?_) rfl (by kernel_rfl) (by kernel_rfl) (by kernel_rfl) (fun _ _ _ h => h) (Or.inl ⟨by rfl, ?_⟩) (by assumption) ?_
  rotate_left
  · intro w hSw; (try dsimp only at hSw); go_simp <;> (with_reducible rfl)
  try simp only [Act.put, List.setIfInBounds_toArray, List.set_cons_zero, List.set_cons_succ]
  refine heldTake (i := 22) (v := ?_) rfl (by kernel_rfl) (by kernel_rfl) (by kernel_rfl) (fun _ _ _ h => h) (Or.inl ⟨by rfl, ?_⟩) (by assumption) ?_
  rotate_left
  · intro w hSw; (try dsimp only at hSw); go_simp <;> (with_reducible rfl)
  try simp only [Act.put, List.setIfInBounds_toArray, List.set_cons_zero, List.set_cons_succ]
  refine heldTake (i := 23) (v := ?_) rfl (by kernel_rfl) (by kernel_rfl) (by kernel_rfl) (fun _ _ _ h => h) (Or.inl ⟨by rfl, ?_⟩) (by assumption) ?_
  rotate_left
  · intro w hSw; (try dsimp only at hSw); go_simp <;> (with_reducible rfl)
  try simp only [Act.put, List.setIfInBounds_toArray, List.set_cons_zero, List.set_cons_succ]
  refine heldTake (i := 24) (v := ?_) rfl (by kernel_rfl) (by kernel_rfl) (by kernel_rfl) (fun _ _ _ h => h) (Or.inl ⟨by rfl, ?_⟩) (by assumption) ?_
  rotate_left
  · intro w hSw; (try dsimp only at hSw); go_simp <;> (with_reducible rfl)
  try simp only [Act.put, List.setIfInBounds_toArray, List.set_cons_zero, List.set_cons_succ]
  refine heldTake (i := 25) (v := ?_) rfl (by kernel_rfl) (by kernel_rfl) (by kernel_rfl) (fun _ _ _ h => h) (Or.inl ⟨by rfl, ?_⟩) (by assumption) ?_
  rotate_left
  · intro w hSw; (try dsimp only at hSw); go_simp <;> (with_reducible rfl)
  try simp only [Act.put, List.setIfInBounds_toArray, List.set_cons_zero, List.set_cons_succ]
  refine heldTake (i := 26) (v := ?_) rfl (by kernel_rfl) (by kernel_rfl) (by kernel_rfl) (fun _ _ _ h => h) (Or.inl ⟨by rfl, ?_⟩) (by assumption) ?_
  rotate_left
  · intro w hSw; (try dsimp only at hSw); go_simp <;> (with_reducible rfl)
  try simp only [Act.put, List.setIfInBounds_toArray, List.set_cons_zero, List.set_cons_succ]
  refine heldTake (i := 27) (v := .agg (plL (4) (121)).toArray) rfl (by kernel_rfl) (by kernel_rfl) (by kernel_rfl) (fun _ _ _ h => h) (yieldsIf_load_mid (by rfl) _ _ rfl _ _ rfl (plL (4) (121)) _ (fun W hW => hW.range 5 rfl) Try.underlying33 rfl mplace_info) (by assumption) ?_
  try simp only [Act.put, List.setIfInBounds_toArray, List.set_cons_zero, List.set_cons_succ]
  refine heldTake (i := 28) (v := ?_) rfl (by kernel_rfl) (by kernel_rfl) (by kernel_rfl) (fun _ _ _ h => h) (Or.inl ⟨by rfl, ?_⟩) (by assumption) ?_
  rotate_left
  · intro w hSw; (try dsimp only at hSw); go_simp <;> (with_reducible rfl)
  try simp only [Act.put, List.setIfInBounds_toArray, List.set_cons_zero, List.set_cons_succ]
  refine heldTake (i := 29) (v := .bool true) rfl (by kernel_rfl) (by kernel_rfl) (by kernel_rfl) (fun _ _ _ h => h) (Or.inl ⟨by rfl, fun W hW => run_eqPl W _ (.tmp 95) (.tmp 96) _ rfl 4 121 4 121 rfl rfl true (by decide)⟩) (by assumption) ?_
  try simp only [Act.put, List.setIfInBounds_toArray, List.set_cons_zero, List.set_cons_succ]
  refine heldTake (i := 30) (v := ?_) rfl (by kernel_rfl) (by kernel_rfl) (by kernel_rfl) (fun _ _ _ h => h) (Or.inl ⟨by rfl, ?_⟩) (by assumption) ?_
  rotate_left
  · intro w hSw; (try dsimp only at hSw); go_simp <;> (with_reducible rfl)
  try simp only [Act.put, List.setIfInBounds_toArray, List.set_cons_zero, List.set_cons_succ]
  refine heldTake (i := 31) (v := ?_) rfl (by kernel_rfl) (by kernel_rfl) (by kernel_rfl) (fun _ _ _ h => h) (Or.inl ⟨by rfl, ?_⟩) (by assumption) ?_
  rotate_left
  · intro w hSw; (try dsimp only at hSw); go_simp <;> (with_reducible rfl)
  try simp only [Act.put, List.setIfInBounds_toArray, List.set_cons_zero, List.set_cons_succ]
  refine heldTake (i := 32) (v := ?_) rfl (by kernel_rfl) (by kernel_rfl) (by kernel_rfl) (fun _ _ _ h => h) (Or.inl ⟨by rfl, ?_⟩) (by assumption) ?_
  rotate_left
  · intro w hSw; (try dsimp only at hSw); go_simp <;> (with_reducible rfl)
  try simp only [Act.put, List.setIfInBounds_toArray, List.set_cons_zero, List.set_cons_succ]
  refine heldTake (i := 33) (v := ?_) rfl (by kernel_rfl) (by kernel_rfl) (by kernel_rfl) (fun _ _ _ h => h) (Or.inl ⟨by rfl, ?_⟩) (by assumption) ?_
  rotate_left
  · intro w hSw; (try dsimp only at hSw); go_simp <;> (with_reducible rfl)
  try simp only [Act.put, List.setIfInBounds_toArray, List.set_cons_zero, List.set_cons_succ]
  refine heldTake (i := 34) (v := ?_) rfl (by kernel_rfl) (by kernel_rfl) (by kernel_rfl) (fun _ _ _ h => h) (Or.inl ⟨by rfl, ?_⟩) (by assumption) ?_
  rotate_left
  · intro w hSw; (try dsimp only at hSw); go_simp <;> (with_reducible rfl)
  try simp only [Act.put, List.setIfInBounds_toArray, List.set_cons_zero, List.set_cons_succ]
  refine heldTake (i := 35) (v := ?_) rfl (by kernel_rfl) (by kernel_rfl) (by kernel_rfl) (fun _ _ _ h => h) (Or.inl ⟨by rfl, ?_⟩) (by assumption) ?_
  rotate_left
  · intro w hSw; (try dsimp only at hSw); go_simp <;> (with_reducible rfl)
  try simp only [Act.put, List.setIfInBounds_toArray, List.set_cons_zero, List.set_cons_succ]
  refine heldTake (i := 36) (v := ?_) rfl (by kernel_rfl) (by kernel_rfl) (by kernel_rfl) (fun _ _ _ h => h) (Or.inl ⟨by rfl, ?_⟩) (by assumption) ?_
  rotate_left
  · intro w hSw; (try dsimp only at hSw); go_simp <;> (with_reducible rfl)
  try simp only [Act.put, List.setIfInBounds_toArray, List.set_cons_zero, List.set_cons_succ]
  refine heldTake (i := 37) (v := ?_) rfl (by kernel_rfl) (by kernel_rfl) (by kernel_rfl) (fun _ _ _ h => h) (Or.inl ⟨by rfl, ?_⟩) (by assumption) ?_
  rotate_left
  · intro w hSw; (try dsimp only at hSw); go_simp <;> (with_reducible rfl)
  try simp only [Act.put, List.setIfInBounds_toArray, List.set_cons_zero, List.set_cons_succ]
  refine heldTake (i := 38) (v := ?_) rfl (by kernel_rfl) (by kernel_rfl) (by kernel_rfl) (fun _ _ _ h => h) (Or.inl ⟨by rfl, ?_⟩) (by assumption) ?_
  rotate_left
  · intro w hSw; (try dsimp only at hSw); go_simp <;> (with_reducible rfl)
  try simp only [Act.put, List.setIfInBounds_toArray, List.set_cons_zero]
  refine wpAnyH_done (by kernel_rfl) ?_ _
  go_wp2_with fail
  go_ret
  exact ⟨rfl, HS_y28.out.low⟩
#print axioms shown12_any
end Go.Proofs.Ytgfbndmdndpelaa
