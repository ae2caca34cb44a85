/- One step on both banks: they answer the same, and are the same bank again. -/
import Derived.Test.YtgfbndmdndpelaaMirD
import Derived.Test.YtgfbndmdndpelaaWhen
namespace Go.Proofs.Ytgfbndmdndpelaa
open Go.RowKit
set_option linter.unusedVariables false
theorem op_boxed (k n xd xk yd yk : Int) (m : Nat) : (Value.agg #[.int .i64 k, .int .i64 n, .int .i64 xd, .int .i64 xk, .int .i64 yd, .int .i64 yk, .int .u64 (m : Int)]).cells = (opL k n xd xk yd yk m).toArray := rfl
theorem fails_few (S : Bank) (d a : Nat) : (S.failI d).writes = S.writes ∧ (S.willI d a).writes = S.writes := by
  constructor
  · unfold Bank.failI; split <;> rfl
  · unfold Bank.willI; split <;> rfl
theorem flush_few (S : Bank) (d : Nat) : (if S.may d = 0 then S.flush d else S).writes = S.writes := by split <;> rfl
theorem mcopy_few (S : Bank) (d k d' k' : Nat) : (S.mcopy d k d' k').2.writes ≤ S.writes + 1 := by
  unfold Bank.mcopy
  split
  · exact write_few S d' k' _
  · exact Nat.le_succ _
section
variable {w0 w : World} {b r : Nat} {S : Bank}
set_option maxRecDepth 100000 in
set_option maxHeartbeats 8000000 in
theorem does1_any (K : MirK) (h : Duo w0 w b r S S []) (hw : S.writes < 4611686018427380000) (n xd xk yd yk : Int) (m : Nat) (hn1 : -9223372036854775808 ≤ n) (hn2 : n ≤ 9223372036854775807) (hm : m < 18446744073709551616) :
    Calls Try.prog 13 #[.pointer (some ⟨b, 0, none⟩), .pointer (some ⟨r, 0, none⟩), .agg #[.int .i64 1, .int .i64 n, .int .i64 xd, .int .i64 xk, .int .i64 yd, .int .i64 yk, .int .u64 (m : Int)]] w fun e w' => e = .returned (.bool true) ∧ ∃ S', Duo w0 w' b r S' S' [] ∧ S'.writes ≤ S.writes + 2 := by
  have HS_w := hide h
  have HWR := hide hw
  clear h hw
  obtain ⟨a, ha⟩ : ∃ a, a = secOf n := ⟨_, rfl⟩
  have HA := hide (fun w => ha ▸ sector_any n w)
  clear ha
  obtain ⟨e, he⟩ : ∃ z, (S.mwrite (nI xd) (nI xk) (nI yd) (nI yk) a).1 = z := ⟨_, rfl⟩
  have H_e := hide he
  clear he
  obtain ⟨S1, hS1⟩ : ∃ z, (S.mwrite (nI xd) (nI xk) (nI yd) (nI yk) a).2 = z := ⟨_, rfl⟩
  have H_S1 := hide hS1
  clear hS1
  have HFW := hide (show S1.writes ≤ S.writes + 2 by rw [← H_S1.out]; exact mwrite_few _ _ _ _ _ _)
  go_enter Try.func13, Try.ntmps13
  go_wp2_with (first
    | ((with_reducible refine at_slot 5 ?_); refine wpList_box_blk rfl 36 _ rfl (.agg #[.int .i64 1, .int .i64 n, .int .i64 xd, .int .i64 xk, .int .i64 yd, .int .i64 yk, .int .u64 (m : Int)]) rfl ?_; intro y1 hbq hl1 hs1; have HS_y1 : Hid (Duo w0 y1 b r S S [(w.heap.size, 36, opL 1 n xd xk yd yk m)]) := hide (HS_w.out.var hl1 (Nat.le_refl _) hbq); have hc0 : y1.cell? ⟨w.heap.size, 0, none⟩ = some (.int .i64 1) := HS_y1.out.own.blk 0 rfl |>.cell 0; clear hbq hl1 hs1))
  refine wp_region_held_drew (S := (fun W => OwnV W 0 [(w.heap.size, 36, opL 1 n xd xk yd yk m)])) (by kernel_rfl) ?_ (fun hHeld => ?_)
  · exact HS_y1.out.drew.own
  have HS_dy1 := hide (HS_y1.out.drew)
  refine heldTake (i := 0) (v := ?_) rfl (by kernel_rfl) (by kernel_rfl) (by kernel_rfl) (fun _ _ _ h => h) (Or.inl ⟨by rfl, ?_⟩) (by assumption) ?_
  rotate_left
  · intro w hSw; (try dsimp only at hSw); go_simp <;> (with_reducible rfl)
  try simp only [Act.put, List.setIfInBounds_toArray, List.set_cons_zero, List.set_cons_succ]
  refine heldTake (i := 1) (v := ?_) rfl (by kernel_rfl) (by kernel_rfl) (by kernel_rfl) (fun _ _ _ h => h) (Or.inl ⟨by rfl, ?_⟩) (by assumption) ?_
  rotate_left
  · intro w hSw; (try dsimp only at hSw); go_simp <;> (with_reducible rfl)
  try simp only [Act.put, List.setIfInBounds_toArray, List.set_cons_zero, List.set_cons_succ]
  refine heldTake (i := 2) (v := .agg (plL xd xk).toArray) rfl (by kernel_rfl) (by kernel_rfl) (by kernel_rfl) (fun _ _ _ h => h) (yieldsIf_load_mid (by rfl) _ _ rfl _ _ rfl (plL xd xk) _ (fun W hW => op_x (hW.blk 0 rfl)) Try.underlying33 rfl mplace_info) (by assumption) ?_
  try simp only [Act.put, List.setIfInBounds_toArray, List.set_cons_zero, List.set_cons_succ]
  refine heldTake (i := 3) (v := ?_) rfl (by kernel_rfl) (by kernel_rfl) (by kernel_rfl) (fun _ _ _ h => h) (Or.inl ⟨by rfl, ?_⟩) (by assumption) ?_
  rotate_left
  · intro w hSw; (try dsimp only at hSw); go_simp <;> (with_reducible rfl)
  try simp only [Act.put, List.setIfInBounds_toArray, List.set_cons_zero, List.set_cons_succ]
  refine heldTake (i := 4) (v := .agg (plL yd yk).toArray) rfl (by kernel_rfl) (by kernel_rfl) (by kernel_rfl) (fun _ _ _ h => h) (yieldsIf_load_mid (by rfl) _ _ rfl _ _ rfl (plL yd yk) _ (fun W hW => op_y (hW.blk 0 rfl)) Try.underlying33 rfl mplace_info) (by assumption) ?_
  try simp only [Act.put, List.setIfInBounds_toArray, List.set_cons_zero, List.set_cons_succ]
  refine heldTake (i := 5) (v := ?_) rfl (by kernel_rfl) (by kernel_rfl) (by kernel_rfl) (fun _ _ _ h => h) (Or.inl ⟨by rfl, ?_⟩) (by assumption) ?_
  rotate_left
  · intro w hSw; (try dsimp only at hSw); go_simp <;> (with_reducible rfl)
  try simp only [Act.put, List.setIfInBounds_toArray, List.set_cons_zero, List.set_cons_succ]
  refine heldTake (i := 6) (v := .int .i64 n) rfl (by kernel_rfl) (by kernel_rfl) (by kernel_rfl) (fun _ _ _ h => h) (Or.inl ⟨by rfl, fun W hW => ?_⟩) (by assumption) ?_
  · have hc : W.cell? ⟨w.heap.size, 1, none⟩ = some (.int .i64 n) := (hW.blk 0 rfl).cell 1
    go_simp <;> rfl
  try simp only [Act.put, List.setIfInBounds_toArray, List.set_cons_zero, List.set_cons_succ]
  refine heldTake (i := 9) (v := ?_) rfl (by kernel_rfl) (by kernel_rfl) (by kernel_rfl) (fun _ _ _ h => h) (Or.inl ⟨by rfl, ?_⟩) (by assumption) ?_
  rotate_left
  · intro w hSw; (try dsimp only at hSw); go_simp <;> (with_reducible rfl)
  try simp only [Act.put, List.setIfInBounds_toArray, List.set_cons_zero, List.set_cons_succ]
  refine heldTake (i := 10) (v := ?_) rfl (by kernel_rfl) (by kernel_rfl) (by kernel_rfl) (fun _ _ _ h => h) (Or.inl ⟨by rfl, ?_⟩) (by assumption) ?_
  rotate_left
  · intro w hSw; (try dsimp only at hSw); go_simp <;> (with_reducible rfl)
  try simp only [Act.put, List.setIfInBounds_toArray, List.set_cons_zero, List.set_cons_succ]
  refine heldTake (i := 11) (v := .agg (plL xd xk).toArray) rfl (by kernel_rfl) (by kernel_rfl) (by kernel_rfl) (fun _ _ _ h => h) (yieldsIf_load_mid (by rfl) _ _ rfl _ _ rfl (plL xd xk) _ (fun W hW => op_x (hW.blk 0 rfl)) Try.underlying33 rfl mplace_info) (by assumption) ?_
  try simp only [Act.put, List.setIfInBounds_toArray, List.set_cons_zero, List.set_cons_succ]
  refine heldTake (i := 12) (v := ?_) rfl (by kernel_rfl) (by kernel_rfl) (by kernel_rfl) (fun _ _ _ h => h) (Or.inl ⟨by rfl, ?_⟩) (by assumption) ?_
  rotate_left
  · intro w hSw; (try dsimp only at hSw); go_simp <;> (with_reducible rfl)
  try simp only [Act.put, List.setIfInBounds_toArray, List.set_cons_zero, List.set_cons_succ]
  refine heldTake (i := 13) (v := .agg (plL yd yk).toArray) rfl (by kernel_rfl) (by kernel_rfl) (by kernel_rfl) (fun _ _ _ h => h) (yieldsIf_load_mid (by rfl) _ _ rfl _ _ rfl (plL yd yk) _ (fun W hW => op_y (hW.blk 0 rfl)) Try.underlying33 rfl mplace_info) (by assumption) ?_
  try simp only [Act.put, List.setIfInBounds_toArray, List.set_cons_zero, List.set_cons_succ]
  refine heldTake (i := 14) (v := ?_) rfl (by kernel_rfl) (by kernel_rfl) (by kernel_rfl) (fun _ _ _ h => h) (Or.inl ⟨by rfl, ?_⟩) (by assumption) ?_
  rotate_left
  · intro w hSw; (try dsimp only at hSw); go_simp <;> (with_reducible rfl)
  try simp only [Act.put, List.setIfInBounds_toArray, List.set_cons_zero, List.set_cons_succ]
  refine heldTake (i := 15) (v := .int .i64 n) rfl (by kernel_rfl) (by kernel_rfl) (by kernel_rfl) (fun _ _ _ h => h) (Or.inl ⟨by rfl, fun W hW => ?_⟩) (by assumption) ?_
  · have hc : W.cell? ⟨w.heap.size, 1, none⟩ = some (.int .i64 n) := (hW.blk 0 rfl).cell 1
    go_simp <;> rfl
  try simp only [Act.put, List.setIfInBounds_toArray, List.set_cons_zero, List.set_cons_succ]
  refine wpAnyH_ready (rs := [7]) (by kernel_rfl) (by simp) ?_
  refine heldCons (i := 7) rfl (fun Kq hKq => ?_) AllReadyH.nil
  go_simp
  go_at_call 23
  (with_reducible refine (HA.out _).mono ?_)
  rintro _ y2 ⟨rfl, hlq⟩
  have HS_y2 : Hid (Duo w0 y2 b r S S [(w.heap.size, 36, opL 1 n xd xk yd yk m)]) := hide (HS_dy1.out.later hlq)
  clear hlq
  first | (refine hKq.out _ _ HS_y2.out.own (fun hHeld => ?_)) | (go_wp2_with fail; refine hKq.out _ _ HS_y2.out.own (fun hHeld => ?_))
  clear hKq Kq
  try simp only [Act.put, List.setIfInBounds_toArray, List.set_cons_zero, List.set_cons_succ]
  refine wpAnyH_ready (rs := [8]) (by kernel_rfl) (by simp) ?_
  refine heldCons (i := 8) rfl (fun Kq hKq => ?_) AllReadyH.nil
  go_simp
  go_at_call 22
  (with_reducible refine (HS_y2.out.code (fun F hB => K.write_any _ b F S hB (by have := HWR.out; omega) xd xk yd yk a)).mono ?_)
  rintro _ y3 ⟨rfl, hsq⟩
  rw [H_S1.out] at hsq
  rw [H_e.out]
  have HS_y3 : Hid (Duo w0 y3 b r S1 S [(w.heap.size, 36, opL 1 n xd xk yd yk m)]) := hide (hsq)
  clear hsq
  first | (refine hKq.out _ _ HS_y3.out.own (fun hHeld => ?_)) | (go_wp2_with fail; refine hKq.out _ _ HS_y3.out.own (fun hHeld => ?_))
  clear hKq Kq
  try simp only [Act.put, List.setIfInBounds_toArray, List.set_cons_zero, List.set_cons_succ]
  refine wpAnyH_ready (rs := [16]) (by kernel_rfl) (by simp) ?_
  refine heldCons (i := 16) rfl (fun Kq hKq => ?_) AllReadyH.nil
  go_simp
  go_at_call 23
  (with_reducible refine (HA.out _).mono ?_)
  rintro _ y4 ⟨rfl, hlq⟩
  have HS_y4 : Hid (Duo w0 y4 b r S1 S [(w.heap.size, 36, opL 1 n xd xk yd yk m)]) := hide (HS_y3.out.later hlq)
  clear hlq
  first | (refine hKq.out _ _ HS_y4.out.own (fun hHeld => ?_)) | (go_wp2_with fail; refine hKq.out _ _ HS_y4.out.own (fun hHeld => ?_))
  clear hKq Kq
  try simp only [Act.put, List.setIfInBounds_toArray, List.set_cons_zero, List.set_cons_succ]
  refine wpAnyH_ready (rs := [17]) (by kernel_rfl) (by simp) ?_
  refine heldCons (i := 17) rfl (fun Kq hKq => ?_) AllReadyH.nil
  go_simp
  go_at_call 36
  (with_reducible refine (HS_y4.out.ref (fun G hB => rmwrite_any hB (by have := HWR.out; omega) xd xk yd yk a)).mono ?_)
  rintro _ y5 ⟨rfl, hsq⟩
  rw [H_S1.out] at hsq
  rw [H_e.out]
  have HS_y5 : Hid (Duo w0 y5 b r S1 S1 [(w.heap.size, 36, opL 1 n xd xk yd yk m)]) := hide (hsq)
  clear hsq
  first | (refine hKq.out _ _ HS_y5.out.own (fun hHeld => ?_)) | (go_wp2_with fail; refine hKq.out _ _ HS_y5.out.own (fun hHeld => ?_))
  clear hKq Kq
  try simp only [Act.put, List.setIfInBounds_toArray, List.set_cons_zero, List.set_cons_succ]
  refine heldTake (i := 18) (v := ?_) rfl (by kernel_rfl) (by kernel_rfl) (by kernel_rfl) (fun _ _ _ h => h) (Or.inl ⟨by rfl, ?_⟩) (by assumption) ?_
  rotate_left
  · intro w hSw; (try dsimp only at hSw); go_simp <;> (with_reducible rfl)
  try simp only [Act.put, List.setIfInBounds_toArray, List.set_cons_zero, List.set_cons_succ]
  refine heldTake (i := 19) (v := ?_) rfl (by kernel_rfl) (by kernel_rfl) (by kernel_rfl) (fun _ _ _ h => h) (Or.inl ⟨by rfl, ?_⟩) (by assumption) ?_
  rotate_left
  · intro w hSw; (try dsimp only at hSw); go_simp <;> (with_reducible rfl)
  try simp only [Act.put, List.setIfInBounds_toArray, List.set_cons_zero, List.set_cons_succ]
  refine wpAnyH_done (by kernel_rfl) ?_ _
  go_wp2_with fail
  go_ret
  exact ⟨by simp, S1, HS_y5.out.cut 0, HFW.out⟩
set_option maxRecDepth 100000 in
set_option maxHeartbeats 8000000 in
theorem does2_any (K : MirK) (h : Duo w0 w b r S S []) (hw : S.writes < 4611686018427380000) (n xd xk yd yk : Int) (m : Nat) (hn1 : -9223372036854775808 ≤ n) (hn2 : n ≤ 9223372036854775807) (hm : m < 18446744073709551616) :
    Calls Try.prog 13 #[.pointer (some ⟨b, 0, none⟩), .pointer (some ⟨r, 0, none⟩), .agg #[.int .i64 2, .int .i64 n, .int .i64 xd, .int .i64 xk, .int .i64 yd, .int .i64 yk, .int .u64 (m : Int)]] w fun e w' => e = .returned (.bool true) ∧ ∃ S', Duo w0 w' b r S' S' [] ∧ S'.writes ≤ S.writes + 2 := by
  have HS_w := hide h
  have HWR := hide hw
  clear h hw
  obtain ⟨s, hs⟩ : ∃ z, (S.mread (nI xd) (nI xk) (nI yd) (nI yk)).1 = z := ⟨_, rfl⟩
  have H_s := hide hs
  clear hs
  obtain ⟨e, he⟩ : ∃ z, (S.mread (nI xd) (nI xk) (nI yd) (nI yk)).2 = z := ⟨_, rfl⟩
  have H_e := hide he
  clear he
  go_enter Try.func13, Try.ntmps13
  go_wp2_with (first
    | ((with_reducible refine at_slot 5 ?_); refine wpList_box_blk rfl 36 _ rfl (.agg #[.int .i64 2, .int .i64 n, .int .i64 xd, .int .i64 xk, .int .i64 yd, .int .i64 yk, .int .u64 (m : Int)]) rfl ?_; intro y1 hbq hl1 hs1; have HS_y1 : Hid (Duo w0 y1 b r S S [(w.heap.size, 36, opL 2 n xd xk yd yk m)]) := hide (HS_w.out.var hl1 (Nat.le_refl _) hbq); have hc0 : y1.cell? ⟨w.heap.size, 0, none⟩ = some (.int .i64 2) := HS_y1.out.own.blk 0 rfl |>.cell 0; clear hbq hl1 hs1)
    | ((with_reducible refine at_slot 43 ?_); refine when_load rfl 33 (.tmp 42) rfl w.heap.size 2 36 _ (HS_y1.out.own.blk 0 rfl) rfl (plL xd xk) _ opL_x Try.underlying33 rfl mplace_info ?_)
    | ((with_reducible refine at_slot 45 ?_); refine when_load rfl 33 (.tmp 44) rfl w.heap.size 4 36 _ (HS_y1.out.own.blk 0 rfl) rfl (plL yd yk) _ opL_y Try.underlying33 rfl mplace_info ?_)
    | (go_at_call 24; refine (HS_y1.out.codeR (fun F hB => K.read_any _ b F S hB xd xk yd yk)).mono ?_; rintro _ y2 ⟨rfl, hsq⟩; rw [H_s.out, H_e.out]; have HS_y2 : Hid (Duo w0 y2 b r S S [(w.heap.size, 36, opL 2 n xd xk yd yk m)]) := hide (hsq); clear hsq)
    | ((with_reducible refine at_slot 7 ?_); refine wpList_alloc_blk rfl 43 rfl _ (sec_zero _) ?_; intro y3 hbq hl1 hs1; clear hs1)
    | ((with_reducible refine at_store 7 ?_); refine wpList_store_all rfl 43 (.tmp 7) (.tmp 47) rfl y2.heap.size 43 _ hbq rfl (secL s) rfl (msec_size _) (msec_len _ _) (secL_one _) ?_; intro y4 hbz hg hs; have HS_y4 : Hid (Duo w0 y4 b r S S [(w.heap.size, 36, opL 2 n xd xk yd yk m), (y2.heap.size, 43, secL s)]) := hide (HS_y2.out.new hl1 hg hbz); clear hs hbq hl1 hg hbz)
    | ((with_reducible refine at_slot 52 ?_); refine when_load rfl 33 (.tmp 51) rfl w.heap.size 2 36 _ (HS_y4.out.own.blk 0 rfl) rfl (plL xd xk) _ opL_x Try.underlying33 rfl mplace_info ?_)
    | ((with_reducible refine at_slot 54 ?_); refine when_load rfl 33 (.tmp 53) rfl w.heap.size 4 36 _ (HS_y4.out.own.blk 0 rfl) rfl (plL yd yk) _ opL_y Try.underlying33 rfl mplace_info ?_)
    | (go_at_call 37; refine (HS_y4.out.ref (fun G hB => rmread_any hB (by have := HWR.out; omega) xd xk yd yk)).mono ?_; rintro _ y5 ⟨rfl, hsq⟩; rw [H_s.out, H_e.out]; have HS_y5 : Hid (Duo w0 y5 b r S S [(w.heap.size, 36, opL 2 n xd xk yd yk m), (y2.heap.size, 43, secL s)]) := hide (hsq); clear hsq)
    | ((with_reducible refine at_slot 9 ?_); refine wpList_alloc_blk rfl 43 rfl _ (sec_zero _) ?_; intro y6 hbq hl1 hs1; clear hs1)
    | ((with_reducible refine at_store 9 ?_); refine wpList_store_all rfl 43 (.tmp 9) (.tmp 56) rfl y5.heap.size 43 _ hbq rfl (secL s) rfl (msec_size _) (msec_len _ _) (secL_one _) ?_; intro y7 hbz hg hs; have HS_y7 : Hid (Duo w0 y7 b r S S [(w.heap.size, 36, opL 2 n xd xk yd yk m), (y2.heap.size, 43, secL s), (y5.heap.size, 43, secL s)]) := hide (HS_y5.out.new hl1 hg hbz); clear hs hbq hl1 hg hbz)
    | ((with_reducible refine at_slot 58 ?_); refine when_own rfl (.tmp 7) rfl HS_y7.out.own 1 rfl rfl Try.underlying43 rfl (msec_size _) ?_)
    | ((with_reducible refine at_slot 59 ?_); refine when_own rfl (.tmp 9) rfl HS_y7.out.own 2 rfl rfl Try.underlying43 rfl (msec_size _) ?_)
    | ((with_reducible refine at_slot 60 ?_); refine when_eqS rfl (.tmp 58) (.tmp 59) _ rfl s s rfl rfl true (by simp) ?_))
  go_ret
  exact ⟨by simp, S, HS_y7.out.cut 0, by omega⟩
set_option maxRecDepth 100000 in
set_option maxHeartbeats 8000000 in
theorem does3_any (K : MirK) (h : Duo w0 w b r S S []) (hw : S.writes < 4611686018427380000) (n xd xk yd yk : Int) (m : Nat) (hn1 : -9223372036854775808 ≤ n) (hn2 : n ≤ 9223372036854775807) (hm : m < 18446744073709551616) :
    Calls Try.prog 13 #[.pointer (some ⟨b, 0, none⟩), .pointer (some ⟨r, 0, none⟩), .agg #[.int .i64 3, .int .i64 n, .int .i64 xd, .int .i64 xk, .int .i64 yd, .int .i64 yk, .int .u64 (m : Int)]] w fun e w' => e = .returned (.bool true) ∧ ∃ S', Duo w0 w' b r S' S' [] ∧ S'.writes ≤ S.writes + 2 := by
  have HS_w := hide h
  have HWR := hide hw
  clear h hw
  obtain ⟨d, hd⟩ : ∃ z, (S.malike (nI xd) (nI xk) (nI yd) (nI yk)).1.1 = z := ⟨_, rfl⟩
  have H_d := hide hd
  clear hd
  obtain ⟨e, he⟩ : ∃ z, (S.malike (nI xd) (nI xk) (nI yd) (nI yk)).1.2 = z := ⟨_, rfl⟩
  have H_e := hide he
  clear he
  obtain ⟨S1, hS1⟩ : ∃ z, (S.malike (nI xd) (nI xk) (nI yd) (nI yk)).2 = z := ⟨_, rfl⟩
  have H_S1 := hide hS1
  clear hS1
  have HFW := hide (show S1.writes ≤ S.writes + 2 by rw [← H_S1.out]; have := malike_few S (nI xd) (nI xk) (nI yd) (nI yk); omega)
  go_enter Try.func13, Try.ntmps13
  go_wp2_with (first
    | ((with_reducible refine at_slot 5 ?_); refine wpList_box_blk rfl 36 _ rfl (.agg #[.int .i64 3, .int .i64 n, .int .i64 xd, .int .i64 xk, .int .i64 yd, .int .i64 yk, .int .u64 (m : Int)]) rfl ?_; intro y1 hbq hl1 hs1; have HS_y1 : Hid (Duo w0 y1 b r S S [(w.heap.size, 36, opL 3 n xd xk yd yk m)]) := hide (HS_w.out.var hl1 (Nat.le_refl _) hbq); have hc0 : y1.cell? ⟨w.heap.size, 0, none⟩ = some (.int .i64 3) := HS_y1.out.own.blk 0 rfl |>.cell 0; clear hbq hl1 hs1)
    | ((with_reducible refine at_slot 71 ?_); refine when_load rfl 33 (.tmp 70) rfl w.heap.size 2 36 _ (HS_y1.out.own.blk 0 rfl) rfl (plL xd xk) _ opL_x Try.underlying33 rfl mplace_info ?_)
    | ((with_reducible refine at_slot 73 ?_); refine when_load rfl 33 (.tmp 72) rfl w.heap.size 4 36 _ (HS_y1.out.own.blk 0 rfl) rfl (plL yd yk) _ opL_y Try.underlying33 rfl mplace_info ?_)
    | (go_at_call 25; refine (HS_y1.out.code (fun F hB => K.alike_any _ b F S hB (by have := HWR.out; omega) xd xk yd yk)).mono ?_; rintro _ y2 ⟨rfl, hsq⟩; rw [H_S1.out] at hsq; rw [H_d.out, H_e.out]; have HS_y2 : Hid (Duo w0 y2 b r S1 S [(w.heap.size, 36, opL 3 n xd xk yd yk m)]) := hide (hsq); clear hsq)
    | ((with_reducible refine at_slot 80 ?_); refine when_load rfl 33 (.tmp 79) rfl w.heap.size 2 36 _ (HS_y2.out.own.blk 0 rfl) rfl (plL xd xk) _ opL_x Try.underlying33 rfl mplace_info ?_)
    | ((with_reducible refine at_slot 82 ?_); refine when_load rfl 33 (.tmp 81) rfl w.heap.size 4 36 _ (HS_y2.out.own.blk 0 rfl) rfl (plL yd yk) _ opL_y Try.underlying33 rfl mplace_info ?_)
    | (go_at_call 38; refine (HS_y2.out.ref (fun G hB => rmalike_any hB (by have := HWR.out; omega) xd xk yd yk)).mono ?_; rintro _ y3 ⟨rfl, hsq⟩; rw [H_S1.out] at hsq; rw [H_d.out, H_e.out]; have HS_y3 : Hid (Duo w0 y3 b r S1 S1 [(w.heap.size, 36, opL 3 n xd xk yd yk m)]) := hide (hsq); clear hsq))
  go_ret
  exact ⟨by simp, S1, HS_y3.out.cut 0, HFW.out⟩
set_option maxRecDepth 100000 in
set_option maxHeartbeats 8000000 in
theorem does4_any (K : MirK) (h : Duo w0 w b r S S []) (hw : S.writes < 4611686018427380000) (n xd xk yd yk : Int) (m : Nat) (hn1 : -9223372036854775808 ≤ n) (hn2 : n ≤ 9223372036854775807) (hm : m < 18446744073709551616) :
    Calls Try.prog 13 #[.pointer (some ⟨b, 0, none⟩), .pointer (some ⟨r, 0, none⟩), .agg #[.int .i64 4, .int .i64 n, .int .i64 xd, .int .i64 xk, .int .i64 yd, .int .i64 yk, .int .u64 (m : Int)]] w fun e w' => e = .returned (.bool true) ∧ ∃ S', Duo w0 w' b r S' S' [] ∧ S'.writes ≤ S.writes + 2 := by
  have HS_w := hide h
  have HWR := hide hw
  clear h hw
  obtain ⟨e, he⟩ : ∃ z, (S.mcopy (nI xd) (nI xk) (nI yd) (nI yk)).1 = z := ⟨_, rfl⟩
  have H_e := hide he
  clear he
  obtain ⟨S1, hS1⟩ : ∃ z, (S.mcopy (nI xd) (nI xk) (nI yd) (nI yk)).2 = z := ⟨_, rfl⟩
  have H_S1 := hide hS1
  clear hS1
  have HFW := hide (show S1.writes ≤ S.writes + 2 by rw [← H_S1.out]; have := mcopy_few S (nI xd) (nI xk) (nI yd) (nI yk); omega)
  go_enter Try.func13, Try.ntmps13
  go_wp2_with (first
    | ((with_reducible refine at_slot 5 ?_); refine wpList_box_blk rfl 36 _ rfl (.agg #[.int .i64 4, .int .i64 n, .int .i64 xd, .int .i64 xk, .int .i64 yd, .int .i64 yk, .int .u64 (m : Int)]) rfl ?_; intro y1 hbq hl1 hs1; have HS_y1 : Hid (Duo w0 y1 b r S S [(w.heap.size, 36, opL 4 n xd xk yd yk m)]) := hide (HS_w.out.var hl1 (Nat.le_refl _) hbq); have hc0 : y1.cell? ⟨w.heap.size, 0, none⟩ = some (.int .i64 4) := HS_y1.out.own.blk 0 rfl |>.cell 0; clear hbq hl1 hs1))
  refine wp_region_held_drew (S := (fun W => OwnV W 0 [(w.heap.size, 36, opL 4 n xd xk yd yk m)])) (by kernel_rfl) ?_ (fun hHeld => ?_)
  · exact HS_y1.out.drew.own
  have HS_dy1 := hide (HS_y1.out.drew)
  refine heldTake (i := 0) (v := ?_) rfl (by kernel_rfl) (by kernel_rfl) (by kernel_rfl) (fun _ _ _ h => h) (Or.inl ⟨by rfl, ?_⟩) (by assumption) ?_
  rotate_left
  · intro w hSw; (try dsimp only at hSw); go_simp <;> (with_reducible rfl)
  try simp only [Act.put, List.setIfInBounds_toArray, List.set_cons_zero, List.set_cons_succ]
  refine heldTake (i := 1) (v := ?_) rfl (by kernel_rfl) (by kernel_rfl) (by kernel_rfl) (fun _ _ _ h => h) (Or.inl ⟨by rfl, ?_⟩) (by assumption) ?_
  rotate_left
  · intro w hSw; (try dsimp only at hSw); go_simp <;> (with_reducible rfl)
  try simp only [Act.put, List.setIfInBounds_toArray, List.set_cons_zero, List.set_cons_succ]
  refine heldTake (i := 2) (v := .agg (plL xd xk).toArray) rfl (by kernel_rfl) (by kernel_rfl) (by kernel_rfl) (fun _ _ _ h => h) (yieldsIf_load_mid (by rfl) _ _ rfl _ _ rfl (plL xd xk) _ (fun W hW => op_x (hW.blk 0 rfl)) Try.underlying33 rfl mplace_info) (by assumption) ?_
  try simp only [Act.put, List.setIfInBounds_toArray, List.set_cons_zero, List.set_cons_succ]
  refine heldTake (i := 3) (v := ?_) rfl (by kernel_rfl) (by kernel_rfl) (by kernel_rfl) (fun _ _ _ h => h) (Or.inl ⟨by rfl, ?_⟩) (by assumption) ?_
  rotate_left
  · intro w hSw; (try dsimp only at hSw); go_simp <;> (with_reducible rfl)
  try simp only [Act.put, List.setIfInBounds_toArray, List.set_cons_zero, List.set_cons_succ]
  refine heldTake (i := 4) (v := .agg (plL yd yk).toArray) rfl (by kernel_rfl) (by kernel_rfl) (by kernel_rfl) (fun _ _ _ h => h) (yieldsIf_load_mid (by rfl) _ _ rfl _ _ rfl (plL yd yk) _ (fun W hW => op_y (hW.blk 0 rfl)) Try.underlying33 rfl mplace_info) (by assumption) ?_
  try simp only [Act.put, List.setIfInBounds_toArray, List.set_cons_zero, List.set_cons_succ]
  refine heldTake (i := 6) (v := ?_) rfl (by kernel_rfl) (by kernel_rfl) (by kernel_rfl) (fun _ _ _ h => h) (Or.inl ⟨by rfl, ?_⟩) (by assumption) ?_
  rotate_left
  · intro w hSw; (try dsimp only at hSw); go_simp <;> (with_reducible rfl)
  try simp only [Act.put, List.setIfInBounds_toArray, List.set_cons_zero, List.set_cons_succ]
  refine heldTake (i := 7) (v := ?_) rfl (by kernel_rfl) (by kernel_rfl) (by kernel_rfl) (fun _ _ _ h => h) (Or.inl ⟨by rfl, ?_⟩) (by assumption) ?_
  rotate_left
  · intro w hSw; (try dsimp only at hSw); go_simp <;> (with_reducible rfl)
  try simp only [Act.put, List.setIfInBounds_toArray, List.set_cons_zero, List.set_cons_succ]
  refine heldTake (i := 8) (v := .agg (plL xd xk).toArray) rfl (by kernel_rfl) (by kernel_rfl) (by kernel_rfl) (fun _ _ _ h => h) (yieldsIf_load_mid (by rfl) _ _ rfl _ _ rfl (plL xd xk) _ (fun W hW => op_x (hW.blk 0 rfl)) Try.underlying33 rfl mplace_info) (by assumption) ?_
  try simp only [Act.put, List.setIfInBounds_toArray, List.set_cons_zero, List.set_cons_succ]
  refine heldTake (i := 9) (v := ?_) rfl (by kernel_rfl) (by kernel_rfl) (by kernel_rfl) (fun _ _ _ h => h) (Or.inl ⟨by rfl, ?_⟩) (by assumption) ?_
  rotate_left
  · intro w hSw; (try dsimp only at hSw); go_simp <;> (with_reducible rfl)
  try simp only [Act.put, List.setIfInBounds_toArray, List.set_cons_zero, List.set_cons_succ]
  refine heldTake (i := 10) (v := .agg (plL yd yk).toArray) rfl (by kernel_rfl) (by kernel_rfl) (by kernel_rfl) (fun _ _ _ h => h) (yieldsIf_load_mid (by rfl) _ _ rfl _ _ rfl (plL yd yk) _ (fun W hW => op_y (hW.blk 0 rfl)) Try.underlying33 rfl mplace_info) (by assumption) ?_
  try simp only [Act.put, List.setIfInBounds_toArray, List.set_cons_zero, List.set_cons_succ]
  refine wpAnyH_ready (rs := [5]) (by kernel_rfl) (by simp) ?_
  refine heldCons (i := 5) rfl (fun Kq hKq => ?_) AllReadyH.nil
  go_simp
  go_at_call 31
  (with_reducible refine (HS_dy1.out.code (fun F hB => K.copy_any _ b F S hB (by have := HWR.out; omega) xd xk yd yk)).mono ?_)
  rintro _ y2 ⟨rfl, hsq⟩
  rw [H_S1.out] at hsq
  rw [H_e.out]
  have HS_y2 : Hid (Duo w0 y2 b r S1 S [(w.heap.size, 36, opL 4 n xd xk yd yk m)]) := hide (hsq)
  clear hsq
  first | (refine hKq.out _ _ HS_y2.out.own (fun hHeld => ?_)) | (go_wp2_with fail; refine hKq.out _ _ HS_y2.out.own (fun hHeld => ?_))
  clear hKq Kq
  try simp only [Act.put, List.setIfInBounds_toArray, List.set_cons_zero, List.set_cons_succ]
  refine wpAnyH_ready (rs := [11]) (by kernel_rfl) (by simp) ?_
  refine heldCons (i := 11) rfl (fun Kq hKq => ?_) AllReadyH.nil
  go_simp
  go_at_call 39
  (with_reducible refine (HS_y2.out.ref (fun G hB => rmcopy_any hB (by have := HWR.out; omega) xd xk yd yk)).mono ?_)
  rintro _ y3 ⟨rfl, hsq⟩
  rw [H_S1.out] at hsq
  rw [H_e.out]
  have HS_y3 : Hid (Duo w0 y3 b r S1 S1 [(w.heap.size, 36, opL 4 n xd xk yd yk m)]) := hide (hsq)
  clear hsq
  first | (refine hKq.out _ _ HS_y3.out.own (fun hHeld => ?_)) | (go_wp2_with fail; refine hKq.out _ _ HS_y3.out.own (fun hHeld => ?_))
  clear hKq Kq
  try simp only [Act.put, List.setIfInBounds_toArray, List.set_cons_zero, List.set_cons_succ]
  refine heldTake (i := 12) (v := ?_) rfl (by kernel_rfl) (by kernel_rfl) (by kernel_rfl) (fun _ _ _ h => h) (Or.inl ⟨by rfl, ?_⟩) (by assumption) ?_
  rotate_left
  · intro w hSw; (try dsimp only at hSw); go_simp <;> (with_reducible rfl)
  try simp only [Act.put, List.setIfInBounds_toArray, List.set_cons_zero, List.set_cons_succ]
  refine heldTake (i := 13) (v := ?_) rfl (by kernel_rfl) (by kernel_rfl) (by kernel_rfl) (fun _ _ _ h => h) (Or.inl ⟨by rfl, ?_⟩) (by assumption) ?_
  rotate_left
  · intro w hSw; (try dsimp only at hSw); go_simp <;> (with_reducible rfl)
  try simp only [Act.put, List.setIfInBounds_toArray, List.set_cons_zero, List.set_cons_succ]
  refine wpAnyH_done (by kernel_rfl) ?_ _
  go_wp2_with fail
  go_ret
  exact ⟨by simp, S1, HS_y3.out.cut 0, HFW.out⟩
set_option maxRecDepth 100000 in
set_option maxHeartbeats 8000000 in
theorem does5_any (h : Duo w0 w b r S S []) (hw : S.writes < 4611686018427380000) (n xd xk yd yk : Int) (m : Nat) (hn1 : -9223372036854775808 ≤ n) (hn2 : n ≤ 9223372036854775807) (hm : m < 18446744073709551616) :
    Calls Try.prog 13 #[.pointer (some ⟨b, 0, none⟩), .pointer (some ⟨r, 0, none⟩), .agg #[.int .i64 5, .int .i64 n, .int .i64 xd, .int .i64 xk, .int .i64 yd, .int .i64 yk, .int .u64 (m : Int)]] w fun e w' => e = .returned (.bool true) ∧ ∃ S', Duo w0 w' b r S' S' [] ∧ S'.writes ≤ S.writes + 2 := by
  have HS_w := hide h
  have HWR := hide hw
  clear h hw
  obtain ⟨a, ha⟩ : ∃ a, a = secOf n := ⟨_, rfl⟩
  have HA := hide (fun w => ha ▸ sector_any n w)
  clear ha
  obtain ⟨e, he⟩ : ∃ z, (S.write (nI xd) (nI xk) a).1 = z := ⟨_, rfl⟩
  have H_e := hide he
  clear he
  obtain ⟨S1, hS1⟩ : ∃ z, (S.write (nI xd) (nI xk) a).2 = z := ⟨_, rfl⟩
  have H_S1 := hide hS1
  clear hS1
  have HFW := hide (show S1.writes ≤ S.writes + 2 by rw [← H_S1.out]; have := write_few S (nI xd) (nI xk) a; omega)
  go_enter Try.func13, Try.ntmps13
  go_wp2_with (first
    | ((with_reducible refine at_slot 5 ?_); refine wpList_box_blk rfl 36 _ rfl (.agg #[.int .i64 5, .int .i64 n, .int .i64 xd, .int .i64 xk, .int .i64 yd, .int .i64 yk, .int .u64 (m : Int)]) rfl ?_; intro y1 hbq hl1 hs1; have HS_y1 : Hid (Duo w0 y1 b r S S [(w.heap.size, 36, opL 5 n xd xk yd yk m)]) := hide (HS_w.out.var hl1 (Nat.le_refl _) hbq); have hc0 : y1.cell? ⟨w.heap.size, 0, none⟩ = some (.int .i64 5) := HS_y1.out.own.blk 0 rfl |>.cell 0; clear hbq hl1 hs1))
  refine wp_region_held_drew (S := (fun W => OwnV W 0 [(w.heap.size, 36, opL 5 n xd xk yd yk m)])) (by kernel_rfl) ?_ (fun hHeld => ?_)
  · exact HS_y1.out.drew.own
  have HS_dy1 := hide (HS_y1.out.drew)
  refine heldTake (i := 0) (v := ?_) rfl (by kernel_rfl) (by kernel_rfl) (by kernel_rfl) (fun _ _ _ h => h) (Or.inl ⟨by rfl, ?_⟩) (by assumption) ?_
  rotate_left
  · intro w hSw; (try dsimp only at hSw); go_simp <;> (with_reducible rfl)
  try simp only [Act.put, List.setIfInBounds_toArray, List.set_cons_zero, List.set_cons_succ]
  refine heldTake (i := 1) (v := ?_) rfl (by kernel_rfl) (by kernel_rfl) (by kernel_rfl) (fun _ _ _ h => h) (Or.inl ⟨by rfl, ?_⟩) (by assumption) ?_
  rotate_left
  · intro w hSw; (try dsimp only at hSw); go_simp <;> (with_reducible rfl)
  try simp only [Act.put, List.setIfInBounds_toArray, List.set_cons_zero, List.set_cons_succ]
  refine heldTake (i := 2) (v := .agg (plL xd xk).toArray) rfl (by kernel_rfl) (by kernel_rfl) (by kernel_rfl) (fun _ _ _ h => h) (yieldsIf_load_mid (by rfl) _ _ rfl _ _ rfl (plL xd xk) _ (fun W hW => op_x (hW.blk 0 rfl)) Try.underlying33 rfl mplace_info) (by assumption) ?_
  try simp only [Act.put, List.setIfInBounds_toArray, List.set_cons_zero, List.set_cons_succ]
  refine heldTake (i := 3) (v := ?_) rfl (by kernel_rfl) (by kernel_rfl) (by kernel_rfl) (fun _ _ _ h => h) (Or.inl ⟨by rfl, ?_⟩) (by assumption) ?_
  rotate_left
  · intro w hSw; (try dsimp only at hSw); go_simp <;> (with_reducible rfl)
  try simp only [Act.put, List.setIfInBounds_toArray, List.set_cons_zero, List.set_cons_succ]
  refine heldTake (i := 4) (v := .int .i64 n) rfl (by kernel_rfl) (by kernel_rfl) (by kernel_rfl) (fun _ _ _ h => h) (Or.inl ⟨by rfl, fun W hW => ?_⟩) (by assumption) ?_
  · have hc : W.cell? ⟨w.heap.size, 1, none⟩ = some (.int .i64 n) := (hW.blk 0 rfl).cell 1
    go_simp <;> rfl
  try simp only [Act.put, List.setIfInBounds_toArray, List.set_cons_zero, List.set_cons_succ]
  refine heldTake (i := 7) (v := ?_) rfl (by kernel_rfl) (by kernel_rfl) (by kernel_rfl) (fun _ _ _ h => h) (Or.inl ⟨by rfl, ?_⟩) (by assumption) ?_
  rotate_left
  · intro w hSw; (try dsimp only at hSw); go_simp <;> (with_reducible rfl)
  try simp only [Act.put, List.setIfInBounds_toArray, List.set_cons_zero, List.set_cons_succ]
  refine heldTake (i := 8) (v := ?_) rfl (by kernel_rfl) (by kernel_rfl) (by kernel_rfl) (fun _ _ _ h => h) (Or.inl ⟨by rfl, ?_⟩) (by assumption) ?_
  rotate_left
  · intro w hSw; (try dsimp only at hSw); go_simp <;> (with_reducible rfl)
  try simp only [Act.put, List.setIfInBounds_toArray, List.set_cons_zero, List.set_cons_succ]
  refine heldTake (i := 9) (v := .agg (plL xd xk).toArray) rfl (by kernel_rfl) (by kernel_rfl) (by kernel_rfl) (fun _ _ _ h => h) (yieldsIf_load_mid (by rfl) _ _ rfl _ _ rfl (plL xd xk) _ (fun W hW => op_x (hW.blk 0 rfl)) Try.underlying33 rfl mplace_info) (by assumption) ?_
  try simp only [Act.put, List.setIfInBounds_toArray, List.set_cons_zero, List.set_cons_succ]
  refine heldTake (i := 10) (v := ?_) rfl (by kernel_rfl) (by kernel_rfl) (by kernel_rfl) (fun _ _ _ h => h) (Or.inl ⟨by rfl, ?_⟩) (by assumption) ?_
  rotate_left
  · intro w hSw; (try dsimp only at hSw); go_simp <;> (with_reducible rfl)
  try simp only [Act.put, List.setIfInBounds_toArray, List.set_cons_zero, List.set_cons_succ]
  refine heldTake (i := 11) (v := .int .i64 n) rfl (by kernel_rfl) (by kernel_rfl) (by kernel_rfl) (fun _ _ _ h => h) (Or.inl ⟨by rfl, fun W hW => ?_⟩) (by assumption) ?_
  · have hc : W.cell? ⟨w.heap.size, 1, none⟩ = some (.int .i64 n) := (hW.blk 0 rfl).cell 1
    go_simp <;> rfl
  try simp only [Act.put, List.setIfInBounds_toArray, List.set_cons_zero, List.set_cons_succ]
  refine wpAnyH_ready (rs := [5]) (by kernel_rfl) (by simp) ?_
  refine heldCons (i := 5) rfl (fun Kq hKq => ?_) AllReadyH.nil
  go_simp
  go_at_call 23
  (with_reducible refine (HA.out _).mono ?_)
  rintro _ y2 ⟨rfl, hlq⟩
  have HS_y2 : Hid (Duo w0 y2 b r S S [(w.heap.size, 36, opL 5 n xd xk yd yk m)]) := hide (HS_dy1.out.later hlq)
  clear hlq
  first | (refine hKq.out _ _ HS_y2.out.own (fun hHeld => ?_)) | (go_wp2_with fail; refine hKq.out _ _ HS_y2.out.own (fun hHeld => ?_))
  clear hKq Kq
  try simp only [Act.put, List.setIfInBounds_toArray, List.set_cons_zero, List.set_cons_succ]
  refine wpAnyH_ready (rs := [6]) (by kernel_rfl) (by simp) ?_
  refine heldCons (i := 6) rfl (fun Kq hKq => ?_) AllReadyH.nil
  go_simp
  go_at_call 29
  (with_reducible refine (HS_y2.out.code (fun F hB => onI_write hB (by have := HWR.out; omega) xd xk a)).mono ?_)
  rintro _ y3 ⟨rfl, hsq⟩
  rw [H_S1.out] at hsq
  rw [H_e.out]
  have HS_y3 : Hid (Duo w0 y3 b r S1 S [(w.heap.size, 36, opL 5 n xd xk yd yk m)]) := hide (hsq)
  clear hsq
  first | (refine hKq.out _ _ HS_y3.out.own (fun hHeld => ?_)) | (go_wp2_with fail; refine hKq.out _ _ HS_y3.out.own (fun hHeld => ?_))
  clear hKq Kq
  try simp only [Act.put, List.setIfInBounds_toArray, List.set_cons_zero, List.set_cons_succ]
  refine wpAnyH_ready (rs := [12]) (by kernel_rfl) (by simp) ?_
  refine heldCons (i := 12) rfl (fun Kq hKq => ?_) AllReadyH.nil
  go_simp
  go_at_call 23
  (with_reducible refine (HA.out _).mono ?_)
  rintro _ y4 ⟨rfl, hlq⟩
  have HS_y4 : Hid (Duo w0 y4 b r S1 S [(w.heap.size, 36, opL 5 n xd xk yd yk m)]) := hide (HS_y3.out.later hlq)
  clear hlq
  first | (refine hKq.out _ _ HS_y4.out.own (fun hHeld => ?_)) | (go_wp2_with fail; refine hKq.out _ _ HS_y4.out.own (fun hHeld => ?_))
  clear hKq Kq
  try simp only [Act.put, List.setIfInBounds_toArray, List.set_cons_zero, List.set_cons_succ]
  refine wpAnyH_ready (rs := [13]) (by kernel_rfl) (by simp) ?_
  refine heldCons (i := 13) rfl (fun Kq hKq => ?_) AllReadyH.nil
  go_simp
  go_at_call 40
  (with_reducible refine (HS_y4.out.ref (fun G hB => rOnI_write hB (by have := HWR.out; omega) xd xk a)).mono ?_)
  rintro _ y5 ⟨rfl, hsq⟩
  rw [H_S1.out] at hsq
  rw [H_e.out]
  have HS_y5 : Hid (Duo w0 y5 b r S1 S1 [(w.heap.size, 36, opL 5 n xd xk yd yk m)]) := hide (hsq)
  clear hsq
  first | (refine hKq.out _ _ HS_y5.out.own (fun hHeld => ?_)) | (go_wp2_with fail; refine hKq.out _ _ HS_y5.out.own (fun hHeld => ?_))
  clear hKq Kq
  try simp only [Act.put, List.setIfInBounds_toArray, List.set_cons_zero, List.set_cons_succ]
  refine heldTake (i := 14) (v := ?_) rfl (by kernel_rfl) (by kernel_rfl) (by kernel_rfl) (fun _ _ _ h => h) (Or.inl ⟨by rfl, ?_⟩) (by assumption) ?_
  rotate_left
  · intro w hSw; (try dsimp only at hSw); go_simp <;> (with_reducible rfl)
  try simp only [Act.put, List.setIfInBounds_toArray, List.set_cons_zero, List.set_cons_succ]
  refine heldTake (i := 15) (v := ?_) rfl (by kernel_rfl) (by kernel_rfl) (by kernel_rfl) (fun _ _ _ h => h) (Or.inl ⟨by rfl, ?_⟩) (by assumption) ?_
  rotate_left
  · intro w hSw; (try dsimp only at hSw); go_simp <;> (with_reducible rfl)
  try simp only [Act.put, List.setIfInBounds_toArray, List.set_cons_zero, List.set_cons_succ]
  refine wpAnyH_done (by kernel_rfl) ?_ _
  go_wp2_with fail
  go_ret
  exact ⟨by simp, S1, HS_y5.out.cut 0, HFW.out⟩
set_option maxRecDepth 100000 in
set_option maxHeartbeats 8000000 in
theorem does6_any (h : Duo w0 w b r S S []) (hw : S.writes < 4611686018427380000) (n xd xk yd yk : Int) (m : Nat) (hn1 : -9223372036854775808 ≤ n) (hn2 : n ≤ 9223372036854775807) (hm : m < 18446744073709551616) :
    Calls Try.prog 13 #[.pointer (some ⟨b, 0, none⟩), .pointer (some ⟨r, 0, none⟩), .agg #[.int .i64 6, .int .i64 n, .int .i64 xd, .int .i64 xk, .int .i64 yd, .int .i64 yk, .int .u64 (m : Int)]] w fun e w' => e = .returned (.bool true) ∧ ∃ S', Duo w0 w' b r S' S' [] ∧ S'.writes ≤ S.writes + 2 := by
  have HS_w := hide h
  have HWR := hide hw
  clear h hw
  obtain ⟨S1, hS1⟩ : ∃ z, S.failI (nI xd) = z := ⟨_, rfl⟩
  have H_S1 := hide hS1
  clear hS1
  obtain ⟨e, he⟩ : ∃ z, (if nI xd < S.n then 0 else 8 : Nat) = z := ⟨_, rfl⟩
  have H_e := hide he
  clear he
  have HFW := hide (show S1.writes ≤ S.writes + 2 by rw [← H_S1.out, (fails_few S (nI xd) 0).1]; omega)
  go_enter Try.func13, Try.ntmps13
  go_wp2_with (first
    | ((with_reducible refine at_slot 5 ?_); refine wpList_box_blk rfl 36 _ rfl (.agg #[.int .i64 6, .int .i64 n, .int .i64 xd, .int .i64 xk, .int .i64 yd, .int .i64 yk, .int .u64 (m : Int)]) rfl ?_; intro y1 hbq hl1 hs1; have HS_y1 : Hid (Duo w0 y1 b r S S [(w.heap.size, 36, opL 6 n xd xk yd yk m)]) := hide (HS_w.out.var hl1 (Nat.le_refl _) hbq); have hc0 : y1.cell? ⟨w.heap.size, 0, none⟩ = some (.int .i64 6) := HS_y1.out.own.blk 0 rfl |>.cell 0; clear hbq hl1 hs1))
  refine wp_region_held_drew (S := (fun W => OwnV W 0 [(w.heap.size, 36, opL 6 n xd xk yd yk m)])) (by kernel_rfl) ?_ (fun hHeld => ?_)
  · exact HS_y1.out.drew.own
  have HS_dy1 := hide (HS_y1.out.drew)
  refine heldTake (i := 0) (v := ?_) rfl (by kernel_rfl) (by kernel_rfl) (by kernel_rfl) (fun _ _ _ h => h) (Or.inl ⟨by rfl, ?_⟩) (by assumption) ?_
  rotate_left
  · intro w hSw; (try dsimp only at hSw); go_simp <;> (with_reducible rfl)
  try simp only [Act.put, List.setIfInBounds_toArray, List.set_cons_zero, List.set_cons_succ]
  refine heldTake (i := 1) (v := ?_) rfl (by kernel_rfl) (by kernel_rfl) (by kernel_rfl) (fun _ _ _ h => h) (Or.inl ⟨by rfl, ?_⟩) (by assumption) ?_
  rotate_left
  · intro w hSw; (try dsimp only at hSw); go_simp <;> (with_reducible rfl)
  try simp only [Act.put, List.setIfInBounds_toArray, List.set_cons_zero, List.set_cons_succ]
  refine heldTake (i := 2) (v := ?_) rfl (by kernel_rfl) (by kernel_rfl) (by kernel_rfl) (fun _ _ _ h => h) (Or.inl ⟨by rfl, ?_⟩) (by assumption) ?_
  rotate_left
  · intro w hSw; (try dsimp only at hSw); go_simp <;> (with_reducible rfl)
  try simp only [Act.put, List.setIfInBounds_toArray, List.set_cons_zero, List.set_cons_succ]
  refine heldTake (i := 3) (v := .int .i64 xd) rfl (by kernel_rfl) (by kernel_rfl) (by kernel_rfl) (fun _ _ _ h => h) (Or.inl ⟨by rfl, fun W hW => ?_⟩) (by assumption) ?_
  · have hc : W.cell? ⟨w.heap.size, 2, none⟩ = some (.int .i64 xd) := (hW.blk 0 rfl).cell 2
    go_simp <;> rfl
  try simp only [Act.put, List.setIfInBounds_toArray, List.set_cons_zero, List.set_cons_succ]
  refine heldTake (i := 5) (v := ?_) rfl (by kernel_rfl) (by kernel_rfl) (by kernel_rfl) (fun _ _ _ h => h) (Or.inl ⟨by rfl, ?_⟩) (by assumption) ?_
  rotate_left
  · intro w hSw; (try dsimp only at hSw); go_simp <;> (with_reducible rfl)
  try simp only [Act.put, List.setIfInBounds_toArray, List.set_cons_zero, List.set_cons_succ]
  refine heldTake (i := 6) (v := ?_) rfl (by kernel_rfl) (by kernel_rfl) (by kernel_rfl) (fun _ _ _ h => h) (Or.inl ⟨by rfl, ?_⟩) (by assumption) ?_
  rotate_left
  · intro w hSw; (try dsimp only at hSw); go_simp <;> (with_reducible rfl)
  try simp only [Act.put, List.setIfInBounds_toArray, List.set_cons_zero, List.set_cons_succ]
  refine heldTake (i := 7) (v := ?_) rfl (by kernel_rfl) (by kernel_rfl) (by kernel_rfl) (fun _ _ _ h => h) (Or.inl ⟨by rfl, ?_⟩) (by assumption) ?_
  rotate_left
  · intro w hSw; (try dsimp only at hSw); go_simp <;> (with_reducible rfl)
  try simp only [Act.put, List.setIfInBounds_toArray, List.set_cons_zero, List.set_cons_succ]
  refine heldTake (i := 8) (v := .int .i64 xd) rfl (by kernel_rfl) (by kernel_rfl) (by kernel_rfl) (fun _ _ _ h => h) (Or.inl ⟨by rfl, fun W hW => ?_⟩) (by assumption) ?_
  · have hc : W.cell? ⟨w.heap.size, 2, none⟩ = some (.int .i64 xd) := (hW.blk 0 rfl).cell 2
    go_simp <;> rfl
  try simp only [Act.put, List.setIfInBounds_toArray, List.set_cons_zero, List.set_cons_succ]
  refine wpAnyH_ready (rs := [4]) (by kernel_rfl) (by simp) ?_
  refine heldCons (i := 4) rfl (fun Kq hKq => ?_) AllReadyH.nil
  go_simp
  go_at_call 30
  (with_reducible refine (HS_dy1.out.code (fun F hB => onI_fail hB xd)).mono ?_)
  rintro _ y2 ⟨rfl, hsq⟩
  rw [H_S1.out] at hsq
  rw [H_e.out]
  have HS_y2 : Hid (Duo w0 y2 b r S1 S [(w.heap.size, 36, opL 6 n xd xk yd yk m)]) := hide (hsq)
  clear hsq
  first | (refine hKq.out _ _ HS_y2.out.own (fun hHeld => ?_)) | (go_wp2_with fail; refine hKq.out _ _ HS_y2.out.own (fun hHeld => ?_))
  clear hKq Kq
  try simp only [Act.put, List.setIfInBounds_toArray, List.set_cons_zero, List.set_cons_succ]
  refine wpAnyH_ready (rs := [9]) (by kernel_rfl) (by simp) ?_
  refine heldCons (i := 9) rfl (fun Kq hKq => ?_) AllReadyH.nil
  go_simp
  go_at_call 41
  (with_reducible refine (HS_y2.out.ref (fun G hB => rOnI_fail hB xd)).mono ?_)
  rintro _ y3 ⟨rfl, hsq⟩
  rw [H_S1.out] at hsq
  rw [H_e.out]
  have HS_y3 : Hid (Duo w0 y3 b r S1 S1 [(w.heap.size, 36, opL 6 n xd xk yd yk m)]) := hide (hsq)
  clear hsq
  first | (refine hKq.out _ _ HS_y3.out.own (fun hHeld => ?_)) | (go_wp2_with fail; refine hKq.out _ _ HS_y3.out.own (fun hHeld => ?_))
  clear hKq Kq
  try simp only [Act.put, List.setIfInBounds_toArray, List.set_cons_zero, List.set_cons_succ]
  refine heldTake (i := 10) (v := ?_) rfl (by kernel_rfl) (by kernel_rfl) (by kernel_rfl) (fun _ _ _ h => h) (Or.inl ⟨by rfl, ?_⟩) (by assumption) ?_
  rotate_left
  · intro w hSw; (try dsimp only at hSw); go_simp <;> (with_reducible rfl)
  try simp only [Act.put, List.setIfInBounds_toArray, List.set_cons_zero, List.set_cons_succ]
  refine heldTake (i := 11) (v := ?_) rfl (by kernel_rfl) (by kernel_rfl) (by kernel_rfl) (fun _ _ _ h => h) (Or.inl ⟨by rfl, ?_⟩) (by assumption) ?_
  rotate_left
  · intro w hSw; (try dsimp only at hSw); go_simp <;> (with_reducible rfl)
  try simp only [Act.put, List.setIfInBounds_toArray, List.set_cons_zero, List.set_cons_succ]
  refine wpAnyH_done (by kernel_rfl) ?_ _
  go_wp2_with fail
  go_ret
  exact ⟨by simp, S1, HS_y3.out.cut 0, HFW.out⟩
set_option maxRecDepth 100000 in
set_option maxHeartbeats 8000000 in
theorem does11_any (h : Duo w0 w b r S S []) (hw : S.writes < 4611686018427380000) (n xd xk yd yk : Int) (m : Nat) (hn1 : -9223372036854775808 ≤ n) (hn2 : n ≤ 9223372036854775807) (hm : m < 18446744073709551616) :
    Calls Try.prog 13 #[.pointer (some ⟨b, 0, none⟩), .pointer (some ⟨r, 0, none⟩), .agg #[.int .i64 11, .int .i64 n, .int .i64 xd, .int .i64 xk, .int .i64 yd, .int .i64 yk, .int .u64 (m : Int)]] w fun e w' => e = .returned (.bool true) ∧ ∃ S', Duo w0 w' b r S' S' [] ∧ S'.writes ≤ S.writes + 2 := by
  have HS_w := hide h
  have HWR := hide hw
  clear h hw
  obtain ⟨S1, hS1⟩ : ∃ z, (if S.may (nI xd) = 0 then S.flush (nI xd) else S) = z := ⟨_, rfl⟩
  have H_S1 := hide hS1
  clear hS1
  obtain ⟨e, he⟩ : ∃ z, S.may (nI xd) = z := ⟨_, rfl⟩
  have H_e := hide he
  clear he
  have HFW := hide (show S1.writes ≤ S.writes + 2 by rw [← H_S1.out, flush_few S (nI xd)]; omega)
  go_enter Try.func13, Try.ntmps13
  go_wp2_with (first
    | ((with_reducible refine at_slot 5 ?_); refine wpList_box_blk rfl 36 _ rfl (.agg #[.int .i64 11, .int .i64 n, .int .i64 xd, .int .i64 xk, .int .i64 yd, .int .i64 yk, .int .u64 (m : Int)]) rfl ?_; intro y1 hbq hl1 hs1; have HS_y1 : Hid (Duo w0 y1 b r S S [(w.heap.size, 36, opL 11 n xd xk yd yk m)]) := hide (HS_w.out.var hl1 (Nat.le_refl _) hbq); have hc0 : y1.cell? ⟨w.heap.size, 0, none⟩ = some (.int .i64 11) := HS_y1.out.own.blk 0 rfl |>.cell 0; clear hbq hl1 hs1))
  refine wp_region_held_drew (S := (fun W => OwnV W 0 [(w.heap.size, 36, opL 11 n xd xk yd yk m)])) (by kernel_rfl) ?_ (fun hHeld => ?_)
  · exact HS_y1.out.drew.own
  have HS_dy1 := hide (HS_y1.out.drew)
  refine heldTake (i := 0) (v := ?_) rfl (by kernel_rfl) (by kernel_rfl) (by kernel_rfl) (fun _ _ _ h => h) (Or.inl ⟨by rfl, ?_⟩) (by assumption) ?_
  rotate_left
  · intro w hSw; (try dsimp only at hSw); go_simp <;> (with_reducible rfl)
  try simp only [Act.put, List.setIfInBounds_toArray, List.set_cons_zero, List.set_cons_succ]
  refine heldTake (i := 1) (v := ?_) rfl (by kernel_rfl) (by kernel_rfl) (by kernel_rfl) (fun _ _ _ h => h) (Or.inl ⟨by rfl, ?_⟩) (by assumption) ?_
  rotate_left
  · intro w hSw; (try dsimp only at hSw); go_simp <;> (with_reducible rfl)
  try simp only [Act.put, List.setIfInBounds_toArray, List.set_cons_zero, List.set_cons_succ]
  refine heldTake (i := 2) (v := ?_) rfl (by kernel_rfl) (by kernel_rfl) (by kernel_rfl) (fun _ _ _ h => h) (Or.inl ⟨by rfl, ?_⟩) (by assumption) ?_
  rotate_left
  · intro w hSw; (try dsimp only at hSw); go_simp <;> (with_reducible rfl)
  try simp only [Act.put, List.setIfInBounds_toArray, List.set_cons_zero, List.set_cons_succ]
  refine heldTake (i := 3) (v := .int .i64 xd) rfl (by kernel_rfl) (by kernel_rfl) (by kernel_rfl) (fun _ _ _ h => h) (Or.inl ⟨by rfl, fun W hW => ?_⟩) (by assumption) ?_
  · have hc : W.cell? ⟨w.heap.size, 2, none⟩ = some (.int .i64 xd) := (hW.blk 0 rfl).cell 2
    go_simp <;> rfl
  try simp only [Act.put, List.setIfInBounds_toArray, List.set_cons_zero, List.set_cons_succ]
  refine heldTake (i := 5) (v := ?_) rfl (by kernel_rfl) (by kernel_rfl) (by kernel_rfl) (fun _ _ _ h => h) (Or.inl ⟨by rfl, ?_⟩) (by assumption) ?_
  rotate_left
  · intro w hSw; (try dsimp only at hSw); go_simp <;> (with_reducible rfl)
  try simp only [Act.put, List.setIfInBounds_toArray, List.set_cons_zero, List.set_cons_succ]
  refine heldTake (i := 6) (v := ?_) rfl (by kernel_rfl) (by kernel_rfl) (by kernel_rfl) (fun _ _ _ h => h) (Or.inl ⟨by rfl, ?_⟩) (by assumption) ?_
  rotate_left
  · intro w hSw; (try dsimp only at hSw); go_simp <;> (with_reducible rfl)
  try simp only [Act.put, List.setIfInBounds_toArray, List.set_cons_zero, List.set_cons_succ]
  refine heldTake (i := 7) (v := ?_) rfl (by kernel_rfl) (by kernel_rfl) (by kernel_rfl) (fun _ _ _ h => h) (Or.inl ⟨by rfl, ?_⟩) (by assumption) ?_
  rotate_left
  · intro w hSw; (try dsimp only at hSw); go_simp <;> (with_reducible rfl)
  try simp only [Act.put, List.setIfInBounds_toArray, List.set_cons_zero, List.set_cons_succ]
  refine heldTake (i := 8) (v := .int .i64 xd) rfl (by kernel_rfl) (by kernel_rfl) (by kernel_rfl) (fun _ _ _ h => h) (Or.inl ⟨by rfl, fun W hW => ?_⟩) (by assumption) ?_
  · have hc : W.cell? ⟨w.heap.size, 2, none⟩ = some (.int .i64 xd) := (hW.blk 0 rfl).cell 2
    go_simp <;> rfl
  try simp only [Act.put, List.setIfInBounds_toArray, List.set_cons_zero, List.set_cons_succ]
  refine wpAnyH_ready (rs := [4]) (by kernel_rfl) (by simp) ?_
  refine heldCons (i := 4) rfl (fun Kq hKq => ?_) AllReadyH.nil
  go_simp
  go_at_call 26
  (with_reducible refine (HS_dy1.out.code (fun F hB => onI_flush hB xd)).mono ?_)
  rintro _ y2 ⟨rfl, hsq⟩
  rw [H_S1.out] at hsq
  rw [H_e.out]
  have HS_y2 : Hid (Duo w0 y2 b r S1 S [(w.heap.size, 36, opL 11 n xd xk yd yk m)]) := hide (hsq)
  clear hsq
  first | (refine hKq.out _ _ HS_y2.out.own (fun hHeld => ?_)) | (go_wp2_with fail; refine hKq.out _ _ HS_y2.out.own (fun hHeld => ?_))
  clear hKq Kq
  try simp only [Act.put, List.setIfInBounds_toArray, List.set_cons_zero, List.set_cons_succ]
  refine wpAnyH_ready (rs := [9]) (by kernel_rfl) (by simp) ?_
  refine heldCons (i := 9) rfl (fun Kq hKq => ?_) AllReadyH.nil
  go_simp
  go_at_call 46
  (with_reducible refine (HS_y2.out.ref (fun G hB => rOnI_flush hB xd)).mono ?_)
  rintro _ y3 ⟨rfl, hsq⟩
  rw [H_S1.out] at hsq
  rw [H_e.out]
  have HS_y3 : Hid (Duo w0 y3 b r S1 S1 [(w.heap.size, 36, opL 11 n xd xk yd yk m)]) := hide (hsq)
  clear hsq
  first | (refine hKq.out _ _ HS_y3.out.own (fun hHeld => ?_)) | (go_wp2_with fail; refine hKq.out _ _ HS_y3.out.own (fun hHeld => ?_))
  clear hKq Kq
  try simp only [Act.put, List.setIfInBounds_toArray, List.set_cons_zero, List.set_cons_succ]
  refine heldTake (i := 10) (v := ?_) rfl (by kernel_rfl) (by kernel_rfl) (by kernel_rfl) (fun _ _ _ h => h) (Or.inl ⟨by rfl, ?_⟩) (by assumption) ?_
  rotate_left
  · intro w hSw; (try dsimp only at hSw); go_simp <;> (with_reducible rfl)
  try simp only [Act.put, List.setIfInBounds_toArray, List.set_cons_zero, List.set_cons_succ]
  refine heldTake (i := 11) (v := ?_) rfl (by kernel_rfl) (by kernel_rfl) (by kernel_rfl) (fun _ _ _ h => h) (Or.inl ⟨by rfl, ?_⟩) (by assumption) ?_
  rotate_left
  · intro w hSw; (try dsimp only at hSw); go_simp <;> (with_reducible rfl)
  try simp only [Act.put, List.setIfInBounds_toArray, List.set_cons_zero, List.set_cons_succ]
  refine wpAnyH_done (by kernel_rfl) ?_ _
  go_wp2_with fail
  go_ret
  exact ⟨by simp, S1, HS_y3.out.cut 0, HFW.out⟩
set_option maxRecDepth 100000 in
set_option maxHeartbeats 8000000 in
theorem does7_any (h : Duo w0 w b r S S []) (hw : S.writes < 4611686018427380000) (n xd xk yd yk : Int) (m : Nat) (hn1 : -9223372036854775808 ≤ n) (hn2 : n ≤ 9223372036854775807) (hm : m < 18446744073709551616) :
    Calls Try.prog 13 #[.pointer (some ⟨b, 0, none⟩), .pointer (some ⟨r, 0, none⟩), .agg #[.int .i64 7, .int .i64 n, .int .i64 xd, .int .i64 xk, .int .i64 yd, .int .i64 yk, .int .u64 (m : Int)]] w fun e w' => e = .returned (.bool true) ∧ ∃ S', Duo w0 w' b r S' S' [] ∧ S'.writes ≤ S.writes + 2 := by
  have HS_w := hide h
  have HWR := hide hw
  clear h hw
  obtain ⟨S1, hS1⟩ : ∃ z, S.willI (nI xd) (arN n) = z := ⟨_, rfl⟩
  have H_S1 := hide hS1
  clear hS1
  have HFW := hide (show S1.writes ≤ S.writes + 2 by rw [← H_S1.out, (fails_few S (nI xd) (arN n)).2]; omega)
  go_enter Try.func13, Try.ntmps13
  go_wp2_with (first
    | ((with_reducible refine at_slot 5 ?_); refine wpList_box_blk rfl 36 _ rfl (.agg #[.int .i64 7, .int .i64 n, .int .i64 xd, .int .i64 xk, .int .i64 yd, .int .i64 yk, .int .u64 (m : Int)]) rfl ?_; intro y1 hbq hl1 hs1; have HS_y1 : Hid (Duo w0 y1 b r S S [(w.heap.size, 36, opL 7 n xd xk yd yk m)]) := hide (HS_w.out.var hl1 (Nat.le_refl _) hbq); have hc0 : y1.cell? ⟨w.heap.size, 0, none⟩ = some (.int .i64 7) := HS_y1.out.own.blk 0 rfl |>.cell 0; have c1_y1 : y1.cell? ⟨w.heap.size, 1, none⟩ = some (.int .i64 n) := HS_y1.out.own.blk 0 rfl |>.cell 1; have c2_y1 : y1.cell? ⟨w.heap.size, 2, none⟩ = some (.int .i64 xd) := HS_y1.out.own.blk 0 rfl |>.cell 2; have c6_y1 : y1.cell? ⟨w.heap.size, 6, none⟩ = some (.int .u64 (m : Int)) := HS_y1.out.own.blk 0 rfl |>.cell 6; clear hbq hl1 hs1)
    | (go_at_call 21; refine (HS_y1.out.code (fun F hB => onI_failAt hB xd n (arN n) (arN_is n) (arN_lt hn2))).mono ?_; rintro _ y2 ⟨rfl, hsq⟩; rw [H_S1.out] at hsq; have HS_y2 : Hid (Duo w0 y2 b r S1 S [(w.heap.size, 36, opL 7 n xd xk yd yk m)]) := hide (hsq); clear hsq; have c1_y2 : y2.cell? ⟨w.heap.size, 1, none⟩ = some (.int .i64 n) := HS_y2.out.own.blk 0 rfl |>.cell 1; have c2_y2 : y2.cell? ⟨w.heap.size, 2, none⟩ = some (.int .i64 xd) := HS_y2.out.own.blk 0 rfl |>.cell 2; have c6_y2 : y2.cell? ⟨w.heap.size, 6, none⟩ = some (.int .u64 (m : Int)) := HS_y2.out.own.blk 0 rfl |>.cell 6)
    | (go_at_call 42; refine (HS_y2.out.ref (fun G hB => rOnI_failAt hB xd n (arN n) (arN_is n) (arN_lt hn2))).mono ?_; rintro _ y3 ⟨rfl, hsq⟩; rw [H_S1.out] at hsq; have HS_y3 : Hid (Duo w0 y3 b r S1 S1 [(w.heap.size, 36, opL 7 n xd xk yd yk m)]) := hide (hsq); clear hsq))
  go_ret
  exact ⟨by simp, S1, HS_y3.out.cut 0, HFW.out⟩
set_option maxRecDepth 100000 in
set_option maxHeartbeats 8000000 in
theorem does8_any (h : Duo w0 w b r S S []) (hw : S.writes < 4611686018427380000) (n xd xk yd yk : Int) (m : Nat) (hn1 : -9223372036854775808 ≤ n) (hn2 : n ≤ 9223372036854775807) (hm : m < 18446744073709551616) :
    Calls Try.prog 13 #[.pointer (some ⟨b, 0, none⟩), .pointer (some ⟨r, 0, none⟩), .agg #[.int .i64 8, .int .i64 n, .int .i64 xd, .int .i64 xk, .int .i64 yd, .int .i64 yk, .int .u64 (m : Int)]] w fun e w' => e = .returned (.bool true) ∧ ∃ S', Duo w0 w' b r S' S' [] ∧ S'.writes ≤ S.writes + 2 := by
  have HS_w := hide h
  have HWR := hide hw
  clear h hw
  obtain ⟨S1, hS1⟩ : ∃ z, S.arm (arN n) m = z := ⟨_, rfl⟩
  have H_S1 := hide hS1
  clear hS1
  have HFW := hide (show S1.writes ≤ S.writes + 2 by rw [← H_S1.out, show (S.arm (arN n) m).writes = S.writes from rfl]; omega)
  go_enter Try.func13, Try.ntmps13
  go_wp2_with (first
    | ((with_reducible refine at_slot 5 ?_); refine wpList_box_blk rfl 36 _ rfl (.agg #[.int .i64 8, .int .i64 n, .int .i64 xd, .int .i64 xk, .int .i64 yd, .int .i64 yk, .int .u64 (m : Int)]) rfl ?_; intro y1 hbq hl1 hs1; have HS_y1 : Hid (Duo w0 y1 b r S S [(w.heap.size, 36, opL 8 n xd xk yd yk m)]) := hide (HS_w.out.var hl1 (Nat.le_refl _) hbq); have hc0 : y1.cell? ⟨w.heap.size, 0, none⟩ = some (.int .i64 8) := HS_y1.out.own.blk 0 rfl |>.cell 0; have c1_y1 : y1.cell? ⟨w.heap.size, 1, none⟩ = some (.int .i64 n) := HS_y1.out.own.blk 0 rfl |>.cell 1; have c2_y1 : y1.cell? ⟨w.heap.size, 2, none⟩ = some (.int .i64 xd) := HS_y1.out.own.blk 0 rfl |>.cell 2; have c6_y1 : y1.cell? ⟨w.heap.size, 6, none⟩ = some (.int .u64 (m : Int)) := HS_y1.out.own.blk 0 rfl |>.cell 6; clear hbq hl1 hs1)
    | (go_at_call 33; refine (HS_y1.out.code (fun F hB => on_arm hB n (arN n) m (arN_is n) (arN_lt hn2) hm)).mono ?_; rintro _ y2 ⟨rfl, hsq⟩; rw [H_S1.out] at hsq; have HS_y2 : Hid (Duo w0 y2 b r S1 S [(w.heap.size, 36, opL 8 n xd xk yd yk m)]) := hide (hsq); clear hsq; have c1_y2 : y2.cell? ⟨w.heap.size, 1, none⟩ = some (.int .i64 n) := HS_y2.out.own.blk 0 rfl |>.cell 1; have c2_y2 : y2.cell? ⟨w.heap.size, 2, none⟩ = some (.int .i64 xd) := HS_y2.out.own.blk 0 rfl |>.cell 2; have c6_y2 : y2.cell? ⟨w.heap.size, 6, none⟩ = some (.int .u64 (m : Int)) := HS_y2.out.own.blk 0 rfl |>.cell 6)
    | (go_at_call 43; refine (HS_y2.out.ref (fun G hB => rOn_arm hB n (arN n) m (arN_is n) (arN_lt hn2) hm)).mono ?_; rintro _ y3 ⟨rfl, hsq⟩; rw [H_S1.out] at hsq; have HS_y3 : Hid (Duo w0 y3 b r S1 S1 [(w.heap.size, 36, opL 8 n xd xk yd yk m)]) := hide (hsq); clear hsq))
  go_ret
  exact ⟨by simp, S1, HS_y3.out.cut 0, HFW.out⟩
set_option maxRecDepth 100000 in
set_option maxHeartbeats 8000000 in
theorem does9_any (h : Duo w0 w b r S S []) (hw : S.writes < 4611686018427380000) (n xd xk yd yk : Int) (m : Nat) (hn1 : -9223372036854775808 ≤ n) (hn2 : n ≤ 9223372036854775807) (hm : m < 18446744073709551616) :
    Calls Try.prog 13 #[.pointer (some ⟨b, 0, none⟩), .pointer (some ⟨r, 0, none⟩), .agg #[.int .i64 9, .int .i64 n, .int .i64 xd, .int .i64 xk, .int .i64 yd, .int .i64 yk, .int .u64 (m : Int)]] w fun e w' => e = .returned (.bool true) ∧ ∃ S', Duo w0 w' b r S' S' [] ∧ S'.writes ≤ S.writes + 2 := by
  have HS_w := hide h
  have HWR := hide hw
  clear h hw
  obtain ⟨S1, hS1⟩ : ∃ z, S.crash m = z := ⟨_, rfl⟩
  have H_S1 := hide hS1
  clear hS1
  have HFW := hide (show S1.writes ≤ S.writes + 2 by rw [← H_S1.out, crash_writes S m]; omega)
  go_enter Try.func13, Try.ntmps13
  go_wp2_with (first
    | ((with_reducible refine at_slot 5 ?_); refine wpList_box_blk rfl 36 _ rfl (.agg #[.int .i64 9, .int .i64 n, .int .i64 xd, .int .i64 xk, .int .i64 yd, .int .i64 yk, .int .u64 (m : Int)]) rfl ?_; intro y1 hbq hl1 hs1; have HS_y1 : Hid (Duo w0 y1 b r S S [(w.heap.size, 36, opL 9 n xd xk yd yk m)]) := hide (HS_w.out.var hl1 (Nat.le_refl _) hbq); have hc0 : y1.cell? ⟨w.heap.size, 0, none⟩ = some (.int .i64 9) := HS_y1.out.own.blk 0 rfl |>.cell 0; have c1_y1 : y1.cell? ⟨w.heap.size, 1, none⟩ = some (.int .i64 n) := HS_y1.out.own.blk 0 rfl |>.cell 1; have c2_y1 : y1.cell? ⟨w.heap.size, 2, none⟩ = some (.int .i64 xd) := HS_y1.out.own.blk 0 rfl |>.cell 2; have c6_y1 : y1.cell? ⟨w.heap.size, 6, none⟩ = some (.int .u64 (m : Int)) := HS_y1.out.own.blk 0 rfl |>.cell 6; clear hbq hl1 hs1)
    | (go_at_call 27; refine (HS_y1.out.code (fun F hB => on_crash hB m hm)).mono ?_; rintro _ y2 ⟨rfl, hsq⟩; rw [H_S1.out] at hsq; have HS_y2 : Hid (Duo w0 y2 b r S1 S [(w.heap.size, 36, opL 9 n xd xk yd yk m)]) := hide (hsq); clear hsq; have c1_y2 : y2.cell? ⟨w.heap.size, 1, none⟩ = some (.int .i64 n) := HS_y2.out.own.blk 0 rfl |>.cell 1; have c2_y2 : y2.cell? ⟨w.heap.size, 2, none⟩ = some (.int .i64 xd) := HS_y2.out.own.blk 0 rfl |>.cell 2; have c6_y2 : y2.cell? ⟨w.heap.size, 6, none⟩ = some (.int .u64 (m : Int)) := HS_y2.out.own.blk 0 rfl |>.cell 6)
    | (go_at_call 44; refine (HS_y2.out.ref (fun G hB => rOn_crash hB m hm)).mono ?_; rintro _ y3 ⟨rfl, hsq⟩; rw [H_S1.out] at hsq; have HS_y3 : Hid (Duo w0 y3 b r S1 S1 [(w.heap.size, 36, opL 9 n xd xk yd yk m)]) := hide (hsq); clear hsq))
  go_ret
  exact ⟨by simp, S1, HS_y3.out.cut 0, HFW.out⟩
set_option maxRecDepth 100000 in
set_option maxHeartbeats 8000000 in
theorem does10_any (h : Duo w0 w b r S S []) (hw : S.writes < 4611686018427380000) (n xd xk yd yk : Int) (m : Nat) (hn1 : -9223372036854775808 ≤ n) (hn2 : n ≤ 9223372036854775807) (hm : m < 18446744073709551616) :
    Calls Try.prog 13 #[.pointer (some ⟨b, 0, none⟩), .pointer (some ⟨r, 0, none⟩), .agg #[.int .i64 10, .int .i64 n, .int .i64 xd, .int .i64 xk, .int .i64 yd, .int .i64 yk, .int .u64 (m : Int)]] w fun e w' => e = .returned (.bool true) ∧ ∃ S', Duo w0 w' b r S' S' [] ∧ S'.writes ≤ S.writes + 2 := by
  have HS_w := hide h
  have HWR := hide hw
  clear h hw
  obtain ⟨S1, hS1⟩ : ∃ z, S.start = z := ⟨_, rfl⟩
  have H_S1 := hide hS1
  clear hS1
  have HFW := hide (show S1.writes ≤ S.writes + 2 by rw [← H_S1.out, show S.start.writes = S.writes from rfl]; omega)
  go_enter Try.func13, Try.ntmps13
  go_wp2_with (first
    | ((with_reducible refine at_slot 5 ?_); refine wpList_box_blk rfl 36 _ rfl (.agg #[.int .i64 10, .int .i64 n, .int .i64 xd, .int .i64 xk, .int .i64 yd, .int .i64 yk, .int .u64 (m : Int)]) rfl ?_; intro y1 hbq hl1 hs1; have HS_y1 : Hid (Duo w0 y1 b r S S [(w.heap.size, 36, opL 10 n xd xk yd yk m)]) := hide (HS_w.out.var hl1 (Nat.le_refl _) hbq); have hc0 : y1.cell? ⟨w.heap.size, 0, none⟩ = some (.int .i64 10) := HS_y1.out.own.blk 0 rfl |>.cell 0; have c1_y1 : y1.cell? ⟨w.heap.size, 1, none⟩ = some (.int .i64 n) := HS_y1.out.own.blk 0 rfl |>.cell 1; have c2_y1 : y1.cell? ⟨w.heap.size, 2, none⟩ = some (.int .i64 xd) := HS_y1.out.own.blk 0 rfl |>.cell 2; have c6_y1 : y1.cell? ⟨w.heap.size, 6, none⟩ = some (.int .u64 (m : Int)) := HS_y1.out.own.blk 0 rfl |>.cell 6; clear hbq hl1 hs1)
    | (go_at_call 28; refine (HS_y1.out.code (fun F hB => on_start hB)).mono ?_; rintro _ y2 ⟨rfl, hsq⟩; rw [H_S1.out] at hsq; have HS_y2 : Hid (Duo w0 y2 b r S1 S [(w.heap.size, 36, opL 10 n xd xk yd yk m)]) := hide (hsq); clear hsq; have c1_y2 : y2.cell? ⟨w.heap.size, 1, none⟩ = some (.int .i64 n) := HS_y2.out.own.blk 0 rfl |>.cell 1; have c2_y2 : y2.cell? ⟨w.heap.size, 2, none⟩ = some (.int .i64 xd) := HS_y2.out.own.blk 0 rfl |>.cell 2; have c6_y2 : y2.cell? ⟨w.heap.size, 6, none⟩ = some (.int .u64 (m : Int)) := HS_y2.out.own.blk 0 rfl |>.cell 6)
    | (go_at_call 45; refine (HS_y2.out.ref (fun G hB => rOn_start hB)).mono ?_; rintro _ y3 ⟨rfl, hsq⟩; rw [H_S1.out] at hsq; have HS_y3 : Hid (Duo w0 y3 b r S1 S1 [(w.heap.size, 36, opL 10 n xd xk yd yk m)]) := hide (hsq); clear hsq))
  go_ret
  exact ⟨by simp, S1, HS_y3.out.cut 0, HFW.out⟩
set_option maxRecDepth 100000 in
set_option maxHeartbeats 8000000 in
theorem doesE_any (h : Duo w0 w b r S S []) (hw : S.writes < 4611686018427380000) (k n xd xk yd yk : Int) (m : Nat) (hn1 : -9223372036854775808 ≤ n) (hn2 : n ≤ 9223372036854775807) (hm : m < 18446744073709551616) (hk : ∀ j : Nat, 1 ≤ j → j ≤ 11 → k ≠ (j : Int)) :
    Calls Try.prog 13 #[.pointer (some ⟨b, 0, none⟩), .pointer (some ⟨r, 0, none⟩), .agg #[.int .i64 k, .int .i64 n, .int .i64 xd, .int .i64 xk, .int .i64 yd, .int .i64 yk, .int .u64 (m : Int)]] w fun e w' => e = .returned (.bool true) ∧ ∃ S', Duo w0 w' b r S' S' [] ∧ S'.writes ≤ S.writes + 2 := by
  have HS_w := hide h
  have HWR := hide hw
  clear h hw
  have k1 : ¬ (k = 1) := hk 1 (by decide) (by decide)
  have k2 : ¬ (k = 2) := hk 2 (by decide) (by decide)
  have k3 : ¬ (k = 3) := hk 3 (by decide) (by decide)
  have k4 : ¬ (k = 4) := hk 4 (by decide) (by decide)
  have k5 : ¬ (k = 5) := hk 5 (by decide) (by decide)
  have k6 : ¬ (k = 6) := hk 6 (by decide) (by decide)
  have k7 : ¬ (k = 7) := hk 7 (by decide) (by decide)
  have k8 : ¬ (k = 8) := hk 8 (by decide) (by decide)
  have k9 : ¬ (k = 9) := hk 9 (by decide) (by decide)
  have k10 : ¬ (k = 10) := hk 10 (by decide) (by decide)
  have k11 : ¬ (k = 11) := hk 11 (by decide) (by decide)
  clear hk
  go_enter Try.func13, Try.ntmps13
  go_wp2_with (first
    | ((with_reducible refine at_slot 5 ?_); refine wpList_box_blk rfl 36 _ rfl (.agg #[.int .i64 k, .int .i64 n, .int .i64 xd, .int .i64 xk, .int .i64 yd, .int .i64 yk, .int .u64 (m : Int)]) rfl ?_; intro y1 hbq hl1 hs1; have HS_y1 : Hid (Duo w0 y1 b r S S [(w.heap.size, 36, opL k n xd xk yd yk m)]) := hide (HS_w.out.var hl1 (Nat.le_refl _) hbq); have hc0 : y1.cell? ⟨w.heap.size, 0, none⟩ = some (.int .i64 k) := HS_y1.out.own.blk 0 rfl |>.cell 0; clear hbq hl1 hs1))
  go_ret
  exact ⟨by simp, S, HS_y1.out.cut 0, by omega⟩
theorem does_any (K : MirK) (h : Duo w0 w b r S S []) (hw : S.writes < 4611686018427380000) (k n xd xk yd yk : Int) (m : Nat) (hn1 : -9223372036854775808 ≤ n) (hn2 : n ≤ 9223372036854775807) (hm : m < 18446744073709551616) :
    Calls Try.prog 13 #[.pointer (some ⟨b, 0, none⟩), .pointer (some ⟨r, 0, none⟩), .agg #[.int .i64 k, .int .i64 n, .int .i64 xd, .int .i64 xk, .int .i64 yd, .int .i64 yk, .int .u64 (m : Int)]] w fun e w' => e = .returned (.bool true) ∧ ∃ S', Duo w0 w' b r S' S' [] ∧ S'.writes ≤ S.writes + 2 := by
  by_cases k1 : k = 1
  · subst k1
    exact does1_any K h hw n xd xk yd yk m hn1 hn2 hm
  by_cases k2 : k = 2
  · subst k2
    exact does2_any K h hw n xd xk yd yk m hn1 hn2 hm
  by_cases k3 : k = 3
  · subst k3
    exact does3_any K h hw n xd xk yd yk m hn1 hn2 hm
  by_cases k4 : k = 4
  · subst k4
    exact does4_any K h hw n xd xk yd yk m hn1 hn2 hm
  by_cases k5 : k = 5
  · subst k5
    exact does5_any h hw n xd xk yd yk m hn1 hn2 hm
  by_cases k6 : k = 6
  · subst k6
    exact does6_any h hw n xd xk yd yk m hn1 hn2 hm
  by_cases k7 : k = 7
  · subst k7
    exact does7_any h hw n xd xk yd yk m hn1 hn2 hm
  by_cases k8 : k = 8
  · subst k8
    exact does8_any h hw n xd xk yd yk m hn1 hn2 hm
  by_cases k9 : k = 9
  · subst k9
    exact does9_any h hw n xd xk yd yk m hn1 hn2 hm
  by_cases k10 : k = 10
  · subst k10
    exact does10_any h hw n xd xk yd yk m hn1 hn2 hm
  by_cases k11 : k = 11
  · subst k11
    exact does11_any h hw n xd xk yd yk m hn1 hn2 hm
  exact doesE_any h hw k n xd xk yd yk m hn1 hn2 hm (fun j h1 h2 => by
    have h3 : j = 1 ∨ j = 2 ∨ j = 3 ∨ j = 4 ∨ j = 5 ∨ j = 6 ∨ j = 7 ∨ j = 8 ∨ j = 9 ∨ j = 10 ∨ j = 11 := by omega
    rcases h3 with rfl | rfl | rfl | rfl | rfl | rfl | rfl | rfl | rfl | rfl | rfl
    · exact k1
    · exact k2
    · exact k3
    · exact k4
    · exact k5
    · exact k6
    · exact k7
    · exact k8
    · exact k9
    · exact k10
    · exact k11)
end
#print axioms does_any
end Go.Proofs.Ytgfbndmdndpelaa
