/- The landed mirror's both, over either closure. -/
import Derived.Test.YtgfbndmdndpelaaMirL
namespace Go.Proofs.Ytgfbndmdndpelaa
open Go.RowKit
set_option linter.unusedVariables false
set_option maxRecDepth 100000 in
set_option maxHeartbeats 8000000 in
theorem bothW_any {σ : Type} {st : Nat → Nat → σ → Nat × σ} {J : Nat → World → σ → Vars → Prop} {c1 c2 : Value} {w : World} {s : σ} (h : DoAt 53 [c1, c2] st J 2 w s []) (xd xk yd yk : Int) :
    Calls Try.prog 52 #[.agg #[.int .i64 xd, .int .i64 xk], .agg #[.int .i64 yd, .int .i64 yk], .func (.func 53) #[] #[c1, c2]] w fun e w' => e = .returned (.int .i64 ((bothN st (nI xd) (nI xk) (nI yd) (nI yk) s).1 : Int)) ∧ ∃ n, J n w' (bothN st (nI xd) (nI xk) (nI yd) (nI yk) s).2 [] := by
  have HS_w : Hid (DoAt 53 [c1, c2] st J 2 w s []) := hide h
  clear h
  obtain ⟨e1, he1⟩ : ∃ e, (st (nI xd) (nI xk) s).1 = e := ⟨_, rfl⟩
  obtain ⟨A, hA⟩ : ∃ A, (st (nI xd) (nI xk) s).2 = A := ⟨_, rfl⟩
  obtain ⟨e2, he2⟩ : ∃ e, (st (nI yd) (nI yk) A).1 = e := ⟨_, rfl⟩
  obtain ⟨C, hC⟩ : ∃ C, (st (nI yd) (nI yk) A).2 = C := ⟨_, rfl⟩
  have hmw : bothN st (nI xd) (nI xk) (nI yd) (nI yk) s = if e1 = 0 ∨ lostB e1 = true then (if e2 = 0 ∨ lostB e2 = true then (if e1 = 0 ∨ e2 = 0 then 0 else 5, C) else (e2, C)) else (e1, A) := by
    subst he1 hA he2 hC
    unfold bothN
    rfl
  have HE1 := hide he1
  have HA := hide hA
  have HE2 := hide he2
  have HC := hide hC
  have HMW := hide hmw
  clear he1 hA he2 hC hmw
  by_cases hz_e1 : e1 = 0
  · have HZ_e1 := hide hz_e1
    by_cases hz_e2 : e2 = 0
    · have HZ_e2 := hide hz_e2
      have HR := hide (show bothN st (nI xd) (nI xk) (nI yd) (nI yk) s = (0, C) by rw [HMW.out, if_pos (Or.inl hz_e1), if_pos (Or.inl hz_e2), if_pos (Or.inl hz_e1)])
      clear hz_e1 hz_e2
      go_enter Try.func52, Try.ntmps52
      go_wp2_with (first
        | ((with_reducible refine at_slot 3 ?_); refine wpList_box_blk rfl 33 _ rfl (.agg #[.int .i64 xd, .int .i64 xk]) rfl ?_; intro y1 hbq hl1 hs1; have HS_y1 : Hid (DoAt 53 [c1, c2] st J 2 y1 s [(w.heap.size, 33, plL xd xk)]) := hide (HS_w.out.var hl1 (Nat.le_refl _) hbq); clear hbq hl1 hs1)
        | ((with_reducible refine at_slot 4 ?_); refine wpList_box_blk rfl 33 _ rfl (.agg #[.int .i64 yd, .int .i64 yk]) rfl ?_; intro y2 hbq hl1 hs1; have HS_y2 : Hid (DoAt 53 [c1, c2] st J 2 y2 s [(w.heap.size, 33, plL xd xk), (y1.heap.size, 33, plL yd yk)]) := hide (HS_y1.out.var hl1 (Nat.le_refl _) hbq); clear hbq hl1 hs1)
        | ((with_reducible refine at_slot 11 ?_); refine when_own rfl (.tmp 3) rfl HS_y2.out.own 0 rfl rfl Try.underlying33 rfl mplace_info ?_)
        | ((with_reducible refine at_slot 12 ?_); refine when_own rfl (.tmp 4) rfl HS_y2.out.own 1 rfl rfl Try.underlying33 rfl mplace_info ?_)
        | ((with_reducible refine at_slot 13 ?_); refine wpList_build_is rfl 96 #[(0, .tmp 11), (1, .tmp 12)] rfl [(0, .agg #[.int .i64 xd, .int .i64 xk]), (1, .agg #[.int .i64 yd, .int .i64 yk])] (by simp only [List.map_toArray, List.map_cons, List.map_nil]; rfl) _ (two_built _ _ _ _) ?_))
      refine wp_loop_rounds 3 ?_
      rw [rounds_succ]
      go_wp2_with (first
        | ((with_reducible refine at_slot 16 ?_); refine wpList_two0 rfl (.tmp 13) (.tmp 14) rfl xd xk yd yk rfl rfl ?_)
        | ((with_reducible refine at_slot 9 ?_); refine wpList_alloc_blk rfl 33 rfl _ (mplace_zero _) ?_; intro y3 hbq hl1 hs1; clear hs1)
        | ((with_reducible refine at_store 9 ?_); refine wpList_store_all rfl 33 (.tmp 9) (.tmp 16) rfl y2.heap.size 33 _ hbq rfl (plL (xd) (xk)) rfl mplace_info rfl (mplace_one _ _) ?_; intro y4 hbz hg hs; have HS_y4 : Hid (DoAt 53 [c1, c2] st J 2 y4 s [(w.heap.size, 33, plL xd xk), (y1.heap.size, 33, plL yd yk), (y2.heap.size, 33, plL (xd) (xk))]) := hide (HS_y2.out.new hl1 hg hbz); clear hs hbq hl1 hg hbz))
      go_step3
      go_wp2_with (first
        | ((with_reducible refine at_slot 18 ?_); refine when_own rfl (.tmp 9) rfl HS_y4.out.own 2 rfl rfl Try.underlying33 rfl mplace_info ?_)
        | (go_at_call 53; refine (HS_y4.out.call xd xk rfl rfl).mono ?_; rintro _ y5 ⟨rfl, hsq⟩; rw [HA.out] at hsq; rw [HE1.out, HZ_e1.out]; have HS_y5 : Hid (DoAt 53 [c1, c2] st J 1 y5 A [(w.heap.size, 33, plL xd xk), (y1.heap.size, 33, plL yd yk), (y2.heap.size, 33, plL (xd) (xk))]) := hide (hsq); clear hsq)
        | (go_at_call 54; refine (lost_any 0 _).mono ?_; rintro _ _ ⟨rfl, rfl⟩))
      go_step3
      rw [Exit.noGoto_normal]
      go_wp2
      rw [rounds_succ]
      go_wp2_with (first
        | ((with_reducible refine at_slot 16 ?_); refine wpList_two1 rfl (.tmp 13) (.tmp 14) rfl xd xk yd yk rfl rfl ?_)
        | ((with_reducible refine at_slot 9 ?_); refine wpList_alloc_blk rfl 33 rfl _ (mplace_zero _) ?_; intro y6 hbq hl1 hs1; clear hs1)
        | ((with_reducible refine at_store 9 ?_); refine wpList_store_all rfl 33 (.tmp 9) (.tmp 16) rfl y5.heap.size 33 _ hbq rfl (plL (yd) (yk)) rfl mplace_info rfl (mplace_one _ _) ?_; intro y7 hbz hg hs; have HS_y7 : Hid (DoAt 53 [c1, c2] st J 1 y7 A [(w.heap.size, 33, plL xd xk), (y1.heap.size, 33, plL yd yk), (y2.heap.size, 33, plL (xd) (xk)), (y5.heap.size, 33, plL (yd) (yk))]) := hide (HS_y5.out.new hl1 hg hbz); clear hs hbq hl1 hg hbz))
      go_step3
      go_wp2_with (first
        | ((with_reducible refine at_slot 18 ?_); refine when_own rfl (.tmp 9) rfl HS_y7.out.own 3 rfl rfl Try.underlying33 rfl mplace_info ?_)
        | (go_at_call 53; refine (HS_y7.out.call yd yk rfl rfl).mono ?_; rintro _ y8 ⟨rfl, hsq⟩; rw [HC.out] at hsq; rw [HE2.out, HZ_e2.out]; have HS_y8 : Hid (DoAt 53 [c1, c2] st J 0 y8 C [(w.heap.size, 33, plL xd xk), (y1.heap.size, 33, plL yd yk), (y2.heap.size, 33, plL (xd) (xk)), (y5.heap.size, 33, plL (yd) (yk))]) := hide (hsq); clear hsq)
        | (go_at_call 54; refine (lost_any 0 _).mono ?_; rintro _ _ ⟨rfl, rfl⟩))
      go_step3
      rw [Exit.noGoto_normal]
      go_wp2
      rw [rounds_succ]
      go_wp2
      go_ret
      rw [HR.out]
      exact ⟨rfl, HS_y8.out.fin⟩
    · have HN_e2 := hide hz_e2
      by_cases hl_e2 : lostB e2 = true
      · have HLO_e2 := hide (fun w => hl_e2 ▸ lost_any e2 w)
        have HR := hide (show bothN st (nI xd) (nI xk) (nI yd) (nI yk) s = (0, C) by rw [HMW.out, if_pos (Or.inl hz_e1), if_pos (Or.inr hl_e2), if_pos (Or.inl hz_e1)])
        clear hz_e1 hz_e2 hl_e2
        have NE_e2 := neN HN_e2.out
        obtain ⟨na_e2, nb_e2, nc_e2⟩ := NE_e2
        go_enter Try.func52, Try.ntmps52
        go_wp2_with (first
          | ((with_reducible refine at_slot 3 ?_); refine wpList_box_blk rfl 33 _ rfl (.agg #[.int .i64 xd, .int .i64 xk]) rfl ?_; intro y1 hbq hl1 hs1; have HS_y1 : Hid (DoAt 53 [c1, c2] st J 2 y1 s [(w.heap.size, 33, plL xd xk)]) := hide (HS_w.out.var hl1 (Nat.le_refl _) hbq); clear hbq hl1 hs1)
          | ((with_reducible refine at_slot 4 ?_); refine wpList_box_blk rfl 33 _ rfl (.agg #[.int .i64 yd, .int .i64 yk]) rfl ?_; intro y2 hbq hl1 hs1; have HS_y2 : Hid (DoAt 53 [c1, c2] st J 2 y2 s [(w.heap.size, 33, plL xd xk), (y1.heap.size, 33, plL yd yk)]) := hide (HS_y1.out.var hl1 (Nat.le_refl _) hbq); clear hbq hl1 hs1)
          | ((with_reducible refine at_slot 11 ?_); refine when_own rfl (.tmp 3) rfl HS_y2.out.own 0 rfl rfl Try.underlying33 rfl mplace_info ?_)
          | ((with_reducible refine at_slot 12 ?_); refine when_own rfl (.tmp 4) rfl HS_y2.out.own 1 rfl rfl Try.underlying33 rfl mplace_info ?_)
          | ((with_reducible refine at_slot 13 ?_); refine wpList_build_is rfl 96 #[(0, .tmp 11), (1, .tmp 12)] rfl [(0, .agg #[.int .i64 xd, .int .i64 xk]), (1, .agg #[.int .i64 yd, .int .i64 yk])] (by simp only [List.map_toArray, List.map_cons, List.map_nil]; rfl) _ (two_built _ _ _ _) ?_))
        refine wp_loop_rounds 3 ?_
        rw [rounds_succ]
        go_wp2_with (first
          | ((with_reducible refine at_slot 16 ?_); refine wpList_two0 rfl (.tmp 13) (.tmp 14) rfl xd xk yd yk rfl rfl ?_)
          | ((with_reducible refine at_slot 9 ?_); refine wpList_alloc_blk rfl 33 rfl _ (mplace_zero _) ?_; intro y3 hbq hl1 hs1; clear hs1)
          | ((with_reducible refine at_store 9 ?_); refine wpList_store_all rfl 33 (.tmp 9) (.tmp 16) rfl y2.heap.size 33 _ hbq rfl (plL (xd) (xk)) rfl mplace_info rfl (mplace_one _ _) ?_; intro y4 hbz hg hs; have HS_y4 : Hid (DoAt 53 [c1, c2] st J 2 y4 s [(w.heap.size, 33, plL xd xk), (y1.heap.size, 33, plL yd yk), (y2.heap.size, 33, plL (xd) (xk))]) := hide (HS_y2.out.new hl1 hg hbz); clear hs hbq hl1 hg hbz))
        go_step3
        go_wp2_with (first
          | ((with_reducible refine at_slot 18 ?_); refine when_own rfl (.tmp 9) rfl HS_y4.out.own 2 rfl rfl Try.underlying33 rfl mplace_info ?_)
          | (go_at_call 53; refine (HS_y4.out.call xd xk rfl rfl).mono ?_; rintro _ y5 ⟨rfl, hsq⟩; rw [HA.out] at hsq; rw [HE1.out, HZ_e1.out]; have HS_y5 : Hid (DoAt 53 [c1, c2] st J 1 y5 A [(w.heap.size, 33, plL xd xk), (y1.heap.size, 33, plL yd yk), (y2.heap.size, 33, plL (xd) (xk))]) := hide (hsq); clear hsq)
          | (go_at_call 54; refine (lost_any 0 _).mono ?_; rintro _ _ ⟨rfl, rfl⟩))
        go_step3
        rw [Exit.noGoto_normal]
        go_wp2
        rw [rounds_succ]
        go_wp2_with (first
          | ((with_reducible refine at_slot 16 ?_); refine wpList_two1 rfl (.tmp 13) (.tmp 14) rfl xd xk yd yk rfl rfl ?_)
          | ((with_reducible refine at_slot 9 ?_); refine wpList_alloc_blk rfl 33 rfl _ (mplace_zero _) ?_; intro y6 hbq hl1 hs1; clear hs1)
          | ((with_reducible refine at_store 9 ?_); refine wpList_store_all rfl 33 (.tmp 9) (.tmp 16) rfl y5.heap.size 33 _ hbq rfl (plL (yd) (yk)) rfl mplace_info rfl (mplace_one _ _) ?_; intro y7 hbz hg hs; have HS_y7 : Hid (DoAt 53 [c1, c2] st J 1 y7 A [(w.heap.size, 33, plL xd xk), (y1.heap.size, 33, plL yd yk), (y2.heap.size, 33, plL (xd) (xk)), (y5.heap.size, 33, plL (yd) (yk))]) := hide (HS_y5.out.new hl1 hg hbz); clear hs hbq hl1 hg hbz))
        refine wp_scope_fwd 0 rfl ?_
        go_wp2_with (first
          | ((with_reducible refine at_slot 18 ?_); refine when_own rfl (.tmp 9) rfl HS_y7.out.own 3 rfl rfl Try.underlying33 rfl mplace_info ?_)
          | (go_at_call 53; refine (HS_y7.out.call yd yk rfl rfl).mono ?_; rintro _ y8 ⟨rfl, hsq⟩; rw [HC.out] at hsq; rw [HE2.out]; have HS_y8 : Hid (DoAt 53 [c1, c2] st J 0 y8 C [(w.heap.size, 33, plL xd xk), (y1.heap.size, 33, plL yd yk), (y2.heap.size, 33, plL (xd) (xk)), (y5.heap.size, 33, plL (yd) (yk))]) := hide (hsq); clear hsq)
          | (go_at_call 54; (with_reducible refine (HLO_e2.out _).mono ?_); rintro _ _ ⟨rfl, rfl⟩))
        go_step3
        refine And.intro rfl ?_
        show Code.wp Try.prog Code.skip _ _ _
        go_wp2
        rw [Exit.noGoto_normal]
        go_wp2
        rw [rounds_succ]
        go_wp2
        go_ret
        rw [HR.out]
        exact ⟨rfl, HS_y8.out.fin⟩
      · have hf_e2 : lostB e2 = false := by simpa using hl_e2
        have HLO_e2 := hide (fun w => hf_e2 ▸ lost_any e2 w)
        have HR := hide (show bothN st (nI xd) (nI xk) (nI yd) (nI yk) s = (e2, C) by rw [HMW.out, if_pos (Or.inl hz_e1), if_neg (fun q => q.elim hz_e2 hl_e2)])
        clear hz_e1 hz_e2 hl_e2 hf_e2
        have NE_e2 := neN HN_e2.out
        obtain ⟨na_e2, nb_e2, nc_e2⟩ := NE_e2
        go_enter Try.func52, Try.ntmps52
        go_wp2_with (first
          | ((with_reducible refine at_slot 3 ?_); refine wpList_box_blk rfl 33 _ rfl (.agg #[.int .i64 xd, .int .i64 xk]) rfl ?_; intro y1 hbq hl1 hs1; have HS_y1 : Hid (DoAt 53 [c1, c2] st J 2 y1 s [(w.heap.size, 33, plL xd xk)]) := hide (HS_w.out.var hl1 (Nat.le_refl _) hbq); clear hbq hl1 hs1)
          | ((with_reducible refine at_slot 4 ?_); refine wpList_box_blk rfl 33 _ rfl (.agg #[.int .i64 yd, .int .i64 yk]) rfl ?_; intro y2 hbq hl1 hs1; have HS_y2 : Hid (DoAt 53 [c1, c2] st J 2 y2 s [(w.heap.size, 33, plL xd xk), (y1.heap.size, 33, plL yd yk)]) := hide (HS_y1.out.var hl1 (Nat.le_refl _) hbq); clear hbq hl1 hs1)
          | ((with_reducible refine at_slot 11 ?_); refine when_own rfl (.tmp 3) rfl HS_y2.out.own 0 rfl rfl Try.underlying33 rfl mplace_info ?_)
          | ((with_reducible refine at_slot 12 ?_); refine when_own rfl (.tmp 4) rfl HS_y2.out.own 1 rfl rfl Try.underlying33 rfl mplace_info ?_)
          | ((with_reducible refine at_slot 13 ?_); refine wpList_build_is rfl 96 #[(0, .tmp 11), (1, .tmp 12)] rfl [(0, .agg #[.int .i64 xd, .int .i64 xk]), (1, .agg #[.int .i64 yd, .int .i64 yk])] (by simp only [List.map_toArray, List.map_cons, List.map_nil]; rfl) _ (two_built _ _ _ _) ?_))
        refine wp_loop_rounds 3 ?_
        rw [rounds_succ]
        go_wp2_with (first
          | ((with_reducible refine at_slot 16 ?_); refine wpList_two0 rfl (.tmp 13) (.tmp 14) rfl xd xk yd yk rfl rfl ?_)
          | ((with_reducible refine at_slot 9 ?_); refine wpList_alloc_blk rfl 33 rfl _ (mplace_zero _) ?_; intro y3 hbq hl1 hs1; clear hs1)
          | ((with_reducible refine at_store 9 ?_); refine wpList_store_all rfl 33 (.tmp 9) (.tmp 16) rfl y2.heap.size 33 _ hbq rfl (plL (xd) (xk)) rfl mplace_info rfl (mplace_one _ _) ?_; intro y4 hbz hg hs; have HS_y4 : Hid (DoAt 53 [c1, c2] st J 2 y4 s [(w.heap.size, 33, plL xd xk), (y1.heap.size, 33, plL yd yk), (y2.heap.size, 33, plL (xd) (xk))]) := hide (HS_y2.out.new hl1 hg hbz); clear hs hbq hl1 hg hbz))
        go_step3
        go_wp2_with (first
          | ((with_reducible refine at_slot 18 ?_); refine when_own rfl (.tmp 9) rfl HS_y4.out.own 2 rfl rfl Try.underlying33 rfl mplace_info ?_)
          | (go_at_call 53; refine (HS_y4.out.call xd xk rfl rfl).mono ?_; rintro _ y5 ⟨rfl, hsq⟩; rw [HA.out] at hsq; rw [HE1.out, HZ_e1.out]; have HS_y5 : Hid (DoAt 53 [c1, c2] st J 1 y5 A [(w.heap.size, 33, plL xd xk), (y1.heap.size, 33, plL yd yk), (y2.heap.size, 33, plL (xd) (xk))]) := hide (hsq); clear hsq)
          | (go_at_call 54; refine (lost_any 0 _).mono ?_; rintro _ _ ⟨rfl, rfl⟩))
        go_step3
        rw [Exit.noGoto_normal]
        go_wp2
        rw [rounds_succ]
        go_wp2_with (first
          | ((with_reducible refine at_slot 16 ?_); refine wpList_two1 rfl (.tmp 13) (.tmp 14) rfl xd xk yd yk rfl rfl ?_)
          | ((with_reducible refine at_slot 9 ?_); refine wpList_alloc_blk rfl 33 rfl _ (mplace_zero _) ?_; intro y6 hbq hl1 hs1; clear hs1)
          | ((with_reducible refine at_store 9 ?_); refine wpList_store_all rfl 33 (.tmp 9) (.tmp 16) rfl y5.heap.size 33 _ hbq rfl (plL (yd) (yk)) rfl mplace_info rfl (mplace_one _ _) ?_; intro y7 hbz hg hs; have HS_y7 : Hid (DoAt 53 [c1, c2] st J 1 y7 A [(w.heap.size, 33, plL xd xk), (y1.heap.size, 33, plL yd yk), (y2.heap.size, 33, plL (xd) (xk)), (y5.heap.size, 33, plL (yd) (yk))]) := hide (HS_y5.out.new hl1 hg hbz); clear hs hbq hl1 hg hbz))
        go_step3
        go_wp2_with (first
          | ((with_reducible refine at_slot 18 ?_); refine when_own rfl (.tmp 9) rfl HS_y7.out.own 3 rfl rfl Try.underlying33 rfl mplace_info ?_)
          | (go_at_call 53; refine (HS_y7.out.call yd yk rfl rfl).mono ?_; rintro _ y8 ⟨rfl, hsq⟩; rw [HC.out] at hsq; rw [HE2.out]; have HS_y8 : Hid (DoAt 53 [c1, c2] st J 0 y8 C [(w.heap.size, 33, plL xd xk), (y1.heap.size, 33, plL yd yk), (y2.heap.size, 33, plL (xd) (xk)), (y5.heap.size, 33, plL (yd) (yk))]) := hide (hsq); clear hsq)
          | (go_at_call 54; (with_reducible refine (HLO_e2.out _).mono ?_); rintro _ _ ⟨rfl, rfl⟩))
        rw [Exit.noGoto_ret]
        go_ret
        rw [HR.out]
        exact ⟨rfl, HS_y8.out.fin⟩
  · have HN_e1 := hide hz_e1
    by_cases hl_e1 : lostB e1 = true
    · have HLO_e1 := hide (fun w => hl_e1 ▸ lost_any e1 w)
      by_cases hz_e2 : e2 = 0
      · have HZ_e2 := hide hz_e2
        have HR := hide (show bothN st (nI xd) (nI xk) (nI yd) (nI yk) s = (0, C) by rw [HMW.out, if_pos (Or.inr hl_e1), if_pos (Or.inl hz_e2), if_pos (Or.inr hz_e2)])
        clear hz_e1 hl_e1 hz_e2
        have NE_e1 := neN HN_e1.out
        obtain ⟨na_e1, nb_e1, nc_e1⟩ := NE_e1
        go_enter Try.func52, Try.ntmps52
        go_wp2_with (first
          | ((with_reducible refine at_slot 3 ?_); refine wpList_box_blk rfl 33 _ rfl (.agg #[.int .i64 xd, .int .i64 xk]) rfl ?_; intro y1 hbq hl1 hs1; have HS_y1 : Hid (DoAt 53 [c1, c2] st J 2 y1 s [(w.heap.size, 33, plL xd xk)]) := hide (HS_w.out.var hl1 (Nat.le_refl _) hbq); clear hbq hl1 hs1)
          | ((with_reducible refine at_slot 4 ?_); refine wpList_box_blk rfl 33 _ rfl (.agg #[.int .i64 yd, .int .i64 yk]) rfl ?_; intro y2 hbq hl1 hs1; have HS_y2 : Hid (DoAt 53 [c1, c2] st J 2 y2 s [(w.heap.size, 33, plL xd xk), (y1.heap.size, 33, plL yd yk)]) := hide (HS_y1.out.var hl1 (Nat.le_refl _) hbq); clear hbq hl1 hs1)
          | ((with_reducible refine at_slot 11 ?_); refine when_own rfl (.tmp 3) rfl HS_y2.out.own 0 rfl rfl Try.underlying33 rfl mplace_info ?_)
          | ((with_reducible refine at_slot 12 ?_); refine when_own rfl (.tmp 4) rfl HS_y2.out.own 1 rfl rfl Try.underlying33 rfl mplace_info ?_)
          | ((with_reducible refine at_slot 13 ?_); refine wpList_build_is rfl 96 #[(0, .tmp 11), (1, .tmp 12)] rfl [(0, .agg #[.int .i64 xd, .int .i64 xk]), (1, .agg #[.int .i64 yd, .int .i64 yk])] (by simp only [List.map_toArray, List.map_cons, List.map_nil]; rfl) _ (two_built _ _ _ _) ?_))
        refine wp_loop_rounds 3 ?_
        rw [rounds_succ]
        go_wp2_with (first
          | ((with_reducible refine at_slot 16 ?_); refine wpList_two0 rfl (.tmp 13) (.tmp 14) rfl xd xk yd yk rfl rfl ?_)
          | ((with_reducible refine at_slot 9 ?_); refine wpList_alloc_blk rfl 33 rfl _ (mplace_zero _) ?_; intro y3 hbq hl1 hs1; clear hs1)
          | ((with_reducible refine at_store 9 ?_); refine wpList_store_all rfl 33 (.tmp 9) (.tmp 16) rfl y2.heap.size 33 _ hbq rfl (plL (xd) (xk)) rfl mplace_info rfl (mplace_one _ _) ?_; intro y4 hbz hg hs; have HS_y4 : Hid (DoAt 53 [c1, c2] st J 2 y4 s [(w.heap.size, 33, plL xd xk), (y1.heap.size, 33, plL yd yk), (y2.heap.size, 33, plL (xd) (xk))]) := hide (HS_y2.out.new hl1 hg hbz); clear hs hbq hl1 hg hbz))
        refine wp_scope_fwd 0 rfl ?_
        go_wp2_with (first
          | ((with_reducible refine at_slot 18 ?_); refine when_own rfl (.tmp 9) rfl HS_y4.out.own 2 rfl rfl Try.underlying33 rfl mplace_info ?_)
          | (go_at_call 53; refine (HS_y4.out.call xd xk rfl rfl).mono ?_; rintro _ y5 ⟨rfl, hsq⟩; rw [HA.out] at hsq; rw [HE1.out]; have HS_y5 : Hid (DoAt 53 [c1, c2] st J 1 y5 A [(w.heap.size, 33, plL xd xk), (y1.heap.size, 33, plL yd yk), (y2.heap.size, 33, plL (xd) (xk))]) := hide (hsq); clear hsq)
          | (go_at_call 54; (with_reducible refine (HLO_e1.out _).mono ?_); rintro _ _ ⟨rfl, rfl⟩))
        go_step3
        refine And.intro rfl ?_
        show Code.wp Try.prog Code.skip _ _ _
        go_wp2
        rw [Exit.noGoto_normal]
        go_wp2
        rw [rounds_succ]
        go_wp2_with (first
          | ((with_reducible refine at_slot 16 ?_); refine wpList_two1 rfl (.tmp 13) (.tmp 14) rfl xd xk yd yk rfl rfl ?_)
          | ((with_reducible refine at_slot 9 ?_); refine wpList_alloc_blk rfl 33 rfl _ (mplace_zero _) ?_; intro y6 hbq hl1 hs1; clear hs1)
          | ((with_reducible refine at_store 9 ?_); refine wpList_store_all rfl 33 (.tmp 9) (.tmp 16) rfl y5.heap.size 33 _ hbq rfl (plL (yd) (yk)) rfl mplace_info rfl (mplace_one _ _) ?_; intro y7 hbz hg hs; have HS_y7 : Hid (DoAt 53 [c1, c2] st J 1 y7 A [(w.heap.size, 33, plL xd xk), (y1.heap.size, 33, plL yd yk), (y2.heap.size, 33, plL (xd) (xk)), (y5.heap.size, 33, plL (yd) (yk))]) := hide (HS_y5.out.new hl1 hg hbz); clear hs hbq hl1 hg hbz))
        go_step3
        go_wp2_with (first
          | ((with_reducible refine at_slot 18 ?_); refine when_own rfl (.tmp 9) rfl HS_y7.out.own 3 rfl rfl Try.underlying33 rfl mplace_info ?_)
          | (go_at_call 53; refine (HS_y7.out.call yd yk rfl rfl).mono ?_; rintro _ y8 ⟨rfl, hsq⟩; rw [HC.out] at hsq; rw [HE2.out, HZ_e2.out]; have HS_y8 : Hid (DoAt 53 [c1, c2] st J 0 y8 C [(w.heap.size, 33, plL xd xk), (y1.heap.size, 33, plL yd yk), (y2.heap.size, 33, plL (xd) (xk)), (y5.heap.size, 33, plL (yd) (yk))]) := hide (hsq); clear hsq)
          | (go_at_call 54; refine (lost_any 0 _).mono ?_; rintro _ _ ⟨rfl, rfl⟩))
        go_step3
        rw [Exit.noGoto_normal]
        go_wp2
        rw [rounds_succ]
        go_wp2
        go_ret
        rw [HR.out]
        exact ⟨rfl, HS_y8.out.fin⟩
      · have HN_e2 := hide hz_e2
        by_cases hl_e2 : lostB e2 = true
        · have HLO_e2 := hide (fun w => hl_e2 ▸ lost_any e2 w)
          have HR := hide (show bothN st (nI xd) (nI xk) (nI yd) (nI yk) s = (5, C) by rw [HMW.out, if_pos (Or.inr hl_e1), if_pos (Or.inr hl_e2), if_neg (fun q => q.elim hz_e1 hz_e2)])
          clear hz_e1 hl_e1 hz_e2 hl_e2
          have NE_e1 := neN HN_e1.out
          obtain ⟨na_e1, nb_e1, nc_e1⟩ := NE_e1
          have NE_e2 := neN HN_e2.out
          obtain ⟨na_e2, nb_e2, nc_e2⟩ := NE_e2
          go_enter Try.func52, Try.ntmps52
          go_wp2_with (first
            | ((with_reducible refine at_slot 3 ?_); refine wpList_box_blk rfl 33 _ rfl (.agg #[.int .i64 xd, .int .i64 xk]) rfl ?_; intro y1 hbq hl1 hs1; have HS_y1 : Hid (DoAt 53 [c1, c2] st J 2 y1 s [(w.heap.size, 33, plL xd xk)]) := hide (HS_w.out.var hl1 (Nat.le_refl _) hbq); clear hbq hl1 hs1)
            | ((with_reducible refine at_slot 4 ?_); refine wpList_box_blk rfl 33 _ rfl (.agg #[.int .i64 yd, .int .i64 yk]) rfl ?_; intro y2 hbq hl1 hs1; have HS_y2 : Hid (DoAt 53 [c1, c2] st J 2 y2 s [(w.heap.size, 33, plL xd xk), (y1.heap.size, 33, plL yd yk)]) := hide (HS_y1.out.var hl1 (Nat.le_refl _) hbq); clear hbq hl1 hs1)
            | ((with_reducible refine at_slot 11 ?_); refine when_own rfl (.tmp 3) rfl HS_y2.out.own 0 rfl rfl Try.underlying33 rfl mplace_info ?_)
            | ((with_reducible refine at_slot 12 ?_); refine when_own rfl (.tmp 4) rfl HS_y2.out.own 1 rfl rfl Try.underlying33 rfl mplace_info ?_)
            | ((with_reducible refine at_slot 13 ?_); refine wpList_build_is rfl 96 #[(0, .tmp 11), (1, .tmp 12)] rfl [(0, .agg #[.int .i64 xd, .int .i64 xk]), (1, .agg #[.int .i64 yd, .int .i64 yk])] (by simp only [List.map_toArray, List.map_cons, List.map_nil]; rfl) _ (two_built _ _ _ _) ?_))
          refine wp_loop_rounds 3 ?_
          rw [rounds_succ]
          go_wp2_with (first
            | ((with_reducible refine at_slot 16 ?_); refine wpList_two0 rfl (.tmp 13) (.tmp 14) rfl xd xk yd yk rfl rfl ?_)
            | ((with_reducible refine at_slot 9 ?_); refine wpList_alloc_blk rfl 33 rfl _ (mplace_zero _) ?_; intro y3 hbq hl1 hs1; clear hs1)
            | ((with_reducible refine at_store 9 ?_); refine wpList_store_all rfl 33 (.tmp 9) (.tmp 16) rfl y2.heap.size 33 _ hbq rfl (plL (xd) (xk)) rfl mplace_info rfl (mplace_one _ _) ?_; intro y4 hbz hg hs; have HS_y4 : Hid (DoAt 53 [c1, c2] st J 2 y4 s [(w.heap.size, 33, plL xd xk), (y1.heap.size, 33, plL yd yk), (y2.heap.size, 33, plL (xd) (xk))]) := hide (HS_y2.out.new hl1 hg hbz); clear hs hbq hl1 hg hbz))
          refine wp_scope_fwd 0 rfl ?_
          go_wp2_with (first
            | ((with_reducible refine at_slot 18 ?_); refine when_own rfl (.tmp 9) rfl HS_y4.out.own 2 rfl rfl Try.underlying33 rfl mplace_info ?_)
            | (go_at_call 53; refine (HS_y4.out.call xd xk rfl rfl).mono ?_; rintro _ y5 ⟨rfl, hsq⟩; rw [HA.out] at hsq; rw [HE1.out]; have HS_y5 : Hid (DoAt 53 [c1, c2] st J 1 y5 A [(w.heap.size, 33, plL xd xk), (y1.heap.size, 33, plL yd yk), (y2.heap.size, 33, plL (xd) (xk))]) := hide (hsq); clear hsq)
            | (go_at_call 54; (with_reducible refine (HLO_e1.out _).mono ?_); rintro _ _ ⟨rfl, rfl⟩))
          go_step3
          refine And.intro rfl ?_
          show Code.wp Try.prog Code.skip _ _ _
          go_wp2
          rw [Exit.noGoto_normal]
          go_wp2
          rw [rounds_succ]
          go_wp2_with (first
            | ((with_reducible refine at_slot 16 ?_); refine wpList_two1 rfl (.tmp 13) (.tmp 14) rfl xd xk yd yk rfl rfl ?_)
            | ((with_reducible refine at_slot 9 ?_); refine wpList_alloc_blk rfl 33 rfl _ (mplace_zero _) ?_; intro y6 hbq hl1 hs1; clear hs1)
            | ((with_reducible refine at_store 9 ?_); refine wpList_store_all rfl 33 (.tmp 9) (.tmp 16) rfl y5.heap.size 33 _ hbq rfl (plL (yd) (yk)) rfl mplace_info rfl (mplace_one _ _) ?_; intro y7 hbz hg hs; have HS_y7 : Hid (DoAt 53 [c1, c2] st J 1 y7 A [(w.heap.size, 33, plL xd xk), (y1.heap.size, 33, plL yd yk), (y2.heap.size, 33, plL (xd) (xk)), (y5.heap.size, 33, plL (yd) (yk))]) := hide (HS_y5.out.new hl1 hg hbz); clear hs hbq hl1 hg hbz))
          refine wp_scope_fwd 0 rfl ?_
          go_wp2_with (first
            | ((with_reducible refine at_slot 18 ?_); refine when_own rfl (.tmp 9) rfl HS_y7.out.own 3 rfl rfl Try.underlying33 rfl mplace_info ?_)
            | (go_at_call 53; refine (HS_y7.out.call yd yk rfl rfl).mono ?_; rintro _ y8 ⟨rfl, hsq⟩; rw [HC.out] at hsq; rw [HE2.out]; have HS_y8 : Hid (DoAt 53 [c1, c2] st J 0 y8 C [(w.heap.size, 33, plL xd xk), (y1.heap.size, 33, plL yd yk), (y2.heap.size, 33, plL (xd) (xk)), (y5.heap.size, 33, plL (yd) (yk))]) := hide (hsq); clear hsq)
            | (go_at_call 54; (with_reducible refine (HLO_e2.out _).mono ?_); rintro _ _ ⟨rfl, rfl⟩))
          go_step3
          refine And.intro rfl ?_
          show Code.wp Try.prog Code.skip _ _ _
          go_wp2
          rw [Exit.noGoto_normal]
          go_wp2
          rw [rounds_succ]
          go_wp2
          go_ret
          rw [HR.out]
          exact ⟨rfl, HS_y8.out.fin⟩
        · have hf_e2 : lostB e2 = false := by simpa using hl_e2
          have HLO_e2 := hide (fun w => hf_e2 ▸ lost_any e2 w)
          have HR := hide (show bothN st (nI xd) (nI xk) (nI yd) (nI yk) s = (e2, C) by rw [HMW.out, if_pos (Or.inr hl_e1), if_neg (fun q => q.elim hz_e2 hl_e2)])
          clear hz_e1 hl_e1 hz_e2 hl_e2 hf_e2
          have NE_e1 := neN HN_e1.out
          obtain ⟨na_e1, nb_e1, nc_e1⟩ := NE_e1
          have NE_e2 := neN HN_e2.out
          obtain ⟨na_e2, nb_e2, nc_e2⟩ := NE_e2
          go_enter Try.func52, Try.ntmps52
          go_wp2_with (first
            | ((with_reducible refine at_slot 3 ?_); refine wpList_box_blk rfl 33 _ rfl (.agg #[.int .i64 xd, .int .i64 xk]) rfl ?_; intro y1 hbq hl1 hs1; have HS_y1 : Hid (DoAt 53 [c1, c2] st J 2 y1 s [(w.heap.size, 33, plL xd xk)]) := hide (HS_w.out.var hl1 (Nat.le_refl _) hbq); clear hbq hl1 hs1)
            | ((with_reducible refine at_slot 4 ?_); refine wpList_box_blk rfl 33 _ rfl (.agg #[.int .i64 yd, .int .i64 yk]) rfl ?_; intro y2 hbq hl1 hs1; have HS_y2 : Hid (DoAt 53 [c1, c2] st J 2 y2 s [(w.heap.size, 33, plL xd xk), (y1.heap.size, 33, plL yd yk)]) := hide (HS_y1.out.var hl1 (Nat.le_refl _) hbq); clear hbq hl1 hs1)
            | ((with_reducible refine at_slot 11 ?_); refine when_own rfl (.tmp 3) rfl HS_y2.out.own 0 rfl rfl Try.underlying33 rfl mplace_info ?_)
            | ((with_reducible refine at_slot 12 ?_); refine when_own rfl (.tmp 4) rfl HS_y2.out.own 1 rfl rfl Try.underlying33 rfl mplace_info ?_)
            | ((with_reducible refine at_slot 13 ?_); refine wpList_build_is rfl 96 #[(0, .tmp 11), (1, .tmp 12)] rfl [(0, .agg #[.int .i64 xd, .int .i64 xk]), (1, .agg #[.int .i64 yd, .int .i64 yk])] (by simp only [List.map_toArray, List.map_cons, List.map_nil]; rfl) _ (two_built _ _ _ _) ?_))
          refine wp_loop_rounds 3 ?_
          rw [rounds_succ]
          go_wp2_with (first
            | ((with_reducible refine at_slot 16 ?_); refine wpList_two0 rfl (.tmp 13) (.tmp 14) rfl xd xk yd yk rfl rfl ?_)
            | ((with_reducible refine at_slot 9 ?_); refine wpList_alloc_blk rfl 33 rfl _ (mplace_zero _) ?_; intro y3 hbq hl1 hs1; clear hs1)
            | ((with_reducible refine at_store 9 ?_); refine wpList_store_all rfl 33 (.tmp 9) (.tmp 16) rfl y2.heap.size 33 _ hbq rfl (plL (xd) (xk)) rfl mplace_info rfl (mplace_one _ _) ?_; intro y4 hbz hg hs; have HS_y4 : Hid (DoAt 53 [c1, c2] st J 2 y4 s [(w.heap.size, 33, plL xd xk), (y1.heap.size, 33, plL yd yk), (y2.heap.size, 33, plL (xd) (xk))]) := hide (HS_y2.out.new hl1 hg hbz); clear hs hbq hl1 hg hbz))
          refine wp_scope_fwd 0 rfl ?_
          go_wp2_with (first
            | ((with_reducible refine at_slot 18 ?_); refine when_own rfl (.tmp 9) rfl HS_y4.out.own 2 rfl rfl Try.underlying33 rfl mplace_info ?_)
            | (go_at_call 53; refine (HS_y4.out.call xd xk rfl rfl).mono ?_; rintro _ y5 ⟨rfl, hsq⟩; rw [HA.out] at hsq; rw [HE1.out]; have HS_y5 : Hid (DoAt 53 [c1, c2] st J 1 y5 A [(w.heap.size, 33, plL xd xk), (y1.heap.size, 33, plL yd yk), (y2.heap.size, 33, plL (xd) (xk))]) := hide (hsq); clear hsq)
            | (go_at_call 54; (with_reducible refine (HLO_e1.out _).mono ?_); rintro _ _ ⟨rfl, rfl⟩))
          go_step3
          refine And.intro rfl ?_
          show Code.wp Try.prog Code.skip _ _ _
          go_wp2
          rw [Exit.noGoto_normal]
          go_wp2
          rw [rounds_succ]
          go_wp2_with (first
            | ((with_reducible refine at_slot 16 ?_); refine wpList_two1 rfl (.tmp 13) (.tmp 14) rfl xd xk yd yk rfl rfl ?_)
            | ((with_reducible refine at_slot 9 ?_); refine wpList_alloc_blk rfl 33 rfl _ (mplace_zero _) ?_; intro y6 hbq hl1 hs1; clear hs1)
            | ((with_reducible refine at_store 9 ?_); refine wpList_store_all rfl 33 (.tmp 9) (.tmp 16) rfl y5.heap.size 33 _ hbq rfl (plL (yd) (yk)) rfl mplace_info rfl (mplace_one _ _) ?_; intro y7 hbz hg hs; have HS_y7 : Hid (DoAt 53 [c1, c2] st J 1 y7 A [(w.heap.size, 33, plL xd xk), (y1.heap.size, 33, plL yd yk), (y2.heap.size, 33, plL (xd) (xk)), (y5.heap.size, 33, plL (yd) (yk))]) := hide (HS_y5.out.new hl1 hg hbz); clear hs hbq hl1 hg hbz))
          go_step3
          go_wp2_with (first
            | ((with_reducible refine at_slot 18 ?_); refine when_own rfl (.tmp 9) rfl HS_y7.out.own 3 rfl rfl Try.underlying33 rfl mplace_info ?_)
            | (go_at_call 53; refine (HS_y7.out.call yd yk rfl rfl).mono ?_; rintro _ y8 ⟨rfl, hsq⟩; rw [HC.out] at hsq; rw [HE2.out]; have HS_y8 : Hid (DoAt 53 [c1, c2] st J 0 y8 C [(w.heap.size, 33, plL xd xk), (y1.heap.size, 33, plL yd yk), (y2.heap.size, 33, plL (xd) (xk)), (y5.heap.size, 33, plL (yd) (yk))]) := hide (hsq); clear hsq)
            | (go_at_call 54; (with_reducible refine (HLO_e2.out _).mono ?_); rintro _ _ ⟨rfl, rfl⟩))
          rw [Exit.noGoto_ret]
          go_ret
          rw [HR.out]
          exact ⟨rfl, HS_y8.out.fin⟩
    · have hf_e1 : lostB e1 = false := by simpa using hl_e1
      have HLO_e1 := hide (fun w => hf_e1 ▸ lost_any e1 w)
      have HR := hide (show bothN st (nI xd) (nI xk) (nI yd) (nI yk) s = (e1, A) from HMW.out.trans (if_neg (fun q => q.elim hz_e1 hl_e1)))
      clear hz_e1 hl_e1 hf_e1
      have NE_e1 := neN HN_e1.out
      obtain ⟨na_e1, nb_e1, nc_e1⟩ := NE_e1
      go_enter Try.func52, Try.ntmps52
      go_wp2_with (first
        | ((with_reducible refine at_slot 3 ?_); refine wpList_box_blk rfl 33 _ rfl (.agg #[.int .i64 xd, .int .i64 xk]) rfl ?_; intro y1 hbq hl1 hs1; have HS_y1 : Hid (DoAt 53 [c1, c2] st J 2 y1 s [(w.heap.size, 33, plL xd xk)]) := hide (HS_w.out.var hl1 (Nat.le_refl _) hbq); clear hbq hl1 hs1)
        | ((with_reducible refine at_slot 4 ?_); refine wpList_box_blk rfl 33 _ rfl (.agg #[.int .i64 yd, .int .i64 yk]) rfl ?_; intro y2 hbq hl1 hs1; have HS_y2 : Hid (DoAt 53 [c1, c2] st J 2 y2 s [(w.heap.size, 33, plL xd xk), (y1.heap.size, 33, plL yd yk)]) := hide (HS_y1.out.var hl1 (Nat.le_refl _) hbq); clear hbq hl1 hs1)
        | ((with_reducible refine at_slot 11 ?_); refine when_own rfl (.tmp 3) rfl HS_y2.out.own 0 rfl rfl Try.underlying33 rfl mplace_info ?_)
        | ((with_reducible refine at_slot 12 ?_); refine when_own rfl (.tmp 4) rfl HS_y2.out.own 1 rfl rfl Try.underlying33 rfl mplace_info ?_)
        | ((with_reducible refine at_slot 13 ?_); refine wpList_build_is rfl 96 #[(0, .tmp 11), (1, .tmp 12)] rfl [(0, .agg #[.int .i64 xd, .int .i64 xk]), (1, .agg #[.int .i64 yd, .int .i64 yk])] (by simp only [List.map_toArray, List.map_cons, List.map_nil]; rfl) _ (two_built _ _ _ _) ?_))
      refine wp_loop_rounds 3 ?_
      rw [rounds_succ]
      go_wp2_with (first
        | ((with_reducible refine at_slot 16 ?_); refine wpList_two0 rfl (.tmp 13) (.tmp 14) rfl xd xk yd yk rfl rfl ?_)
        | ((with_reducible refine at_slot 9 ?_); refine wpList_alloc_blk rfl 33 rfl _ (mplace_zero _) ?_; intro y3 hbq hl1 hs1; clear hs1)
        | ((with_reducible refine at_store 9 ?_); refine wpList_store_all rfl 33 (.tmp 9) (.tmp 16) rfl y2.heap.size 33 _ hbq rfl (plL (xd) (xk)) rfl mplace_info rfl (mplace_one _ _) ?_; intro y4 hbz hg hs; have HS_y4 : Hid (DoAt 53 [c1, c2] st J 2 y4 s [(w.heap.size, 33, plL xd xk), (y1.heap.size, 33, plL yd yk), (y2.heap.size, 33, plL (xd) (xk))]) := hide (HS_y2.out.new hl1 hg hbz); clear hs hbq hl1 hg hbz))
      go_step3
      go_wp2_with (first
        | ((with_reducible refine at_slot 18 ?_); refine when_own rfl (.tmp 9) rfl HS_y4.out.own 2 rfl rfl Try.underlying33 rfl mplace_info ?_)
        | (go_at_call 53; refine (HS_y4.out.call xd xk rfl rfl).mono ?_; rintro _ y5 ⟨rfl, hsq⟩; rw [HA.out] at hsq; rw [HE1.out]; have HS_y5 : Hid (DoAt 53 [c1, c2] st J 1 y5 A [(w.heap.size, 33, plL xd xk), (y1.heap.size, 33, plL yd yk), (y2.heap.size, 33, plL (xd) (xk))]) := hide (hsq); clear hsq)
        | (go_at_call 54; (with_reducible refine (HLO_e1.out _).mono ?_); rintro _ _ ⟨rfl, rfl⟩))
      rw [Exit.noGoto_ret]
      go_ret
      rw [HR.out]
      exact ⟨rfl, HS_y5.out.fin⟩

set_option maxRecDepth 100000 in
set_option maxHeartbeats 8000000 in
theorem bothA_any {σ : Type} {st : Nat → Nat → σ → Nat × σ} {J : Nat → World → σ → Vars → Prop} {c1 c2 : Value} {w : World} {s : σ} (h : DoAt 55 [c1, c2] st J 2 w s []) (xd xk yd yk : Int) :
    Calls Try.prog 52 #[.agg #[.int .i64 xd, .int .i64 xk], .agg #[.int .i64 yd, .int .i64 yk], .func (.func 55) #[] #[c1, c2]] w fun e w' => e = .returned (.int .i64 ((bothN st (nI xd) (nI xk) (nI yd) (nI yk) s).1 : Int)) ∧ ∃ n, J n w' (bothN st (nI xd) (nI xk) (nI yd) (nI yk) s).2 [] := by
  have HS_w : Hid (DoAt 55 [c1, c2] st J 2 w s []) := hide h
  clear h
  obtain ⟨e1, he1⟩ : ∃ e, (st (nI xd) (nI xk) s).1 = e := ⟨_, rfl⟩
  obtain ⟨A, hA⟩ : ∃ A, (st (nI xd) (nI xk) s).2 = A := ⟨_, rfl⟩
  obtain ⟨e2, he2⟩ : ∃ e, (st (nI yd) (nI yk) A).1 = e := ⟨_, rfl⟩
  obtain ⟨C, hC⟩ : ∃ C, (st (nI yd) (nI yk) A).2 = C := ⟨_, rfl⟩
  have hmw : bothN st (nI xd) (nI xk) (nI yd) (nI yk) s = if e1 = 0 ∨ lostB e1 = true then (if e2 = 0 ∨ lostB e2 = true then (if e1 = 0 ∨ e2 = 0 then 0 else 5, C) else (e2, C)) else (e1, A) := by
    subst he1 hA he2 hC
    unfold bothN
    rfl
  have HE1 := hide he1
  have HA := hide hA
  have HE2 := hide he2
  have HC := hide hC
  have HMW := hide hmw
  clear he1 hA he2 hC hmw
  by_cases hz_e1 : e1 = 0
  · have HZ_e1 := hide hz_e1
    by_cases hz_e2 : e2 = 0
    · have HZ_e2 := hide hz_e2
      have HR := hide (show bothN st (nI xd) (nI xk) (nI yd) (nI yk) s = (0, C) by rw [HMW.out, if_pos (Or.inl hz_e1), if_pos (Or.inl hz_e2), if_pos (Or.inl hz_e1)])
      clear hz_e1 hz_e2
      go_enter Try.func52, Try.ntmps52
      go_wp2_with (first
        | ((with_reducible refine at_slot 3 ?_); refine wpList_box_blk rfl 33 _ rfl (.agg #[.int .i64 xd, .int .i64 xk]) rfl ?_; intro y1 hbq hl1 hs1; have HS_y1 : Hid (DoAt 55 [c1, c2] st J 2 y1 s [(w.heap.size, 33, plL xd xk)]) := hide (HS_w.out.var hl1 (Nat.le_refl _) hbq); clear hbq hl1 hs1)
        | ((with_reducible refine at_slot 4 ?_); refine wpList_box_blk rfl 33 _ rfl (.agg #[.int .i64 yd, .int .i64 yk]) rfl ?_; intro y2 hbq hl1 hs1; have HS_y2 : Hid (DoAt 55 [c1, c2] st J 2 y2 s [(w.heap.size, 33, plL xd xk), (y1.heap.size, 33, plL yd yk)]) := hide (HS_y1.out.var hl1 (Nat.le_refl _) hbq); clear hbq hl1 hs1)
        | ((with_reducible refine at_slot 11 ?_); refine when_own rfl (.tmp 3) rfl HS_y2.out.own 0 rfl rfl Try.underlying33 rfl mplace_info ?_)
        | ((with_reducible refine at_slot 12 ?_); refine when_own rfl (.tmp 4) rfl HS_y2.out.own 1 rfl rfl Try.underlying33 rfl mplace_info ?_)
        | ((with_reducible refine at_slot 13 ?_); refine wpList_build_is rfl 96 #[(0, .tmp 11), (1, .tmp 12)] rfl [(0, .agg #[.int .i64 xd, .int .i64 xk]), (1, .agg #[.int .i64 yd, .int .i64 yk])] (by simp only [List.map_toArray, List.map_cons, List.map_nil]; rfl) _ (two_built _ _ _ _) ?_))
      refine wp_loop_rounds 3 ?_
      rw [rounds_succ]
      go_wp2_with (first
        | ((with_reducible refine at_slot 16 ?_); refine wpList_two0 rfl (.tmp 13) (.tmp 14) rfl xd xk yd yk rfl rfl ?_)
        | ((with_reducible refine at_slot 9 ?_); refine wpList_alloc_blk rfl 33 rfl _ (mplace_zero _) ?_; intro y3 hbq hl1 hs1; clear hs1)
        | ((with_reducible refine at_store 9 ?_); refine wpList_store_all rfl 33 (.tmp 9) (.tmp 16) rfl y2.heap.size 33 _ hbq rfl (plL (xd) (xk)) rfl mplace_info rfl (mplace_one _ _) ?_; intro y4 hbz hg hs; have HS_y4 : Hid (DoAt 55 [c1, c2] st J 2 y4 s [(w.heap.size, 33, plL xd xk), (y1.heap.size, 33, plL yd yk), (y2.heap.size, 33, plL (xd) (xk))]) := hide (HS_y2.out.new hl1 hg hbz); clear hs hbq hl1 hg hbz))
      go_step3
      go_wp2_with (first
        | ((with_reducible refine at_slot 18 ?_); refine when_own rfl (.tmp 9) rfl HS_y4.out.own 2 rfl rfl Try.underlying33 rfl mplace_info ?_)
        | (go_at_call 55; refine (HS_y4.out.call xd xk rfl rfl).mono ?_; rintro _ y5 ⟨rfl, hsq⟩; rw [HA.out] at hsq; rw [HE1.out, HZ_e1.out]; have HS_y5 : Hid (DoAt 55 [c1, c2] st J 1 y5 A [(w.heap.size, 33, plL xd xk), (y1.heap.size, 33, plL yd yk), (y2.heap.size, 33, plL (xd) (xk))]) := hide (hsq); clear hsq)
        | (go_at_call 54; refine (lost_any 0 _).mono ?_; rintro _ _ ⟨rfl, rfl⟩))
      go_step3
      rw [Exit.noGoto_normal]
      go_wp2
      rw [rounds_succ]
      go_wp2_with (first
        | ((with_reducible refine at_slot 16 ?_); refine wpList_two1 rfl (.tmp 13) (.tmp 14) rfl xd xk yd yk rfl rfl ?_)
        | ((with_reducible refine at_slot 9 ?_); refine wpList_alloc_blk rfl 33 rfl _ (mplace_zero _) ?_; intro y6 hbq hl1 hs1; clear hs1)
        | ((with_reducible refine at_store 9 ?_); refine wpList_store_all rfl 33 (.tmp 9) (.tmp 16) rfl y5.heap.size 33 _ hbq rfl (plL (yd) (yk)) rfl mplace_info rfl (mplace_one _ _) ?_; intro y7 hbz hg hs; have HS_y7 : Hid (DoAt 55 [c1, c2] st J 1 y7 A [(w.heap.size, 33, plL xd xk), (y1.heap.size, 33, plL yd yk), (y2.heap.size, 33, plL (xd) (xk)), (y5.heap.size, 33, plL (yd) (yk))]) := hide (HS_y5.out.new hl1 hg hbz); clear hs hbq hl1 hg hbz))
      go_step3
      go_wp2_with (first
        | ((with_reducible refine at_slot 18 ?_); refine when_own rfl (.tmp 9) rfl HS_y7.out.own 3 rfl rfl Try.underlying33 rfl mplace_info ?_)
        | (go_at_call 55; refine (HS_y7.out.call yd yk rfl rfl).mono ?_; rintro _ y8 ⟨rfl, hsq⟩; rw [HC.out] at hsq; rw [HE2.out, HZ_e2.out]; have HS_y8 : Hid (DoAt 55 [c1, c2] st J 0 y8 C [(w.heap.size, 33, plL xd xk), (y1.heap.size, 33, plL yd yk), (y2.heap.size, 33, plL (xd) (xk)), (y5.heap.size, 33, plL (yd) (yk))]) := hide (hsq); clear hsq)
        | (go_at_call 54; refine (lost_any 0 _).mono ?_; rintro _ _ ⟨rfl, rfl⟩))
      go_step3
      rw [Exit.noGoto_normal]
      go_wp2
      rw [rounds_succ]
      go_wp2
      go_ret
      rw [HR.out]
      exact ⟨rfl, HS_y8.out.fin⟩
    · have HN_e2 := hide hz_e2
      by_cases hl_e2 : lostB e2 = true
      · have HLO_e2 := hide (fun w => hl_e2 ▸ lost_any e2 w)
        have HR := hide (show bothN st (nI xd) (nI xk) (nI yd) (nI yk) s = (0, C) by rw [HMW.out, if_pos (Or.inl hz_e1), if_pos (Or.inr hl_e2), if_pos (Or.inl hz_e1)])
        clear hz_e1 hz_e2 hl_e2
        have NE_e2 := neN HN_e2.out
        obtain ⟨na_e2, nb_e2, nc_e2⟩ := NE_e2
        go_enter Try.func52, Try.ntmps52
        go_wp2_with (first
          | ((with_reducible refine at_slot 3 ?_); refine wpList_box_blk rfl 33 _ rfl (.agg #[.int .i64 xd, .int .i64 xk]) rfl ?_; intro y1 hbq hl1 hs1; have HS_y1 : Hid (DoAt 55 [c1, c2] st J 2 y1 s [(w.heap.size, 33, plL xd xk)]) := hide (HS_w.out.var hl1 (Nat.le_refl _) hbq); clear hbq hl1 hs1)
          | ((with_reducible refine at_slot 4 ?_); refine wpList_box_blk rfl 33 _ rfl (.agg #[.int .i64 yd, .int .i64 yk]) rfl ?_; intro y2 hbq hl1 hs1; have HS_y2 : Hid (DoAt 55 [c1, c2] st J 2 y2 s [(w.heap.size, 33, plL xd xk), (y1.heap.size, 33, plL yd yk)]) := hide (HS_y1.out.var hl1 (Nat.le_refl _) hbq); clear hbq hl1 hs1)
          | ((with_reducible refine at_slot 11 ?_); refine when_own rfl (.tmp 3) rfl HS_y2.out.own 0 rfl rfl Try.underlying33 rfl mplace_info ?_)
          | ((with_reducible refine at_slot 12 ?_); refine when_own rfl (.tmp 4) rfl HS_y2.out.own 1 rfl rfl Try.underlying33 rfl mplace_info ?_)
          | ((with_reducible refine at_slot 13 ?_); refine wpList_build_is rfl 96 #[(0, .tmp 11), (1, .tmp 12)] rfl [(0, .agg #[.int .i64 xd, .int .i64 xk]), (1, .agg #[.int .i64 yd, .int .i64 yk])] (by simp only [List.map_toArray, List.map_cons, List.map_nil]; rfl) _ (two_built _ _ _ _) ?_))
        refine wp_loop_rounds 3 ?_
        rw [rounds_succ]
        go_wp2_with (first
          | ((with_reducible refine at_slot 16 ?_); refine wpList_two0 rfl (.tmp 13) (.tmp 14) rfl xd xk yd yk rfl rfl ?_)
          | ((with_reducible refine at_slot 9 ?_); refine wpList_alloc_blk rfl 33 rfl _ (mplace_zero _) ?_; intro y3 hbq hl1 hs1; clear hs1)
          | ((with_reducible refine at_store 9 ?_); refine wpList_store_all rfl 33 (.tmp 9) (.tmp 16) rfl y2.heap.size 33 _ hbq rfl (plL (xd) (xk)) rfl mplace_info rfl (mplace_one _ _) ?_; intro y4 hbz hg hs; have HS_y4 : Hid (DoAt 55 [c1, c2] st J 2 y4 s [(w.heap.size, 33, plL xd xk), (y1.heap.size, 33, plL yd yk), (y2.heap.size, 33, plL (xd) (xk))]) := hide (HS_y2.out.new hl1 hg hbz); clear hs hbq hl1 hg hbz))
        go_step3
        go_wp2_with (first
          | ((with_reducible refine at_slot 18 ?_); refine when_own rfl (.tmp 9) rfl HS_y4.out.own 2 rfl rfl Try.underlying33 rfl mplace_info ?_)
          | (go_at_call 55; refine (HS_y4.out.call xd xk rfl rfl).mono ?_; rintro _ y5 ⟨rfl, hsq⟩; rw [HA.out] at hsq; rw [HE1.out, HZ_e1.out]; have HS_y5 : Hid (DoAt 55 [c1, c2] st J 1 y5 A [(w.heap.size, 33, plL xd xk), (y1.heap.size, 33, plL yd yk), (y2.heap.size, 33, plL (xd) (xk))]) := hide (hsq); clear hsq)
          | (go_at_call 54; refine (lost_any 0 _).mono ?_; rintro _ _ ⟨rfl, rfl⟩))
        go_step3
        rw [Exit.noGoto_normal]
        go_wp2
        rw [rounds_succ]
        go_wp2_with (first
          | ((with_reducible refine at_slot 16 ?_); refine wpList_two1 rfl (.tmp 13) (.tmp 14) rfl xd xk yd yk rfl rfl ?_)
          | ((with_reducible refine at_slot 9 ?_); refine wpList_alloc_blk rfl 33 rfl _ (mplace_zero _) ?_; intro y6 hbq hl1 hs1; clear hs1)
          | ((with_reducible refine at_store 9 ?_); refine wpList_store_all rfl 33 (.tmp 9) (.tmp 16) rfl y5.heap.size 33 _ hbq rfl (plL (yd) (yk)) rfl mplace_info rfl (mplace_one _ _) ?_; intro y7 hbz hg hs; have HS_y7 : Hid (DoAt 55 [c1, c2] st J 1 y7 A [(w.heap.size, 33, plL xd xk), (y1.heap.size, 33, plL yd yk), (y2.heap.size, 33, plL (xd) (xk)), (y5.heap.size, 33, plL (yd) (yk))]) := hide (HS_y5.out.new hl1 hg hbz); clear hs hbq hl1 hg hbz))
        refine wp_scope_fwd 0 rfl ?_
        go_wp2_with (first
          | ((with_reducible refine at_slot 18 ?_); refine when_own rfl (.tmp 9) rfl HS_y7.out.own 3 rfl rfl Try.underlying33 rfl mplace_info ?_)
          | (go_at_call 55; refine (HS_y7.out.call yd yk rfl rfl).mono ?_; rintro _ y8 ⟨rfl, hsq⟩; rw [HC.out] at hsq; rw [HE2.out]; have HS_y8 : Hid (DoAt 55 [c1, c2] st J 0 y8 C [(w.heap.size, 33, plL xd xk), (y1.heap.size, 33, plL yd yk), (y2.heap.size, 33, plL (xd) (xk)), (y5.heap.size, 33, plL (yd) (yk))]) := hide (hsq); clear hsq)
          | (go_at_call 54; (with_reducible refine (HLO_e2.out _).mono ?_); rintro _ _ ⟨rfl, rfl⟩))
        go_step3
        refine And.intro rfl ?_
        show Code.wp Try.prog Code.skip _ _ _
        go_wp2
        rw [Exit.noGoto_normal]
        go_wp2
        rw [rounds_succ]
        go_wp2
        go_ret
        rw [HR.out]
        exact ⟨rfl, HS_y8.out.fin⟩
      · have hf_e2 : lostB e2 = false := by simpa using hl_e2
        have HLO_e2 := hide (fun w => hf_e2 ▸ lost_any e2 w)
        have HR := hide (show bothN st (nI xd) (nI xk) (nI yd) (nI yk) s = (e2, C) by rw [HMW.out, if_pos (Or.inl hz_e1), if_neg (fun q => q.elim hz_e2 hl_e2)])
        clear hz_e1 hz_e2 hl_e2 hf_e2
        have NE_e2 := neN HN_e2.out
        obtain ⟨na_e2, nb_e2, nc_e2⟩ := NE_e2
        go_enter Try.func52, Try.ntmps52
        go_wp2_with (first
          | ((with_reducible refine at_slot 3 ?_); refine wpList_box_blk rfl 33 _ rfl (.agg #[.int .i64 xd, .int .i64 xk]) rfl ?_; intro y1 hbq hl1 hs1; have HS_y1 : Hid (DoAt 55 [c1, c2] st J 2 y1 s [(w.heap.size, 33, plL xd xk)]) := hide (HS_w.out.var hl1 (Nat.le_refl _) hbq); clear hbq hl1 hs1)
          | ((with_reducible refine at_slot 4 ?_); refine wpList_box_blk rfl 33 _ rfl (.agg #[.int .i64 yd, .int .i64 yk]) rfl ?_; intro y2 hbq hl1 hs1; have HS_y2 : Hid (DoAt 55 [c1, c2] st J 2 y2 s [(w.heap.size, 33, plL xd xk), (y1.heap.size, 33, plL yd yk)]) := hide (HS_y1.out.var hl1 (Nat.le_refl _) hbq); clear hbq hl1 hs1)
          | ((with_reducible refine at_slot 11 ?_); refine when_own rfl (.tmp 3) rfl HS_y2.out.own 0 rfl rfl Try.underlying33 rfl mplace_info ?_)
          | ((with_reducible refine at_slot 12 ?_); refine when_own rfl (.tmp 4) rfl HS_y2.out.own 1 rfl rfl Try.underlying33 rfl mplace_info ?_)
          | ((with_reducible refine at_slot 13 ?_); refine wpList_build_is rfl 96 #[(0, .tmp 11), (1, .tmp 12)] rfl [(0, .agg #[.int .i64 xd, .int .i64 xk]), (1, .agg #[.int .i64 yd, .int .i64 yk])] (by simp only [List.map_toArray, List.map_cons, List.map_nil]; rfl) _ (two_built _ _ _ _) ?_))
        refine wp_loop_rounds 3 ?_
        rw [rounds_succ]
        go_wp2_with (first
          | ((with_reducible refine at_slot 16 ?_); refine wpList_two0 rfl (.tmp 13) (.tmp 14) rfl xd xk yd yk rfl rfl ?_)
          | ((with_reducible refine at_slot 9 ?_); refine wpList_alloc_blk rfl 33 rfl _ (mplace_zero _) ?_; intro y3 hbq hl1 hs1; clear hs1)
          | ((with_reducible refine at_store 9 ?_); refine wpList_store_all rfl 33 (.tmp 9) (.tmp 16) rfl y2.heap.size 33 _ hbq rfl (plL (xd) (xk)) rfl mplace_info rfl (mplace_one _ _) ?_; intro y4 hbz hg hs; have HS_y4 : Hid (DoAt 55 [c1, c2] st J 2 y4 s [(w.heap.size, 33, plL xd xk), (y1.heap.size, 33, plL yd yk), (y2.heap.size, 33, plL (xd) (xk))]) := hide (HS_y2.out.new hl1 hg hbz); clear hs hbq hl1 hg hbz))
        go_step3
        go_wp2_with (first
          | ((with_reducible refine at_slot 18 ?_); refine when_own rfl (.tmp 9) rfl HS_y4.out.own 2 rfl rfl Try.underlying33 rfl mplace_info ?_)
          | (go_at_call 55; refine (HS_y4.out.call xd xk rfl rfl).mono ?_; rintro _ y5 ⟨rfl, hsq⟩; rw [HA.out] at hsq; rw [HE1.out, HZ_e1.out]; have HS_y5 : Hid (DoAt 55 [c1, c2] st J 1 y5 A [(w.heap.size, 33, plL xd xk), (y1.heap.size, 33, plL yd yk), (y2.heap.size, 33, plL (xd) (xk))]) := hide (hsq); clear hsq)
          | (go_at_call 54; refine (lost_any 0 _).mono ?_; rintro _ _ ⟨rfl, rfl⟩))
        go_step3
        rw [Exit.noGoto_normal]
        go_wp2
        rw [rounds_succ]
        go_wp2_with (first
          | ((with_reducible refine at_slot 16 ?_); refine wpList_two1 rfl (.tmp 13) (.tmp 14) rfl xd xk yd yk rfl rfl ?_)
          | ((with_reducible refine at_slot 9 ?_); refine wpList_alloc_blk rfl 33 rfl _ (mplace_zero _) ?_; intro y6 hbq hl1 hs1; clear hs1)
          | ((with_reducible refine at_store 9 ?_); refine wpList_store_all rfl 33 (.tmp 9) (.tmp 16) rfl y5.heap.size 33 _ hbq rfl (plL (yd) (yk)) rfl mplace_info rfl (mplace_one _ _) ?_; intro y7 hbz hg hs; have HS_y7 : Hid (DoAt 55 [c1, c2] st J 1 y7 A [(w.heap.size, 33, plL xd xk), (y1.heap.size, 33, plL yd yk), (y2.heap.size, 33, plL (xd) (xk)), (y5.heap.size, 33, plL (yd) (yk))]) := hide (HS_y5.out.new hl1 hg hbz); clear hs hbq hl1 hg hbz))
        go_step3
        go_wp2_with (first
          | ((with_reducible refine at_slot 18 ?_); refine when_own rfl (.tmp 9) rfl HS_y7.out.own 3 rfl rfl Try.underlying33 rfl mplace_info ?_)
          | (go_at_call 55; refine (HS_y7.out.call yd yk rfl rfl).mono ?_; rintro _ y8 ⟨rfl, hsq⟩; rw [HC.out] at hsq; rw [HE2.out]; have HS_y8 : Hid (DoAt 55 [c1, c2] st J 0 y8 C [(w.heap.size, 33, plL xd xk), (y1.heap.size, 33, plL yd yk), (y2.heap.size, 33, plL (xd) (xk)), (y5.heap.size, 33, plL (yd) (yk))]) := hide (hsq); clear hsq)
          | (go_at_call 54; (with_reducible refine (HLO_e2.out _).mono ?_); rintro _ _ ⟨rfl, rfl⟩))
        rw [Exit.noGoto_ret]
        go_ret
        rw [HR.out]
        exact ⟨rfl, HS_y8.out.fin⟩
  · have HN_e1 := hide hz_e1
    by_cases hl_e1 : lostB e1 = true
    · have HLO_e1 := hide (fun w => hl_e1 ▸ lost_any e1 w)
      by_cases hz_e2 : e2 = 0
      · have HZ_e2 := hide hz_e2
        have HR := hide (show bothN st (nI xd) (nI xk) (nI yd) (nI yk) s = (0, C) by rw [HMW.out, if_pos (Or.inr hl_e1), if_pos (Or.inl hz_e2), if_pos (Or.inr hz_e2)])
        clear hz_e1 hl_e1 hz_e2
        have NE_e1 := neN HN_e1.out
        obtain ⟨na_e1, nb_e1, nc_e1⟩ := NE_e1
        go_enter Try.func52, Try.ntmps52
        go_wp2_with (first
          | ((with_reducible refine at_slot 3 ?_); refine wpList_box_blk rfl 33 _ rfl (.agg #[.int .i64 xd, .int .i64 xk]) rfl ?_; intro y1 hbq hl1 hs1; have HS_y1 : Hid (DoAt 55 [c1, c2] st J 2 y1 s [(w.heap.size, 33, plL xd xk)]) := hide (HS_w.out.var hl1 (Nat.le_refl _) hbq); clear hbq hl1 hs1)
          | ((with_reducible refine at_slot 4 ?_); refine wpList_box_blk rfl 33 _ rfl (.agg #[.int .i64 yd, .int .i64 yk]) rfl ?_; intro y2 hbq hl1 hs1; have HS_y2 : Hid (DoAt 55 [c1, c2] st J 2 y2 s [(w.heap.size, 33, plL xd xk), (y1.heap.size, 33, plL yd yk)]) := hide (HS_y1.out.var hl1 (Nat.le_refl _) hbq); clear hbq hl1 hs1)
          | ((with_reducible refine at_slot 11 ?_); refine when_own rfl (.tmp 3) rfl HS_y2.out.own 0 rfl rfl Try.underlying33 rfl mplace_info ?_)
          | ((with_reducible refine at_slot 12 ?_); refine when_own rfl (.tmp 4) rfl HS_y2.out.own 1 rfl rfl Try.underlying33 rfl mplace_info ?_)
          | ((with_reducible refine at_slot 13 ?_); refine wpList_build_is rfl 96 #[(0, .tmp 11), (1, .tmp 12)] rfl [(0, .agg #[.int .i64 xd, .int .i64 xk]), (1, .agg #[.int .i64 yd, .int .i64 yk])] (by simp only [List.map_toArray, List.map_cons, List.map_nil]; rfl) _ (two_built _ _ _ _) ?_))
        refine wp_loop_rounds 3 ?_
        rw [rounds_succ]
        go_wp2_with (first
          | ((with_reducible refine at_slot 16 ?_); refine wpList_two0 rfl (.tmp 13) (.tmp 14) rfl xd xk yd yk rfl rfl ?_)
          | ((with_reducible refine at_slot 9 ?_); refine wpList_alloc_blk rfl 33 rfl _ (mplace_zero _) ?_; intro y3 hbq hl1 hs1; clear hs1)
          | ((with_reducible refine at_store 9 ?_); refine wpList_store_all rfl 33 (.tmp 9) (.tmp 16) rfl y2.heap.size 33 _ hbq rfl (plL (xd) (xk)) rfl mplace_info rfl (mplace_one _ _) ?_; intro y4 hbz hg hs; have HS_y4 : Hid (DoAt 55 [c1, c2] st J 2 y4 s [(w.heap.size, 33, plL xd xk), (y1.heap.size, 33, plL yd yk), (y2.heap.size, 33, plL (xd) (xk))]) := hide (HS_y2.out.new hl1 hg hbz); clear hs hbq hl1 hg hbz))
        refine wp_scope_fwd 0 rfl ?_
        go_wp2_with (first
          | ((with_reducible refine at_slot 18 ?_); refine when_own rfl (.tmp 9) rfl HS_y4.out.own 2 rfl rfl Try.underlying33 rfl mplace_info ?_)
          | (go_at_call 55; refine (HS_y4.out.call xd xk rfl rfl).mono ?_; rintro _ y5 ⟨rfl, hsq⟩; rw [HA.out] at hsq; rw [HE1.out]; have HS_y5 : Hid (DoAt 55 [c1, c2] st J 1 y5 A [(w.heap.size, 33, plL xd xk), (y1.heap.size, 33, plL yd yk), (y2.heap.size, 33, plL (xd) (xk))]) := hide (hsq); clear hsq)
          | (go_at_call 54; (with_reducible refine (HLO_e1.out _).mono ?_); rintro _ _ ⟨rfl, rfl⟩))
        go_step3
        refine And.intro rfl ?_
        show Code.wp Try.prog Code.skip _ _ _
        go_wp2
        rw [Exit.noGoto_normal]
        go_wp2
        rw [rounds_succ]
        go_wp2_with (first
          | ((with_reducible refine at_slot 16 ?_); refine wpList_two1 rfl (.tmp 13) (.tmp 14) rfl xd xk yd yk rfl rfl ?_)
          | ((with_reducible refine at_slot 9 ?_); refine wpList_alloc_blk rfl 33 rfl _ (mplace_zero _) ?_; intro y6 hbq hl1 hs1; clear hs1)
          | ((with_reducible refine at_store 9 ?_); refine wpList_store_all rfl 33 (.tmp 9) (.tmp 16) rfl y5.heap.size 33 _ hbq rfl (plL (yd) (yk)) rfl mplace_info rfl (mplace_one _ _) ?_; intro y7 hbz hg hs; have HS_y7 : Hid (DoAt 55 [c1, c2] st J 1 y7 A [(w.heap.size, 33, plL xd xk), (y1.heap.size, 33, plL yd yk), (y2.heap.size, 33, plL (xd) (xk)), (y5.heap.size, 33, plL (yd) (yk))]) := hide (HS_y5.out.new hl1 hg hbz); clear hs hbq hl1 hg hbz))
        go_step3
        go_wp2_with (first
          | ((with_reducible refine at_slot 18 ?_); refine when_own rfl (.tmp 9) rfl HS_y7.out.own 3 rfl rfl Try.underlying33 rfl mplace_info ?_)
          | (go_at_call 55; refine (HS_y7.out.call yd yk rfl rfl).mono ?_; rintro _ y8 ⟨rfl, hsq⟩; rw [HC.out] at hsq; rw [HE2.out, HZ_e2.out]; have HS_y8 : Hid (DoAt 55 [c1, c2] st J 0 y8 C [(w.heap.size, 33, plL xd xk), (y1.heap.size, 33, plL yd yk), (y2.heap.size, 33, plL (xd) (xk)), (y5.heap.size, 33, plL (yd) (yk))]) := hide (hsq); clear hsq)
          | (go_at_call 54; refine (lost_any 0 _).mono ?_; rintro _ _ ⟨rfl, rfl⟩))
        go_step3
        rw [Exit.noGoto_normal]
        go_wp2
        rw [rounds_succ]
        go_wp2
        go_ret
        rw [HR.out]
        exact ⟨rfl, HS_y8.out.fin⟩
      · have HN_e2 := hide hz_e2
        by_cases hl_e2 : lostB e2 = true
        · have HLO_e2 := hide (fun w => hl_e2 ▸ lost_any e2 w)
          have HR := hide (show bothN st (nI xd) (nI xk) (nI yd) (nI yk) s = (5, C) by rw [HMW.out, if_pos (Or.inr hl_e1), if_pos (Or.inr hl_e2), if_neg (fun q => q.elim hz_e1 hz_e2)])
          clear hz_e1 hl_e1 hz_e2 hl_e2
          have NE_e1 := neN HN_e1.out
          obtain ⟨na_e1, nb_e1, nc_e1⟩ := NE_e1
          have NE_e2 := neN HN_e2.out
          obtain ⟨na_e2, nb_e2, nc_e2⟩ := NE_e2
          go_enter Try.func52, Try.ntmps52
          go_wp2_with (first
            | ((with_reducible refine at_slot 3 ?_); refine wpList_box_blk rfl 33 _ rfl (.agg #[.int .i64 xd, .int .i64 xk]) rfl ?_; intro y1 hbq hl1 hs1; have HS_y1 : Hid (DoAt 55 [c1, c2] st J 2 y1 s [(w.heap.size, 33, plL xd xk)]) := hide (HS_w.out.var hl1 (Nat.le_refl _) hbq); clear hbq hl1 hs1)
            | ((with_reducible refine at_slot 4 ?_); refine wpList_box_blk rfl 33 _ rfl (.agg #[.int .i64 yd, .int .i64 yk]) rfl ?_; intro y2 hbq hl1 hs1; have HS_y2 : Hid (DoAt 55 [c1, c2] st J 2 y2 s [(w.heap.size, 33, plL xd xk), (y1.heap.size, 33, plL yd yk)]) := hide (HS_y1.out.var hl1 (Nat.le_refl _) hbq); clear hbq hl1 hs1)
            | ((with_reducible refine at_slot 11 ?_); refine when_own rfl (.tmp 3) rfl HS_y2.out.own 0 rfl rfl Try.underlying33 rfl mplace_info ?_)
            | ((with_reducible refine at_slot 12 ?_); refine when_own rfl (.tmp 4) rfl HS_y2.out.own 1 rfl rfl Try.underlying33 rfl mplace_info ?_)
            | ((with_reducible refine at_slot 13 ?_); refine wpList_build_is rfl 96 #[(0, .tmp 11), (1, .tmp 12)] rfl [(0, .agg #[.int .i64 xd, .int .i64 xk]), (1, .agg #[.int .i64 yd, .int .i64 yk])] (by simp only [List.map_toArray, List.map_cons, List.map_nil]; rfl) _ (two_built _ _ _ _) ?_))
          refine wp_loop_rounds 3 ?_
          rw [rounds_succ]
          go_wp2_with (first
            | ((with_reducible refine at_slot 16 ?_); refine wpList_two0 rfl (.tmp 13) (.tmp 14) rfl xd xk yd yk rfl rfl ?_)
            | ((with_reducible refine at_slot 9 ?_); refine wpList_alloc_blk rfl 33 rfl _ (mplace_zero _) ?_; intro y3 hbq hl1 hs1; clear hs1)
            | ((with_reducible refine at_store 9 ?_); refine wpList_store_all rfl 33 (.tmp 9) (.tmp 16) rfl y2.heap.size 33 _ hbq rfl (plL (xd) (xk)) rfl mplace_info rfl (mplace_one _ _) ?_; intro y4 hbz hg hs; have HS_y4 : Hid (DoAt 55 [c1, c2] st J 2 y4 s [(w.heap.size, 33, plL xd xk), (y1.heap.size, 33, plL yd yk), (y2.heap.size, 33, plL (xd) (xk))]) := hide (HS_y2.out.new hl1 hg hbz); clear hs hbq hl1 hg hbz))
          refine wp_scope_fwd 0 rfl ?_
          go_wp2_with (first
            | ((with_reducible refine at_slot 18 ?_); refine when_own rfl (.tmp 9) rfl HS_y4.out.own 2 rfl rfl Try.underlying33 rfl mplace_info ?_)
            | (go_at_call 55; refine (HS_y4.out.call xd xk rfl rfl).mono ?_; rintro _ y5 ⟨rfl, hsq⟩; rw [HA.out] at hsq; rw [HE1.out]; have HS_y5 : Hid (DoAt 55 [c1, c2] st J 1 y5 A [(w.heap.size, 33, plL xd xk), (y1.heap.size, 33, plL yd yk), (y2.heap.size, 33, plL (xd) (xk))]) := hide (hsq); clear hsq)
            | (go_at_call 54; (with_reducible refine (HLO_e1.out _).mono ?_); rintro _ _ ⟨rfl, rfl⟩))
          go_step3
          refine And.intro rfl ?_
          show Code.wp Try.prog Code.skip _ _ _
          go_wp2
          rw [Exit.noGoto_normal]
          go_wp2
          rw [rounds_succ]
          go_wp2_with (first
            | ((with_reducible refine at_slot 16 ?_); refine wpList_two1 rfl (.tmp 13) (.tmp 14) rfl xd xk yd yk rfl rfl ?_)
            | ((with_reducible refine at_slot 9 ?_); refine wpList_alloc_blk rfl 33 rfl _ (mplace_zero _) ?_; intro y6 hbq hl1 hs1; clear hs1)
            | ((with_reducible refine at_store 9 ?_); refine wpList_store_all rfl 33 (.tmp 9) (.tmp 16) rfl y5.heap.size 33 _ hbq rfl (plL (yd) (yk)) rfl mplace_info rfl (mplace_one _ _) ?_; intro y7 hbz hg hs; have HS_y7 : Hid (DoAt 55 [c1, c2] st J 1 y7 A [(w.heap.size, 33, plL xd xk), (y1.heap.size, 33, plL yd yk), (y2.heap.size, 33, plL (xd) (xk)), (y5.heap.size, 33, plL (yd) (yk))]) := hide (HS_y5.out.new hl1 hg hbz); clear hs hbq hl1 hg hbz))
          refine wp_scope_fwd 0 rfl ?_
          go_wp2_with (first
            | ((with_reducible refine at_slot 18 ?_); refine when_own rfl (.tmp 9) rfl HS_y7.out.own 3 rfl rfl Try.underlying33 rfl mplace_info ?_)
            | (go_at_call 55; refine (HS_y7.out.call yd yk rfl rfl).mono ?_; rintro _ y8 ⟨rfl, hsq⟩; rw [HC.out] at hsq; rw [HE2.out]; have HS_y8 : Hid (DoAt 55 [c1, c2] st J 0 y8 C [(w.heap.size, 33, plL xd xk), (y1.heap.size, 33, plL yd yk), (y2.heap.size, 33, plL (xd) (xk)), (y5.heap.size, 33, plL (yd) (yk))]) := hide (hsq); clear hsq)
            | (go_at_call 54; (with_reducible refine (HLO_e2.out _).mono ?_); rintro _ _ ⟨rfl, rfl⟩))
          go_step3
          refine And.intro rfl ?_
          show Code.wp Try.prog Code.skip _ _ _
          go_wp2
          rw [Exit.noGoto_normal]
          go_wp2
          rw [rounds_succ]
          go_wp2
          go_ret
          rw [HR.out]
          exact ⟨rfl, HS_y8.out.fin⟩
        · have hf_e2 : lostB e2 = false := by simpa using hl_e2
          have HLO_e2 := hide (fun w => hf_e2 ▸ lost_any e2 w)
          have HR := hide (show bothN st (nI xd) (nI xk) (nI yd) (nI yk) s = (e2, C) by rw [HMW.out, if_pos (Or.inr hl_e1), if_neg (fun q => q.elim hz_e2 hl_e2)])
          clear hz_e1 hl_e1 hz_e2 hl_e2 hf_e2
          have NE_e1 := neN HN_e1.out
          obtain ⟨na_e1, nb_e1, nc_e1⟩ := NE_e1
          have NE_e2 := neN HN_e2.out
          obtain ⟨na_e2, nb_e2, nc_e2⟩ := NE_e2
          go_enter Try.func52, Try.ntmps52
          go_wp2_with (first
            | ((with_reducible refine at_slot 3 ?_); refine wpList_box_blk rfl 33 _ rfl (.agg #[.int .i64 xd, .int .i64 xk]) rfl ?_; intro y1 hbq hl1 hs1; have HS_y1 : Hid (DoAt 55 [c1, c2] st J 2 y1 s [(w.heap.size, 33, plL xd xk)]) := hide (HS_w.out.var hl1 (Nat.le_refl _) hbq); clear hbq hl1 hs1)
            | ((with_reducible refine at_slot 4 ?_); refine wpList_box_blk rfl 33 _ rfl (.agg #[.int .i64 yd, .int .i64 yk]) rfl ?_; intro y2 hbq hl1 hs1; have HS_y2 : Hid (DoAt 55 [c1, c2] st J 2 y2 s [(w.heap.size, 33, plL xd xk), (y1.heap.size, 33, plL yd yk)]) := hide (HS_y1.out.var hl1 (Nat.le_refl _) hbq); clear hbq hl1 hs1)
            | ((with_reducible refine at_slot 11 ?_); refine when_own rfl (.tmp 3) rfl HS_y2.out.own 0 rfl rfl Try.underlying33 rfl mplace_info ?_)
            | ((with_reducible refine at_slot 12 ?_); refine when_own rfl (.tmp 4) rfl HS_y2.out.own 1 rfl rfl Try.underlying33 rfl mplace_info ?_)
            | ((with_reducible refine at_slot 13 ?_); refine wpList_build_is rfl 96 #[(0, .tmp 11), (1, .tmp 12)] rfl [(0, .agg #[.int .i64 xd, .int .i64 xk]), (1, .agg #[.int .i64 yd, .int .i64 yk])] (by simp only [List.map_toArray, List.map_cons, List.map_nil]; rfl) _ (two_built _ _ _ _) ?_))
          refine wp_loop_rounds 3 ?_
          rw [rounds_succ]
          go_wp2_with (first
            | ((with_reducible refine at_slot 16 ?_); refine wpList_two0 rfl (.tmp 13) (.tmp 14) rfl xd xk yd yk rfl rfl ?_)
            | ((with_reducible refine at_slot 9 ?_); refine wpList_alloc_blk rfl 33 rfl _ (mplace_zero _) ?_; intro y3 hbq hl1 hs1; clear hs1)
            | ((with_reducible refine at_store 9 ?_); refine wpList_store_all rfl 33 (.tmp 9) (.tmp 16) rfl y2.heap.size 33 _ hbq rfl (plL (xd) (xk)) rfl mplace_info rfl (mplace_one _ _) ?_; intro y4 hbz hg hs; have HS_y4 : Hid (DoAt 55 [c1, c2] st J 2 y4 s [(w.heap.size, 33, plL xd xk), (y1.heap.size, 33, plL yd yk), (y2.heap.size, 33, plL (xd) (xk))]) := hide (HS_y2.out.new hl1 hg hbz); clear hs hbq hl1 hg hbz))
          refine wp_scope_fwd 0 rfl ?_
          go_wp2_with (first
            | ((with_reducible refine at_slot 18 ?_); refine when_own rfl (.tmp 9) rfl HS_y4.out.own 2 rfl rfl Try.underlying33 rfl mplace_info ?_)
            | (go_at_call 55; refine (HS_y4.out.call xd xk rfl rfl).mono ?_; rintro _ y5 ⟨rfl, hsq⟩; rw [HA.out] at hsq; rw [HE1.out]; have HS_y5 : Hid (DoAt 55 [c1, c2] st J 1 y5 A [(w.heap.size, 33, plL xd xk), (y1.heap.size, 33, plL yd yk), (y2.heap.size, 33, plL (xd) (xk))]) := hide (hsq); clear hsq)
            | (go_at_call 54; (with_reducible refine (HLO_e1.out _).mono ?_); rintro _ _ ⟨rfl, rfl⟩))
          go_step3
          refine And.intro rfl ?_
          show Code.wp Try.prog Code.skip _ _ _
          go_wp2
          rw [Exit.noGoto_normal]
          go_wp2
          rw [rounds_succ]
          go_wp2_with (first
            | ((with_reducible refine at_slot 16 ?_); refine wpList_two1 rfl (.tmp 13) (.tmp 14) rfl xd xk yd yk rfl rfl ?_)
            | ((with_reducible refine at_slot 9 ?_); refine wpList_alloc_blk rfl 33 rfl _ (mplace_zero _) ?_; intro y6 hbq hl1 hs1; clear hs1)
            | ((with_reducible refine at_store 9 ?_); refine wpList_store_all rfl 33 (.tmp 9) (.tmp 16) rfl y5.heap.size 33 _ hbq rfl (plL (yd) (yk)) rfl mplace_info rfl (mplace_one _ _) ?_; intro y7 hbz hg hs; have HS_y7 : Hid (DoAt 55 [c1, c2] st J 1 y7 A [(w.heap.size, 33, plL xd xk), (y1.heap.size, 33, plL yd yk), (y2.heap.size, 33, plL (xd) (xk)), (y5.heap.size, 33, plL (yd) (yk))]) := hide (HS_y5.out.new hl1 hg hbz); clear hs hbq hl1 hg hbz))
          go_step3
          go_wp2_with (first
            | ((with_reducible refine at_slot 18 ?_); refine when_own rfl (.tmp 9) rfl HS_y7.out.own 3 rfl rfl Try.underlying33 rfl mplace_info ?_)
            | (go_at_call 55; refine (HS_y7.out.call yd yk rfl rfl).mono ?_; rintro _ y8 ⟨rfl, hsq⟩; rw [HC.out] at hsq; rw [HE2.out]; have HS_y8 : Hid (DoAt 55 [c1, c2] st J 0 y8 C [(w.heap.size, 33, plL xd xk), (y1.heap.size, 33, plL yd yk), (y2.heap.size, 33, plL (xd) (xk)), (y5.heap.size, 33, plL (yd) (yk))]) := hide (hsq); clear hsq)
            | (go_at_call 54; (with_reducible refine (HLO_e2.out _).mono ?_); rintro _ _ ⟨rfl, rfl⟩))
          rw [Exit.noGoto_ret]
          go_ret
          rw [HR.out]
          exact ⟨rfl, HS_y8.out.fin⟩
    · have hf_e1 : lostB e1 = false := by simpa using hl_e1
      have HLO_e1 := hide (fun w => hf_e1 ▸ lost_any e1 w)
      have HR := hide (show bothN st (nI xd) (nI xk) (nI yd) (nI yk) s = (e1, A) from HMW.out.trans (if_neg (fun q => q.elim hz_e1 hl_e1)))
      clear hz_e1 hl_e1 hf_e1
      have NE_e1 := neN HN_e1.out
      obtain ⟨na_e1, nb_e1, nc_e1⟩ := NE_e1
      go_enter Try.func52, Try.ntmps52
      go_wp2_with (first
        | ((with_reducible refine at_slot 3 ?_); refine wpList_box_blk rfl 33 _ rfl (.agg #[.int .i64 xd, .int .i64 xk]) rfl ?_; intro y1 hbq hl1 hs1; have HS_y1 : Hid (DoAt 55 [c1, c2] st J 2 y1 s [(w.heap.size, 33, plL xd xk)]) := hide (HS_w.out.var hl1 (Nat.le_refl _) hbq); clear hbq hl1 hs1)
        | ((with_reducible refine at_slot 4 ?_); refine wpList_box_blk rfl 33 _ rfl (.agg #[.int .i64 yd, .int .i64 yk]) rfl ?_; intro y2 hbq hl1 hs1; have HS_y2 : Hid (DoAt 55 [c1, c2] st J 2 y2 s [(w.heap.size, 33, plL xd xk), (y1.heap.size, 33, plL yd yk)]) := hide (HS_y1.out.var hl1 (Nat.le_refl _) hbq); clear hbq hl1 hs1)
        | ((with_reducible refine at_slot 11 ?_); refine when_own rfl (.tmp 3) rfl HS_y2.out.own 0 rfl rfl Try.underlying33 rfl mplace_info ?_)
        | ((with_reducible refine at_slot 12 ?_); refine when_own rfl (.tmp 4) rfl HS_y2.out.own 1 rfl rfl Try.underlying33 rfl mplace_info ?_)
        | ((with_reducible refine at_slot 13 ?_); refine wpList_build_is rfl 96 #[(0, .tmp 11), (1, .tmp 12)] rfl [(0, .agg #[.int .i64 xd, .int .i64 xk]), (1, .agg #[.int .i64 yd, .int .i64 yk])] (by simp only [List.map_toArray, List.map_cons, List.map_nil]; rfl) _ (two_built _ _ _ _) ?_))
      refine wp_loop_rounds 3 ?_
      rw [rounds_succ]
      go_wp2_with (first
        | ((with_reducible refine at_slot 16 ?_); refine wpList_two0 rfl (.tmp 13) (.tmp 14) rfl xd xk yd yk rfl rfl ?_)
        | ((with_reducible refine at_slot 9 ?_); refine wpList_alloc_blk rfl 33 rfl _ (mplace_zero _) ?_; intro y3 hbq hl1 hs1; clear hs1)
        | ((with_reducible refine at_store 9 ?_); refine wpList_store_all rfl 33 (.tmp 9) (.tmp 16) rfl y2.heap.size 33 _ hbq rfl (plL (xd) (xk)) rfl mplace_info rfl (mplace_one _ _) ?_; intro y4 hbz hg hs; have HS_y4 : Hid (DoAt 55 [c1, c2] st J 2 y4 s [(w.heap.size, 33, plL xd xk), (y1.heap.size, 33, plL yd yk), (y2.heap.size, 33, plL (xd) (xk))]) := hide (HS_y2.out.new hl1 hg hbz); clear hs hbq hl1 hg hbz))
      go_step3
      go_wp2_with (first
        | ((with_reducible refine at_slot 18 ?_); refine when_own rfl (.tmp 9) rfl HS_y4.out.own 2 rfl rfl Try.underlying33 rfl mplace_info ?_)
        | (go_at_call 55; refine (HS_y4.out.call xd xk rfl rfl).mono ?_; rintro _ y5 ⟨rfl, hsq⟩; rw [HA.out] at hsq; rw [HE1.out]; have HS_y5 : Hid (DoAt 55 [c1, c2] st J 1 y5 A [(w.heap.size, 33, plL xd xk), (y1.heap.size, 33, plL yd yk), (y2.heap.size, 33, plL (xd) (xk))]) := hide (hsq); clear hsq)
        | (go_at_call 54; (with_reducible refine (HLO_e1.out _).mono ?_); rintro _ _ ⟨rfl, rfl⟩))
      rw [Exit.noGoto_ret]
      go_ret
      rw [HR.out]
      exact ⟨rfl, HS_y5.out.fin⟩

#print axioms bothA_any
end Go.Proofs.Ytgfbndmdndpelaa
