/- The document's Lost, Write, Read, Alike and Copy over its bank. -/
import Derived.Test.YtgfbndmdndpelaaMirT
namespace Go.Proofs.Ytgfbndmdndpelaa
open Go.RowKit
set_option linter.unusedVariables false
theorem rlost_any (e : Nat) (w : World) : Calls Try.prog 65 #[.int .i64 (e : Int)] w fun x w' => x = .returned (.bool (lostB e)) ∧ w = w' := by
  by_cases h8 : e = 8
  · subst h8
    go_enter Try.func65, Try.ntmps65
    go_wp2
    go_ret
    exact ⟨rfl, rfl⟩
  · by_cases h7 : e = 7
    · subst h7
      go_enter Try.func65, Try.ntmps65
      go_wp2
      go_ret
      exact ⟨rfl, rfl⟩
    · have hL : lostB e = false := by unfold lostB; simp [h8, h7]
      rw [hL]
      have n8 : ¬ ((e : Int) = 8) := by omega
      have n7 : ¬ ((e : Int) = 7) := by omega
      clear h8 h7 hL
      go_enter Try.func65, Try.ntmps65
      go_wp2
      go_ret
      exact ⟨by simp [n8, n7], rfl⟩
/-- What the walk asks of an errno that is none. -/
structure Ne0 (e : Nat) : Prop where
  a : ((e : Int) != 0) = true
  b : ((e : Int) == 0) = false
  c : ¬ ((e : Int) = 0)
theorem ne0 {e : Nat} (h : e ≠ 0) : Ne0 e := by
  have hc : ¬ ((e : Int) = 0) := by omega
  exact ⟨by simpa using hc, by simpa using hc, hc⟩
section
variable {w : World} {r : Nat} {S : Bank} {G : Nat → Prop}
set_option maxRecDepth 100000 in
set_option maxHeartbeats 8000000 in
theorem rmwrite_any (h : RefOn w r G S) (hw : S.writes < 4611686018427387000) (xd xk yd yk : Int) (s : Sec) :
    Calls Try.prog 36 #[.pointer (some ⟨r, 0, none⟩), .agg #[.int .i64 xd, .int .i64 xk], .agg #[.int .i64 yd, .int .i64 yk], secV s] w fun e w' => e = .returned (.int .i64 ((S.mwrite (nI xd) (nI xk) (nI yd) (nI yk) s).1 : Int)) ∧ RefOn w' r (More G w w') (S.mwrite (nI xd) (nI xk) (nI yd) (nI yk) s).2 ∧ Turn G w w' := by
  have HL := hide h.1
  have HS_w : Hid (Rit w w r G S []) := hide (Rit.begin h)
  have HWR := hide hw
  clear h hw
  obtain ⟨e1, he1⟩ : ∃ e, (S.write (nI xd) (nI xk) s).1 = e := ⟨_, rfl⟩
  obtain ⟨A, hA⟩ : ∃ A, (S.write (nI xd) (nI xk) s).2 = A := ⟨_, rfl⟩
  obtain ⟨e2, he2⟩ : ∃ e, (A.write (nI yd) (nI yk) s).1 = e := ⟨_, rfl⟩
  obtain ⟨C, hC⟩ : ∃ C, (A.write (nI yd) (nI yk) s).2 = C := ⟨_, rfl⟩
  have hmw : S.mwrite (nI xd) (nI xk) (nI yd) (nI yk) s = if e1 = 0 ∨ lostB e1 = true then (if e2 = 0 ∨ lostB e2 = true then (if e1 = 0 ∨ e2 = 0 then 0 else 5, C) else (e2, C)) else (e1, A) := by
    subst he1 hA he2 hC
    unfold Bank.mwrite
    rfl
  have HE1 := hide he1
  have HA := hide hA
  have HE2 := hide he2
  have HC := hide hC
  have HMW := hide hmw
  have HWA := hide (show A.writes < 4611686018427387904 by rw [← hA]; have := write_few S (nI xd) (nI xk) s; have := HWR.out; omega)
  clear he1 hA he2 hC hmw
  by_cases hz_e1 : e1 = 0
  · have HZ_e1 := hide hz_e1
    by_cases hz_e2 : e2 = 0
    · have HZ_e2 := hide hz_e2
      have HR := hide (show S.mwrite (nI xd) (nI xk) (nI yd) (nI yk) s = (0, C) by rw [HMW.out, if_pos (Or.inl hz_e1), if_pos (Or.inl hz_e2), if_pos (Or.inl hz_e1)])
      clear hz_e1 hz_e2
      go_enter Try.func36, Try.ntmps36
      go_upto_region 4 with (first
        | ((with_reducible refine at_slot 5 ?_); refine wpList_box_blk rfl 33 _ rfl (.agg #[.int .i64 xd, .int .i64 xk]) rfl ?_; intro y1 hbq hl1 hs1; have HS_y1 : Hid (Rit w y1 r G S [(w.heap.size, 33, plL xd xk)]) := hide (HS_w.out.var hl1 (Nat.le_refl _) hbq); clear hbq hl1 hs1)
        | ((with_reducible refine at_slot 6 ?_); refine wpList_box_blk rfl 33 _ rfl (.agg #[.int .i64 yd, .int .i64 yk]) rfl ?_; intro y2 hbq hl1 hs1; have HS_y2 : Hid (Rit w y2 r G S [(w.heap.size, 33, plL xd xk), (y1.heap.size, 33, plL yd yk)]) := hide (HS_y1.out.var hl1 (Nat.le_refl _) hbq); clear hbq hl1 hs1)
        | ((with_reducible refine at_slot 7 ?_); refine wpList_box_blk rfl 43 _ rfl (secV s) rfl ?_; intro y3 hbq hl1 hs1; have HS_y3 : Hid (Rit w y3 r G S [(w.heap.size, 33, plL xd xk), (y1.heap.size, 33, plL yd yk), (y2.heap.size, 43, secL s)]) := hide (HS_y2.out.var hl1 (Nat.le_refl _) hbq); clear hbq hl1 hs1)
        | ((with_reducible refine at_slot 12 ?_); refine when_own rfl (.tmp 5) rfl HS_y3.out.own 0 rfl rfl Try.underlying33 rfl mplace_info ?_)
        | ((with_reducible refine at_slot 13 ?_); refine when_own rfl (.tmp 7) rfl HS_y3.out.own 2 rfl rfl Try.underlying43 rfl (msec_size _) ?_)
        | (go_at_call 40; refine (HS_y3.out.write (by have := HWR.out; omega) (di := xd) (ki := xk) rfl rfl s).mono ?_; rintro _ y4 ⟨rfl, hsq⟩; rw [HA.out] at hsq; rw [HE1.out, HZ_e1.out]; have HS_y4 : Hid (Rit w y4 r G A [(w.heap.size, 33, plL xd xk), (y1.heap.size, 33, plL yd yk), (y2.heap.size, 43, secL s)]) := hide (hsq); clear hsq))
      go_wp2_with (first
        | ((with_reducible refine at_slot 24 ?_); refine when_own rfl (.tmp 6) rfl HS_y4.out.own 1 rfl rfl Try.underlying33 rfl mplace_info ?_)
        | ((with_reducible refine at_slot 25 ?_); refine when_own rfl (.tmp 7) rfl HS_y4.out.own 2 rfl rfl Try.underlying43 rfl (msec_size _) ?_)
        | (go_at_call 40; refine (HS_y4.out.write HWA.out (di := yd) (ki := yk) rfl rfl s).mono ?_; rintro _ y5 ⟨rfl, hsq⟩; rw [HC.out] at hsq; rw [HE2.out, HZ_e2.out]; have HS_y5 : Hid (Rit w y5 r G C [(w.heap.size, 33, plL xd xk), (y1.heap.size, 33, plL yd yk), (y2.heap.size, 43, secL s)]) := hide (hsq); clear hsq))
      go_ret
      rw [HR.out]
      exact ⟨rfl, HS_y5.out.fin HL.out⟩
    · have HN_e2 := hide hz_e2
      by_cases hl_e2 : lostB e2 = true
      · have HLO_e2 := hide (fun w => hl_e2 ▸ rlost_any e2 w)
        have HR := hide (show S.mwrite (nI xd) (nI xk) (nI yd) (nI yk) s = (0, C) by rw [HMW.out, if_pos (Or.inl hz_e1), if_pos (Or.inr hl_e2), if_pos (Or.inl hz_e1)])
        clear hz_e1 hz_e2 hl_e2
        have NE_e2 := ne0 HN_e2.out
        obtain ⟨na_e2, nb_e2, nc_e2⟩ := NE_e2
        go_enter Try.func36, Try.ntmps36
        go_upto_region 4 with (first
          | ((with_reducible refine at_slot 5 ?_); refine wpList_box_blk rfl 33 _ rfl (.agg #[.int .i64 xd, .int .i64 xk]) rfl ?_; intro y1 hbq hl1 hs1; have HS_y1 : Hid (Rit w y1 r G S [(w.heap.size, 33, plL xd xk)]) := hide (HS_w.out.var hl1 (Nat.le_refl _) hbq); clear hbq hl1 hs1)
          | ((with_reducible refine at_slot 6 ?_); refine wpList_box_blk rfl 33 _ rfl (.agg #[.int .i64 yd, .int .i64 yk]) rfl ?_; intro y2 hbq hl1 hs1; have HS_y2 : Hid (Rit w y2 r G S [(w.heap.size, 33, plL xd xk), (y1.heap.size, 33, plL yd yk)]) := hide (HS_y1.out.var hl1 (Nat.le_refl _) hbq); clear hbq hl1 hs1)
          | ((with_reducible refine at_slot 7 ?_); refine wpList_box_blk rfl 43 _ rfl (secV s) rfl ?_; intro y3 hbq hl1 hs1; have HS_y3 : Hid (Rit w y3 r G S [(w.heap.size, 33, plL xd xk), (y1.heap.size, 33, plL yd yk), (y2.heap.size, 43, secL s)]) := hide (HS_y2.out.var hl1 (Nat.le_refl _) hbq); clear hbq hl1 hs1)
          | ((with_reducible refine at_slot 12 ?_); refine when_own rfl (.tmp 5) rfl HS_y3.out.own 0 rfl rfl Try.underlying33 rfl mplace_info ?_)
          | ((with_reducible refine at_slot 13 ?_); refine when_own rfl (.tmp 7) rfl HS_y3.out.own 2 rfl rfl Try.underlying43 rfl (msec_size _) ?_)
          | (go_at_call 40; refine (HS_y3.out.write (by have := HWR.out; omega) (di := xd) (ki := xk) rfl rfl s).mono ?_; rintro _ y4 ⟨rfl, hsq⟩; rw [HA.out] at hsq; rw [HE1.out, HZ_e1.out]; have HS_y4 : Hid (Rit w y4 r G A [(w.heap.size, 33, plL xd xk), (y1.heap.size, 33, plL yd yk), (y2.heap.size, 43, secL s)]) := hide (hsq); clear hsq))
        go_wp2_with (first
          | ((with_reducible refine at_slot 24 ?_); refine when_own rfl (.tmp 6) rfl HS_y4.out.own 1 rfl rfl Try.underlying33 rfl mplace_info ?_)
          | ((with_reducible refine at_slot 25 ?_); refine when_own rfl (.tmp 7) rfl HS_y4.out.own 2 rfl rfl Try.underlying43 rfl (msec_size _) ?_)
          | (go_at_call 40; refine (HS_y4.out.write HWA.out (di := yd) (ki := yk) rfl rfl s).mono ?_; rintro _ y5 ⟨rfl, hsq⟩; rw [HC.out] at hsq; rw [HE2.out]; have HS_y5 : Hid (Rit w y5 r G C [(w.heap.size, 33, plL xd xk), (y1.heap.size, 33, plL yd yk), (y2.heap.size, 43, secL s)]) := hide (hsq); clear hsq)
          | (go_at_call 65; (with_reducible refine (HLO_e2.out _).mono ?_); rintro _ _ ⟨rfl, rfl⟩))
        go_ret
        rw [HR.out]
        exact ⟨rfl, HS_y5.out.fin HL.out⟩
      · have hf_e2 : lostB e2 = false := by simpa using hl_e2
        have HLO_e2 := hide (fun w => hf_e2 ▸ rlost_any e2 w)
        have HR := hide (show S.mwrite (nI xd) (nI xk) (nI yd) (nI yk) s = (e2, C) by rw [HMW.out, if_pos (Or.inl hz_e1), if_neg (fun q => q.elim hz_e2 hl_e2)])
        clear hz_e1 hz_e2 hl_e2 hf_e2
        have NE_e2 := ne0 HN_e2.out
        obtain ⟨na_e2, nb_e2, nc_e2⟩ := NE_e2
        go_enter Try.func36, Try.ntmps36
        go_upto_region 4 with (first
          | ((with_reducible refine at_slot 5 ?_); refine wpList_box_blk rfl 33 _ rfl (.agg #[.int .i64 xd, .int .i64 xk]) rfl ?_; intro y1 hbq hl1 hs1; have HS_y1 : Hid (Rit w y1 r G S [(w.heap.size, 33, plL xd xk)]) := hide (HS_w.out.var hl1 (Nat.le_refl _) hbq); clear hbq hl1 hs1)
          | ((with_reducible refine at_slot 6 ?_); refine wpList_box_blk rfl 33 _ rfl (.agg #[.int .i64 yd, .int .i64 yk]) rfl ?_; intro y2 hbq hl1 hs1; have HS_y2 : Hid (Rit w y2 r G S [(w.heap.size, 33, plL xd xk), (y1.heap.size, 33, plL yd yk)]) := hide (HS_y1.out.var hl1 (Nat.le_refl _) hbq); clear hbq hl1 hs1)
          | ((with_reducible refine at_slot 7 ?_); refine wpList_box_blk rfl 43 _ rfl (secV s) rfl ?_; intro y3 hbq hl1 hs1; have HS_y3 : Hid (Rit w y3 r G S [(w.heap.size, 33, plL xd xk), (y1.heap.size, 33, plL yd yk), (y2.heap.size, 43, secL s)]) := hide (HS_y2.out.var hl1 (Nat.le_refl _) hbq); clear hbq hl1 hs1)
          | ((with_reducible refine at_slot 12 ?_); refine when_own rfl (.tmp 5) rfl HS_y3.out.own 0 rfl rfl Try.underlying33 rfl mplace_info ?_)
          | ((with_reducible refine at_slot 13 ?_); refine when_own rfl (.tmp 7) rfl HS_y3.out.own 2 rfl rfl Try.underlying43 rfl (msec_size _) ?_)
          | (go_at_call 40; refine (HS_y3.out.write (by have := HWR.out; omega) (di := xd) (ki := xk) rfl rfl s).mono ?_; rintro _ y4 ⟨rfl, hsq⟩; rw [HA.out] at hsq; rw [HE1.out, HZ_e1.out]; have HS_y4 : Hid (Rit w y4 r G A [(w.heap.size, 33, plL xd xk), (y1.heap.size, 33, plL yd yk), (y2.heap.size, 43, secL s)]) := hide (hsq); clear hsq))
        go_wp2_with (first
          | ((with_reducible refine at_slot 24 ?_); refine when_own rfl (.tmp 6) rfl HS_y4.out.own 1 rfl rfl Try.underlying33 rfl mplace_info ?_)
          | ((with_reducible refine at_slot 25 ?_); refine when_own rfl (.tmp 7) rfl HS_y4.out.own 2 rfl rfl Try.underlying43 rfl (msec_size _) ?_)
          | (go_at_call 40; refine (HS_y4.out.write HWA.out (di := yd) (ki := yk) rfl rfl s).mono ?_; rintro _ y5 ⟨rfl, hsq⟩; rw [HC.out] at hsq; rw [HE2.out]; have HS_y5 : Hid (Rit w y5 r G C [(w.heap.size, 33, plL xd xk), (y1.heap.size, 33, plL yd yk), (y2.heap.size, 43, secL s)]) := hide (hsq); clear hsq)
          | (go_at_call 65; (with_reducible refine (HLO_e2.out _).mono ?_); rintro _ _ ⟨rfl, rfl⟩))
        go_ret
        rw [HR.out]
        exact ⟨rfl, HS_y5.out.fin HL.out⟩
  · have HN_e1 := hide hz_e1
    by_cases hl_e1 : lostB e1 = true
    · have HLO_e1 := hide (fun w => hl_e1 ▸ rlost_any e1 w)
      by_cases hz_e2 : e2 = 0
      · have HZ_e2 := hide hz_e2
        have HR := hide (show S.mwrite (nI xd) (nI xk) (nI yd) (nI yk) s = (0, C) by rw [HMW.out, if_pos (Or.inr hl_e1), if_pos (Or.inl hz_e2), if_pos (Or.inr hz_e2)])
        clear hz_e1 hl_e1 hz_e2
        have NE_e1 := ne0 HN_e1.out
        obtain ⟨na_e1, nb_e1, nc_e1⟩ := NE_e1
        go_enter Try.func36, Try.ntmps36
        go_upto_region 4 with (first
          | ((with_reducible refine at_slot 5 ?_); refine wpList_box_blk rfl 33 _ rfl (.agg #[.int .i64 xd, .int .i64 xk]) rfl ?_; intro y1 hbq hl1 hs1; have HS_y1 : Hid (Rit w y1 r G S [(w.heap.size, 33, plL xd xk)]) := hide (HS_w.out.var hl1 (Nat.le_refl _) hbq); clear hbq hl1 hs1)
          | ((with_reducible refine at_slot 6 ?_); refine wpList_box_blk rfl 33 _ rfl (.agg #[.int .i64 yd, .int .i64 yk]) rfl ?_; intro y2 hbq hl1 hs1; have HS_y2 : Hid (Rit w y2 r G S [(w.heap.size, 33, plL xd xk), (y1.heap.size, 33, plL yd yk)]) := hide (HS_y1.out.var hl1 (Nat.le_refl _) hbq); clear hbq hl1 hs1)
          | ((with_reducible refine at_slot 7 ?_); refine wpList_box_blk rfl 43 _ rfl (secV s) rfl ?_; intro y3 hbq hl1 hs1; have HS_y3 : Hid (Rit w y3 r G S [(w.heap.size, 33, plL xd xk), (y1.heap.size, 33, plL yd yk), (y2.heap.size, 43, secL s)]) := hide (HS_y2.out.var hl1 (Nat.le_refl _) hbq); clear hbq hl1 hs1)
          | ((with_reducible refine at_slot 12 ?_); refine when_own rfl (.tmp 5) rfl HS_y3.out.own 0 rfl rfl Try.underlying33 rfl mplace_info ?_)
          | ((with_reducible refine at_slot 13 ?_); refine when_own rfl (.tmp 7) rfl HS_y3.out.own 2 rfl rfl Try.underlying43 rfl (msec_size _) ?_)
          | (go_at_call 40; refine (HS_y3.out.write (by have := HWR.out; omega) (di := xd) (ki := xk) rfl rfl s).mono ?_; rintro _ y4 ⟨rfl, hsq⟩; rw [HA.out] at hsq; rw [HE1.out]; have HS_y4 : Hid (Rit w y4 r G A [(w.heap.size, 33, plL xd xk), (y1.heap.size, 33, plL yd yk), (y2.heap.size, 43, secL s)]) := hide (hsq); clear hsq)
          | (go_at_call 65; (with_reducible refine (HLO_e1.out _).mono ?_); rintro _ _ ⟨rfl, rfl⟩))
        go_wp2_with (first
          | ((with_reducible refine at_slot 24 ?_); refine when_own rfl (.tmp 6) rfl HS_y4.out.own 1 rfl rfl Try.underlying33 rfl mplace_info ?_)
          | ((with_reducible refine at_slot 25 ?_); refine when_own rfl (.tmp 7) rfl HS_y4.out.own 2 rfl rfl Try.underlying43 rfl (msec_size _) ?_)
          | (go_at_call 40; refine (HS_y4.out.write HWA.out (di := yd) (ki := yk) rfl rfl s).mono ?_; rintro _ y5 ⟨rfl, hsq⟩; rw [HC.out] at hsq; rw [HE2.out, HZ_e2.out]; have HS_y5 : Hid (Rit w y5 r G C [(w.heap.size, 33, plL xd xk), (y1.heap.size, 33, plL yd yk), (y2.heap.size, 43, secL s)]) := hide (hsq); clear hsq))
        go_ret
        rw [HR.out]
        exact ⟨rfl, HS_y5.out.fin HL.out⟩
      · have HN_e2 := hide hz_e2
        by_cases hl_e2 : lostB e2 = true
        · have HLO_e2 := hide (fun w => hl_e2 ▸ rlost_any e2 w)
          have HR := hide (show S.mwrite (nI xd) (nI xk) (nI yd) (nI yk) s = (5, C) by rw [HMW.out, if_pos (Or.inr hl_e1), if_pos (Or.inr hl_e2), if_neg (fun q => q.elim hz_e1 hz_e2)])
          clear hz_e1 hl_e1 hz_e2 hl_e2
          have NE_e1 := ne0 HN_e1.out
          obtain ⟨na_e1, nb_e1, nc_e1⟩ := NE_e1
          have NE_e2 := ne0 HN_e2.out
          obtain ⟨na_e2, nb_e2, nc_e2⟩ := NE_e2
          go_enter Try.func36, Try.ntmps36
          go_upto_region 4 with (first
            | ((with_reducible refine at_slot 5 ?_); refine wpList_box_blk rfl 33 _ rfl (.agg #[.int .i64 xd, .int .i64 xk]) rfl ?_; intro y1 hbq hl1 hs1; have HS_y1 : Hid (Rit w y1 r G S [(w.heap.size, 33, plL xd xk)]) := hide (HS_w.out.var hl1 (Nat.le_refl _) hbq); clear hbq hl1 hs1)
            | ((with_reducible refine at_slot 6 ?_); refine wpList_box_blk rfl 33 _ rfl (.agg #[.int .i64 yd, .int .i64 yk]) rfl ?_; intro y2 hbq hl1 hs1; have HS_y2 : Hid (Rit w y2 r G S [(w.heap.size, 33, plL xd xk), (y1.heap.size, 33, plL yd yk)]) := hide (HS_y1.out.var hl1 (Nat.le_refl _) hbq); clear hbq hl1 hs1)
            | ((with_reducible refine at_slot 7 ?_); refine wpList_box_blk rfl 43 _ rfl (secV s) rfl ?_; intro y3 hbq hl1 hs1; have HS_y3 : Hid (Rit w y3 r G S [(w.heap.size, 33, plL xd xk), (y1.heap.size, 33, plL yd yk), (y2.heap.size, 43, secL s)]) := hide (HS_y2.out.var hl1 (Nat.le_refl _) hbq); clear hbq hl1 hs1)
            | ((with_reducible refine at_slot 12 ?_); refine when_own rfl (.tmp 5) rfl HS_y3.out.own 0 rfl rfl Try.underlying33 rfl mplace_info ?_)
            | ((with_reducible refine at_slot 13 ?_); refine when_own rfl (.tmp 7) rfl HS_y3.out.own 2 rfl rfl Try.underlying43 rfl (msec_size _) ?_)
            | (go_at_call 40; refine (HS_y3.out.write (by have := HWR.out; omega) (di := xd) (ki := xk) rfl rfl s).mono ?_; rintro _ y4 ⟨rfl, hsq⟩; rw [HA.out] at hsq; rw [HE1.out]; have HS_y4 : Hid (Rit w y4 r G A [(w.heap.size, 33, plL xd xk), (y1.heap.size, 33, plL yd yk), (y2.heap.size, 43, secL s)]) := hide (hsq); clear hsq)
            | (go_at_call 65; (with_reducible refine (HLO_e1.out _).mono ?_); rintro _ _ ⟨rfl, rfl⟩))
          go_wp2_with (first
            | ((with_reducible refine at_slot 24 ?_); refine when_own rfl (.tmp 6) rfl HS_y4.out.own 1 rfl rfl Try.underlying33 rfl mplace_info ?_)
            | ((with_reducible refine at_slot 25 ?_); refine when_own rfl (.tmp 7) rfl HS_y4.out.own 2 rfl rfl Try.underlying43 rfl (msec_size _) ?_)
            | (go_at_call 40; refine (HS_y4.out.write HWA.out (di := yd) (ki := yk) rfl rfl s).mono ?_; rintro _ y5 ⟨rfl, hsq⟩; rw [HC.out] at hsq; rw [HE2.out]; have HS_y5 : Hid (Rit w y5 r G C [(w.heap.size, 33, plL xd xk), (y1.heap.size, 33, plL yd yk), (y2.heap.size, 43, secL s)]) := hide (hsq); clear hsq)
            | (go_at_call 65; (with_reducible refine (HLO_e2.out _).mono ?_); rintro _ _ ⟨rfl, rfl⟩))
          go_ret
          rw [HR.out]
          exact ⟨rfl, HS_y5.out.fin HL.out⟩
        · have hf_e2 : lostB e2 = false := by simpa using hl_e2
          have HLO_e2 := hide (fun w => hf_e2 ▸ rlost_any e2 w)
          have HR := hide (show S.mwrite (nI xd) (nI xk) (nI yd) (nI yk) s = (e2, C) by rw [HMW.out, if_pos (Or.inr hl_e1), if_neg (fun q => q.elim hz_e2 hl_e2)])
          clear hz_e1 hl_e1 hz_e2 hl_e2 hf_e2
          have NE_e1 := ne0 HN_e1.out
          obtain ⟨na_e1, nb_e1, nc_e1⟩ := NE_e1
          have NE_e2 := ne0 HN_e2.out
          obtain ⟨na_e2, nb_e2, nc_e2⟩ := NE_e2
          go_enter Try.func36, Try.ntmps36
          go_upto_region 4 with (first
            | ((with_reducible refine at_slot 5 ?_); refine wpList_box_blk rfl 33 _ rfl (.agg #[.int .i64 xd, .int .i64 xk]) rfl ?_; intro y1 hbq hl1 hs1; have HS_y1 : Hid (Rit w y1 r G S [(w.heap.size, 33, plL xd xk)]) := hide (HS_w.out.var hl1 (Nat.le_refl _) hbq); clear hbq hl1 hs1)
            | ((with_reducible refine at_slot 6 ?_); refine wpList_box_blk rfl 33 _ rfl (.agg #[.int .i64 yd, .int .i64 yk]) rfl ?_; intro y2 hbq hl1 hs1; have HS_y2 : Hid (Rit w y2 r G S [(w.heap.size, 33, plL xd xk), (y1.heap.size, 33, plL yd yk)]) := hide (HS_y1.out.var hl1 (Nat.le_refl _) hbq); clear hbq hl1 hs1)
            | ((with_reducible refine at_slot 7 ?_); refine wpList_box_blk rfl 43 _ rfl (secV s) rfl ?_; intro y3 hbq hl1 hs1; have HS_y3 : Hid (Rit w y3 r G S [(w.heap.size, 33, plL xd xk), (y1.heap.size, 33, plL yd yk), (y2.heap.size, 43, secL s)]) := hide (HS_y2.out.var hl1 (Nat.le_refl _) hbq); clear hbq hl1 hs1)
            | ((with_reducible refine at_slot 12 ?_); refine when_own rfl (.tmp 5) rfl HS_y3.out.own 0 rfl rfl Try.underlying33 rfl mplace_info ?_)
            | ((with_reducible refine at_slot 13 ?_); refine when_own rfl (.tmp 7) rfl HS_y3.out.own 2 rfl rfl Try.underlying43 rfl (msec_size _) ?_)
            | (go_at_call 40; refine (HS_y3.out.write (by have := HWR.out; omega) (di := xd) (ki := xk) rfl rfl s).mono ?_; rintro _ y4 ⟨rfl, hsq⟩; rw [HA.out] at hsq; rw [HE1.out]; have HS_y4 : Hid (Rit w y4 r G A [(w.heap.size, 33, plL xd xk), (y1.heap.size, 33, plL yd yk), (y2.heap.size, 43, secL s)]) := hide (hsq); clear hsq)
            | (go_at_call 65; (with_reducible refine (HLO_e1.out _).mono ?_); rintro _ _ ⟨rfl, rfl⟩))
          go_wp2_with (first
            | ((with_reducible refine at_slot 24 ?_); refine when_own rfl (.tmp 6) rfl HS_y4.out.own 1 rfl rfl Try.underlying33 rfl mplace_info ?_)
            | ((with_reducible refine at_slot 25 ?_); refine when_own rfl (.tmp 7) rfl HS_y4.out.own 2 rfl rfl Try.underlying43 rfl (msec_size _) ?_)
            | (go_at_call 40; refine (HS_y4.out.write HWA.out (di := yd) (ki := yk) rfl rfl s).mono ?_; rintro _ y5 ⟨rfl, hsq⟩; rw [HC.out] at hsq; rw [HE2.out]; have HS_y5 : Hid (Rit w y5 r G C [(w.heap.size, 33, plL xd xk), (y1.heap.size, 33, plL yd yk), (y2.heap.size, 43, secL s)]) := hide (hsq); clear hsq)
            | (go_at_call 65; (with_reducible refine (HLO_e2.out _).mono ?_); rintro _ _ ⟨rfl, rfl⟩))
          go_ret
          rw [HR.out]
          exact ⟨rfl, HS_y5.out.fin HL.out⟩
    · have hf_e1 : lostB e1 = false := by simpa using hl_e1
      have HLO_e1 := hide (fun w => hf_e1 ▸ rlost_any e1 w)
      have HR := hide (show S.mwrite (nI xd) (nI xk) (nI yd) (nI yk) s = (e1, A) from HMW.out.trans (if_neg (fun q => q.elim hz_e1 hl_e1)))
      clear hz_e1 hl_e1 hf_e1
      have NE_e1 := ne0 HN_e1.out
      obtain ⟨na_e1, nb_e1, nc_e1⟩ := NE_e1
      go_enter Try.func36, Try.ntmps36
      go_wp2_with (first
        | ((with_reducible refine at_slot 5 ?_); refine wpList_box_blk rfl 33 _ rfl (.agg #[.int .i64 xd, .int .i64 xk]) rfl ?_; intro y1 hbq hl1 hs1; have HS_y1 : Hid (Rit w y1 r G S [(w.heap.size, 33, plL xd xk)]) := hide (HS_w.out.var hl1 (Nat.le_refl _) hbq); clear hbq hl1 hs1)
        | ((with_reducible refine at_slot 6 ?_); refine wpList_box_blk rfl 33 _ rfl (.agg #[.int .i64 yd, .int .i64 yk]) rfl ?_; intro y2 hbq hl1 hs1; have HS_y2 : Hid (Rit w y2 r G S [(w.heap.size, 33, plL xd xk), (y1.heap.size, 33, plL yd yk)]) := hide (HS_y1.out.var hl1 (Nat.le_refl _) hbq); clear hbq hl1 hs1)
        | ((with_reducible refine at_slot 7 ?_); refine wpList_box_blk rfl 43 _ rfl (secV s) rfl ?_; intro y3 hbq hl1 hs1; have HS_y3 : Hid (Rit w y3 r G S [(w.heap.size, 33, plL xd xk), (y1.heap.size, 33, plL yd yk), (y2.heap.size, 43, secL s)]) := hide (HS_y2.out.var hl1 (Nat.le_refl _) hbq); clear hbq hl1 hs1)
        | ((with_reducible refine at_slot 12 ?_); refine when_own rfl (.tmp 5) rfl HS_y3.out.own 0 rfl rfl Try.underlying33 rfl mplace_info ?_)
        | ((with_reducible refine at_slot 13 ?_); refine when_own rfl (.tmp 7) rfl HS_y3.out.own 2 rfl rfl Try.underlying43 rfl (msec_size _) ?_)
        | (go_at_call 40; refine (HS_y3.out.write (by have := HWR.out; omega) (di := xd) (ki := xk) rfl rfl s).mono ?_; rintro _ y4 ⟨rfl, hsq⟩; rw [HA.out] at hsq; rw [HE1.out]; have HS_y4 : Hid (Rit w y4 r G A [(w.heap.size, 33, plL xd xk), (y1.heap.size, 33, plL yd yk), (y2.heap.size, 43, secL s)]) := hide (hsq); clear hsq)
        | (go_at_call 65; (with_reducible refine (HLO_e1.out _).mono ?_); rintro _ _ ⟨rfl, rfl⟩))
      go_ret
      rw [HR.out]
      exact ⟨rfl, HS_y4.out.fin HL.out⟩
set_option maxRecDepth 100000 in
set_option maxHeartbeats 8000000 in
theorem rmread_any (h : RefOn w r G S) (hw : S.writes < 4611686018427387000) (xd xk yd yk : Int) :
    Calls Try.prog 37 #[.pointer (some ⟨r, 0, none⟩), .agg #[.int .i64 xd, .int .i64 xk], .agg #[.int .i64 yd, .int .i64 yk]] w fun e w' => e = .returned (.tuple #[secV (S.mread (nI xd) (nI xk) (nI yd) (nI yk)).1, .int .i64 ((S.mread (nI xd) (nI xk) (nI yd) (nI yk)).2 : Int)]) ∧ RefOn w' r (More G w w') S ∧ Turn G w w' := by
  have HL := hide h.1
  have HS_w : Hid (Rit w w r G S []) := hide (Rit.begin h)
  have HWR := hide hw
  clear h hw
  obtain ⟨e1, he1⟩ : ∃ e, S.place (nI xd) (nI xk) = e := ⟨_, rfl⟩
  obtain ⟨e2, he2⟩ : ∃ e, S.place (nI yd) (nI yk) = e := ⟨_, rfl⟩
  obtain ⟨s, hs⟩ : ∃ s, S.readS (nI xd) (nI xk) = s := ⟨_, rfl⟩
  obtain ⟨t, ht⟩ : ∃ s, S.readS (nI yd) (nI yk) = s := ⟨_, rfl⟩
  have hmr : S.mread (nI xd) (nI xk) (nI yd) (nI yk) = if lostB e1 = true then (if lostB e2 = true then (zeroSec, 5) else (t, e2)) else (s, e1) := by
    subst he1 he2 hs ht
    rfl
  have HX := hide (And.intro hs he1)
  have HY := hide (And.intro ht he2)
  have HMR := hide hmr
  have HBZ := hide (show Try.prog.built 43 [] = some (secL zeroSec).toArray from sec_none)
  clear he1 he2 hs ht hmr
  by_cases hl_e1 : lostB e1 = true
  · have HLO_e1 := hide (fun w => hl_e1 ▸ rlost_any e1 w)
    by_cases hl_e2 : lostB e2 = true
    · have HLO_e2 := hide (fun w => hl_e2 ▸ rlost_any e2 w)
      have HR := hide (show S.mread (nI xd) (nI xk) (nI yd) (nI yk) = (zeroSec, 5) by rw [HMR.out, if_pos hl_e1, if_pos hl_e2])
      clear hl_e1 hl_e2
      go_enter Try.func37, Try.ntmps37
      go_upto_region 4 with (first
        | ((with_reducible refine at_slot 4 ?_); refine wpList_box_blk rfl 33 _ rfl (.agg #[.int .i64 xd, .int .i64 xk]) rfl ?_; intro y1 hbq hl1 hs1; have HS_y1 : Hid (Rit w y1 r G S [(w.heap.size, 33, plL xd xk)]) := hide (HS_w.out.var hl1 (Nat.le_refl _) hbq); clear hbq hl1 hs1)
        | ((with_reducible refine at_slot 5 ?_); refine wpList_box_blk rfl 33 _ rfl (.agg #[.int .i64 yd, .int .i64 yk]) rfl ?_; intro y2 hbq hl1 hs1; have HS_y2 : Hid (Rit w y2 r G S [(w.heap.size, 33, plL xd xk), (y1.heap.size, 33, plL yd yk)]) := hide (HS_y1.out.var hl1 (Nat.le_refl _) hbq); clear hbq hl1 hs1)
        | ((with_reducible refine at_slot 6 ?_); refine wpList_alloc_blk rfl 43 rfl _ (sec_zero _) ?_; intro y3 hbq hl1 hs1; have HS_y3 : Hid (Rit w y3 r G S [(w.heap.size, 33, plL xd xk), (y1.heap.size, 33, plL yd yk), (y2.heap.size, 43, secL zeroSec)]) := hide (HS_y2.out.var hl1 (Nat.le_refl _) hbq); clear hbq hl1 hs1)
        | ((with_reducible refine at_slot 14 ?_); refine when_own rfl (.tmp 4) rfl HS_y3.out.own 0 rfl rfl Try.underlying33 rfl mplace_info ?_)
        | (go_at_call 18; (with_reducible refine (HS_y3.out.read (di := xd) (ki := xk) rfl rfl).mono ?_); rintro _ y4 ⟨rfl, hsq⟩; rw [HX.out.1, HX.out.2]; have HS_y4 : Hid (Rit w y4 r G S [(w.heap.size, 33, plL xd xk), (y1.heap.size, 33, plL yd yk), (y2.heap.size, 43, secL zeroSec)]) := hide (hsq); clear hsq)
        | ((with_reducible refine at_slot 8 ?_); refine wpList_alloc_blk rfl 43 rfl _ (sec_zero _) ?_; intro y5 hbq hl1 hs1; clear hs1)
        | ((with_reducible refine at_store 8 ?_); refine wpList_store_all rfl 43 (.tmp 8) (.tmp 16) rfl y4.heap.size 43 _ hbq rfl (secL s) rfl (msec_size _) (msec_len _ _) (secL_one _) ?_; intro y6 hbz hg hs; have HS_y6 : Hid (Rit w y6 r G S [(w.heap.size, 33, plL xd xk), (y1.heap.size, 33, plL yd yk), (y2.heap.size, 43, secL zeroSec), (y4.heap.size, 43, secL s)]) := hide (HS_y4.out.new hl1 hg hbz); clear hs hbq hl1 hg hbz)
        | (go_at_call 65; (with_reducible refine (HLO_e1.out _).mono ?_); rintro _ _ ⟨rfl, rfl⟩))
      go_wp2_with (first
        | ((with_reducible refine at_slot 25 ?_); refine when_own rfl (.tmp 5) rfl HS_y6.out.own 1 rfl rfl Try.underlying33 rfl mplace_info ?_)
        | (go_at_call 18; (with_reducible refine (HS_y6.out.read (di := yd) (ki := yk) rfl rfl).mono ?_); rintro _ y7 ⟨rfl, hsq⟩; rw [HY.out.1, HY.out.2]; have HS_y7 : Hid (Rit w y7 r G S [(w.heap.size, 33, plL xd xk), (y1.heap.size, 33, plL yd yk), (y2.heap.size, 43, secL zeroSec), (y4.heap.size, 43, secL s)]) := hide (hsq); clear hsq)
        | ((with_reducible refine at_slot 10 ?_); refine wpList_alloc_blk rfl 43 rfl _ (sec_zero _) ?_; intro y8 hbq hl1 hs1; clear hs1)
        | ((with_reducible refine at_store 10 ?_); refine wpList_store_all rfl 43 (.tmp 10) (.tmp 27) rfl y7.heap.size 43 _ hbq rfl (secL t) rfl (msec_size _) (msec_len _ _) (secL_one _) ?_; intro y9 hbz hg hs; have HS_y9 : Hid (Rit w y9 r G S [(w.heap.size, 33, plL xd xk), (y1.heap.size, 33, plL yd yk), (y2.heap.size, 43, secL zeroSec), (y4.heap.size, 43, secL s), (y7.heap.size, 43, secL t)]) := hide (HS_y7.out.new hl1 hg hbz); clear hs hbq hl1 hg hbz)
        | (go_at_call 65; (with_reducible refine (HLO_e2.out _).mono ?_); rintro _ _ ⟨rfl, rfl⟩)
        | ((with_reducible refine at_slot 34 ?_); refine wpList_build_is rfl 43 #[] rfl [] (by simp) _ HBZ.out ?_)
        | ((with_reducible refine at_store 6 ?_); refine wpList_store_all rfl 43 (.tmp 6) (.tmp 34) rfl y2.heap.size 43 _ (HS_y9.out.own.blk 2 rfl) rfl (secL zeroSec) rfl (msec_size _) (msec_len _ zeroSec) (secL_one _) ?_; intro y10 hbz hg hs; have HS_y10 : Hid (Rit w y10 r G S [(w.heap.size, 33, plL xd xk), (y1.heap.size, 33, plL yd yk), (y2.heap.size, 43, secL zeroSec), (y4.heap.size, 43, secL s), (y7.heap.size, 43, secL t)]) := hide (HS_y9.out.poke 2 rfl hbz hg); clear hs hg hbz))
      refine ret_cell_tmp rfl _ 43 (secL zeroSec) _ (HS_y10.out.own.blk 2 rfl) rfl Try.underlying43 rfl (msec_size _) (.int .i64 5) rfl rfl ⟨by rw [HR.out]; rfl, HS_y10.out.fin HL.out⟩
    · have hf_e2 : lostB e2 = false := by simpa using hl_e2
      have HLO_e2 := hide (fun w => hf_e2 ▸ rlost_any e2 w)
      have HR := hide (show S.mread (nI xd) (nI xk) (nI yd) (nI yk) = (t, e2) by rw [HMR.out, if_pos hl_e1, if_neg hl_e2])
      clear hl_e1 hl_e2 hf_e2
      go_enter Try.func37, Try.ntmps37
      go_upto_region 4 with (first
        | ((with_reducible refine at_slot 4 ?_); refine wpList_box_blk rfl 33 _ rfl (.agg #[.int .i64 xd, .int .i64 xk]) rfl ?_; intro y1 hbq hl1 hs1; have HS_y1 : Hid (Rit w y1 r G S [(w.heap.size, 33, plL xd xk)]) := hide (HS_w.out.var hl1 (Nat.le_refl _) hbq); clear hbq hl1 hs1)
        | ((with_reducible refine at_slot 5 ?_); refine wpList_box_blk rfl 33 _ rfl (.agg #[.int .i64 yd, .int .i64 yk]) rfl ?_; intro y2 hbq hl1 hs1; have HS_y2 : Hid (Rit w y2 r G S [(w.heap.size, 33, plL xd xk), (y1.heap.size, 33, plL yd yk)]) := hide (HS_y1.out.var hl1 (Nat.le_refl _) hbq); clear hbq hl1 hs1)
        | ((with_reducible refine at_slot 6 ?_); refine wpList_alloc_blk rfl 43 rfl _ (sec_zero _) ?_; intro y3 hbq hl1 hs1; have HS_y3 : Hid (Rit w y3 r G S [(w.heap.size, 33, plL xd xk), (y1.heap.size, 33, plL yd yk), (y2.heap.size, 43, secL zeroSec)]) := hide (HS_y2.out.var hl1 (Nat.le_refl _) hbq); clear hbq hl1 hs1)
        | ((with_reducible refine at_slot 14 ?_); refine when_own rfl (.tmp 4) rfl HS_y3.out.own 0 rfl rfl Try.underlying33 rfl mplace_info ?_)
        | (go_at_call 18; (with_reducible refine (HS_y3.out.read (di := xd) (ki := xk) rfl rfl).mono ?_); rintro _ y4 ⟨rfl, hsq⟩; rw [HX.out.1, HX.out.2]; have HS_y4 : Hid (Rit w y4 r G S [(w.heap.size, 33, plL xd xk), (y1.heap.size, 33, plL yd yk), (y2.heap.size, 43, secL zeroSec)]) := hide (hsq); clear hsq)
        | ((with_reducible refine at_slot 8 ?_); refine wpList_alloc_blk rfl 43 rfl _ (sec_zero _) ?_; intro y5 hbq hl1 hs1; clear hs1)
        | ((with_reducible refine at_store 8 ?_); refine wpList_store_all rfl 43 (.tmp 8) (.tmp 16) rfl y4.heap.size 43 _ hbq rfl (secL s) rfl (msec_size _) (msec_len _ _) (secL_one _) ?_; intro y6 hbz hg hs; have HS_y6 : Hid (Rit w y6 r G S [(w.heap.size, 33, plL xd xk), (y1.heap.size, 33, plL yd yk), (y2.heap.size, 43, secL zeroSec), (y4.heap.size, 43, secL s)]) := hide (HS_y4.out.new hl1 hg hbz); clear hs hbq hl1 hg hbz)
        | (go_at_call 65; (with_reducible refine (HLO_e1.out _).mono ?_); rintro _ _ ⟨rfl, rfl⟩))
      go_wp2_with (first
        | ((with_reducible refine at_slot 25 ?_); refine when_own rfl (.tmp 5) rfl HS_y6.out.own 1 rfl rfl Try.underlying33 rfl mplace_info ?_)
        | (go_at_call 18; (with_reducible refine (HS_y6.out.read (di := yd) (ki := yk) rfl rfl).mono ?_); rintro _ y7 ⟨rfl, hsq⟩; rw [HY.out.1, HY.out.2]; have HS_y7 : Hid (Rit w y7 r G S [(w.heap.size, 33, plL xd xk), (y1.heap.size, 33, plL yd yk), (y2.heap.size, 43, secL zeroSec), (y4.heap.size, 43, secL s)]) := hide (hsq); clear hsq)
        | ((with_reducible refine at_slot 10 ?_); refine wpList_alloc_blk rfl 43 rfl _ (sec_zero _) ?_; intro y8 hbq hl1 hs1; clear hs1)
        | ((with_reducible refine at_store 10 ?_); refine wpList_store_all rfl 43 (.tmp 10) (.tmp 27) rfl y7.heap.size 43 _ hbq rfl (secL t) rfl (msec_size _) (msec_len _ _) (secL_one _) ?_; intro y9 hbz hg hs; have HS_y9 : Hid (Rit w y9 r G S [(w.heap.size, 33, plL xd xk), (y1.heap.size, 33, plL yd yk), (y2.heap.size, 43, secL zeroSec), (y4.heap.size, 43, secL s), (y7.heap.size, 43, secL t)]) := hide (HS_y7.out.new hl1 hg hbz); clear hs hbq hl1 hg hbz)
        | (go_at_call 65; (with_reducible refine (HLO_e2.out _).mono ?_); rintro _ _ ⟨rfl, rfl⟩)
        | ((with_reducible refine at_slot 32 ?_); refine when_own rfl (.tmp 10) rfl HS_y9.out.own 4 rfl rfl Try.underlying43 rfl (msec_size _) ?_)
        | ((with_reducible refine at_store 6 ?_); refine wpList_store_all rfl 43 (.tmp 6) (.tmp 32) rfl y2.heap.size 43 _ (HS_y9.out.own.blk 2 rfl) rfl (secL t) rfl (msec_size _) (msec_len _ zeroSec) (secL_one _) ?_; intro y10 hbz hg hs; have HS_y10 : Hid (Rit w y10 r G S [(w.heap.size, 33, plL xd xk), (y1.heap.size, 33, plL yd yk), (y2.heap.size, 43, secL t), (y4.heap.size, 43, secL s), (y7.heap.size, 43, secL t)]) := hide (HS_y9.out.poke 2 rfl hbz hg); clear hs hg hbz))
      refine ret_cell_tmp rfl _ 43 (secL t) _ (HS_y10.out.own.blk 2 rfl) rfl Try.underlying43 rfl (msec_size _) (.int .i64 (e2 : Int)) rfl rfl ⟨by rw [HR.out]; rfl, HS_y10.out.fin HL.out⟩
  · have hf_e1 : lostB e1 = false := by simpa using hl_e1
    have HLO_e1 := hide (fun w => hf_e1 ▸ rlost_any e1 w)
    have HR := hide (show S.mread (nI xd) (nI xk) (nI yd) (nI yk) = (s, e1) by rw [HMR.out, if_neg hl_e1])
    clear hl_e1 hf_e1
    go_enter Try.func37, Try.ntmps37
    go_wp2_with (first
      | ((with_reducible refine at_slot 4 ?_); refine wpList_box_blk rfl 33 _ rfl (.agg #[.int .i64 xd, .int .i64 xk]) rfl ?_; intro y1 hbq hl1 hs1; have HS_y1 : Hid (Rit w y1 r G S [(w.heap.size, 33, plL xd xk)]) := hide (HS_w.out.var hl1 (Nat.le_refl _) hbq); clear hbq hl1 hs1)
      | ((with_reducible refine at_slot 5 ?_); refine wpList_box_blk rfl 33 _ rfl (.agg #[.int .i64 yd, .int .i64 yk]) rfl ?_; intro y2 hbq hl1 hs1; have HS_y2 : Hid (Rit w y2 r G S [(w.heap.size, 33, plL xd xk), (y1.heap.size, 33, plL yd yk)]) := hide (HS_y1.out.var hl1 (Nat.le_refl _) hbq); clear hbq hl1 hs1)
      | ((with_reducible refine at_slot 6 ?_); refine wpList_alloc_blk rfl 43 rfl _ (sec_zero _) ?_; intro y3 hbq hl1 hs1; have HS_y3 : Hid (Rit w y3 r G S [(w.heap.size, 33, plL xd xk), (y1.heap.size, 33, plL yd yk), (y2.heap.size, 43, secL zeroSec)]) := hide (HS_y2.out.var hl1 (Nat.le_refl _) hbq); clear hbq hl1 hs1)
      | ((with_reducible refine at_slot 14 ?_); refine when_own rfl (.tmp 4) rfl HS_y3.out.own 0 rfl rfl Try.underlying33 rfl mplace_info ?_)
      | (go_at_call 18; (with_reducible refine (HS_y3.out.read (di := xd) (ki := xk) rfl rfl).mono ?_); rintro _ y4 ⟨rfl, hsq⟩; rw [HX.out.1, HX.out.2]; have HS_y4 : Hid (Rit w y4 r G S [(w.heap.size, 33, plL xd xk), (y1.heap.size, 33, plL yd yk), (y2.heap.size, 43, secL zeroSec)]) := hide (hsq); clear hsq)
      | ((with_reducible refine at_slot 8 ?_); refine wpList_alloc_blk rfl 43 rfl _ (sec_zero _) ?_; intro y5 hbq hl1 hs1; clear hs1)
      | ((with_reducible refine at_store 8 ?_); refine wpList_store_all rfl 43 (.tmp 8) (.tmp 16) rfl y4.heap.size 43 _ hbq rfl (secL s) rfl (msec_size _) (msec_len _ _) (secL_one _) ?_; intro y6 hbz hg hs; have HS_y6 : Hid (Rit w y6 r G S [(w.heap.size, 33, plL xd xk), (y1.heap.size, 33, plL yd yk), (y2.heap.size, 43, secL zeroSec), (y4.heap.size, 43, secL s)]) := hide (HS_y4.out.new hl1 hg hbz); clear hs hbq hl1 hg hbz)
      | (go_at_call 65; (with_reducible refine (HLO_e1.out _).mono ?_); rintro _ _ ⟨rfl, rfl⟩)
      | ((with_reducible refine at_slot 21 ?_); refine when_own rfl (.tmp 8) rfl HS_y6.out.own 3 rfl rfl Try.underlying43 rfl (msec_size _) ?_)
      | ((with_reducible refine at_store 6 ?_); refine wpList_store_all rfl 43 (.tmp 6) (.tmp 21) rfl y2.heap.size 43 _ (HS_y6.out.own.blk 2 rfl) rfl (secL s) rfl (msec_size _) (msec_len _ zeroSec) (secL_one _) ?_; intro y7 hbz hg hs; have HS_y7 : Hid (Rit w y7 r G S [(w.heap.size, 33, plL xd xk), (y1.heap.size, 33, plL yd yk), (y2.heap.size, 43, secL s), (y4.heap.size, 43, secL s)]) := hide (HS_y6.out.poke 2 rfl hbz hg); clear hs hg hbz))
    refine ret_cell_tmp rfl _ 43 (secL s) _ (HS_y7.out.own.blk 2 rfl) rfl Try.underlying43 rfl (msec_size _) (.int .i64 (e1 : Int)) rfl rfl ⟨by rw [HR.out]; rfl, HS_y7.out.fin HL.out⟩
set_option maxRecDepth 100000 in
set_option maxHeartbeats 8000000 in
theorem rmcopy_any (h : RefOn w r G S) (hw : S.writes < 4611686018427387000) (xd xk yd yk : Int) :
    Calls Try.prog 39 #[.pointer (some ⟨r, 0, none⟩), .agg #[.int .i64 xd, .int .i64 xk], .agg #[.int .i64 yd, .int .i64 yk]] w fun e w' => e = .returned (.int .i64 ((S.mcopy (nI xd) (nI xk) (nI yd) (nI yk)).1 : Int)) ∧ RefOn w' r (More G w w') (S.mcopy (nI xd) (nI xk) (nI yd) (nI yk)).2 ∧ Turn G w w' := by
  have HL := hide h.1
  have HS_w : Hid (Rit w w r G S []) := hide (Rit.begin h)
  have HWR := hide hw
  clear h hw
  obtain ⟨e1, he1⟩ : ∃ e, S.place (nI xd) (nI xk) = e := ⟨_, rfl⟩
  obtain ⟨s, hs⟩ : ∃ s, S.readS (nI xd) (nI xk) = s := ⟨_, rfl⟩
  obtain ⟨e3, he3⟩ : ∃ e, (S.write (nI yd) (nI yk) s).1 = e := ⟨_, rfl⟩
  obtain ⟨C, hC⟩ : ∃ A, (S.write (nI yd) (nI yk) s).2 = A := ⟨_, rfl⟩
  have hmc : S.mcopy (nI xd) (nI xk) (nI yd) (nI yk) = if e1 = 0 then (e3, C) else (e1, S) := by
    unfold Bank.mcopy
    rw [he1]
    by_cases h0 : e1 = 0
    · have hs' : s = S.newest (nI xd) (nI xk) := by rw [← hs]; unfold Bank.readS; rw [if_pos (he1.trans h0)]
      rw [if_pos h0, if_pos h0, ← hs', ← he3, ← hC]
    · rw [if_neg h0, if_neg h0]
  have HX := hide (And.intro hs he1)
  have HE3 := hide he3
  have HC := hide hC
  have HMC := hide hmc
  clear he1 hs he3 hC hmc
  by_cases hz_e1 : e1 = 0
  · have HZ_e1 := hide hz_e1
    have HR := hide (HMC.out.trans (if_pos hz_e1))
    clear hz_e1
    go_enter Try.func39, Try.ntmps39
    go_wp2_with (first
      | ((with_reducible refine at_slot 4 ?_); refine wpList_box_blk rfl 33 _ rfl (.agg #[.int .i64 xd, .int .i64 xk]) rfl ?_; intro y1 hbq hl1 hs1; have HS_y1 : Hid (Rit w y1 r G S [(w.heap.size, 33, plL xd xk)]) := hide (HS_w.out.var hl1 (Nat.le_refl _) hbq); clear hbq hl1 hs1)
      | ((with_reducible refine at_slot 5 ?_); refine wpList_box_blk rfl 33 _ rfl (.agg #[.int .i64 yd, .int .i64 yk]) rfl ?_; intro y2 hbq hl1 hs1; have HS_y2 : Hid (Rit w y2 r G S [(w.heap.size, 33, plL xd xk), (y1.heap.size, 33, plL yd yk)]) := hide (HS_y1.out.var hl1 (Nat.le_refl _) hbq); clear hbq hl1 hs1)
      | ((with_reducible refine at_slot 11 ?_); refine when_own rfl (.tmp 4) rfl HS_y2.out.own 0 rfl rfl Try.underlying33 rfl mplace_info ?_)
      | (go_at_call 18; (with_reducible refine (HS_y2.out.read (di := xd) (ki := xk) rfl rfl).mono ?_); rintro _ y3 ⟨rfl, hsq⟩; rw [HX.out.1, HX.out.2, HZ_e1.out]; have HS_y3 : Hid (Rit w y3 r G S [(w.heap.size, 33, plL xd xk), (y1.heap.size, 33, plL yd yk)]) := hide (hsq); clear hsq)
      | ((with_reducible refine at_slot 7 ?_); refine wpList_alloc_blk rfl 43 rfl _ (sec_zero _) ?_; intro y4 hbq hl1 hs1; clear hs1)
      | ((with_reducible refine at_store 7 ?_); refine wpList_store_all rfl 43 (.tmp 7) (.tmp 13) rfl y3.heap.size 43 _ hbq rfl (secL s) rfl (msec_size _) (msec_len _ _) (secL_one _) ?_; intro y5 hbz hg hs; have HS_y5 : Hid (Rit w y5 r G S [(w.heap.size, 33, plL xd xk), (y1.heap.size, 33, plL yd yk), (y3.heap.size, 43, secL s)]) := hide (HS_y3.out.new hl1 hg hbz); clear hs hbq hl1 hg hbz)
      | ((with_reducible refine at_slot 19 ?_); refine when_own rfl (.tmp 5) rfl HS_y5.out.own 1 rfl rfl Try.underlying33 rfl mplace_info ?_)
      | ((with_reducible refine at_slot 20 ?_); refine when_own rfl (.tmp 7) rfl HS_y5.out.own 2 rfl rfl Try.underlying43 rfl (msec_size _) ?_)
      | (go_at_call 40; refine (HS_y5.out.write (by have := HWR.out; omega) (di := yd) (ki := yk) rfl rfl s).mono ?_; rintro _ y6 ⟨rfl, hsq⟩; rw [HC.out] at hsq; rw [HE3.out]; have HS_y6 : Hid (Rit w y6 r G C [(w.heap.size, 33, plL xd xk), (y1.heap.size, 33, plL yd yk), (y3.heap.size, 43, secL s)]) := hide (hsq); clear hsq))
    go_ret
    rw [HR.out]
    exact ⟨rfl, HS_y6.out.fin HL.out⟩
  · have HN_e1 := hide hz_e1
    have HR := hide (HMC.out.trans (if_neg hz_e1))
    clear hz_e1
    have NE_e1 := ne0 HN_e1.out
    obtain ⟨na_e1, nb_e1, nc_e1⟩ := NE_e1
    go_enter Try.func39, Try.ntmps39
    go_wp2_with (first
      | ((with_reducible refine at_slot 4 ?_); refine wpList_box_blk rfl 33 _ rfl (.agg #[.int .i64 xd, .int .i64 xk]) rfl ?_; intro y1 hbq hl1 hs1; have HS_y1 : Hid (Rit w y1 r G S [(w.heap.size, 33, plL xd xk)]) := hide (HS_w.out.var hl1 (Nat.le_refl _) hbq); clear hbq hl1 hs1)
      | ((with_reducible refine at_slot 5 ?_); refine wpList_box_blk rfl 33 _ rfl (.agg #[.int .i64 yd, .int .i64 yk]) rfl ?_; intro y2 hbq hl1 hs1; have HS_y2 : Hid (Rit w y2 r G S [(w.heap.size, 33, plL xd xk), (y1.heap.size, 33, plL yd yk)]) := hide (HS_y1.out.var hl1 (Nat.le_refl _) hbq); clear hbq hl1 hs1)
      | ((with_reducible refine at_slot 11 ?_); refine when_own rfl (.tmp 4) rfl HS_y2.out.own 0 rfl rfl Try.underlying33 rfl mplace_info ?_)
      | (go_at_call 18; (with_reducible refine (HS_y2.out.read (di := xd) (ki := xk) rfl rfl).mono ?_); rintro _ y3 ⟨rfl, hsq⟩; rw [HX.out.1, HX.out.2]; have HS_y3 : Hid (Rit w y3 r G S [(w.heap.size, 33, plL xd xk), (y1.heap.size, 33, plL yd yk)]) := hide (hsq); clear hsq)
      | ((with_reducible refine at_slot 7 ?_); refine wpList_alloc_blk rfl 43 rfl _ (sec_zero _) ?_; intro y4 hbq hl1 hs1; clear hs1)
      | ((with_reducible refine at_store 7 ?_); refine wpList_store_all rfl 43 (.tmp 7) (.tmp 13) rfl y3.heap.size 43 _ hbq rfl (secL s) rfl (msec_size _) (msec_len _ _) (secL_one _) ?_; intro y5 hbz hg hs; have HS_y5 : Hid (Rit w y5 r G S [(w.heap.size, 33, plL xd xk), (y1.heap.size, 33, plL yd yk), (y3.heap.size, 43, secL s)]) := hide (HS_y3.out.new hl1 hg hbz); clear hs hbq hl1 hg hbz))
    go_ret
    rw [HR.out]
    exact ⟨rfl, HS_y5.out.fin HL.out⟩
set_option maxRecDepth 100000 in
set_option maxHeartbeats 8000000 in
theorem rmalike_any (h : RefOn w r G S) (hw : S.writes < 4611686018427387000) (xd xk yd yk : Int) :
    Calls Try.prog 38 #[.pointer (some ⟨r, 0, none⟩), .agg #[.int .i64 xd, .int .i64 xk], .agg #[.int .i64 yd, .int .i64 yk]] w fun e w' => e = .returned (.tuple #[.bool (S.malike (nI xd) (nI xk) (nI yd) (nI yk)).1.1, .int .i64 ((S.malike (nI xd) (nI xk) (nI yd) (nI yk)).1.2 : Int)]) ∧ RefOn w' r (More G w w') (S.malike (nI xd) (nI xk) (nI yd) (nI yk)).2 ∧ Turn G w w' := by
  have HL := hide h.1
  have HS_w : Hid (Rit w w r G S []) := hide (Rit.begin h)
  have HWR := hide hw
  clear h hw
  obtain ⟨e1, he1⟩ : ∃ e, S.place (nI xd) (nI xk) = e := ⟨_, rfl⟩
  obtain ⟨e2, he2⟩ : ∃ e, S.place (nI yd) (nI yk) = e := ⟨_, rfl⟩
  obtain ⟨s, hs⟩ : ∃ s, S.readS (nI xd) (nI xk) = s := ⟨_, rfl⟩
  obtain ⟨t, ht⟩ : ∃ s, S.readS (nI yd) (nI yk) = s := ⟨_, rfl⟩
  obtain ⟨e3, he3⟩ : ∃ e, (S.write (nI yd) (nI yk) s).1 = e := ⟨_, rfl⟩
  obtain ⟨C, hC⟩ : ∃ A, (S.write (nI yd) (nI yk) s).2 = A := ⟨_, rfl⟩
  have hma : S.malike (nI xd) (nI xk) (nI yd) (nI yk) = if e1 = 0 ∨ lostB e1 = true then (if e2 = 0 ∨ lostB e2 = true then (if e1 = 0 ∧ e2 = 0 then (if s = t then ((false, 0), S) else ((decide (e3 = 0), if lostB e3 = true then 0 else e3), C)) else ((false, if e1 = 0 ∨ e2 = 0 then 0 else 5), S)) else ((false, e2), S)) else ((false, e1), S) := by
    unfold Bank.malike
    simp only [he1, he2]
    by_cases h0 : e1 = 0 ∧ e2 = 0
    · have hs' : s = S.newest (nI xd) (nI xk) := by rw [← hs]; unfold Bank.readS; rw [if_pos (he1.trans h0.1)]
      have ht' : t = S.newest (nI yd) (nI yk) := by rw [← ht]; unfold Bank.readS; rw [if_pos (he2.trans h0.2)]
      simp only [if_pos h0, ← hs', ← ht', he3, hC]
    · simp only [if_neg h0]
  have HX := hide (And.intro hs he1)
  have HY := hide (And.intro ht he2)
  have HE3 := hide he3
  have HC := hide hC
  have HMA := hide hma
  clear he1 he2 hs ht he3 hC hma
  by_cases hz_e1 : e1 = 0
  · have HZ_e1 := hide hz_e1
    by_cases hz_e2 : e2 = 0
    · have HZ_e2 := hide hz_e2
      by_cases hst : s = t
      · have HST := hide hst
        have HR := hide (show S.malike (nI xd) (nI xk) (nI yd) (nI yk) = ((false, 0), S) by rw [HMA.out, if_pos (Or.inl hz_e1), if_pos (Or.inl hz_e2), if_pos ⟨hz_e1, hz_e2⟩, if_pos hst])
        clear hz_e1 hz_e2 hst
        go_enter Try.func38, Try.ntmps38
        go_upto_region 5 with (first
          | ((with_reducible refine at_slot 4 ?_); refine wpList_box_blk rfl 33 _ rfl (.agg #[.int .i64 xd, .int .i64 xk]) rfl ?_; intro y1 hbq hl1 hs1; have HS_y1 : Hid (Rit w y1 r G S [(w.heap.size, 33, plL xd xk)]) := hide (HS_w.out.var hl1 (Nat.le_refl _) hbq); clear hbq hl1 hs1)
          | ((with_reducible refine at_slot 5 ?_); refine wpList_box_blk rfl 33 _ rfl (.agg #[.int .i64 yd, .int .i64 yk]) rfl ?_; intro y2 hbq hl1 hs1; have HS_y2 : Hid (Rit w y2 r G S [(w.heap.size, 33, plL xd xk), (y1.heap.size, 33, plL yd yk)]) := hide (HS_y1.out.var hl1 (Nat.le_refl _) hbq); clear hbq hl1 hs1)
          | ((with_reducible refine at_slot 17 ?_); refine when_own rfl (.tmp 4) rfl HS_y2.out.own 0 rfl rfl Try.underlying33 rfl mplace_info ?_)
          | (go_at_call 18; (with_reducible refine (HS_y2.out.read (di := xd) (ki := xk) rfl rfl).mono ?_); rintro _ y3 ⟨rfl, hsq⟩; rw [HX.out.1, HX.out.2, HZ_e1.out]; have HS_y3 : Hid (Rit w y3 r G S [(w.heap.size, 33, plL xd xk), (y1.heap.size, 33, plL yd yk)]) := hide (hsq); clear hsq)
          | ((with_reducible refine at_slot 8 ?_); refine wpList_alloc_blk rfl 43 rfl _ (sec_zero _) ?_; intro y4 hbq hl1 hs1; clear hs1)
          | ((with_reducible refine at_store 8 ?_); refine wpList_store_all rfl 43 (.tmp 8) (.tmp 19) rfl y3.heap.size 43 _ hbq rfl (secL s) rfl (msec_size _) (msec_len _ _) (secL_one _) ?_; intro y5 hbz hg hs; have HS_y5 : Hid (Rit w y5 r G S [(w.heap.size, 33, plL xd xk), (y1.heap.size, 33, plL yd yk), (y3.heap.size, 43, secL s)]) := hide (HS_y3.out.new hl1 hg hbz); clear hs hbq hl1 hg hbz)
          | (go_at_call 65; refine (rlost_any 0 _).mono ?_; rintro _ _ ⟨rfl, rfl⟩))
        go_wp2_with (first
          | ((with_reducible refine at_slot 32 ?_); refine when_own rfl (.tmp 5) rfl HS_y5.out.own 1 rfl rfl Try.underlying33 rfl mplace_info ?_)
          | (go_at_call 18; (with_reducible refine (HS_y5.out.read (di := yd) (ki := yk) rfl rfl).mono ?_); rintro _ y6 ⟨rfl, hsq⟩; rw [HY.out.1, HY.out.2, HZ_e2.out]; have HS_y6 : Hid (Rit w y6 r G S [(w.heap.size, 33, plL xd xk), (y1.heap.size, 33, plL yd yk), (y3.heap.size, 43, secL s)]) := hide (hsq); clear hsq)
          | ((with_reducible refine at_slot 11 ?_); refine wpList_alloc_blk rfl 43 rfl _ (sec_zero _) ?_; intro y7 hbq hl1 hs1; clear hs1)
          | ((with_reducible refine at_store 11 ?_); refine wpList_store_all rfl 43 (.tmp 11) (.tmp 34) rfl y6.heap.size 43 _ hbq rfl (secL t) rfl (msec_size _) (msec_len _ _) (secL_one _) ?_; intro y8 hbz hg hs; have HS_y8 : Hid (Rit w y8 r G S [(w.heap.size, 33, plL xd xk), (y1.heap.size, 33, plL yd yk), (y3.heap.size, 43, secL s), (y6.heap.size, 43, secL t)]) := hide (HS_y6.out.new hl1 hg hbz); clear hs hbq hl1 hg hbz)
          | (go_at_call 65; refine (rlost_any 0 _).mono ?_; rintro _ _ ⟨rfl, rfl⟩)
          | ((with_reducible refine at_slot 54 ?_); refine when_own rfl (.tmp 8) rfl HS_y8.out.own 2 rfl rfl Try.underlying43 rfl (msec_size _) ?_)
          | ((with_reducible refine at_slot 55 ?_); refine when_own rfl (.tmp 11) rfl HS_y8.out.own 3 rfl rfl Try.underlying43 rfl (msec_size _) ?_)
          | ((with_reducible refine at_slot 56 ?_); refine when_eqS rfl (.tmp 54) (.tmp 55) _ rfl s t rfl rfl true (by simp [HST.out]) ?_))
        go_ret2
        rw [HR.out]
        exact ⟨rfl, HS_y8.out.fin HL.out⟩
      · have HST := hide hst
        by_cases hz_e3 : e3 = 0
        · have HZ_e3 := hide hz_e3
          have HR := hide (show S.malike (nI xd) (nI xk) (nI yd) (nI yk) = ((true, 0), C) by rw [HMA.out, if_pos (Or.inl hz_e1), if_pos (Or.inl hz_e2), if_pos ⟨hz_e1, hz_e2⟩, if_neg hst, decide_eq_true hz_e3, hz_e3]; rfl)
          clear hz_e1 hz_e2 hst hz_e3
          go_enter Try.func38, Try.ntmps38
          go_upto_region 5 with (first
            | ((with_reducible refine at_slot 4 ?_); refine wpList_box_blk rfl 33 _ rfl (.agg #[.int .i64 xd, .int .i64 xk]) rfl ?_; intro y1 hbq hl1 hs1; have HS_y1 : Hid (Rit w y1 r G S [(w.heap.size, 33, plL xd xk)]) := hide (HS_w.out.var hl1 (Nat.le_refl _) hbq); clear hbq hl1 hs1)
            | ((with_reducible refine at_slot 5 ?_); refine wpList_box_blk rfl 33 _ rfl (.agg #[.int .i64 yd, .int .i64 yk]) rfl ?_; intro y2 hbq hl1 hs1; have HS_y2 : Hid (Rit w y2 r G S [(w.heap.size, 33, plL xd xk), (y1.heap.size, 33, plL yd yk)]) := hide (HS_y1.out.var hl1 (Nat.le_refl _) hbq); clear hbq hl1 hs1)
            | ((with_reducible refine at_slot 17 ?_); refine when_own rfl (.tmp 4) rfl HS_y2.out.own 0 rfl rfl Try.underlying33 rfl mplace_info ?_)
            | (go_at_call 18; (with_reducible refine (HS_y2.out.read (di := xd) (ki := xk) rfl rfl).mono ?_); rintro _ y3 ⟨rfl, hsq⟩; rw [HX.out.1, HX.out.2, HZ_e1.out]; have HS_y3 : Hid (Rit w y3 r G S [(w.heap.size, 33, plL xd xk), (y1.heap.size, 33, plL yd yk)]) := hide (hsq); clear hsq)
            | ((with_reducible refine at_slot 8 ?_); refine wpList_alloc_blk rfl 43 rfl _ (sec_zero _) ?_; intro y4 hbq hl1 hs1; clear hs1)
            | ((with_reducible refine at_store 8 ?_); refine wpList_store_all rfl 43 (.tmp 8) (.tmp 19) rfl y3.heap.size 43 _ hbq rfl (secL s) rfl (msec_size _) (msec_len _ _) (secL_one _) ?_; intro y5 hbz hg hs; have HS_y5 : Hid (Rit w y5 r G S [(w.heap.size, 33, plL xd xk), (y1.heap.size, 33, plL yd yk), (y3.heap.size, 43, secL s)]) := hide (HS_y3.out.new hl1 hg hbz); clear hs hbq hl1 hg hbz)
            | (go_at_call 65; refine (rlost_any 0 _).mono ?_; rintro _ _ ⟨rfl, rfl⟩))
          go_upto_region 14 with (first
            | ((with_reducible refine at_slot 32 ?_); refine when_own rfl (.tmp 5) rfl HS_y5.out.own 1 rfl rfl Try.underlying33 rfl mplace_info ?_)
            | (go_at_call 18; (with_reducible refine (HS_y5.out.read (di := yd) (ki := yk) rfl rfl).mono ?_); rintro _ y6 ⟨rfl, hsq⟩; rw [HY.out.1, HY.out.2, HZ_e2.out]; have HS_y6 : Hid (Rit w y6 r G S [(w.heap.size, 33, plL xd xk), (y1.heap.size, 33, plL yd yk), (y3.heap.size, 43, secL s)]) := hide (hsq); clear hsq)
            | ((with_reducible refine at_slot 11 ?_); refine wpList_alloc_blk rfl 43 rfl _ (sec_zero _) ?_; intro y7 hbq hl1 hs1; clear hs1)
            | ((with_reducible refine at_store 11 ?_); refine wpList_store_all rfl 43 (.tmp 11) (.tmp 34) rfl y6.heap.size 43 _ hbq rfl (secL t) rfl (msec_size _) (msec_len _ _) (secL_one _) ?_; intro y8 hbz hg hs; have HS_y8 : Hid (Rit w y8 r G S [(w.heap.size, 33, plL xd xk), (y1.heap.size, 33, plL yd yk), (y3.heap.size, 43, secL s), (y6.heap.size, 43, secL t)]) := hide (HS_y6.out.new hl1 hg hbz); clear hs hbq hl1 hg hbz)
            | (go_at_call 65; refine (rlost_any 0 _).mono ?_; rintro _ _ ⟨rfl, rfl⟩)
            | ((with_reducible refine at_slot 54 ?_); refine when_own rfl (.tmp 8) rfl HS_y8.out.own 2 rfl rfl Try.underlying43 rfl (msec_size _) ?_)
            | ((with_reducible refine at_slot 55 ?_); refine when_own rfl (.tmp 11) rfl HS_y8.out.own 3 rfl rfl Try.underlying43 rfl (msec_size _) ?_)
            | ((with_reducible refine at_slot 56 ?_); refine when_eqS rfl (.tmp 54) (.tmp 55) _ rfl s t rfl rfl false (by simp [HST.out]) ?_)
            | ((with_reducible refine at_slot 59 ?_); refine when_own rfl (.tmp 5) rfl HS_y8.out.own 1 rfl rfl Try.underlying33 rfl mplace_info ?_)
            | ((with_reducible refine at_slot 60 ?_); refine when_own rfl (.tmp 8) rfl HS_y8.out.own 2 rfl rfl Try.underlying43 rfl (msec_size _) ?_)
            | (go_at_call 40; refine (HS_y8.out.write (by have := HWR.out; omega) (di := yd) (ki := yk) rfl rfl s).mono ?_; rintro _ y9 ⟨rfl, hsq⟩; rw [HC.out] at hsq; rw [HE3.out, HZ_e3.out]; have HS_y9 : Hid (Rit w y9 r G C [(w.heap.size, 33, plL xd xk), (y1.heap.size, 33, plL yd yk), (y3.heap.size, 43, secL s), (y6.heap.size, 43, secL t)]) := hide (hsq); clear hsq))
          go_wp2_with fail
          go_ret2
          rw [HR.out]
          exact ⟨rfl, HS_y9.out.fin HL.out⟩
        · have HN_e3 := hide hz_e3
          by_cases hl_e3 : lostB e3 = true
          · have HLO_e3 := hide (fun w => hl_e3 ▸ rlost_any e3 w)
            have HR := hide (show S.malike (nI xd) (nI xk) (nI yd) (nI yk) = ((false, 0), C) by rw [HMA.out, if_pos (Or.inl hz_e1), if_pos (Or.inl hz_e2), if_pos ⟨hz_e1, hz_e2⟩, if_neg hst, decide_eq_false hz_e3, if_pos hl_e3])
            clear hz_e1 hz_e2 hst hz_e3 hl_e3
            have NE_e3 := ne0 HN_e3.out
            obtain ⟨na_e3, nb_e3, nc_e3⟩ := NE_e3
            go_enter Try.func38, Try.ntmps38
            go_upto_region 5 with (first
              | ((with_reducible refine at_slot 4 ?_); refine wpList_box_blk rfl 33 _ rfl (.agg #[.int .i64 xd, .int .i64 xk]) rfl ?_; intro y1 hbq hl1 hs1; have HS_y1 : Hid (Rit w y1 r G S [(w.heap.size, 33, plL xd xk)]) := hide (HS_w.out.var hl1 (Nat.le_refl _) hbq); clear hbq hl1 hs1)
              | ((with_reducible refine at_slot 5 ?_); refine wpList_box_blk rfl 33 _ rfl (.agg #[.int .i64 yd, .int .i64 yk]) rfl ?_; intro y2 hbq hl1 hs1; have HS_y2 : Hid (Rit w y2 r G S [(w.heap.size, 33, plL xd xk), (y1.heap.size, 33, plL yd yk)]) := hide (HS_y1.out.var hl1 (Nat.le_refl _) hbq); clear hbq hl1 hs1)
              | ((with_reducible refine at_slot 17 ?_); refine when_own rfl (.tmp 4) rfl HS_y2.out.own 0 rfl rfl Try.underlying33 rfl mplace_info ?_)
              | (go_at_call 18; (with_reducible refine (HS_y2.out.read (di := xd) (ki := xk) rfl rfl).mono ?_); rintro _ y3 ⟨rfl, hsq⟩; rw [HX.out.1, HX.out.2, HZ_e1.out]; have HS_y3 : Hid (Rit w y3 r G S [(w.heap.size, 33, plL xd xk), (y1.heap.size, 33, plL yd yk)]) := hide (hsq); clear hsq)
              | ((with_reducible refine at_slot 8 ?_); refine wpList_alloc_blk rfl 43 rfl _ (sec_zero _) ?_; intro y4 hbq hl1 hs1; clear hs1)
              | ((with_reducible refine at_store 8 ?_); refine wpList_store_all rfl 43 (.tmp 8) (.tmp 19) rfl y3.heap.size 43 _ hbq rfl (secL s) rfl (msec_size _) (msec_len _ _) (secL_one _) ?_; intro y5 hbz hg hs; have HS_y5 : Hid (Rit w y5 r G S [(w.heap.size, 33, plL xd xk), (y1.heap.size, 33, plL yd yk), (y3.heap.size, 43, secL s)]) := hide (HS_y3.out.new hl1 hg hbz); clear hs hbq hl1 hg hbz)
              | (go_at_call 65; refine (rlost_any 0 _).mono ?_; rintro _ _ ⟨rfl, rfl⟩))
            go_upto_region 14 with (first
              | ((with_reducible refine at_slot 32 ?_); refine when_own rfl (.tmp 5) rfl HS_y5.out.own 1 rfl rfl Try.underlying33 rfl mplace_info ?_)
              | (go_at_call 18; (with_reducible refine (HS_y5.out.read (di := yd) (ki := yk) rfl rfl).mono ?_); rintro _ y6 ⟨rfl, hsq⟩; rw [HY.out.1, HY.out.2, HZ_e2.out]; have HS_y6 : Hid (Rit w y6 r G S [(w.heap.size, 33, plL xd xk), (y1.heap.size, 33, plL yd yk), (y3.heap.size, 43, secL s)]) := hide (hsq); clear hsq)
              | ((with_reducible refine at_slot 11 ?_); refine wpList_alloc_blk rfl 43 rfl _ (sec_zero _) ?_; intro y7 hbq hl1 hs1; clear hs1)
              | ((with_reducible refine at_store 11 ?_); refine wpList_store_all rfl 43 (.tmp 11) (.tmp 34) rfl y6.heap.size 43 _ hbq rfl (secL t) rfl (msec_size _) (msec_len _ _) (secL_one _) ?_; intro y8 hbz hg hs; have HS_y8 : Hid (Rit w y8 r G S [(w.heap.size, 33, plL xd xk), (y1.heap.size, 33, plL yd yk), (y3.heap.size, 43, secL s), (y6.heap.size, 43, secL t)]) := hide (HS_y6.out.new hl1 hg hbz); clear hs hbq hl1 hg hbz)
              | (go_at_call 65; refine (rlost_any 0 _).mono ?_; rintro _ _ ⟨rfl, rfl⟩)
              | ((with_reducible refine at_slot 54 ?_); refine when_own rfl (.tmp 8) rfl HS_y8.out.own 2 rfl rfl Try.underlying43 rfl (msec_size _) ?_)
              | ((with_reducible refine at_slot 55 ?_); refine when_own rfl (.tmp 11) rfl HS_y8.out.own 3 rfl rfl Try.underlying43 rfl (msec_size _) ?_)
              | ((with_reducible refine at_slot 56 ?_); refine when_eqS rfl (.tmp 54) (.tmp 55) _ rfl s t rfl rfl false (by simp [HST.out]) ?_)
              | ((with_reducible refine at_slot 59 ?_); refine when_own rfl (.tmp 5) rfl HS_y8.out.own 1 rfl rfl Try.underlying33 rfl mplace_info ?_)
              | ((with_reducible refine at_slot 60 ?_); refine when_own rfl (.tmp 8) rfl HS_y8.out.own 2 rfl rfl Try.underlying43 rfl (msec_size _) ?_)
              | (go_at_call 40; refine (HS_y8.out.write (by have := HWR.out; omega) (di := yd) (ki := yk) rfl rfl s).mono ?_; rintro _ y9 ⟨rfl, hsq⟩; rw [HC.out] at hsq; rw [HE3.out]; have HS_y9 : Hid (Rit w y9 r G C [(w.heap.size, 33, plL xd xk), (y1.heap.size, 33, plL yd yk), (y3.heap.size, 43, secL s), (y6.heap.size, 43, secL t)]) := hide (hsq); clear hsq))
            go_wp2_with (first
              | (go_at_call 65; (with_reducible refine (HLO_e3.out _).mono ?_); rintro _ _ ⟨rfl, rfl⟩))
            go_ret2
            rw [HR.out]
            exact ⟨rfl, HS_y9.out.fin HL.out⟩
          · have hf_e3 : lostB e3 = false := by simpa using hl_e3
            have HLO_e3 := hide (fun w => hf_e3 ▸ rlost_any e3 w)
            have HR := hide (show S.malike (nI xd) (nI xk) (nI yd) (nI yk) = ((false, e3), C) by rw [HMA.out, if_pos (Or.inl hz_e1), if_pos (Or.inl hz_e2), if_pos ⟨hz_e1, hz_e2⟩, if_neg hst, decide_eq_false hz_e3, if_neg hl_e3])
            clear hz_e1 hz_e2 hst hz_e3 hl_e3 hf_e3
            have NE_e3 := ne0 HN_e3.out
            obtain ⟨na_e3, nb_e3, nc_e3⟩ := NE_e3
            go_enter Try.func38, Try.ntmps38
            go_upto_region 5 with (first
              | ((with_reducible refine at_slot 4 ?_); refine wpList_box_blk rfl 33 _ rfl (.agg #[.int .i64 xd, .int .i64 xk]) rfl ?_; intro y1 hbq hl1 hs1; have HS_y1 : Hid (Rit w y1 r G S [(w.heap.size, 33, plL xd xk)]) := hide (HS_w.out.var hl1 (Nat.le_refl _) hbq); clear hbq hl1 hs1)
              | ((with_reducible refine at_slot 5 ?_); refine wpList_box_blk rfl 33 _ rfl (.agg #[.int .i64 yd, .int .i64 yk]) rfl ?_; intro y2 hbq hl1 hs1; have HS_y2 : Hid (Rit w y2 r G S [(w.heap.size, 33, plL xd xk), (y1.heap.size, 33, plL yd yk)]) := hide (HS_y1.out.var hl1 (Nat.le_refl _) hbq); clear hbq hl1 hs1)
              | ((with_reducible refine at_slot 17 ?_); refine when_own rfl (.tmp 4) rfl HS_y2.out.own 0 rfl rfl Try.underlying33 rfl mplace_info ?_)
              | (go_at_call 18; (with_reducible refine (HS_y2.out.read (di := xd) (ki := xk) rfl rfl).mono ?_); rintro _ y3 ⟨rfl, hsq⟩; rw [HX.out.1, HX.out.2, HZ_e1.out]; have HS_y3 : Hid (Rit w y3 r G S [(w.heap.size, 33, plL xd xk), (y1.heap.size, 33, plL yd yk)]) := hide (hsq); clear hsq)
              | ((with_reducible refine at_slot 8 ?_); refine wpList_alloc_blk rfl 43 rfl _ (sec_zero _) ?_; intro y4 hbq hl1 hs1; clear hs1)
              | ((with_reducible refine at_store 8 ?_); refine wpList_store_all rfl 43 (.tmp 8) (.tmp 19) rfl y3.heap.size 43 _ hbq rfl (secL s) rfl (msec_size _) (msec_len _ _) (secL_one _) ?_; intro y5 hbz hg hs; have HS_y5 : Hid (Rit w y5 r G S [(w.heap.size, 33, plL xd xk), (y1.heap.size, 33, plL yd yk), (y3.heap.size, 43, secL s)]) := hide (HS_y3.out.new hl1 hg hbz); clear hs hbq hl1 hg hbz)
              | (go_at_call 65; refine (rlost_any 0 _).mono ?_; rintro _ _ ⟨rfl, rfl⟩))
            go_upto_region 14 with (first
              | ((with_reducible refine at_slot 32 ?_); refine when_own rfl (.tmp 5) rfl HS_y5.out.own 1 rfl rfl Try.underlying33 rfl mplace_info ?_)
              | (go_at_call 18; (with_reducible refine (HS_y5.out.read (di := yd) (ki := yk) rfl rfl).mono ?_); rintro _ y6 ⟨rfl, hsq⟩; rw [HY.out.1, HY.out.2, HZ_e2.out]; have HS_y6 : Hid (Rit w y6 r G S [(w.heap.size, 33, plL xd xk), (y1.heap.size, 33, plL yd yk), (y3.heap.size, 43, secL s)]) := hide (hsq); clear hsq)
              | ((with_reducible refine at_slot 11 ?_); refine wpList_alloc_blk rfl 43 rfl _ (sec_zero _) ?_; intro y7 hbq hl1 hs1; clear hs1)
              | ((with_reducible refine at_store 11 ?_); refine wpList_store_all rfl 43 (.tmp 11) (.tmp 34) rfl y6.heap.size 43 _ hbq rfl (secL t) rfl (msec_size _) (msec_len _ _) (secL_one _) ?_; intro y8 hbz hg hs; have HS_y8 : Hid (Rit w y8 r G S [(w.heap.size, 33, plL xd xk), (y1.heap.size, 33, plL yd yk), (y3.heap.size, 43, secL s), (y6.heap.size, 43, secL t)]) := hide (HS_y6.out.new hl1 hg hbz); clear hs hbq hl1 hg hbz)
              | (go_at_call 65; refine (rlost_any 0 _).mono ?_; rintro _ _ ⟨rfl, rfl⟩)
              | ((with_reducible refine at_slot 54 ?_); refine when_own rfl (.tmp 8) rfl HS_y8.out.own 2 rfl rfl Try.underlying43 rfl (msec_size _) ?_)
              | ((with_reducible refine at_slot 55 ?_); refine when_own rfl (.tmp 11) rfl HS_y8.out.own 3 rfl rfl Try.underlying43 rfl (msec_size _) ?_)
              | ((with_reducible refine at_slot 56 ?_); refine when_eqS rfl (.tmp 54) (.tmp 55) _ rfl s t rfl rfl false (by simp [HST.out]) ?_)
              | ((with_reducible refine at_slot 59 ?_); refine when_own rfl (.tmp 5) rfl HS_y8.out.own 1 rfl rfl Try.underlying33 rfl mplace_info ?_)
              | ((with_reducible refine at_slot 60 ?_); refine when_own rfl (.tmp 8) rfl HS_y8.out.own 2 rfl rfl Try.underlying43 rfl (msec_size _) ?_)
              | (go_at_call 40; refine (HS_y8.out.write (by have := HWR.out; omega) (di := yd) (ki := yk) rfl rfl s).mono ?_; rintro _ y9 ⟨rfl, hsq⟩; rw [HC.out] at hsq; rw [HE3.out]; have HS_y9 : Hid (Rit w y9 r G C [(w.heap.size, 33, plL xd xk), (y1.heap.size, 33, plL yd yk), (y3.heap.size, 43, secL s), (y6.heap.size, 43, secL t)]) := hide (hsq); clear hsq))
            go_wp2_with (first
              | (go_at_call 65; (with_reducible refine (HLO_e3.out _).mono ?_); rintro _ _ ⟨rfl, rfl⟩))
            go_ret2
            rw [HR.out]
            exact ⟨rfl, HS_y9.out.fin HL.out⟩
    · have HN_e2 := hide hz_e2
      by_cases hl_e2 : lostB e2 = true
      · have HLO_e2 := hide (fun w => hl_e2 ▸ rlost_any e2 w)
        have HR := hide (show S.malike (nI xd) (nI xk) (nI yd) (nI yk) = ((false, 0), S) by rw [HMA.out, if_pos (Or.inl hz_e1), if_pos (Or.inr hl_e2), if_neg (fun q => hz_e2 q.2), if_pos (Or.inl hz_e1)])
        clear hz_e1 hz_e2 hl_e2
        have NE_e2 := ne0 HN_e2.out
        obtain ⟨na_e2, nb_e2, nc_e2⟩ := NE_e2
        go_enter Try.func38, Try.ntmps38
        go_upto_region 5 with (first
          | ((with_reducible refine at_slot 4 ?_); refine wpList_box_blk rfl 33 _ rfl (.agg #[.int .i64 xd, .int .i64 xk]) rfl ?_; intro y1 hbq hl1 hs1; have HS_y1 : Hid (Rit w y1 r G S [(w.heap.size, 33, plL xd xk)]) := hide (HS_w.out.var hl1 (Nat.le_refl _) hbq); clear hbq hl1 hs1)
          | ((with_reducible refine at_slot 5 ?_); refine wpList_box_blk rfl 33 _ rfl (.agg #[.int .i64 yd, .int .i64 yk]) rfl ?_; intro y2 hbq hl1 hs1; have HS_y2 : Hid (Rit w y2 r G S [(w.heap.size, 33, plL xd xk), (y1.heap.size, 33, plL yd yk)]) := hide (HS_y1.out.var hl1 (Nat.le_refl _) hbq); clear hbq hl1 hs1)
          | ((with_reducible refine at_slot 17 ?_); refine when_own rfl (.tmp 4) rfl HS_y2.out.own 0 rfl rfl Try.underlying33 rfl mplace_info ?_)
          | (go_at_call 18; (with_reducible refine (HS_y2.out.read (di := xd) (ki := xk) rfl rfl).mono ?_); rintro _ y3 ⟨rfl, hsq⟩; rw [HX.out.1, HX.out.2, HZ_e1.out]; have HS_y3 : Hid (Rit w y3 r G S [(w.heap.size, 33, plL xd xk), (y1.heap.size, 33, plL yd yk)]) := hide (hsq); clear hsq)
          | ((with_reducible refine at_slot 8 ?_); refine wpList_alloc_blk rfl 43 rfl _ (sec_zero _) ?_; intro y4 hbq hl1 hs1; clear hs1)
          | ((with_reducible refine at_store 8 ?_); refine wpList_store_all rfl 43 (.tmp 8) (.tmp 19) rfl y3.heap.size 43 _ hbq rfl (secL s) rfl (msec_size _) (msec_len _ _) (secL_one _) ?_; intro y5 hbz hg hs; have HS_y5 : Hid (Rit w y5 r G S [(w.heap.size, 33, plL xd xk), (y1.heap.size, 33, plL yd yk), (y3.heap.size, 43, secL s)]) := hide (HS_y3.out.new hl1 hg hbz); clear hs hbq hl1 hg hbz)
          | (go_at_call 65; refine (rlost_any 0 _).mono ?_; rintro _ _ ⟨rfl, rfl⟩))
        go_wp2_with (first
          | ((with_reducible refine at_slot 32 ?_); refine when_own rfl (.tmp 5) rfl HS_y5.out.own 1 rfl rfl Try.underlying33 rfl mplace_info ?_)
          | (go_at_call 18; (with_reducible refine (HS_y5.out.read (di := yd) (ki := yk) rfl rfl).mono ?_); rintro _ y6 ⟨rfl, hsq⟩; rw [HY.out.1, HY.out.2]; have HS_y6 : Hid (Rit w y6 r G S [(w.heap.size, 33, plL xd xk), (y1.heap.size, 33, plL yd yk), (y3.heap.size, 43, secL s)]) := hide (hsq); clear hsq)
          | ((with_reducible refine at_slot 11 ?_); refine wpList_alloc_blk rfl 43 rfl _ (sec_zero _) ?_; intro y7 hbq hl1 hs1; clear hs1)
          | ((with_reducible refine at_store 11 ?_); refine wpList_store_all rfl 43 (.tmp 11) (.tmp 34) rfl y6.heap.size 43 _ hbq rfl (secL t) rfl (msec_size _) (msec_len _ _) (secL_one _) ?_; intro y8 hbz hg hs; have HS_y8 : Hid (Rit w y8 r G S [(w.heap.size, 33, plL xd xk), (y1.heap.size, 33, plL yd yk), (y3.heap.size, 43, secL s), (y6.heap.size, 43, secL t)]) := hide (HS_y6.out.new hl1 hg hbz); clear hs hbq hl1 hg hbz)
          | (go_at_call 65; (with_reducible refine (HLO_e2.out _).mono ?_); rintro _ _ ⟨rfl, rfl⟩))
        go_ret2
        rw [HR.out]
        exact ⟨rfl, HS_y8.out.fin HL.out⟩
      · have hf_e2 : lostB e2 = false := by simpa using hl_e2
        have HLO_e2 := hide (fun w => hf_e2 ▸ rlost_any e2 w)
        have HR := hide (show S.malike (nI xd) (nI xk) (nI yd) (nI yk) = ((false, e2), S) by rw [HMA.out, if_pos (Or.inl hz_e1), if_neg (fun q => q.elim hz_e2 hl_e2)])
        clear hz_e1 hz_e2 hl_e2 hf_e2
        have NE_e2 := ne0 HN_e2.out
        obtain ⟨na_e2, nb_e2, nc_e2⟩ := NE_e2
        go_enter Try.func38, Try.ntmps38
        go_upto_region 5 with (first
          | ((with_reducible refine at_slot 4 ?_); refine wpList_box_blk rfl 33 _ rfl (.agg #[.int .i64 xd, .int .i64 xk]) rfl ?_; intro y1 hbq hl1 hs1; have HS_y1 : Hid (Rit w y1 r G S [(w.heap.size, 33, plL xd xk)]) := hide (HS_w.out.var hl1 (Nat.le_refl _) hbq); clear hbq hl1 hs1)
          | ((with_reducible refine at_slot 5 ?_); refine wpList_box_blk rfl 33 _ rfl (.agg #[.int .i64 yd, .int .i64 yk]) rfl ?_; intro y2 hbq hl1 hs1; have HS_y2 : Hid (Rit w y2 r G S [(w.heap.size, 33, plL xd xk), (y1.heap.size, 33, plL yd yk)]) := hide (HS_y1.out.var hl1 (Nat.le_refl _) hbq); clear hbq hl1 hs1)
          | ((with_reducible refine at_slot 17 ?_); refine when_own rfl (.tmp 4) rfl HS_y2.out.own 0 rfl rfl Try.underlying33 rfl mplace_info ?_)
          | (go_at_call 18; (with_reducible refine (HS_y2.out.read (di := xd) (ki := xk) rfl rfl).mono ?_); rintro _ y3 ⟨rfl, hsq⟩; rw [HX.out.1, HX.out.2, HZ_e1.out]; have HS_y3 : Hid (Rit w y3 r G S [(w.heap.size, 33, plL xd xk), (y1.heap.size, 33, plL yd yk)]) := hide (hsq); clear hsq)
          | ((with_reducible refine at_slot 8 ?_); refine wpList_alloc_blk rfl 43 rfl _ (sec_zero _) ?_; intro y4 hbq hl1 hs1; clear hs1)
          | ((with_reducible refine at_store 8 ?_); refine wpList_store_all rfl 43 (.tmp 8) (.tmp 19) rfl y3.heap.size 43 _ hbq rfl (secL s) rfl (msec_size _) (msec_len _ _) (secL_one _) ?_; intro y5 hbz hg hs; have HS_y5 : Hid (Rit w y5 r G S [(w.heap.size, 33, plL xd xk), (y1.heap.size, 33, plL yd yk), (y3.heap.size, 43, secL s)]) := hide (HS_y3.out.new hl1 hg hbz); clear hs hbq hl1 hg hbz)
          | (go_at_call 65; refine (rlost_any 0 _).mono ?_; rintro _ _ ⟨rfl, rfl⟩))
        go_wp2_with (first
          | ((with_reducible refine at_slot 32 ?_); refine when_own rfl (.tmp 5) rfl HS_y5.out.own 1 rfl rfl Try.underlying33 rfl mplace_info ?_)
          | (go_at_call 18; (with_reducible refine (HS_y5.out.read (di := yd) (ki := yk) rfl rfl).mono ?_); rintro _ y6 ⟨rfl, hsq⟩; rw [HY.out.1, HY.out.2]; have HS_y6 : Hid (Rit w y6 r G S [(w.heap.size, 33, plL xd xk), (y1.heap.size, 33, plL yd yk), (y3.heap.size, 43, secL s)]) := hide (hsq); clear hsq)
          | ((with_reducible refine at_slot 11 ?_); refine wpList_alloc_blk rfl 43 rfl _ (sec_zero _) ?_; intro y7 hbq hl1 hs1; clear hs1)
          | ((with_reducible refine at_store 11 ?_); refine wpList_store_all rfl 43 (.tmp 11) (.tmp 34) rfl y6.heap.size 43 _ hbq rfl (secL t) rfl (msec_size _) (msec_len _ _) (secL_one _) ?_; intro y8 hbz hg hs; have HS_y8 : Hid (Rit w y8 r G S [(w.heap.size, 33, plL xd xk), (y1.heap.size, 33, plL yd yk), (y3.heap.size, 43, secL s), (y6.heap.size, 43, secL t)]) := hide (HS_y6.out.new hl1 hg hbz); clear hs hbq hl1 hg hbz)
          | (go_at_call 65; (with_reducible refine (HLO_e2.out _).mono ?_); rintro _ _ ⟨rfl, rfl⟩))
        go_ret2
        rw [HR.out]
        exact ⟨rfl, HS_y8.out.fin HL.out⟩
  · have HN_e1 := hide hz_e1
    by_cases hl_e1 : lostB e1 = true
    · have HLO_e1 := hide (fun w => hl_e1 ▸ rlost_any e1 w)
      by_cases hz_e2 : e2 = 0
      · have HZ_e2 := hide hz_e2
        have HR := hide (show S.malike (nI xd) (nI xk) (nI yd) (nI yk) = ((false, 0), S) by rw [HMA.out, if_pos (Or.inr hl_e1), if_pos (Or.inl hz_e2), if_neg (fun q => hz_e1 q.1), if_pos (Or.inr hz_e2)])
        clear hz_e1 hl_e1 hz_e2
        have NE_e1 := ne0 HN_e1.out
        obtain ⟨na_e1, nb_e1, nc_e1⟩ := NE_e1
        go_enter Try.func38, Try.ntmps38
        go_upto_region 5 with (first
          | ((with_reducible refine at_slot 4 ?_); refine wpList_box_blk rfl 33 _ rfl (.agg #[.int .i64 xd, .int .i64 xk]) rfl ?_; intro y1 hbq hl1 hs1; have HS_y1 : Hid (Rit w y1 r G S [(w.heap.size, 33, plL xd xk)]) := hide (HS_w.out.var hl1 (Nat.le_refl _) hbq); clear hbq hl1 hs1)
          | ((with_reducible refine at_slot 5 ?_); refine wpList_box_blk rfl 33 _ rfl (.agg #[.int .i64 yd, .int .i64 yk]) rfl ?_; intro y2 hbq hl1 hs1; have HS_y2 : Hid (Rit w y2 r G S [(w.heap.size, 33, plL xd xk), (y1.heap.size, 33, plL yd yk)]) := hide (HS_y1.out.var hl1 (Nat.le_refl _) hbq); clear hbq hl1 hs1)
          | ((with_reducible refine at_slot 17 ?_); refine when_own rfl (.tmp 4) rfl HS_y2.out.own 0 rfl rfl Try.underlying33 rfl mplace_info ?_)
          | (go_at_call 18; (with_reducible refine (HS_y2.out.read (di := xd) (ki := xk) rfl rfl).mono ?_); rintro _ y3 ⟨rfl, hsq⟩; rw [HX.out.1, HX.out.2]; have HS_y3 : Hid (Rit w y3 r G S [(w.heap.size, 33, plL xd xk), (y1.heap.size, 33, plL yd yk)]) := hide (hsq); clear hsq)
          | ((with_reducible refine at_slot 8 ?_); refine wpList_alloc_blk rfl 43 rfl _ (sec_zero _) ?_; intro y4 hbq hl1 hs1; clear hs1)
          | ((with_reducible refine at_store 8 ?_); refine wpList_store_all rfl 43 (.tmp 8) (.tmp 19) rfl y3.heap.size 43 _ hbq rfl (secL s) rfl (msec_size _) (msec_len _ _) (secL_one _) ?_; intro y5 hbz hg hs; have HS_y5 : Hid (Rit w y5 r G S [(w.heap.size, 33, plL xd xk), (y1.heap.size, 33, plL yd yk), (y3.heap.size, 43, secL s)]) := hide (HS_y3.out.new hl1 hg hbz); clear hs hbq hl1 hg hbz)
          | (go_at_call 65; (with_reducible refine (HLO_e1.out _).mono ?_); rintro _ _ ⟨rfl, rfl⟩))
        go_wp2_with (first
          | ((with_reducible refine at_slot 32 ?_); refine when_own rfl (.tmp 5) rfl HS_y5.out.own 1 rfl rfl Try.underlying33 rfl mplace_info ?_)
          | (go_at_call 18; (with_reducible refine (HS_y5.out.read (di := yd) (ki := yk) rfl rfl).mono ?_); rintro _ y6 ⟨rfl, hsq⟩; rw [HY.out.1, HY.out.2, HZ_e2.out]; have HS_y6 : Hid (Rit w y6 r G S [(w.heap.size, 33, plL xd xk), (y1.heap.size, 33, plL yd yk), (y3.heap.size, 43, secL s)]) := hide (hsq); clear hsq)
          | ((with_reducible refine at_slot 11 ?_); refine wpList_alloc_blk rfl 43 rfl _ (sec_zero _) ?_; intro y7 hbq hl1 hs1; clear hs1)
          | ((with_reducible refine at_store 11 ?_); refine wpList_store_all rfl 43 (.tmp 11) (.tmp 34) rfl y6.heap.size 43 _ hbq rfl (secL t) rfl (msec_size _) (msec_len _ _) (secL_one _) ?_; intro y8 hbz hg hs; have HS_y8 : Hid (Rit w y8 r G S [(w.heap.size, 33, plL xd xk), (y1.heap.size, 33, plL yd yk), (y3.heap.size, 43, secL s), (y6.heap.size, 43, secL t)]) := hide (HS_y6.out.new hl1 hg hbz); clear hs hbq hl1 hg hbz)
          | (go_at_call 65; refine (rlost_any 0 _).mono ?_; rintro _ _ ⟨rfl, rfl⟩))
        go_ret2
        rw [HR.out]
        exact ⟨rfl, HS_y8.out.fin HL.out⟩
      · have HN_e2 := hide hz_e2
        by_cases hl_e2 : lostB e2 = true
        · have HLO_e2 := hide (fun w => hl_e2 ▸ rlost_any e2 w)
          have HR := hide (show S.malike (nI xd) (nI xk) (nI yd) (nI yk) = ((false, 5), S) by rw [HMA.out, if_pos (Or.inr hl_e1), if_pos (Or.inr hl_e2), if_neg (fun q => hz_e1 q.1), if_neg (fun q => q.elim hz_e1 hz_e2)])
          clear hz_e1 hl_e1 hz_e2 hl_e2
          have NE_e1 := ne0 HN_e1.out
          obtain ⟨na_e1, nb_e1, nc_e1⟩ := NE_e1
          have NE_e2 := ne0 HN_e2.out
          obtain ⟨na_e2, nb_e2, nc_e2⟩ := NE_e2
          go_enter Try.func38, Try.ntmps38
          go_upto_region 5 with (first
            | ((with_reducible refine at_slot 4 ?_); refine wpList_box_blk rfl 33 _ rfl (.agg #[.int .i64 xd, .int .i64 xk]) rfl ?_; intro y1 hbq hl1 hs1; have HS_y1 : Hid (Rit w y1 r G S [(w.heap.size, 33, plL xd xk)]) := hide (HS_w.out.var hl1 (Nat.le_refl _) hbq); clear hbq hl1 hs1)
            | ((with_reducible refine at_slot 5 ?_); refine wpList_box_blk rfl 33 _ rfl (.agg #[.int .i64 yd, .int .i64 yk]) rfl ?_; intro y2 hbq hl1 hs1; have HS_y2 : Hid (Rit w y2 r G S [(w.heap.size, 33, plL xd xk), (y1.heap.size, 33, plL yd yk)]) := hide (HS_y1.out.var hl1 (Nat.le_refl _) hbq); clear hbq hl1 hs1)
            | ((with_reducible refine at_slot 17 ?_); refine when_own rfl (.tmp 4) rfl HS_y2.out.own 0 rfl rfl Try.underlying33 rfl mplace_info ?_)
            | (go_at_call 18; (with_reducible refine (HS_y2.out.read (di := xd) (ki := xk) rfl rfl).mono ?_); rintro _ y3 ⟨rfl, hsq⟩; rw [HX.out.1, HX.out.2]; have HS_y3 : Hid (Rit w y3 r G S [(w.heap.size, 33, plL xd xk), (y1.heap.size, 33, plL yd yk)]) := hide (hsq); clear hsq)
            | ((with_reducible refine at_slot 8 ?_); refine wpList_alloc_blk rfl 43 rfl _ (sec_zero _) ?_; intro y4 hbq hl1 hs1; clear hs1)
            | ((with_reducible refine at_store 8 ?_); refine wpList_store_all rfl 43 (.tmp 8) (.tmp 19) rfl y3.heap.size 43 _ hbq rfl (secL s) rfl (msec_size _) (msec_len _ _) (secL_one _) ?_; intro y5 hbz hg hs; have HS_y5 : Hid (Rit w y5 r G S [(w.heap.size, 33, plL xd xk), (y1.heap.size, 33, plL yd yk), (y3.heap.size, 43, secL s)]) := hide (HS_y3.out.new hl1 hg hbz); clear hs hbq hl1 hg hbz)
            | (go_at_call 65; (with_reducible refine (HLO_e1.out _).mono ?_); rintro _ _ ⟨rfl, rfl⟩))
          go_wp2_with (first
            | ((with_reducible refine at_slot 32 ?_); refine when_own rfl (.tmp 5) rfl HS_y5.out.own 1 rfl rfl Try.underlying33 rfl mplace_info ?_)
            | (go_at_call 18; (with_reducible refine (HS_y5.out.read (di := yd) (ki := yk) rfl rfl).mono ?_); rintro _ y6 ⟨rfl, hsq⟩; rw [HY.out.1, HY.out.2]; have HS_y6 : Hid (Rit w y6 r G S [(w.heap.size, 33, plL xd xk), (y1.heap.size, 33, plL yd yk), (y3.heap.size, 43, secL s)]) := hide (hsq); clear hsq)
            | ((with_reducible refine at_slot 11 ?_); refine wpList_alloc_blk rfl 43 rfl _ (sec_zero _) ?_; intro y7 hbq hl1 hs1; clear hs1)
            | ((with_reducible refine at_store 11 ?_); refine wpList_store_all rfl 43 (.tmp 11) (.tmp 34) rfl y6.heap.size 43 _ hbq rfl (secL t) rfl (msec_size _) (msec_len _ _) (secL_one _) ?_; intro y8 hbz hg hs; have HS_y8 : Hid (Rit w y8 r G S [(w.heap.size, 33, plL xd xk), (y1.heap.size, 33, plL yd yk), (y3.heap.size, 43, secL s), (y6.heap.size, 43, secL t)]) := hide (HS_y6.out.new hl1 hg hbz); clear hs hbq hl1 hg hbz)
            | (go_at_call 65; (with_reducible refine (HLO_e2.out _).mono ?_); rintro _ _ ⟨rfl, rfl⟩))
          go_ret2
          rw [HR.out]
          exact ⟨rfl, HS_y8.out.fin HL.out⟩
        · have hf_e2 : lostB e2 = false := by simpa using hl_e2
          have HLO_e2 := hide (fun w => hf_e2 ▸ rlost_any e2 w)
          have HR := hide (show S.malike (nI xd) (nI xk) (nI yd) (nI yk) = ((false, e2), S) by rw [HMA.out, if_pos (Or.inr hl_e1), if_neg (fun q => q.elim hz_e2 hl_e2)])
          clear hz_e1 hl_e1 hz_e2 hl_e2 hf_e2
          have NE_e1 := ne0 HN_e1.out
          obtain ⟨na_e1, nb_e1, nc_e1⟩ := NE_e1
          have NE_e2 := ne0 HN_e2.out
          obtain ⟨na_e2, nb_e2, nc_e2⟩ := NE_e2
          go_enter Try.func38, Try.ntmps38
          go_upto_region 5 with (first
            | ((with_reducible refine at_slot 4 ?_); refine wpList_box_blk rfl 33 _ rfl (.agg #[.int .i64 xd, .int .i64 xk]) rfl ?_; intro y1 hbq hl1 hs1; have HS_y1 : Hid (Rit w y1 r G S [(w.heap.size, 33, plL xd xk)]) := hide (HS_w.out.var hl1 (Nat.le_refl _) hbq); clear hbq hl1 hs1)
            | ((with_reducible refine at_slot 5 ?_); refine wpList_box_blk rfl 33 _ rfl (.agg #[.int .i64 yd, .int .i64 yk]) rfl ?_; intro y2 hbq hl1 hs1; have HS_y2 : Hid (Rit w y2 r G S [(w.heap.size, 33, plL xd xk), (y1.heap.size, 33, plL yd yk)]) := hide (HS_y1.out.var hl1 (Nat.le_refl _) hbq); clear hbq hl1 hs1)
            | ((with_reducible refine at_slot 17 ?_); refine when_own rfl (.tmp 4) rfl HS_y2.out.own 0 rfl rfl Try.underlying33 rfl mplace_info ?_)
            | (go_at_call 18; (with_reducible refine (HS_y2.out.read (di := xd) (ki := xk) rfl rfl).mono ?_); rintro _ y3 ⟨rfl, hsq⟩; rw [HX.out.1, HX.out.2]; have HS_y3 : Hid (Rit w y3 r G S [(w.heap.size, 33, plL xd xk), (y1.heap.size, 33, plL yd yk)]) := hide (hsq); clear hsq)
            | ((with_reducible refine at_slot 8 ?_); refine wpList_alloc_blk rfl 43 rfl _ (sec_zero _) ?_; intro y4 hbq hl1 hs1; clear hs1)
            | ((with_reducible refine at_store 8 ?_); refine wpList_store_all rfl 43 (.tmp 8) (.tmp 19) rfl y3.heap.size 43 _ hbq rfl (secL s) rfl (msec_size _) (msec_len _ _) (secL_one _) ?_; intro y5 hbz hg hs; have HS_y5 : Hid (Rit w y5 r G S [(w.heap.size, 33, plL xd xk), (y1.heap.size, 33, plL yd yk), (y3.heap.size, 43, secL s)]) := hide (HS_y3.out.new hl1 hg hbz); clear hs hbq hl1 hg hbz)
            | (go_at_call 65; (with_reducible refine (HLO_e1.out _).mono ?_); rintro _ _ ⟨rfl, rfl⟩))
          go_wp2_with (first
            | ((with_reducible refine at_slot 32 ?_); refine when_own rfl (.tmp 5) rfl HS_y5.out.own 1 rfl rfl Try.underlying33 rfl mplace_info ?_)
            | (go_at_call 18; (with_reducible refine (HS_y5.out.read (di := yd) (ki := yk) rfl rfl).mono ?_); rintro _ y6 ⟨rfl, hsq⟩; rw [HY.out.1, HY.out.2]; have HS_y6 : Hid (Rit w y6 r G S [(w.heap.size, 33, plL xd xk), (y1.heap.size, 33, plL yd yk), (y3.heap.size, 43, secL s)]) := hide (hsq); clear hsq)
            | ((with_reducible refine at_slot 11 ?_); refine wpList_alloc_blk rfl 43 rfl _ (sec_zero _) ?_; intro y7 hbq hl1 hs1; clear hs1)
            | ((with_reducible refine at_store 11 ?_); refine wpList_store_all rfl 43 (.tmp 11) (.tmp 34) rfl y6.heap.size 43 _ hbq rfl (secL t) rfl (msec_size _) (msec_len _ _) (secL_one _) ?_; intro y8 hbz hg hs; have HS_y8 : Hid (Rit w y8 r G S [(w.heap.size, 33, plL xd xk), (y1.heap.size, 33, plL yd yk), (y3.heap.size, 43, secL s), (y6.heap.size, 43, secL t)]) := hide (HS_y6.out.new hl1 hg hbz); clear hs hbq hl1 hg hbz)
            | (go_at_call 65; (with_reducible refine (HLO_e2.out _).mono ?_); rintro _ _ ⟨rfl, rfl⟩))
          go_ret2
          rw [HR.out]
          exact ⟨rfl, HS_y8.out.fin HL.out⟩
    · have hf_e1 : lostB e1 = false := by simpa using hl_e1
      have HLO_e1 := hide (fun w => hf_e1 ▸ rlost_any e1 w)
      have HR := hide (show S.malike (nI xd) (nI xk) (nI yd) (nI yk) = ((false, e1), S) from HMA.out.trans (if_neg (fun q => q.elim hz_e1 hl_e1)))
      clear hz_e1 hl_e1 hf_e1
      have NE_e1 := ne0 HN_e1.out
      obtain ⟨na_e1, nb_e1, nc_e1⟩ := NE_e1
      go_enter Try.func38, Try.ntmps38
      go_wp2_with (first
        | ((with_reducible refine at_slot 4 ?_); refine wpList_box_blk rfl 33 _ rfl (.agg #[.int .i64 xd, .int .i64 xk]) rfl ?_; intro y1 hbq hl1 hs1; have HS_y1 : Hid (Rit w y1 r G S [(w.heap.size, 33, plL xd xk)]) := hide (HS_w.out.var hl1 (Nat.le_refl _) hbq); clear hbq hl1 hs1)
        | ((with_reducible refine at_slot 5 ?_); refine wpList_box_blk rfl 33 _ rfl (.agg #[.int .i64 yd, .int .i64 yk]) rfl ?_; intro y2 hbq hl1 hs1; have HS_y2 : Hid (Rit w y2 r G S [(w.heap.size, 33, plL xd xk), (y1.heap.size, 33, plL yd yk)]) := hide (HS_y1.out.var hl1 (Nat.le_refl _) hbq); clear hbq hl1 hs1)
        | ((with_reducible refine at_slot 17 ?_); refine when_own rfl (.tmp 4) rfl HS_y2.out.own 0 rfl rfl Try.underlying33 rfl mplace_info ?_)
        | (go_at_call 18; (with_reducible refine (HS_y2.out.read (di := xd) (ki := xk) rfl rfl).mono ?_); rintro _ y3 ⟨rfl, hsq⟩; rw [HX.out.1, HX.out.2]; have HS_y3 : Hid (Rit w y3 r G S [(w.heap.size, 33, plL xd xk), (y1.heap.size, 33, plL yd yk)]) := hide (hsq); clear hsq)
        | ((with_reducible refine at_slot 8 ?_); refine wpList_alloc_blk rfl 43 rfl _ (sec_zero _) ?_; intro y4 hbq hl1 hs1; clear hs1)
        | ((with_reducible refine at_store 8 ?_); refine wpList_store_all rfl 43 (.tmp 8) (.tmp 19) rfl y3.heap.size 43 _ hbq rfl (secL s) rfl (msec_size _) (msec_len _ _) (secL_one _) ?_; intro y5 hbz hg hs; have HS_y5 : Hid (Rit w y5 r G S [(w.heap.size, 33, plL xd xk), (y1.heap.size, 33, plL yd yk), (y3.heap.size, 43, secL s)]) := hide (HS_y3.out.new hl1 hg hbz); clear hs hbq hl1 hg hbz)
        | (go_at_call 65; (with_reducible refine (HLO_e1.out _).mono ?_); rintro _ _ ⟨rfl, rfl⟩))
      go_ret2
      rw [HR.out]
      exact ⟨rfl, HS_y5.out.fin HL.out⟩
end
#print axioms rmwrite_any
#print axioms rmread_any
#print axioms rmcopy_any
#print axioms rmalike_any
end Go.Proofs.Ytgfbndmdndpelaa
