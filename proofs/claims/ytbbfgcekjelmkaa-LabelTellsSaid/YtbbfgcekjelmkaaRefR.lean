/- What the reference's Right answers: the same, over whatever label comes in. -/
import Derived.Test.YtbbfgcekjelmkaaTold
import Derived.Test.YtbbfgcekjelmkaaCut
namespace Go.Proofs.Ytbbfgcekjelmkaa
open Go.RowKit

theorem rightB_cut {l : Lab} (h1 : inB l.array 0 4294967295 = true) (h2 : inB l.gen 1 4294967295 = true) (h3 : inB l.blocks 1 96 = true) : rightB l = (membersB l.members && ownB l.members l.member) := by
  rw [rightB, h1, h2, h3]
  rfl
set_option maxRecDepth 100000 in
set_option maxHeartbeats 16000000 in
theorem refRight_any (l : Lab) (A : Option Addr) (n c : Nat) (B0 : Nat) (w : World) (hr : MbIn w B0 A n c l.members) (hB0 : B0 ≤ w.heap.size) :
    Calls Try.prog 18 #[labV l A n c] w fun e w' => e = .returned (.bool (rightB l)) ∧ Below w.heap.size w w' := by
  have HR := hide hr
  have HLen := hide hr.len
  have hnc := hr.2
  clear hr
  cases d0 : decide (l.array < 0) with
  | true =>
    have H := hide (show rightB l = false by
      have h : inB l.array 0 4294967295 = false := inB_no.2 (fun h => by have := of_decide_eq_true d0; omega)
      simp [rightB, h])
    go_enter Try.func18, Try.ntmps18
    go_wp2_with (first
      | (refine wpList_box_blk rfl 24 _ rfl (.agg (labC l A n c).toArray) rfl ?_; intro w1 hb1q hl1 hs1; clear hs1; have hb1 : Blk w1 w.heap.size 24 (labC l A n c).toArray := hb1q; clear hb1q; have y0 := lab_c0 hb1; have y1 := lab_c1 hb1; have y2 := lab_c2 hb1; have y3 := lab_c3 hb1; have y4 := lab_c4 hb1))
    go_ret
    exact ⟨ret_b H.out.symm, hl1⟩
  | false =>
    cases d1 : decide ((4294967295 : Int) < l.array) with
    | true =>
      have H := hide (show rightB l = false by
        have h : inB l.array 0 4294967295 = false := inB_no.2 (fun h => by have := of_decide_eq_true d1; omega)
        simp [rightB, h])
      go_enter Try.func18, Try.ntmps18
      go_wp2_with (first
        | (refine wpList_box_blk rfl 24 _ rfl (.agg (labC l A n c).toArray) rfl ?_; intro w1 hb1q hl1 hs1; clear hs1; have hb1 : Blk w1 w.heap.size 24 (labC l A n c).toArray := hb1q; clear hb1q; have y0 := lab_c0 hb1; have y1 := lab_c1 hb1; have y2 := lab_c2 hb1; have y3 := lab_c3 hb1; have y4 := lab_c4 hb1))
      go_ret
      exact ⟨ret_b H.out.symm, hl1⟩
    | false =>
      cases d2 : decide (l.gen < 1) with
      | true =>
        have H := hide (show rightB l = false by
          have h : inB l.gen 1 4294967295 = false := inB_no.2 (fun h => by have := of_decide_eq_true d2; omega)
          simp [rightB, h])
        go_enter Try.func18, Try.ntmps18
        go_wp2_with (first
          | (refine wpList_box_blk rfl 24 _ rfl (.agg (labC l A n c).toArray) rfl ?_; intro w1 hb1q hl1 hs1; clear hs1; have hb1 : Blk w1 w.heap.size 24 (labC l A n c).toArray := hb1q; clear hb1q; have y0 := lab_c0 hb1; have y1 := lab_c1 hb1; have y2 := lab_c2 hb1; have y3 := lab_c3 hb1; have y4 := lab_c4 hb1))
        go_ret
        exact ⟨ret_b H.out.symm, hl1⟩
      | false =>
        cases d3 : decide ((4294967295 : Int) < l.gen) with
        | true =>
          have H := hide (show rightB l = false by
            have h : inB l.gen 1 4294967295 = false := inB_no.2 (fun h => by have := of_decide_eq_true d3; omega)
            simp [rightB, h])
          go_enter Try.func18, Try.ntmps18
          go_wp2_with (first
            | (refine wpList_box_blk rfl 24 _ rfl (.agg (labC l A n c).toArray) rfl ?_; intro w1 hb1q hl1 hs1; clear hs1; have hb1 : Blk w1 w.heap.size 24 (labC l A n c).toArray := hb1q; clear hb1q; have y0 := lab_c0 hb1; have y1 := lab_c1 hb1; have y2 := lab_c2 hb1; have y3 := lab_c3 hb1; have y4 := lab_c4 hb1))
          go_ret
          exact ⟨ret_b H.out.symm, hl1⟩
        | false =>
          cases d4 : decide (l.blocks < 1) with
          | true =>
            have H := hide (show rightB l = false by
              have h : inB l.blocks 1 96 = false := inB_no.2 (fun h => by have := of_decide_eq_true d4; omega)
              simp [rightB, h])
            go_enter Try.func18, Try.ntmps18
            go_wp2_with (first
              | (refine wpList_box_blk rfl 24 _ rfl (.agg (labC l A n c).toArray) rfl ?_; intro w1 hb1q hl1 hs1; clear hs1; have hb1 : Blk w1 w.heap.size 24 (labC l A n c).toArray := hb1q; clear hb1q; have y0 := lab_c0 hb1; have y1 := lab_c1 hb1; have y2 := lab_c2 hb1; have y3 := lab_c3 hb1; have y4 := lab_c4 hb1))
            go_ret
            exact ⟨ret_b H.out.symm, hl1⟩
          | false =>
            cases d5 : decide ((96 : Int) < l.blocks) with
            | true =>
              have H := hide (show rightB l = false by
                have h : inB l.blocks 1 96 = false := inB_no.2 (fun h => by have := of_decide_eq_true d5; omega)
                simp [rightB, h])
              go_enter Try.func18, Try.ntmps18
              go_wp2_with (first
                | (refine wpList_box_blk rfl 24 _ rfl (.agg (labC l A n c).toArray) rfl ?_; intro w1 hb1q hl1 hs1; clear hs1; have hb1 : Blk w1 w.heap.size 24 (labC l A n c).toArray := hb1q; clear hb1q; have y0 := lab_c0 hb1; have y1 := lab_c1 hb1; have y2 := lab_c2 hb1; have y3 := lab_c3 hb1; have y4 := lab_c4 hb1))
              go_ret
              exact ⟨ret_b H.out.symm, hl1⟩
            | false =>
              cases d6 : decide ((n : Int) < 3) with
              | true =>
                have H := hide (show rightB l = false by
                  have h : membersB l.members = false := by
                    have h : inB (l.members.length : Int) 3 12 = false := inB_no.2 (fun h => by have := of_decide_eq_true d6; have := HLen.out; omega)
                    rw [membersB, h]
                    rfl
                  simp [rightB, h])
                go_enter Try.func18, Try.ntmps18
                go_wp2_with (first
                  | (refine wpList_box_blk rfl 24 _ rfl (.agg (labC l A n c).toArray) rfl ?_; intro w1 hb1q hl1 hs1; clear hs1; have hb1 : Blk w1 w.heap.size 24 (labC l A n c).toArray := hb1q; clear hb1q; have y0 := lab_c0 hb1; have y1 := lab_c1 hb1; have y2 := lab_c2 hb1; have y3 := lab_c3 hb1; have y4 := lab_c4 hb1))
                go_ret
                exact ⟨ret_b H.out.symm, hl1⟩
              | false =>
                cases d7 : decide ((12 : Int) < (n : Int)) with
                | true =>
                  have H := hide (show rightB l = false by
                    have h : membersB l.members = false := by
                      have h : inB (l.members.length : Int) 3 12 = false := inB_no.2 (fun h => by have := of_decide_eq_true d7; have := HLen.out; omega)
                      rw [membersB, h]
                      rfl
                    simp [rightB, h])
                  go_enter Try.func18, Try.ntmps18
                  go_wp2_with (first
                    | (refine wpList_box_blk rfl 24 _ rfl (.agg (labC l A n c).toArray) rfl ?_; intro w1 hb1q hl1 hs1; clear hs1; have hb1 : Blk w1 w.heap.size 24 (labC l A n c).toArray := hb1q; clear hb1q; have y0 := lab_c0 hb1; have y1 := lab_c1 hb1; have y2 := lab_c2 hb1; have y3 := lab_c3 hb1; have y4 := lab_c4 hb1))
                  go_ret
                  exact ⟨ret_b H.out.symm, hl1⟩
                | false =>
                  have k1 : inB l.array 0 4294967295 = true := inB_iff.2 ⟨by have := of_decide_eq_false d0; omega, by have := of_decide_eq_false d1; omega⟩
                  have k2 : inB l.gen 1 4294967295 = true := inB_iff.2 ⟨by have := of_decide_eq_false d2; omega, by have := of_decide_eq_false d3; omega⟩
                  have k3 : inB l.blocks 1 96 = true := inB_iff.2 ⟨by have := of_decide_eq_false d4; omega, by have := of_decide_eq_false d5; omega⟩
                  have k4 : inB (l.members.length : Int) 3 12 = true := inB_iff.2 ⟨by have := of_decide_eq_false d6; have := HLen.out; omega, by have := of_decide_eq_false d7; have := HLen.out; omega⟩
                  have HRB := hide (rightB_cut k1 k2 k3)
                  have HT0 := hide (told_zero l.members l.member)
                  rw [k4] at HT0
                  clear k1 k2 k3 k4
                  go_enter Try.func18, Try.ntmps18
                  go_wp2_with (first
                    | (refine wpList_box_blk rfl 24 _ rfl (.agg (labC l A n c).toArray) rfl ?_; intro w1 hb1q hl1 hs1; clear hs1; have hb1 : Blk w1 w.heap.size 24 (labC l A n c).toArray := hb1q; clear hb1q; have y0 := lab_c0 hb1; have y1 := lab_c1 hb1; have y2 := lab_c2 hb1; have y3 := lab_c3 hb1; have y4 := lab_c4 hb1))
                  have HB1 := hide hb1
                  have HM1 := hide (HR.out.below (hl1.mono hB0))
                  have hz1 := hb1.lt
                  clear hb1 y0 y1 y2 y3 y4
                  go_loopw [3, 4, 5] (fun s3 s4 _ wr => ∃ (k : Nat) (yes : Bool), k ≤ n ∧ s4 = .int .i64 (k : Int) ∧ s3 = .bool yes ∧ Hid (Told l.members l.member k true yes) ∧ Hid (Below w1.heap.size w1 wr)) (fun _ s4 _ _ => n - (intOf s4).toNat)
                  case atStart => exact ⟨0, _, Nat.zero_le _, rfl, rfl, HT0, hide (Below.refl _ _)⟩
                  case round =>
                    obtain ⟨k, yes, hk, rfl, rfl, HT, hb3⟩ := hrel
                    have HBr := hide (HB1.out.below hb3.out hz1)
                    have y4 := lab_c4 HBr.out
                    have hz3 := hb3.out.size
                    by_cases hkn : k < n
                    · obtain ⟨ad, mb, rfl, hab, hmk, hcs⟩ := (HM1.out.below (hb3.out.mono (by omega))).at_ hkn
                      have HS := hide hcs
                      have HMK := hide hmk
                      clear hmk hcs
                      cases e0 : decide (mb.1 < 0) with
                      | true =>
                        have HN := hide (show rightB l = false by
                          have h := (HT.out.no HMK.out (fun _ h => by have := HT.out.low rfl; have := of_decide_eq_true e0; omega)).right
                          rw [HRB.out, h]
                          rfl)
                        go_wp2_with (first
                          | (refine wpList_load_at rfl 62 (.tmp 56) rfl (ad.add (k * 3)) rfl (mbC mb) _ HS.out Try.underlying62 rfl mb_info ?_)
                          | (refine wpList_alloc_blk rfl 62 rfl _ (mb_zero _) ?_; intro w5 ha5 hl5 hs5; clear hs5)
                          | (refine wpList_store_all rfl 62 (.tmp 5) (.tmp 57) rfl wr.heap.size 62 _ ha5 rfl (mbC mb) rfl mb_info rfl (mbC_one _) ?_; intro w6 hc6 hg6 hs6; clear hs6))
                        have hl6 : Below wr.heap.size wr w6 := hl5.grown hg6 (by have := hl5.size; omega) (fun g e => by injection e with e; omega)
                        have x0 : w6.cell? ⟨wr.heap.size, 0, none⟩ = some (.int .i64 mb.1) := hc6.cell 0
                        have x1 : w6.cell? ⟨wr.heap.size, 1, none⟩ = some (.int .i64 mb.2.1) := hc6.cell 1
                        have x2 : w6.cell? ⟨wr.heap.size, 2, none⟩ = some (.int .i64 mb.2.2) := hc6.cell 2
                        have HB6 := hide (HBr.out.below hl6 (by omega))
                        have z4 := lab_c4 HB6.out
                        have z2 := lab_c2 HB6.out
                        have HL6 := hide (hb3.out.trans (hl6.mono hz3))
                        clear hc6 hg6 ha5 hl5 y4
                        simp only [Act.put, List.setIfInBounds_toArray, List.set_cons_succ, List.set_cons_zero]
                        refine wp_region_quiet_lit (by kernel_rfl) (by kernel_rfl) ?_
                        iterate 44 (go_big_quiet_step (fail))
                        refine wpQuiet_nil ?_
                        rintro w7 ⟨q1, rfl⟩
                        go_wp2
                        go_ret
                        exact ⟨ret_b HN.out.symm, hl1.trans ((below_drewN HL6.out _).mono (by omega))⟩
                      | false =>
                        cases e1 : decide ((31 : Int) < mb.1) with
                        | true =>
                          have HN := hide (show rightB l = false by
                            have h := (HT.out.no HMK.out (fun _ h => by have := of_decide_eq_true e1; omega)).right
                            rw [HRB.out, h]
                            rfl)
                          go_wp2_with (first
                            | (refine wpList_load_at rfl 62 (.tmp 56) rfl (ad.add (k * 3)) rfl (mbC mb) _ HS.out Try.underlying62 rfl mb_info ?_)
                            | (refine wpList_alloc_blk rfl 62 rfl _ (mb_zero _) ?_; intro w5 ha5 hl5 hs5; clear hs5)
                            | (refine wpList_store_all rfl 62 (.tmp 5) (.tmp 57) rfl wr.heap.size 62 _ ha5 rfl (mbC mb) rfl mb_info rfl (mbC_one _) ?_; intro w6 hc6 hg6 hs6; clear hs6))
                          have hl6 : Below wr.heap.size wr w6 := hl5.grown hg6 (by have := hl5.size; omega) (fun g e => by injection e with e; omega)
                          have x0 : w6.cell? ⟨wr.heap.size, 0, none⟩ = some (.int .i64 mb.1) := hc6.cell 0
                          have x1 : w6.cell? ⟨wr.heap.size, 1, none⟩ = some (.int .i64 mb.2.1) := hc6.cell 1
                          have x2 : w6.cell? ⟨wr.heap.size, 2, none⟩ = some (.int .i64 mb.2.2) := hc6.cell 2
                          have HB6 := hide (HBr.out.below hl6 (by omega))
                          have z4 := lab_c4 HB6.out
                          have z2 := lab_c2 HB6.out
                          have HL6 := hide (hb3.out.trans (hl6.mono hz3))
                          clear hc6 hg6 ha5 hl5 y4
                          simp only [Act.put, List.setIfInBounds_toArray, List.set_cons_succ, List.set_cons_zero]
                          refine wp_region_quiet_lit (by kernel_rfl) (by kernel_rfl) ?_
                          iterate 44 (go_big_quiet_step (fail))
                          refine wpQuiet_nil ?_
                          rintro w7 ⟨q1, rfl⟩
                          go_wp2
                          go_ret
                          exact ⟨ret_b HN.out.symm, hl1.trans ((below_drewN HL6.out _).mono (by omega))⟩
                        | false =>
                          by_cases hk0 : k = 0
                          · have hk0I : decide (0 < k) = false := by simp [hk0]
                            have hlast : lastOf l.members k = -1 := by rw [hk0]; rfl
                            have HLS := hide hlast
                            clear hk0 hlast
                            cases e2 : decide (mb.2.1 < 160) with
                            | true =>
                              have HN := hide (show rightB l = false by
                                have h := (HT.out.no HMK.out (fun _ h => by have := of_decide_eq_true e2; omega)).right
                                rw [HRB.out, h]
                                rfl)
                              go_wp2_with (first
                                | (refine wpList_load_at rfl 62 (.tmp 56) rfl (ad.add (k * 3)) rfl (mbC mb) _ HS.out Try.underlying62 rfl mb_info ?_)
                                | (refine wpList_alloc_blk rfl 62 rfl _ (mb_zero _) ?_; intro w5 ha5 hl5 hs5; clear hs5)
                                | (refine wpList_store_all rfl 62 (.tmp 5) (.tmp 57) rfl wr.heap.size 62 _ ha5 rfl (mbC mb) rfl mb_info rfl (mbC_one _) ?_; intro w6 hc6 hg6 hs6; clear hs6))
                              have hl6 : Below wr.heap.size wr w6 := hl5.grown hg6 (by have := hl5.size; omega) (fun g e => by injection e with e; omega)
                              have x0 : w6.cell? ⟨wr.heap.size, 0, none⟩ = some (.int .i64 mb.1) := hc6.cell 0
                              have x1 : w6.cell? ⟨wr.heap.size, 1, none⟩ = some (.int .i64 mb.2.1) := hc6.cell 1
                              have x2 : w6.cell? ⟨wr.heap.size, 2, none⟩ = some (.int .i64 mb.2.2) := hc6.cell 2
                              have HB6 := hide (HBr.out.below hl6 (by omega))
                              have z4 := lab_c4 HB6.out
                              have z2 := lab_c2 HB6.out
                              have HL6 := hide (hb3.out.trans (hl6.mono hz3))
                              clear hc6 hg6 ha5 hl5 y4
                              simp only [Act.put, List.setIfInBounds_toArray, List.set_cons_succ, List.set_cons_zero]
                              refine wp_region_quiet_lit (by kernel_rfl) (by kernel_rfl) ?_
                              iterate 44 (go_big_quiet_step (fail))
                              refine wpQuiet_nil ?_
                              rintro w7 ⟨q1, rfl⟩
                              go_wp2
                              go_ret
                              exact ⟨ret_b HN.out.symm, hl1.trans ((below_drewN HL6.out _).mono (by omega))⟩
                            | false =>
                              cases e3 : decide ((4096 : Int) < mb.2.1) with
                              | true =>
                                have HN := hide (show rightB l = false by
                                  have h := (HT.out.no HMK.out (fun _ h => by have := of_decide_eq_true e3; omega)).right
                                  rw [HRB.out, h]
                                  rfl)
                                go_wp2_with (first
                                  | (refine wpList_load_at rfl 62 (.tmp 56) rfl (ad.add (k * 3)) rfl (mbC mb) _ HS.out Try.underlying62 rfl mb_info ?_)
                                  | (refine wpList_alloc_blk rfl 62 rfl _ (mb_zero _) ?_; intro w5 ha5 hl5 hs5; clear hs5)
                                  | (refine wpList_store_all rfl 62 (.tmp 5) (.tmp 57) rfl wr.heap.size 62 _ ha5 rfl (mbC mb) rfl mb_info rfl (mbC_one _) ?_; intro w6 hc6 hg6 hs6; clear hs6))
                                have hl6 : Below wr.heap.size wr w6 := hl5.grown hg6 (by have := hl5.size; omega) (fun g e => by injection e with e; omega)
                                have x0 : w6.cell? ⟨wr.heap.size, 0, none⟩ = some (.int .i64 mb.1) := hc6.cell 0
                                have x1 : w6.cell? ⟨wr.heap.size, 1, none⟩ = some (.int .i64 mb.2.1) := hc6.cell 1
                                have x2 : w6.cell? ⟨wr.heap.size, 2, none⟩ = some (.int .i64 mb.2.2) := hc6.cell 2
                                have HB6 := hide (HBr.out.below hl6 (by omega))
                                have z4 := lab_c4 HB6.out
                                have z2 := lab_c2 HB6.out
                                have HL6 := hide (hb3.out.trans (hl6.mono hz3))
                                clear hc6 hg6 ha5 hl5 y4
                                simp only [Act.put, List.setIfInBounds_toArray, List.set_cons_succ, List.set_cons_zero]
                                refine wp_region_quiet_lit (by kernel_rfl) (by kernel_rfl) ?_
                                iterate 44 (go_big_quiet_step (fail))
                                refine wpQuiet_nil ?_
                                rintro w7 ⟨q1, rfl⟩
                                go_wp2
                                go_ret
                                exact ⟨ret_b HN.out.symm, hl1.trans ((below_drewN HL6.out _).mono (by omega))⟩
                              | false =>
                                cases e4 : decide (mb.2.2 < 0) with
                                | true =>
                                  have HN := hide (show rightB l = false by
                                    have h := (HT.out.no HMK.out (fun _ h => by have := of_decide_eq_true e4; omega)).right
                                    rw [HRB.out, h]
                                    rfl)
                                  go_wp2_with (first
                                    | (refine wpList_load_at rfl 62 (.tmp 56) rfl (ad.add (k * 3)) rfl (mbC mb) _ HS.out Try.underlying62 rfl mb_info ?_)
                                    | (refine wpList_alloc_blk rfl 62 rfl _ (mb_zero _) ?_; intro w5 ha5 hl5 hs5; clear hs5)
                                    | (refine wpList_store_all rfl 62 (.tmp 5) (.tmp 57) rfl wr.heap.size 62 _ ha5 rfl (mbC mb) rfl mb_info rfl (mbC_one _) ?_; intro w6 hc6 hg6 hs6; clear hs6))
                                  have hl6 : Below wr.heap.size wr w6 := hl5.grown hg6 (by have := hl5.size; omega) (fun g e => by injection e with e; omega)
                                  have x0 : w6.cell? ⟨wr.heap.size, 0, none⟩ = some (.int .i64 mb.1) := hc6.cell 0
                                  have x1 : w6.cell? ⟨wr.heap.size, 1, none⟩ = some (.int .i64 mb.2.1) := hc6.cell 1
                                  have x2 : w6.cell? ⟨wr.heap.size, 2, none⟩ = some (.int .i64 mb.2.2) := hc6.cell 2
                                  have HB6 := hide (HBr.out.below hl6 (by omega))
                                  have z4 := lab_c4 HB6.out
                                  have z2 := lab_c2 HB6.out
                                  have HL6 := hide (hb3.out.trans (hl6.mono hz3))
                                  clear hc6 hg6 ha5 hl5 y4
                                  simp only [Act.put, List.setIfInBounds_toArray, List.set_cons_succ, List.set_cons_zero]
                                  refine wp_region_quiet_lit (by kernel_rfl) (by kernel_rfl) ?_
                                  iterate 44 (go_big_quiet_step (fail))
                                  refine wpQuiet_nil ?_
                                  rintro w7 ⟨q1, rfl⟩
                                  go_wp2
                                  go_ret
                                  exact ⟨ret_b HN.out.symm, hl1.trans ((below_drewN HL6.out _).mono (by omega))⟩
                                | false =>
                                  cases e5 : decide ((2 : Int) < mb.2.2) with
                                  | true =>
                                    have HN := hide (show rightB l = false by
                                      have h := (HT.out.no HMK.out (fun _ h => by have := of_decide_eq_true e5; omega)).right
                                      rw [HRB.out, h]
                                      rfl)
                                    go_wp2_with (first
                                      | (refine wpList_load_at rfl 62 (.tmp 56) rfl (ad.add (k * 3)) rfl (mbC mb) _ HS.out Try.underlying62 rfl mb_info ?_)
                                      | (refine wpList_alloc_blk rfl 62 rfl _ (mb_zero _) ?_; intro w5 ha5 hl5 hs5; clear hs5)
                                      | (refine wpList_store_all rfl 62 (.tmp 5) (.tmp 57) rfl wr.heap.size 62 _ ha5 rfl (mbC mb) rfl mb_info rfl (mbC_one _) ?_; intro w6 hc6 hg6 hs6; clear hs6))
                                    have hl6 : Below wr.heap.size wr w6 := hl5.grown hg6 (by have := hl5.size; omega) (fun g e => by injection e with e; omega)
                                    have x0 : w6.cell? ⟨wr.heap.size, 0, none⟩ = some (.int .i64 mb.1) := hc6.cell 0
                                    have x1 : w6.cell? ⟨wr.heap.size, 1, none⟩ = some (.int .i64 mb.2.1) := hc6.cell 1
                                    have x2 : w6.cell? ⟨wr.heap.size, 2, none⟩ = some (.int .i64 mb.2.2) := hc6.cell 2
                                    have HB6 := hide (HBr.out.below hl6 (by omega))
                                    have z4 := lab_c4 HB6.out
                                    have z2 := lab_c2 HB6.out
                                    have HL6 := hide (hb3.out.trans (hl6.mono hz3))
                                    clear hc6 hg6 ha5 hl5 y4
                                    simp only [Act.put, List.setIfInBounds_toArray, List.set_cons_succ, List.set_cons_zero]
                                    refine wp_region_quiet_lit (by kernel_rfl) (by kernel_rfl) ?_
                                    iterate 44 (go_big_quiet_step (fail))
                                    refine wpQuiet_nil ?_
                                    rintro w7 ⟨q1, rfl⟩
                                    go_wp2
                                    go_ret
                                    exact ⟨ret_b HN.out.symm, hl1.trans ((below_drewN HL6.out _).mono (by omega))⟩
                                  | false =>
                                    have HT2 := hide (HT.out.yes_ HMK.out ⟨⟨by rw [HLS.out]; have := of_decide_eq_false e0; omega, by have := of_decide_eq_false e1; omega⟩, ⟨by have := of_decide_eq_false e2; omega, by have := of_decide_eq_false e3; omega⟩, by have := of_decide_eq_false e4; omega, by have := of_decide_eq_false e5; omega⟩)
                                    go_wp2_with (first
                                      | (refine wpList_load_at rfl 62 (.tmp 56) rfl (ad.add (k * 3)) rfl (mbC mb) _ HS.out Try.underlying62 rfl mb_info ?_)
                                      | (refine wpList_alloc_blk rfl 62 rfl _ (mb_zero _) ?_; intro w5 ha5 hl5 hs5; clear hs5)
                                      | (refine wpList_store_all rfl 62 (.tmp 5) (.tmp 57) rfl wr.heap.size 62 _ ha5 rfl (mbC mb) rfl mb_info rfl (mbC_one _) ?_; intro w6 hc6 hg6 hs6; clear hs6))
                                    have hl6 : Below wr.heap.size wr w6 := hl5.grown hg6 (by have := hl5.size; omega) (fun g e => by injection e with e; omega)
                                    have x0 : w6.cell? ⟨wr.heap.size, 0, none⟩ = some (.int .i64 mb.1) := hc6.cell 0
                                    have x1 : w6.cell? ⟨wr.heap.size, 1, none⟩ = some (.int .i64 mb.2.1) := hc6.cell 1
                                    have x2 : w6.cell? ⟨wr.heap.size, 2, none⟩ = some (.int .i64 mb.2.2) := hc6.cell 2
                                    have HB6 := hide (HBr.out.below hl6 (by omega))
                                    have z4 := lab_c4 HB6.out
                                    have z2 := lab_c2 HB6.out
                                    have HL6 := hide (hb3.out.trans (hl6.mono hz3))
                                    clear hc6 hg6 ha5 hl5 y4
                                    simp only [Act.put, List.setIfInBounds_toArray, List.set_cons_succ, List.set_cons_zero]
                                    refine wp_region_quiet_lit (by kernel_rfl) (by kernel_rfl) ?_
                                    iterate 44 (go_big_quiet_step (fail))
                                    refine wpQuiet_nil ?_
                                    rintro w7 ⟨q1, rfl⟩
                                    cases yes with
                                    | false =>
                                      rw [Bool.false_or] at HT2
                                      go_wp2
                                      go_roundw
                                      case rel => exact ⟨k + 1, _, by omega, by go_num, rfl, HT2, hide (below_drewN HL6.out _)⟩
                                      case measure => simp [intOf]; omega
                                    | true =>
                                      rw [Bool.true_or] at HT2
                                      go_wp2
                                      go_roundw
                                      case rel => exact ⟨k + 1, _, by omega, by go_num, rfl, HT2, hide (below_drewN HL6.out _)⟩
                                      case measure => simp [intOf]; omega
                          · obtain ⟨ad2, mp, e2q, _, hmp, hcp⟩ := (HM1.out.below (hb3.out.mono (by omega))).at_ (k := k - 1) (by omega)
                            obtain rfl : ad = ad2 := Option.some.inj e2q
                            have hk0I : decide ((0 : Int) < (k : Int)) = true := by simp; omega
                            have hk1 : 0 < k := by omega
                            have hlast : lastOf l.members k = mp.1 := by unfold lastOf; rw [if_neg hk0, hmp]; rfl
                            have HLS := hide hlast
                            have HCP := hide (fun w6 (hl6 : Below wr.heap.size wr w6) => ((hl6.cell (p := (ad.add ((k - 1) * 3)).add 0) (by rw [block_of_add, block_of_add]; omega)).trans (hcp 0 (.int .i64 mp.1) rfl)))
                            clear hmp hcp hlast e2q hk0
                            cases e6 : decide (mb.1 ≤ mp.1) with
                            | true =>
                              have HN := hide (show rightB l = false by
                                have h := (HT.out.no HMK.out (fun _ h => by have := HLS.out; have := of_decide_eq_true e6; omega)).right
                                rw [HRB.out, h]
                                rfl)
                              go_wp2_with (first
                                | (refine wpList_load_at rfl 62 (.tmp 56) rfl (ad.add (k * 3)) rfl (mbC mb) _ HS.out Try.underlying62 rfl mb_info ?_)
                                | (refine wpList_alloc_blk rfl 62 rfl _ (mb_zero _) ?_; intro w5 ha5 hl5 hs5; clear hs5)
                                | (refine wpList_store_all rfl 62 (.tmp 5) (.tmp 57) rfl wr.heap.size 62 _ ha5 rfl (mbC mb) rfl mb_info rfl (mbC_one _) ?_; intro w6 hc6 hg6 hs6; clear hs6))
                              have hl6 : Below wr.heap.size wr w6 := hl5.grown hg6 (by have := hl5.size; omega) (fun g e => by injection e with e; omega)
                              have x0 : w6.cell? ⟨wr.heap.size, 0, none⟩ = some (.int .i64 mb.1) := hc6.cell 0
                              have x1 : w6.cell? ⟨wr.heap.size, 1, none⟩ = some (.int .i64 mb.2.1) := hc6.cell 1
                              have x2 : w6.cell? ⟨wr.heap.size, 2, none⟩ = some (.int .i64 mb.2.2) := hc6.cell 2
                              have HB6 := hide (HBr.out.below hl6 (by omega))
                              have z4 := lab_c4 HB6.out
                              have z2 := lab_c2 HB6.out
                              have HL6 := hide (hb3.out.trans (hl6.mono hz3))
                              clear hc6 hg6 ha5 hl5 y4
                              have x9 : w6.cell? (ad.add ((k - 1) * 3)) = some (.int .i64 mp.1) := HCP.out w6 hl6
                              simp only [Act.put, List.setIfInBounds_toArray, List.set_cons_succ, List.set_cons_zero]
                              refine wp_region_quiet_lit (by kernel_rfl) (by kernel_rfl) ?_
                              iterate 44 (go_big_quiet_step (fail))
                              refine wpQuiet_nil ?_
                              rintro w7 ⟨q1, rfl⟩
                              go_wp2
                              go_ret
                              exact ⟨ret_b HN.out.symm, hl1.trans ((below_drewN HL6.out _).mono (by omega))⟩
                            | false =>
                              cases e2 : decide (mb.2.1 < 160) with
                              | true =>
                                have HN := hide (show rightB l = false by
                                  have h := (HT.out.no HMK.out (fun _ h => by have := of_decide_eq_true e2; omega)).right
                                  rw [HRB.out, h]
                                  rfl)
                                go_wp2_with (first
                                  | (refine wpList_load_at rfl 62 (.tmp 56) rfl (ad.add (k * 3)) rfl (mbC mb) _ HS.out Try.underlying62 rfl mb_info ?_)
                                  | (refine wpList_alloc_blk rfl 62 rfl _ (mb_zero _) ?_; intro w5 ha5 hl5 hs5; clear hs5)
                                  | (refine wpList_store_all rfl 62 (.tmp 5) (.tmp 57) rfl wr.heap.size 62 _ ha5 rfl (mbC mb) rfl mb_info rfl (mbC_one _) ?_; intro w6 hc6 hg6 hs6; clear hs6))
                                have hl6 : Below wr.heap.size wr w6 := hl5.grown hg6 (by have := hl5.size; omega) (fun g e => by injection e with e; omega)
                                have x0 : w6.cell? ⟨wr.heap.size, 0, none⟩ = some (.int .i64 mb.1) := hc6.cell 0
                                have x1 : w6.cell? ⟨wr.heap.size, 1, none⟩ = some (.int .i64 mb.2.1) := hc6.cell 1
                                have x2 : w6.cell? ⟨wr.heap.size, 2, none⟩ = some (.int .i64 mb.2.2) := hc6.cell 2
                                have HB6 := hide (HBr.out.below hl6 (by omega))
                                have z4 := lab_c4 HB6.out
                                have z2 := lab_c2 HB6.out
                                have HL6 := hide (hb3.out.trans (hl6.mono hz3))
                                clear hc6 hg6 ha5 hl5 y4
                                have x9 : w6.cell? (ad.add ((k - 1) * 3)) = some (.int .i64 mp.1) := HCP.out w6 hl6
                                simp only [Act.put, List.setIfInBounds_toArray, List.set_cons_succ, List.set_cons_zero]
                                refine wp_region_quiet_lit (by kernel_rfl) (by kernel_rfl) ?_
                                iterate 44 (go_big_quiet_step (fail))
                                refine wpQuiet_nil ?_
                                rintro w7 ⟨q1, rfl⟩
                                go_wp2
                                go_ret
                                exact ⟨ret_b HN.out.symm, hl1.trans ((below_drewN HL6.out _).mono (by omega))⟩
                              | false =>
                                cases e3 : decide ((4096 : Int) < mb.2.1) with
                                | true =>
                                  have HN := hide (show rightB l = false by
                                    have h := (HT.out.no HMK.out (fun _ h => by have := of_decide_eq_true e3; omega)).right
                                    rw [HRB.out, h]
                                    rfl)
                                  go_wp2_with (first
                                    | (refine wpList_load_at rfl 62 (.tmp 56) rfl (ad.add (k * 3)) rfl (mbC mb) _ HS.out Try.underlying62 rfl mb_info ?_)
                                    | (refine wpList_alloc_blk rfl 62 rfl _ (mb_zero _) ?_; intro w5 ha5 hl5 hs5; clear hs5)
                                    | (refine wpList_store_all rfl 62 (.tmp 5) (.tmp 57) rfl wr.heap.size 62 _ ha5 rfl (mbC mb) rfl mb_info rfl (mbC_one _) ?_; intro w6 hc6 hg6 hs6; clear hs6))
                                  have hl6 : Below wr.heap.size wr w6 := hl5.grown hg6 (by have := hl5.size; omega) (fun g e => by injection e with e; omega)
                                  have x0 : w6.cell? ⟨wr.heap.size, 0, none⟩ = some (.int .i64 mb.1) := hc6.cell 0
                                  have x1 : w6.cell? ⟨wr.heap.size, 1, none⟩ = some (.int .i64 mb.2.1) := hc6.cell 1
                                  have x2 : w6.cell? ⟨wr.heap.size, 2, none⟩ = some (.int .i64 mb.2.2) := hc6.cell 2
                                  have HB6 := hide (HBr.out.below hl6 (by omega))
                                  have z4 := lab_c4 HB6.out
                                  have z2 := lab_c2 HB6.out
                                  have HL6 := hide (hb3.out.trans (hl6.mono hz3))
                                  clear hc6 hg6 ha5 hl5 y4
                                  have x9 : w6.cell? (ad.add ((k - 1) * 3)) = some (.int .i64 mp.1) := HCP.out w6 hl6
                                  simp only [Act.put, List.setIfInBounds_toArray, List.set_cons_succ, List.set_cons_zero]
                                  refine wp_region_quiet_lit (by kernel_rfl) (by kernel_rfl) ?_
                                  iterate 44 (go_big_quiet_step (fail))
                                  refine wpQuiet_nil ?_
                                  rintro w7 ⟨q1, rfl⟩
                                  go_wp2
                                  go_ret
                                  exact ⟨ret_b HN.out.symm, hl1.trans ((below_drewN HL6.out _).mono (by omega))⟩
                                | false =>
                                  cases e4 : decide (mb.2.2 < 0) with
                                  | true =>
                                    have HN := hide (show rightB l = false by
                                      have h := (HT.out.no HMK.out (fun _ h => by have := of_decide_eq_true e4; omega)).right
                                      rw [HRB.out, h]
                                      rfl)
                                    go_wp2_with (first
                                      | (refine wpList_load_at rfl 62 (.tmp 56) rfl (ad.add (k * 3)) rfl (mbC mb) _ HS.out Try.underlying62 rfl mb_info ?_)
                                      | (refine wpList_alloc_blk rfl 62 rfl _ (mb_zero _) ?_; intro w5 ha5 hl5 hs5; clear hs5)
                                      | (refine wpList_store_all rfl 62 (.tmp 5) (.tmp 57) rfl wr.heap.size 62 _ ha5 rfl (mbC mb) rfl mb_info rfl (mbC_one _) ?_; intro w6 hc6 hg6 hs6; clear hs6))
                                    have hl6 : Below wr.heap.size wr w6 := hl5.grown hg6 (by have := hl5.size; omega) (fun g e => by injection e with e; omega)
                                    have x0 : w6.cell? ⟨wr.heap.size, 0, none⟩ = some (.int .i64 mb.1) := hc6.cell 0
                                    have x1 : w6.cell? ⟨wr.heap.size, 1, none⟩ = some (.int .i64 mb.2.1) := hc6.cell 1
                                    have x2 : w6.cell? ⟨wr.heap.size, 2, none⟩ = some (.int .i64 mb.2.2) := hc6.cell 2
                                    have HB6 := hide (HBr.out.below hl6 (by omega))
                                    have z4 := lab_c4 HB6.out
                                    have z2 := lab_c2 HB6.out
                                    have HL6 := hide (hb3.out.trans (hl6.mono hz3))
                                    clear hc6 hg6 ha5 hl5 y4
                                    have x9 : w6.cell? (ad.add ((k - 1) * 3)) = some (.int .i64 mp.1) := HCP.out w6 hl6
                                    simp only [Act.put, List.setIfInBounds_toArray, List.set_cons_succ, List.set_cons_zero]
                                    refine wp_region_quiet_lit (by kernel_rfl) (by kernel_rfl) ?_
                                    iterate 44 (go_big_quiet_step (fail))
                                    refine wpQuiet_nil ?_
                                    rintro w7 ⟨q1, rfl⟩
                                    go_wp2
                                    go_ret
                                    exact ⟨ret_b HN.out.symm, hl1.trans ((below_drewN HL6.out _).mono (by omega))⟩
                                  | false =>
                                    cases e5 : decide ((2 : Int) < mb.2.2) with
                                    | true =>
                                      have HN := hide (show rightB l = false by
                                        have h := (HT.out.no HMK.out (fun _ h => by have := of_decide_eq_true e5; omega)).right
                                        rw [HRB.out, h]
                                        rfl)
                                      go_wp2_with (first
                                        | (refine wpList_load_at rfl 62 (.tmp 56) rfl (ad.add (k * 3)) rfl (mbC mb) _ HS.out Try.underlying62 rfl mb_info ?_)
                                        | (refine wpList_alloc_blk rfl 62 rfl _ (mb_zero _) ?_; intro w5 ha5 hl5 hs5; clear hs5)
                                        | (refine wpList_store_all rfl 62 (.tmp 5) (.tmp 57) rfl wr.heap.size 62 _ ha5 rfl (mbC mb) rfl mb_info rfl (mbC_one _) ?_; intro w6 hc6 hg6 hs6; clear hs6))
                                      have hl6 : Below wr.heap.size wr w6 := hl5.grown hg6 (by have := hl5.size; omega) (fun g e => by injection e with e; omega)
                                      have x0 : w6.cell? ⟨wr.heap.size, 0, none⟩ = some (.int .i64 mb.1) := hc6.cell 0
                                      have x1 : w6.cell? ⟨wr.heap.size, 1, none⟩ = some (.int .i64 mb.2.1) := hc6.cell 1
                                      have x2 : w6.cell? ⟨wr.heap.size, 2, none⟩ = some (.int .i64 mb.2.2) := hc6.cell 2
                                      have HB6 := hide (HBr.out.below hl6 (by omega))
                                      have z4 := lab_c4 HB6.out
                                      have z2 := lab_c2 HB6.out
                                      have HL6 := hide (hb3.out.trans (hl6.mono hz3))
                                      clear hc6 hg6 ha5 hl5 y4
                                      have x9 : w6.cell? (ad.add ((k - 1) * 3)) = some (.int .i64 mp.1) := HCP.out w6 hl6
                                      simp only [Act.put, List.setIfInBounds_toArray, List.set_cons_succ, List.set_cons_zero]
                                      refine wp_region_quiet_lit (by kernel_rfl) (by kernel_rfl) ?_
                                      iterate 44 (go_big_quiet_step (fail))
                                      refine wpQuiet_nil ?_
                                      rintro w7 ⟨q1, rfl⟩
                                      go_wp2
                                      go_ret
                                      exact ⟨ret_b HN.out.symm, hl1.trans ((below_drewN HL6.out _).mono (by omega))⟩
                                    | false =>
                                      have HT2 := hide (HT.out.yes_ HMK.out ⟨⟨by have := HLS.out; have := of_decide_eq_false e6; omega, by have := of_decide_eq_false e1; omega⟩, ⟨by have := of_decide_eq_false e2; omega, by have := of_decide_eq_false e3; omega⟩, by have := of_decide_eq_false e4; omega, by have := of_decide_eq_false e5; omega⟩)
                                      go_wp2_with (first
                                        | (refine wpList_load_at rfl 62 (.tmp 56) rfl (ad.add (k * 3)) rfl (mbC mb) _ HS.out Try.underlying62 rfl mb_info ?_)
                                        | (refine wpList_alloc_blk rfl 62 rfl _ (mb_zero _) ?_; intro w5 ha5 hl5 hs5; clear hs5)
                                        | (refine wpList_store_all rfl 62 (.tmp 5) (.tmp 57) rfl wr.heap.size 62 _ ha5 rfl (mbC mb) rfl mb_info rfl (mbC_one _) ?_; intro w6 hc6 hg6 hs6; clear hs6))
                                      have hl6 : Below wr.heap.size wr w6 := hl5.grown hg6 (by have := hl5.size; omega) (fun g e => by injection e with e; omega)
                                      have x0 : w6.cell? ⟨wr.heap.size, 0, none⟩ = some (.int .i64 mb.1) := hc6.cell 0
                                      have x1 : w6.cell? ⟨wr.heap.size, 1, none⟩ = some (.int .i64 mb.2.1) := hc6.cell 1
                                      have x2 : w6.cell? ⟨wr.heap.size, 2, none⟩ = some (.int .i64 mb.2.2) := hc6.cell 2
                                      have HB6 := hide (HBr.out.below hl6 (by omega))
                                      have z4 := lab_c4 HB6.out
                                      have z2 := lab_c2 HB6.out
                                      have HL6 := hide (hb3.out.trans (hl6.mono hz3))
                                      clear hc6 hg6 ha5 hl5 y4
                                      have x9 : w6.cell? (ad.add ((k - 1) * 3)) = some (.int .i64 mp.1) := HCP.out w6 hl6
                                      simp only [Act.put, List.setIfInBounds_toArray, List.set_cons_succ, List.set_cons_zero]
                                      refine wp_region_quiet_lit (by kernel_rfl) (by kernel_rfl) ?_
                                      iterate 44 (go_big_quiet_step (fail))
                                      refine wpQuiet_nil ?_
                                      rintro w7 ⟨q1, rfl⟩
                                      cases yes with
                                      | false =>
                                        rw [Bool.false_or] at HT2
                                        go_wp2
                                        go_roundw
                                        case rel => exact ⟨k + 1, _, by omega, by go_num, rfl, HT2, hide (below_drewN HL6.out _)⟩
                                        case measure => simp [intOf]; omega
                                      | true =>
                                        rw [Bool.true_or] at HT2
                                        go_wp2
                                        go_roundw
                                        case rel => exact ⟨k + 1, _, by omega, by go_num, rfl, HT2, hide (below_drewN HL6.out _)⟩
                                        case measure => simp [intOf]; omega
                    · obtain rfl : k = n := by omega
                      have hT := HT.out
                      rw [← HLen.out] at hT
                      obtain ⟨f1, f2⟩ := hT.end_
                      have H := hide (show rightB l = yes by rw [HRB.out, f1, f2]; rfl)
                      clear hT f1 f2
                      go_wp2
                      go_ret
                      exact ⟨ret_b H.out.symm, hl1.trans (hb3.out.mono (by omega))⟩
#print axioms refRight_any
end Go.Proofs.Ytbbfgcekjelmkaa
