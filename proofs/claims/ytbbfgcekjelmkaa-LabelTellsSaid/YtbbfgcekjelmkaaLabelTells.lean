/- LabelTells: the code's Put, Of and Right answer as the document's do; whatever label and sector come in. -/
import Derived.Test.YtbbfgcekjelmkaaShownL
import Derived.Test.YtbbfgcekjelmkaaArgL
import Derived.Test.YtbbfgcekjelmkaaRefLP
import Derived.Test.YtbbfgcekjelmkaaRefO
namespace Go.Proofs.Ytbbfgcekjelmkaa.LabelTells
open Go.ChangeShapes Go.WideShapes Go.ChangeAt Go.RowKit Go.Proofs.Ytbbfgcekjelmkaa

set_option maxRecDepth 100000 in
set_option maxHeartbeats 8000000 in
theorem walk (l : Lab) (A : Option Addr) (n c : Nat) (s : Sec) (w : World) (hx : MbIn w w.heap.size A n c l.members) :
    Calls Try.prog 3 #[labV l A n c, secV s] w fun e w' => e = .returned (.bool true) ∧ Below w.heap.size w w' := by
  obtain ⟨K, hK⟩ : ∃ K, K = cutL l := ⟨_, rfl⟩
  have HCut := hide (fun A n c B0 w => cut_any l A n c B0 w)
  rw [← hK] at HCut
  have HShown := hide shownL_any
  have HPut := hide (fun A n c B0 w => lput_any K A n c B0 w)
  have HRPut := hide (fun A n c B0 w => refLput_any K A n c B0 w)
  have HRight := hide (fun A n c B0 w => right_any K A n c B0 w)
  have HRRight := hide (fun A n c B0 w => refRight_any K A n c B0 w)
  have HOfS := hide (fun w => of_any s w)
  have HROfS := hide (fun w => refOf_any s w)
  have HSameK := hide (fun A C n c m d B1 B2 w => same_any K K A C n c m d B1 B2 w)
  rw [sameB_self] at HSameK
  obtain ⟨J, hJ⟩ : ∃ J, J = ofL s := ⟨_, rfl⟩
  have HSameJ := hide (fun A C n c m d B1 B2 w => same_any J J A C n c m d B1 B2 w)
  rw [sameB_self] at HSameJ
  rw [← hJ] at HOfS HROfS
  obtain ⟨x1, hx1⟩ : ∃ x1, x1 = putE K := ⟨_, rfl⟩
  obtain ⟨x2, hx2⟩ : ∃ x2, x2 = ofE s := ⟨_, rfl⟩
  obtain ⟨x3, hx3⟩ : ∃ x3, x3 = rightB K := ⟨_, rfl⟩
  rw [← hx1] at HPut HRPut
  rw [← hx2] at HOfS HROfS
  rw [← hx3] at HRight HRRight
  clear hK hJ hx1 hx2 hx3
  obtain ⟨US, hU_US⟩ : ∃ U, U = secL s := ⟨_, rfl⟩
  have hUl_US : US.length = 64 := by rw [hU_US, secL_length]
  have hUo_US : ∀ v ∈ US, v.oneCell' = true := by rw [hU_US]; exact secL_one _
  have hUi_US : (Try.prog.info? 26).map (·.size) = some US.length := by rw [hUl_US]; exact sec_info
  have hUv_US : secV s = .agg US.toArray := by rw [hU_US]; rfl
  have hUe_US : Value.agg US.toArray = .agg (B8 (s).1).toArray := by rw [hU_US]; rfl
  have HN_US := hide hUl_US
  have HO_US := hide hUo_US
  have HI_US := hide hUi_US
  have HE_US := hide hUe_US
  have HU_US := hide hU_US
  have HV_US := hide hUv_US
  clear hU_US hUl_US hUo_US hUi_US hUv_US hUe_US
  obtain ⟨UX, hU_UX⟩ : ∃ U, U = secL (putS K) := ⟨_, rfl⟩
  have hUl_UX : UX.length = 64 := by rw [hU_UX, secL_length]
  have hUo_UX : ∀ v ∈ UX, v.oneCell' = true := by rw [hU_UX]; exact secL_one _
  have hUi_UX : (Try.prog.info? 26).map (·.size) = some UX.length := by rw [hUl_UX]; exact sec_info
  have hUv_UX : secV (putS K) = .agg UX.toArray := by rw [hU_UX]; rfl
  have hUe_UX : Value.agg UX.toArray = .agg (B8 ((putS K)).1).toArray := by rw [hU_UX]; rfl
  have HN_UX := hide hUl_UX
  have HO_UX := hide hUo_UX
  have HI_UX := hide hUi_UX
  have HE_UX := hide hUe_UX
  have HU_UX := hide hU_UX
  have HV_UX := hide hUv_UX
  clear hU_UX hUl_UX hUo_UX hUi_UX hUv_UX hUe_UX
  have HEQL := hide (fun W' => by
    have h := run_eql_bytes (P := Try.prog) W' 26 5 64 _ Try.underlying26 Try.underlying5 u8_info (by kernel_rfl) (putS K).1 (putS K).1 (putS K).2 (putS K).2
    rw [← HE_UX.out] at h
    exact (show (binOp .eql 26 (.agg UX.toArray) (.agg UX.toArray)).run Try.prog W' = .ok (.bool true) W' by simpa using h))
  rw [HV_US.out] at HOfS HROfS ⊢
  rw [HV_UX.out] at HPut HRPut
  clear HU_US HU_UX HV_US HV_UX HE_US HE_UX
  have HL_w := hide (Below.refl w.heap.size w)
  go_enter Try.func3, Try.ntmps3
  go_wp2_with (first
    | (refine wpList_box_blk rfl 24 (.tmp 0) rfl (.agg (labC l A n c).toArray) rfl ?_; intro w1 hb1q hl1 hs1; clear hs1; have hb1 : Blk w1 w.heap.size 24 (labC l A n c).toArray := hb1q; clear hb1q)
    | (refine wpList_box_blk rfl 26 (.tmp 1) rfl (.agg US.toArray) rfl ?_; intro w2 hb2q hl2 hs2; clear hs2; have hb2 : Blk w2 w1.heap.size 26 US.toArray := hb2q; clear hb2q))
  have hxl1 := hb1.lt
  have hxl2 := hb2.lt
  have HLB_w2 := hide (hb1.below hl2 hxl1)
  have HSB_w2 := hide hb2
  have HX_w2 := hide ((hx.later hl1).later hl2)
  have HL_w2 := hide (hl1.trans (hl2.mono (by omega)))
  clear hb1 hb2 hl1 hl2 hx
  refine (HShown.out w2).mono ?_
  rintro _ w3 ⟨rfl, hlq⟩
  have hb_w3 := hide (hlq)
  have HLB_w3 := hide (HLB_w2.out.below hb_w3.out HLB_w2.out.lt)
  have HSB_w3 := hide (HSB_w2.out.below hb_w3.out HSB_w2.out.lt)
  have HX_w3 := hide (HX_w2.out.later hb_w3.out)
  have HL_w3 := hide (HL_w2.out.trans (hb_w3.out.mono HL_w2.out.size))
  have hz_w3 := HL_w3.out.size
  have hy_w3 := hb_w3.out.size
  clear HLB_w2 HSB_w2 HX_w2
  clear hlq
  go_wp2_with (first
    | (refine wpList_load_blk rfl 24 (.tmp 2) rfl w.heap.size 0 24 _ HLB_w3.out rfl (labC l A n c) _ (fun j v hj => by rw [Nat.zero_add]; simpa using hj) Try.underlying24 rfl lab_info ?_))
  refine (HCut.out A n c w3.heap.size w3 HX_w3.out (Nat.le_refl _)).mono ?_
  rintro _ w4 ⟨⟨A4, n4, c4, rfl, hG4⟩, hlq⟩
  have hb_w4 := hide (hlq)
  have HLB_w4 := hide (HLB_w3.out.below hb_w4.out HLB_w3.out.lt)
  have HSB_w4 := hide (HSB_w3.out.below hb_w4.out HSB_w3.out.lt)
  have HX_w4 := hide (HX_w3.out.later hb_w4.out)
  have HL_w4 := hide (HL_w3.out.trans (hb_w4.out.mono HL_w3.out.size))
  have hz_w4 := HL_w4.out.size
  have hy_w4 := hb_w4.out.size
  clear HLB_w3 HSB_w3 HX_w3
  clear hlq
  have HG_w4 := hide hG4
  clear hG4
  go_wp2_with (first
    | (refine wpList_alloc_blk rfl 24 rfl _ (lab_zero _) ?_; intro w5 ha_w5 hl_w5 hs_w5; clear hs_w5)
    | (refine wpList_store_all rfl 24 (.tmp 6) (.tmp 19) rfl w4.heap.size 24 _ ha_w5 rfl (labC K A4 n4 c4) rfl lab_info rfl (labC_one _ _ _ _) ?_; intro w6 hc_w6 hg_w6 hs_w6; clear hs_w6; have hbb_w6 : Below w4.heap.size w4 w6 := hl_w5.grown hg_w6 (by have := hl_w5.size; omega) (fun g e => by injection e with e; omega); have hb_w6 := hide (hbb_w6); have HLB_w6 := hide (HLB_w4.out.below hb_w6.out HLB_w4.out.lt); have HSB_w6 := hide (HSB_w4.out.below hb_w6.out HSB_w4.out.lt); have HX_w6 := hide (HX_w4.out.later hb_w6.out); have HG_w6 := hide (HG_w4.out.later hb_w6.out); have HL_w6 := hide (HL_w4.out.trans (hb_w6.out.mono HL_w4.out.size)); have hz_w6 := HL_w6.out.size; have hy_w6 := hb_w6.out.size; clear HLB_w4 HSB_w4 HX_w4 HG_w4; have HOB_w6 := hide hc_w6; have hv_HOB := hc_w6.lt; clear hbb_w6 hc_w6 ha_w5 hl_w5 hg_w6)
    | (refine wpList_load_blk rfl 24 (.tmp 6) rfl w4.heap.size 0 24 _ HOB_w6.out rfl (labC K A4 n4 c4) _ (fun j v hj => by rw [Nat.zero_add]; simpa using hj) Try.underlying24 rfl lab_info ?_))
  refine (HPut.out A4 n4 c4 w6.heap.size w6 HG_w6.out.1 (Nat.le_refl _)).mono ?_
  rintro _ w7 ⟨rfl, hlq⟩
  have hb_w7 := hide (hlq)
  have HLB_w7 := hide (HLB_w6.out.below hb_w7.out HLB_w6.out.lt)
  have HSB_w7 := hide (HSB_w6.out.below hb_w7.out HSB_w6.out.lt)
  have HX_w7 := hide (HX_w6.out.later hb_w7.out)
  have HG_w7 := hide (HG_w6.out.later hb_w7.out)
  have HOB_w7 := hide (HOB_w6.out.below hb_w7.out HOB_w6.out.lt)
  have HL_w7 := hide (HL_w6.out.trans (hb_w7.out.mono HL_w6.out.size))
  have hz_w7 := HL_w7.out.size
  have hy_w7 := hb_w7.out.size
  clear HLB_w6 HSB_w6 HX_w6 HG_w6 HOB_w6
  clear hlq
  go_wp2_with (first
    | (refine wpList_alloc_blk rfl 26 rfl _ (sec_zero _) ?_; intro w8 ha_w8 hl_w8 hs_w8; clear hs_w8)
    | (refine wpList_store_all rfl 26 (.tmp 7) (.tmp 23) rfl w7.heap.size 26 _ ha_w8 rfl UX rfl HI_UX.out (HN_UX.out.trans (secL_length zeroSec).symm) HO_UX.out ?_; intro w9 hc_w9 hg_w9 hs_w9; clear hs_w9; have hbb_w9 : Below w7.heap.size w7 w9 := hl_w8.grown hg_w9 (by have := hl_w8.size; omega) (fun g e => by injection e with e; omega); have hb_w9 := hide (hbb_w9); have HLB_w9 := hide (HLB_w7.out.below hb_w9.out HLB_w7.out.lt); have HSB_w9 := hide (HSB_w7.out.below hb_w9.out HSB_w7.out.lt); have HX_w9 := hide (HX_w7.out.later hb_w9.out); have HG_w9 := hide (HG_w7.out.later hb_w9.out); have HOB_w9 := hide (HOB_w7.out.below hb_w9.out HOB_w7.out.lt); have HL_w9 := hide (HL_w7.out.trans (hb_w9.out.mono HL_w7.out.size)); have hz_w9 := HL_w9.out.size; have hy_w9 := hb_w9.out.size; clear HLB_w7 HSB_w7 HX_w7 HG_w7 HOB_w7; have HXV_w9 := hide hc_w9; have hv_HXV := hc_w9.lt; clear hbb_w9 hc_w9 ha_w8 hl_w8 hg_w9)
    | (refine wpList_load_blk rfl 24 (.tmp 2) rfl w.heap.size 0 24 _ HLB_w9.out rfl (labC l A n c) _ (fun j v hj => by rw [Nat.zero_add]; simpa using hj) Try.underlying24 rfl lab_info ?_))
  refine (HCut.out A n c w9.heap.size w9 HX_w9.out (Nat.le_refl _)).mono ?_
  rintro _ w10 ⟨⟨A5, n5, c5, rfl, hG5⟩, hlq⟩
  have hb_w10 := hide (hlq)
  have HLB_w10 := hide (HLB_w9.out.below hb_w10.out HLB_w9.out.lt)
  have HSB_w10 := hide (HSB_w9.out.below hb_w10.out HSB_w9.out.lt)
  have HX_w10 := hide (HX_w9.out.later hb_w10.out)
  have HG_w10 := hide (HG_w9.out.later hb_w10.out)
  have HOB_w10 := hide (HOB_w9.out.below hb_w10.out HOB_w9.out.lt)
  have HXV_w10 := hide (HXV_w9.out.below hb_w10.out HXV_w9.out.lt)
  have HL_w10 := hide (HL_w9.out.trans (hb_w10.out.mono HL_w9.out.size))
  have hz_w10 := HL_w10.out.size
  have hy_w10 := hb_w10.out.size
  clear HLB_w9 HSB_w9 HX_w9 HG_w9 HOB_w9 HXV_w9
  clear hlq
  go_wp2_with fail
  have HH_w10 := hide hG5
  clear hG5
  refine (HRPut.out A5 n5 c5 w10.heap.size w10 HH_w10.out.1 (Nat.le_refl _)).mono ?_
  rintro _ w11 ⟨rfl, hlq⟩
  have hb_w11 := hide (hlq)
  have HLB_w11 := hide (HLB_w10.out.below hb_w11.out HLB_w10.out.lt)
  have HSB_w11 := hide (HSB_w10.out.below hb_w11.out HSB_w10.out.lt)
  have HX_w11 := hide (HX_w10.out.later hb_w11.out)
  have HG_w11 := hide (HG_w10.out.later hb_w11.out)
  have HOB_w11 := hide (HOB_w10.out.below hb_w11.out HOB_w10.out.lt)
  have HXV_w11 := hide (HXV_w10.out.below hb_w11.out HXV_w10.out.lt)
  have HH_w11 := hide (HH_w10.out.later hb_w11.out)
  have HL_w11 := hide (HL_w10.out.trans (hb_w11.out.mono HL_w10.out.size))
  have hz_w11 := HL_w11.out.size
  have hy_w11 := hb_w11.out.size
  clear HLB_w10 HSB_w10 HX_w10 HG_w10 HOB_w10 HXV_w10 HH_w10
  clear hlq
  clear HH_w11
  go_wp2_with (first
    | (refine wpList_alloc_blk rfl 26 rfl _ (sec_zero _) ?_; intro w12 ha_w12 hl_w12 hs_w12; clear hs_w12)
    | (refine wpList_store_all rfl 26 (.tmp 9) (.tmp 29) rfl w11.heap.size 26 _ ha_w12 rfl UX rfl HI_UX.out (HN_UX.out.trans (secL_length zeroSec).symm) HO_UX.out ?_; intro w13 hc_w13 hg_w13 hs_w13; clear hs_w13; have hbb_w13 : Below w11.heap.size w11 w13 := hl_w12.grown hg_w13 (by have := hl_w12.size; omega) (fun g e => by injection e with e; omega); have hb_w13 := hide (hbb_w13); have HLB_w13 := hide (HLB_w11.out.below hb_w13.out HLB_w11.out.lt); have HSB_w13 := hide (HSB_w11.out.below hb_w13.out HSB_w11.out.lt); have HX_w13 := hide (HX_w11.out.later hb_w13.out); have HG_w13 := hide (HG_w11.out.later hb_w13.out); have HOB_w13 := hide (HOB_w11.out.below hb_w13.out HOB_w11.out.lt); have HXV_w13 := hide (HXV_w11.out.below hb_w13.out HXV_w11.out.lt); have HL_w13 := hide (HL_w11.out.trans (hb_w13.out.mono HL_w11.out.size)); have hz_w13 := HL_w13.out.size; have hy_w13 := hb_w13.out.size; clear HLB_w11 HSB_w11 HX_w11 HG_w11 HOB_w11 HXV_w11; have HYV_w13 := hide hc_w13; have hv_HYV := hc_w13.lt; clear hbb_w13 hc_w13 ha_w12 hl_w12 hg_w13)
    | (refine wpList_load_blk rfl 26 (.tmp 3) rfl w1.heap.size 0 26 _ HSB_w13.out rfl US _ (fun j v hj => by rw [Nat.zero_add]; simpa using hj) Try.underlying26 rfl HI_US.out ?_))
  refine (HOfS.out w13).mono ?_
  rintro _ w14 ⟨⟨A6, n6, c6, rfl, hG6⟩, hlq⟩
  have hb_w14 := hide (hlq)
  have HLB_w14 := hide (HLB_w13.out.below hb_w14.out HLB_w13.out.lt)
  have HSB_w14 := hide (HSB_w13.out.below hb_w14.out HSB_w13.out.lt)
  have HX_w14 := hide (HX_w13.out.later hb_w14.out)
  have HG_w14 := hide (HG_w13.out.later hb_w14.out)
  have HOB_w14 := hide (HOB_w13.out.below hb_w14.out HOB_w13.out.lt)
  have HXV_w14 := hide (HXV_w13.out.below hb_w14.out HXV_w13.out.lt)
  have HYV_w14 := hide (HYV_w13.out.below hb_w14.out HYV_w13.out.lt)
  have HL_w14 := hide (HL_w13.out.trans (hb_w14.out.mono HL_w13.out.size))
  have hz_w14 := HL_w14.out.size
  have hy_w14 := hb_w14.out.size
  clear HLB_w13 HSB_w13 HX_w13 HG_w13 HOB_w13 HXV_w13 HYV_w13
  clear hlq
  have HP_w14 := hide hG6
  clear hG6
  go_wp2_with (first
    | (refine wpList_alloc_blk rfl 24 rfl _ (lab_zero _) ?_; intro w15 ha_w15 hl_w15 hs_w15; clear hs_w15)
    | (refine wpList_store_all rfl 24 (.tmp 11) (.tmp 34) rfl w14.heap.size 24 _ ha_w15 rfl (labC J A6 n6 c6) rfl lab_info rfl (labC_one _ _ _ _) ?_; intro w16 hc_w16 hg_w16 hs_w16; clear hs_w16; have hbb_w16 : Below w14.heap.size w14 w16 := hl_w15.grown hg_w16 (by have := hl_w15.size; omega) (fun g e => by injection e with e; omega); have hb_w16 := hide (hbb_w16); have HLB_w16 := hide (HLB_w14.out.below hb_w16.out HLB_w14.out.lt); have HSB_w16 := hide (HSB_w14.out.below hb_w16.out HSB_w14.out.lt); have HX_w16 := hide (HX_w14.out.later hb_w16.out); have HG_w16 := hide (HG_w14.out.later hb_w16.out); have HOB_w16 := hide (HOB_w14.out.below hb_w16.out HOB_w14.out.lt); have HXV_w16 := hide (HXV_w14.out.below hb_w16.out HXV_w14.out.lt); have HYV_w16 := hide (HYV_w14.out.below hb_w16.out HYV_w14.out.lt); have HP_w16 := hide (HP_w14.out.later hb_w16.out); have HL_w16 := hide (HL_w14.out.trans (hb_w16.out.mono HL_w14.out.size)); have hz_w16 := HL_w16.out.size; have hy_w16 := hb_w16.out.size; clear HLB_w14 HSB_w14 HX_w14 HG_w14 HOB_w14 HXV_w14 HYV_w14 HP_w14; have HAV_w16 := hide hc_w16; have hv_HAV := hc_w16.lt; clear hbb_w16 hc_w16 ha_w15 hl_w15 hg_w16)
    | (refine wpList_load_blk rfl 26 (.tmp 3) rfl w1.heap.size 0 26 _ HSB_w16.out rfl US _ (fun j v hj => by rw [Nat.zero_add]; simpa using hj) Try.underlying26 rfl HI_US.out ?_))
  refine (HROfS.out w16).mono ?_
  rintro _ w17 ⟨⟨A7, n7, c7, rfl, hG7⟩, hlq⟩
  have hb_w17 := hide (hlq)
  have HLB_w17 := hide (HLB_w16.out.below hb_w17.out HLB_w16.out.lt)
  have HSB_w17 := hide (HSB_w16.out.below hb_w17.out HSB_w16.out.lt)
  have HX_w17 := hide (HX_w16.out.later hb_w17.out)
  have HG_w17 := hide (HG_w16.out.later hb_w17.out)
  have HOB_w17 := hide (HOB_w16.out.below hb_w17.out HOB_w16.out.lt)
  have HXV_w17 := hide (HXV_w16.out.below hb_w17.out HXV_w16.out.lt)
  have HYV_w17 := hide (HYV_w16.out.below hb_w17.out HYV_w16.out.lt)
  have HP_w17 := hide (HP_w16.out.later hb_w17.out)
  have HAV_w17 := hide (HAV_w16.out.below hb_w17.out HAV_w16.out.lt)
  have HL_w17 := hide (HL_w16.out.trans (hb_w17.out.mono HL_w16.out.size))
  have hz_w17 := HL_w17.out.size
  have hy_w17 := hb_w17.out.size
  clear HLB_w16 HSB_w16 HX_w16 HG_w16 HOB_w16 HXV_w16 HYV_w16 HP_w16 HAV_w16
  clear hlq
  have HQ_w17 := hide hG7
  clear hG7
  go_wp2_with (first
    | (refine wpList_alloc_blk rfl 24 rfl _ (lab_zero _) ?_; intro w18 ha_w18 hl_w18 hs_w18; clear hs_w18)
    | (refine wpList_store_all rfl 24 (.tmp 13) (.tmp 39) rfl w17.heap.size 24 _ ha_w18 rfl (labC J A7 n7 c7) rfl lab_info rfl (labC_one _ _ _ _) ?_; intro w19 hc_w19 hg_w19 hs_w19; clear hs_w19; have hbb_w19 : Below w17.heap.size w17 w19 := hl_w18.grown hg_w19 (by have := hl_w18.size; omega) (fun g e => by injection e with e; omega); have hb_w19 := hide (hbb_w19); have HLB_w19 := hide (HLB_w17.out.below hb_w19.out HLB_w17.out.lt); have HSB_w19 := hide (HSB_w17.out.below hb_w19.out HSB_w17.out.lt); have HX_w19 := hide (HX_w17.out.later hb_w19.out); have HG_w19 := hide (HG_w17.out.later hb_w19.out); have HOB_w19 := hide (HOB_w17.out.below hb_w19.out HOB_w17.out.lt); have HXV_w19 := hide (HXV_w17.out.below hb_w19.out HXV_w17.out.lt); have HYV_w19 := hide (HYV_w17.out.below hb_w19.out HYV_w17.out.lt); have HP_w19 := hide (HP_w17.out.later hb_w19.out); have HAV_w19 := hide (HAV_w17.out.below hb_w19.out HAV_w17.out.lt); have HQ_w19 := hide (HQ_w17.out.later hb_w19.out); have HL_w19 := hide (HL_w17.out.trans (hb_w19.out.mono HL_w17.out.size)); have hz_w19 := HL_w19.out.size; have hy_w19 := hb_w19.out.size; clear HLB_w17 HSB_w17 HX_w17 HG_w17 HOB_w17 HXV_w17 HYV_w17 HP_w17 HAV_w17 HQ_w17; have HBV_w19 := hide hc_w19; have hv_HBV := hc_w19.lt; clear hbb_w19 hc_w19 ha_w18 hl_w18 hg_w19)
    | (refine wpList_load_blk rfl 24 (.tmp 11) rfl w14.heap.size 0 24 _ HAV_w19.out rfl (labC J A6 n6 c6) _ (fun j v hj => by rw [Nat.zero_add]; simpa using hj) Try.underlying24 rfl lab_info ?_)
    | (refine wpList_load_blk rfl 24 (.tmp 13) rfl w17.heap.size 0 24 _ HBV_w19.out rfl (labC J A7 n7 c7) _ (fun j v hj => by rw [Nat.zero_add]; simpa using hj) Try.underlying24 rfl lab_info ?_))
  refine (HSameJ.out A6 A7 n6 c6 n7 c7 w19.heap.size w19.heap.size w19 HP_w19.out.1 HQ_w19.out.1 (Nat.le_refl _) (Nat.le_refl _)).mono ?_
  rintro _ w20 ⟨rfl, hlq⟩
  have hb_w20 := hide (hlq)
  have HLB_w20 := hide (HLB_w19.out.below hb_w20.out HLB_w19.out.lt)
  have HSB_w20 := hide (HSB_w19.out.below hb_w20.out HSB_w19.out.lt)
  have HX_w20 := hide (HX_w19.out.later hb_w20.out)
  have HG_w20 := hide (HG_w19.out.later hb_w20.out)
  have HOB_w20 := hide (HOB_w19.out.below hb_w20.out HOB_w19.out.lt)
  have HXV_w20 := hide (HXV_w19.out.below hb_w20.out HXV_w19.out.lt)
  have HYV_w20 := hide (HYV_w19.out.below hb_w20.out HYV_w19.out.lt)
  have HP_w20 := hide (HP_w19.out.later hb_w20.out)
  have HAV_w20 := hide (HAV_w19.out.below hb_w20.out HAV_w19.out.lt)
  have HQ_w20 := hide (HQ_w19.out.later hb_w20.out)
  have HBV_w20 := hide (HBV_w19.out.below hb_w20.out HBV_w19.out.lt)
  have HL_w20 := hide (HL_w19.out.trans (hb_w20.out.mono HL_w19.out.size))
  have hz_w20 := HL_w20.out.size
  have hy_w20 := hb_w20.out.size
  clear HLB_w19 HSB_w19 HX_w19 HG_w19 HOB_w19 HXV_w19 HYV_w19 HP_w19 HAV_w19 HQ_w19 HBV_w19
  clear hlq
  clear HP_w20 HQ_w20 HAV_w20 HBV_w20 HSB_w20
  go_wp2_with fail
  have hxo := HOB_w20.out.lt
  have hxb := HLB_w20.out.lt
  have HF : Hid (∀ W', Below w20.heap.size w20 W' → (W'.cell? ⟨w4.heap.size, 0, none⟩ = some (.int .i64 K.array) ∧ W'.cell? ⟨w4.heap.size, 1, none⟩ = some (.int .i64 K.gen) ∧ W'.cell? ⟨w4.heap.size, 2, none⟩ = some (.int .i64 K.member) ∧ W'.cell? ⟨w4.heap.size, 3, none⟩ = some (.int .i64 K.blocks) ∧ W'.cell? ⟨w4.heap.size, 4, none⟩ = some (.slice A4 n4 c4) ∧ W'.cell? ⟨w.heap.size, 0, none⟩ = some (.int .i64 l.array) ∧ W'.cell? ⟨w.heap.size, 1, none⟩ = some (.int .i64 l.gen) ∧ W'.cell? ⟨w.heap.size, 2, none⟩ = some (.int .i64 l.member) ∧ W'.cell? ⟨w.heap.size, 3, none⟩ = some (.int .i64 l.blocks) ∧ W'.cell? ⟨w.heap.size, 4, none⟩ = some (.slice A n c) ∧ Below w20.heap.size w20 W')) := fun W' hb => ⟨lab_c0 (HOB_w20.out.below hb hxo), lab_c1 (HOB_w20.out.below hb hxo), lab_c2 (HOB_w20.out.below hb hxo), lab_c3 (HOB_w20.out.below hb hxo), lab_c4 (HOB_w20.out.below hb hxo), lab_c0 (HLB_w20.out.below hb hxb), lab_c1 (HLB_w20.out.below hb hxb), lab_c2 (HLB_w20.out.below hb hxb), lab_c3 (HLB_w20.out.below hb hxb), lab_c4 (HLB_w20.out.below hb hxb), hb⟩
  go_region_held3 (fun W' => (W'.cell? ⟨w4.heap.size, 0, none⟩ = some (.int .i64 K.array) ∧ W'.cell? ⟨w4.heap.size, 1, none⟩ = some (.int .i64 K.gen) ∧ W'.cell? ⟨w4.heap.size, 2, none⟩ = some (.int .i64 K.member) ∧ W'.cell? ⟨w4.heap.size, 3, none⟩ = some (.int .i64 K.blocks) ∧ W'.cell? ⟨w4.heap.size, 4, none⟩ = some (.slice A4 n4 c4) ∧ W'.cell? ⟨w.heap.size, 0, none⟩ = some (.int .i64 l.array) ∧ W'.cell? ⟨w.heap.size, 1, none⟩ = some (.int .i64 l.gen) ∧ W'.cell? ⟨w.heap.size, 2, none⟩ = some (.int .i64 l.member) ∧ W'.cell? ⟨w.heap.size, 3, none⟩ = some (.int .i64 l.blocks) ∧ W'.cell? ⟨w.heap.size, 4, none⟩ = some (.slice A n c) ∧ Below w20.heap.size w20 W')) (first | assumption | exact HF.out _ (by assumption) | exact HF.out _ ((Below.refl _ _).drew) | exact HF.out _ (Below.refl _ _))
    ((first
      | (go_at_call 11; ((refine (HCut.out A n c w20.heap.size _ (HX_w20.out.below (‹_ ∧ _ ∧ _ ∧ _ ∧ _ ∧ _ ∧ _ ∧ _ ∧ _ ∧ _ ∧ Below w20.heap.size w20 _›.2.2.2.2.2.2.2.2.2.2)) (Below.size (‹_ ∧ _ ∧ _ ∧ _ ∧ _ ∧ _ ∧ _ ∧ _ ∧ _ ∧ _ ∧ Below w20.heap.size w20 _›.2.2.2.2.2.2.2.2.2.2))).mono ?_); rintro _ w21 ⟨⟨A8, n8, c8, rfl, hG8⟩, hlr⟩; have hlq : Below w20.heap.size w20 w21 := Below.trans (‹_ ∧ _ ∧ _ ∧ _ ∧ _ ∧ _ ∧ _ ∧ _ ∧ _ ∧ _ ∧ Below w20.heap.size w20 _›.2.2.2.2.2.2.2.2.2.2) (hlr.mono (Below.size (‹_ ∧ _ ∧ _ ∧ _ ∧ _ ∧ _ ∧ _ ∧ _ ∧ _ ∧ _ ∧ Below w20.heap.size w20 _›.2.2.2.2.2.2.2.2.2.2)))))
      | (go_at_call 16; ((refine (HSameK.out A4 A8 n4 c4 n8 c8 w20.heap.size _ _ (HG_w20.out.1.below (‹_ ∧ _ ∧ _ ∧ _ ∧ _ ∧ _ ∧ _ ∧ _ ∧ _ ∧ _ ∧ Below w20.heap.size w20 _›.2.2.2.2.2.2.2.2.2.2)) hG8.1 (Below.size (‹_ ∧ _ ∧ _ ∧ _ ∧ _ ∧ _ ∧ _ ∧ _ ∧ _ ∧ _ ∧ Below w20.heap.size w20 _›.2.2.2.2.2.2.2.2.2.2)) (Nat.le_refl _)).mono ?_); rintro _ w22 ⟨rfl, hls⟩; have hlt : Below w20.heap.size w20 w22 := Below.trans hlq (hls.mono (Below.size hlq))))))
  clear HF
  clear hG8 hlr hls hlq
  have hb_w22 := hide (hlt)
  have HLB_w22 := hide (HLB_w20.out.below hb_w22.out HLB_w20.out.lt)
  have HX_w22 := hide (HX_w20.out.later hb_w22.out)
  have HG_w22 := hide (HG_w20.out.later hb_w22.out)
  have HOB_w22 := hide (HOB_w20.out.below hb_w22.out HOB_w20.out.lt)
  have HXV_w22 := hide (HXV_w20.out.below hb_w22.out HXV_w20.out.lt)
  have HYV_w22 := hide (HYV_w20.out.below hb_w22.out HYV_w20.out.lt)
  have HL_w22 := hide (HL_w20.out.trans (hb_w22.out.mono HL_w20.out.size))
  have hz_w22 := HL_w22.out.size
  have hy_w22 := hb_w22.out.size
  clear HLB_w20 HX_w20 HG_w20 HOB_w20 HXV_w20 HYV_w20
  clear hlt
  go_wp2_with fail
  have hxo := HOB_w22.out.lt
  have hxb := HLB_w22.out.lt
  have hxx := HXV_w22.out.lt
  have hxy := HYV_w22.out.lt
  have HF : Hid (∀ W', Below w22.heap.size w22 W' → (W'.cell? ⟨w4.heap.size, 0, none⟩ = some (.int .i64 K.array) ∧ W'.cell? ⟨w4.heap.size, 1, none⟩ = some (.int .i64 K.gen) ∧ W'.cell? ⟨w4.heap.size, 2, none⟩ = some (.int .i64 K.member) ∧ W'.cell? ⟨w4.heap.size, 3, none⟩ = some (.int .i64 K.blocks) ∧ W'.cell? ⟨w4.heap.size, 4, none⟩ = some (.slice A4 n4 c4) ∧ W'.cell? ⟨w.heap.size, 0, none⟩ = some (.int .i64 l.array) ∧ W'.cell? ⟨w.heap.size, 1, none⟩ = some (.int .i64 l.gen) ∧ W'.cell? ⟨w.heap.size, 2, none⟩ = some (.int .i64 l.member) ∧ W'.cell? ⟨w.heap.size, 3, none⟩ = some (.int .i64 l.blocks) ∧ W'.cell? ⟨w.heap.size, 4, none⟩ = some (.slice A n c) ∧ W'.rangeAt w7.heap.size 0 UX ∧ W'.rangeAt w11.heap.size 0 UX ∧ Below w22.heap.size w22 W')) := fun W' hb => ⟨lab_c0 (HOB_w22.out.below hb hxo), lab_c1 (HOB_w22.out.below hb hxo), lab_c2 (HOB_w22.out.below hb hxo), lab_c3 (HOB_w22.out.below hb hxo), lab_c4 (HOB_w22.out.below hb hxo), lab_c0 (HLB_w22.out.below hb hxb), lab_c1 (HLB_w22.out.below hb hxb), lab_c2 (HLB_w22.out.below hb hxb), lab_c3 (HLB_w22.out.below hb hxb), lab_c4 (HLB_w22.out.below hb hxb), (fun j v hj => by rw [Nat.zero_add, (HXV_w22.out.below hb hxx).cell j]; simpa using hj), (fun j v hj => by rw [Nat.zero_add, (HYV_w22.out.below hb hxy).cell j]; simpa using hj), hb⟩
  have hbD : Below w22.heap.size w22 w22.drew := (Below.refl _ _).drew
  have HUN : Hid (Try.prog.underlying 26 = some (.array 64 5)) := Try.underlying26
  have heq := HEQL.out
  refine wp_region_held_drew (S := fun W' => (W'.cell? ⟨w4.heap.size, 0, none⟩ = some (.int .i64 K.array) ∧ W'.cell? ⟨w4.heap.size, 1, none⟩ = some (.int .i64 K.gen) ∧ W'.cell? ⟨w4.heap.size, 2, none⟩ = some (.int .i64 K.member) ∧ W'.cell? ⟨w4.heap.size, 3, none⟩ = some (.int .i64 K.blocks) ∧ W'.cell? ⟨w4.heap.size, 4, none⟩ = some (.slice A4 n4 c4) ∧ W'.cell? ⟨w.heap.size, 0, none⟩ = some (.int .i64 l.array) ∧ W'.cell? ⟨w.heap.size, 1, none⟩ = some (.int .i64 l.gen) ∧ W'.cell? ⟨w.heap.size, 2, none⟩ = some (.int .i64 l.member) ∧ W'.cell? ⟨w.heap.size, 3, none⟩ = some (.int .i64 l.blocks) ∧ W'.cell? ⟨w.heap.size, 4, none⟩ = some (.slice A n c) ∧ W'.rangeAt w7.heap.size 0 UX ∧ W'.rangeAt w11.heap.size 0 UX ∧ Below w22.heap.size w22 W')) (by kernel_rfl) (HF.out _ hbD) (fun hHeld => ?_)
  have hb0 := hbD
  refine wpAnyH_take (i := 0) (v := .bool true) ((List.getElem?_toArray ..).trans rfl) (by kernel_rfl) (by kernel_rfl) (by kernel_rfl) (fun _ _ _ h => h) (Or.inl ⟨by rfl, fun W hW => ?_⟩) (by assumption) ?_
  · clear hW
    go_simp
  try simp only [Act.put, List.setIfInBounds_toArray, List.set_cons_zero, List.set_cons_succ]
  refine wpAnyH_take (i := 1) (v := .bool true) ((List.getElem?_toArray ..).trans rfl) (by kernel_rfl) (by kernel_rfl) (by kernel_rfl) (fun _ _ _ h => h) (Or.inl ⟨by rfl, fun W hW => ?_⟩) (by assumption) ?_
  · clear hW
    go_simp
  try simp only [Act.put, List.setIfInBounds_toArray, List.set_cons_zero, List.set_cons_succ]
  refine wpAnyH_take (i := 2) (v := .agg UX.toArray) ((List.getElem?_toArray ..).trans rfl) (by kernel_rfl) (by kernel_rfl) (by kernel_rfl) (fun _ _ _ h => h) (yieldsIf_load_mid (by rfl) _ _ rfl _ _ rfl UX _ (fun W hW => hW.2.2.2.2.2.2.2.2.2.2.1) HUN.out rfl HI_UX.out) (by assumption) ?_
  try simp only [Act.put, List.setIfInBounds_toArray, List.set_cons_zero, List.set_cons_succ]
  refine wpAnyH_take (i := 3) (v := .agg UX.toArray) ((List.getElem?_toArray ..).trans rfl) (by kernel_rfl) (by kernel_rfl) (by kernel_rfl) (fun _ _ _ h => h) (yieldsIf_load_mid (by rfl) _ _ rfl _ _ rfl UX _ (fun W hW => hW.2.2.2.2.2.2.2.2.2.2.2.1) HUN.out rfl HI_UX.out) (by assumption) ?_
  try simp only [Act.put, List.setIfInBounds_toArray, List.set_cons_zero, List.set_cons_succ]
  refine wpAnyH_take (i := 4) (v := .bool true) ((List.getElem?_toArray ..).trans rfl) (by kernel_rfl) (by kernel_rfl) (by kernel_rfl) (fun _ _ _ h => h) (Or.inl ⟨by rfl, fun W hW => ?_⟩) (by assumption) ?_
  · clear hW
    go_simp
  try simp only [Act.put, List.setIfInBounds_toArray, List.set_cons_zero, List.set_cons_succ]
  refine wpAnyH_take (i := 5) (v := .bool true) ((List.getElem?_toArray ..).trans rfl) (by kernel_rfl) (by kernel_rfl) (by kernel_rfl) (fun _ _ _ h => h) (Or.inl ⟨by rfl, fun W hW => ?_⟩) (by assumption) ?_
  · clear hW
    go_simp
  try simp only [Act.put, List.setIfInBounds_toArray, List.set_cons_zero, List.set_cons_succ]
  refine wpAnyH_take (i := 6) (v := .bool true) ((List.getElem?_toArray ..).trans rfl) (by kernel_rfl) (by kernel_rfl) (by kernel_rfl) (fun _ _ _ h => h) (Or.inl ⟨by rfl, fun W hW => ?_⟩) (by assumption) ?_
  · clear hW
    go_simp
  try simp only [Act.put, List.setIfInBounds_toArray, List.set_cons_zero, List.set_cons_succ]
  refine wpAnyH_take (i := 7) (v := .int .i64 x1) ((List.getElem?_toArray ..).trans rfl) (by kernel_rfl) (by kernel_rfl) (by kernel_rfl) (fun _ _ _ h => h) (Or.inl ⟨by rfl, fun W hW => ?_⟩) (by assumption) ?_
  · clear hW
    go_simp
  try simp only [Act.put, List.setIfInBounds_toArray, List.set_cons_zero, List.set_cons_succ]
  refine wpAnyH_take (i := 8) (v := .int .i64 x1) ((List.getElem?_toArray ..).trans rfl) (by kernel_rfl) (by kernel_rfl) (by kernel_rfl) (fun _ _ _ h => h) (Or.inl ⟨by rfl, fun W hW => ?_⟩) (by assumption) ?_
  · clear hW
    go_simp
  try simp only [Act.put, List.setIfInBounds_toArray, List.set_cons_zero, List.set_cons_succ]
  refine wpAnyH_take (i := 9) (v := .bool true) ((List.getElem?_toArray ..).trans rfl) (by kernel_rfl) (by kernel_rfl) (by kernel_rfl) (fun _ _ _ h => h) (Or.inl ⟨by rfl, fun W hW => ?_⟩) (by assumption) ?_
  · clear hW
    go_simp
  try simp only [Act.put, List.setIfInBounds_toArray, List.set_cons_zero, List.set_cons_succ]
  refine wpAnyH_take (i := 10) (v := .bool true) ((List.getElem?_toArray ..).trans rfl) (by kernel_rfl) (by kernel_rfl) (by kernel_rfl) (fun _ _ _ h => h) (Or.inl ⟨by rfl, fun W hW => ?_⟩) (by assumption) ?_
  · clear hW
    go_simp
  try simp only [Act.put, List.setIfInBounds_toArray, List.set_cons_zero, List.set_cons_succ]
  refine wpAnyH_take (i := 11) (v := .bool true) ((List.getElem?_toArray ..).trans rfl) (by kernel_rfl) (by kernel_rfl) (by kernel_rfl) (fun _ _ _ h => h) (Or.inl ⟨by rfl, fun W hW => ?_⟩) (by assumption) ?_
  · clear hW
    go_simp
  try simp only [Act.put, List.setIfInBounds_toArray, List.set_cons_zero, List.set_cons_succ]
  refine wpAnyH_take (i := 12) (v := .bool true) ((List.getElem?_toArray ..).trans rfl) (by kernel_rfl) (by kernel_rfl) (by kernel_rfl) (fun _ _ _ h => h) (Or.inl ⟨by rfl, fun W hW => ?_⟩) (by assumption) ?_
  · clear hW
    go_simp
  try simp only [Act.put, List.setIfInBounds_toArray, List.set_cons_zero, List.set_cons_succ]
  refine wpAnyH_take (i := 13) (v := .bool true) ((List.getElem?_toArray ..).trans rfl) (by kernel_rfl) (by kernel_rfl) (by kernel_rfl) (fun _ _ _ h => h) (Or.inl ⟨by rfl, fun W hW => ?_⟩) (by assumption) ?_
  · clear hW
    go_simp
  try simp only [Act.put, List.setIfInBounds_toArray, List.set_cons_zero, List.set_cons_succ]
  refine wpAnyH_take (i := 14) (v := .bool true) ((List.getElem?_toArray ..).trans rfl) (by kernel_rfl) (by kernel_rfl) (by kernel_rfl) (fun _ _ _ h => h) (Or.inl ⟨by rfl, fun W hW => ?_⟩) (by assumption) ?_
  · clear hW
    go_simp
  try simp only [Act.put, List.setIfInBounds_toArray, List.set_cons_zero, List.set_cons_succ]
  refine wpAnyH_take (i := 15) (v := .int .i64 x2) ((List.getElem?_toArray ..).trans rfl) (by kernel_rfl) (by kernel_rfl) (by kernel_rfl) (fun _ _ _ h => h) (Or.inl ⟨by rfl, fun W hW => ?_⟩) (by assumption) ?_
  · clear hW
    go_simp
  try simp only [Act.put, List.setIfInBounds_toArray, List.set_cons_zero, List.set_cons_succ]
  refine wpAnyH_take (i := 16) (v := .int .i64 x2) ((List.getElem?_toArray ..).trans rfl) (by kernel_rfl) (by kernel_rfl) (by kernel_rfl) (fun _ _ _ h => h) (Or.inl ⟨by rfl, fun W hW => ?_⟩) (by assumption) ?_
  · clear hW
    go_simp
  try simp only [Act.put, List.setIfInBounds_toArray, List.set_cons_zero, List.set_cons_succ]
  refine wpAnyH_take (i := 17) (v := .bool true) ((List.getElem?_toArray ..).trans rfl) (by kernel_rfl) (by kernel_rfl) (by kernel_rfl) (fun _ _ _ h => h) (Or.inl ⟨by rfl, fun W hW => ?_⟩) (by assumption) ?_
  · clear hW
    go_simp
  try simp only [Act.put, List.setIfInBounds_toArray, List.set_cons_zero, List.set_cons_succ]
  refine wpAnyH_take (i := 18) (v := .bool true) ((List.getElem?_toArray ..).trans rfl) (by kernel_rfl) (by kernel_rfl) (by kernel_rfl) (fun _ _ _ h => h) (Or.inl ⟨by rfl, fun W hW => ?_⟩) (by assumption) ?_
  · clear hW
    go_simp
  try simp only [Act.put, List.setIfInBounds_toArray, List.set_cons_zero, List.set_cons_succ]
  refine wpAnyH_take (i := 19) (v := .bool true) ((List.getElem?_toArray ..).trans rfl) (by kernel_rfl) (by kernel_rfl) (by kernel_rfl) (fun _ _ _ h => h) (Or.inl ⟨by rfl, fun W hW => ?_⟩) (by assumption) ?_
  · clear hW
    go_simp
  try simp only [Act.put, List.setIfInBounds_toArray, List.set_cons_zero, List.set_cons_succ]
  refine wpAnyH_take (i := 20) (v := .bool true) ((List.getElem?_toArray ..).trans rfl) (by kernel_rfl) (by kernel_rfl) (by kernel_rfl) (fun _ _ _ h => h) (Or.inl ⟨by rfl, fun W hW => ?_⟩) (by assumption) ?_
  · clear hW
    go_simp
  try simp only [Act.put, List.setIfInBounds_toArray, List.set_cons_zero, List.set_cons_succ]
  refine wpAnyH_take (i := 21) (v := .bool true) ((List.getElem?_toArray ..).trans rfl) (by kernel_rfl) (by kernel_rfl) (by kernel_rfl) (fun _ _ _ h => h) (Or.inl ⟨by rfl, fun W hW => ?_⟩) (by assumption) ?_
  · clear hW
    go_simp
  try simp only [Act.put, List.setIfInBounds_toArray, List.set_cons_zero, List.set_cons_succ]
  refine wpAnyH_take (i := 22) (v := .bool true) ((List.getElem?_toArray ..).trans rfl) (by kernel_rfl) (by kernel_rfl) (by kernel_rfl) (fun _ _ _ h => h) (Or.inl ⟨by rfl, fun W hW => ?_⟩) (by assumption) ?_
  · clear hW
    go_simp
  try simp only [Act.put, List.setIfInBounds_toArray, List.set_cons_zero, List.set_cons_succ]
  refine wpAnyH_take (i := 23) (v := .agg (labC K A4 n4 c4).toArray) ((List.getElem?_toArray ..).trans rfl) (by kernel_rfl) (by kernel_rfl) (by kernel_rfl) (fun _ _ _ h => h) (Or.inl ⟨by rfl, fun W hW => ?_⟩) (by assumption) ?_
  · dsimp only at hW
    go_split_ands
    go_simp
    rfl
  try simp only [Act.put, List.setIfInBounds_toArray, List.set_cons_zero, List.set_cons_succ]
  refine wpAnyH_take (i := 25) (v := .agg (labC l A n c).toArray) ((List.getElem?_toArray ..).trans rfl) (by kernel_rfl) (by kernel_rfl) (by kernel_rfl) (fun _ _ _ h => h) (Or.inl ⟨by rfl, fun W hW => ?_⟩) (by assumption) ?_
  · dsimp only at hW
    go_split_ands
    go_simp
    rfl
  try simp only [Act.put, List.setIfInBounds_toArray, List.set_cons_zero, List.set_cons_succ]
  refine wpAnyH_ready (rs := [24]) (by kernel_rfl) (by simp) ?_
  refine AllReadyH.cons ((List.getElem?_toArray ..).trans rfl) (fun Kq hKq => ?_) ?_
  · go_simp
    go_at_call 17
    refine (HRight.out A4 n4 c4 w22.heap.size _ (HG_w22.out.1.below hb0) (Below.size hb0)).mono ?_
    rintro _ w23 ⟨rfl, hlr⟩
    have hb1 : Below w22.heap.size w22 w23 := Below.trans hb0 (hlr.mono (Below.size hb0))
    clear hlr
    first | (refine hKq.out _ _ (HF.out _ hb1) (fun hHeld => ?_)) | (go_wp2_with fail; refine hKq.out _ _ (HF.out _ hb1) (fun hHeld => ?_))
    clear hKq Kq
    try simp only [Act.put, List.setIfInBounds_toArray, List.set_cons_zero, List.set_cons_succ]
    refine wpAnyH_ready (rs := [26]) (by kernel_rfl) (by simp) ?_
    refine AllReadyH.cons ((List.getElem?_toArray ..).trans rfl) (fun Kq hKq => ?_) ?_
    · go_simp
      go_at_call 11
      refine (HCut.out A n c w22.heap.size _ (HX_w22.out.below hb1) (Below.size hb1)).mono ?_
      rintro _ w24 ⟨⟨A9, n9, c9, rfl, hG9⟩, hlr⟩
      have hb2 : Below w22.heap.size w22 w24 := Below.trans hb1 (hlr.mono (Below.size hb1))
      clear hlr
      first | (refine hKq.out _ _ (HF.out _ hb2) (fun hHeld => ?_)) | (go_wp2_with fail; refine hKq.out _ _ (HF.out _ hb2) (fun hHeld => ?_))
      clear hKq Kq
      try simp only [Act.put, List.setIfInBounds_toArray, List.set_cons_zero, List.set_cons_succ]
      refine wpAnyH_ready (rs := [27]) (by kernel_rfl) (by simp) ?_
      refine AllReadyH.cons ((List.getElem?_toArray ..).trans rfl) (fun Kq hKq => ?_) ?_
      · go_simp
        go_at_call 18
        refine (HRRight.out A9 n9 c9 _ _ hG9.1 (Nat.le_refl _)).mono ?_
        rintro _ w25 ⟨rfl, hlr⟩
        have hb3 : Below w22.heap.size w22 w25 := Below.trans hb2 (hlr.mono (Below.size hb2))
        clear hlr
        first | (refine hKq.out _ _ (HF.out _ hb3) (fun hHeld => ?_)) | (go_wp2_with fail; refine hKq.out _ _ (HF.out _ hb3) (fun hHeld => ?_))
        clear hKq Kq
        try simp only [Act.put, List.setIfInBounds_toArray, List.set_cons_zero, List.set_cons_succ]
        refine wpAnyH_take (i := 28) (v := .bool true) ((List.getElem?_toArray ..).trans rfl) (by kernel_rfl) (by kernel_rfl) (by kernel_rfl) (fun _ _ _ h => h) (Or.inl ⟨by rfl, fun W hW => ?_⟩) (by assumption) ?_
        · clear hW
          go_simp
        try simp only [Act.put, List.setIfInBounds_toArray, List.set_cons_zero, List.set_cons_succ]
        refine wpAnyH_take (i := 29) (v := .bool true) ((List.getElem?_toArray ..).trans rfl) (by kernel_rfl) (by kernel_rfl) (by kernel_rfl) (fun _ _ _ h => h) (Or.inl ⟨by rfl, fun W hW => ?_⟩) (by assumption) ?_
        · clear hW
          go_simp
        try simp only [Act.put, List.setIfInBounds_toArray, List.set_cons_zero, List.set_cons_succ]
        refine wpAnyH_take (i := 30) (v := .bool true) ((List.getElem?_toArray ..).trans rfl) (by kernel_rfl) (by kernel_rfl) (by kernel_rfl) (fun _ _ _ h => h) (Or.inl ⟨by rfl, fun W hW => ?_⟩) (by assumption) ?_
        · clear hW
          go_simp
        try simp only [Act.put, List.setIfInBounds_toArray, List.set_cons_zero, List.set_cons_succ]
        refine wpAnyH_done (by kernel_rfl) ?_ _
        go_wp2
        go_ret
        exact ⟨rfl, HL_w22.out.trans (hb3.mono HL_w22.out.size)⟩
      exact AllReadyH.nil
    exact AllReadyH.nil
  exact AllReadyH.nil

/-! The row's frame, by program: how the walk above proves the statement. -/
set_option maxRecDepth 100000 in
theorem lifted (os : Os) (started : os.Started) (H : Type) (enc : TypeId × Value → H) :
    ReturnsInHanded {} Try.checked os 3 .any (Rows.labelTellsSpec.pre6 enc Try.prog Try.f3 Rows.labelTellsRow.domain false) (Rows.labelTellsSpec.post enc Try.prog Try.f3 false true false false) := by
  refine returnsInHanded_of_change (C := Try.checked) own started (by kernel_rfl) Try.func3
    (ChangeSpec.witness6 (enc := enc) (C := Try.checked) false ⟨#[], #[labV Lab.none_ none 0 0, secV zeroSec], []⟩ 8 (by kernel_rfl) (by kernel_rfl) (by kernel_rfl) (by kernel_rfl)) ?_
  intro W base args ds gs before hval0 hW hcnd _
  have hval : ∀ (j : Nat) t v, Try.f3.params[j]? = some t → args[j]? = some v → Value.okWide Try.prog W .any base t v := hval0
  have hW' := hW
  obtain ⟨p, q, hA0, hV, rfl, hfz, hnd⟩ := hW
  have hA : DataW.TrodAll enc Try.prog W 0 (fun _ => true) true Try.f3.params.toList args.toList ds p := hA0
  rw [Try.params3] at hA hval
  obtain ⟨v0, vs0, d0, ds0, p0, q0, hargs, rfl, rfl, h0, r0⟩ := trodAll_cons hA
  obtain ⟨v1, vs1, d1, ds1, p1, q1, rfl, rfl, rfl, h1, r1⟩ := trodAll_cons r0
  obtain ⟨rfl, rfl, rfl⟩ := trodAll_nil r1
  obtain rfl : args = #[v0, v1] := by cases args; simp_all
  obtain ⟨rfl, rfl⟩ := trodVars_none hV
  have k0 := h0
  have lt0 : ∀ x ∈ p0, x.block < W.heap.size := by obtain ⟨m, hm⟩ := k0; exact DataW.trod_lt m _ _ _ hm
  obtain ⟨l0, A0, n0, c0, rfl, x0⟩ := arg_label (hval 0 24 v0 rfl rfl) h0
  have k1 := h1
  have lt1 : ∀ x ∈ p1, x.block < W.heap.size := by obtain ⟨m, hm⟩ := k1; exact DataW.trod_lt m _ _ _ hm
  obtain ⟨s1, rfl⟩ := arg_sector (hval 1 26 v1 rfl rfl) h1
  clear hA0 hval0
  refine (walk l0 A0 n0 c0 s1 W x0).mono fun e W' ⟨he, bel⟩ => ?_
  subst he
  exact ⟨_, rfl, _, _, _, [], _, [], hW', trodAll_mk1 (shut_bool Try.underlying4 _), (trodAll_cons_mk (Below.trod laidOut (by kernel_rfl) (of_decide_eq_true (by kernel_rfl)) k0 bel lt0) (trodAll_cons_mk (Below.trod laidOut (by kernel_rfl) (of_decide_eq_true (by kernel_rfl)) k1 bel lt1) trodAll_mk0)), rfl, bel.frame _, fun h => by cases h⟩

theorem over : Rows.labelTellsRow.holds Try.pinned (OpenSpec.ofChange Rows.labelTellsSpec) :=
  OpenClaim.holds_of_wide 3 Try.f3 rfl rfl rfl rfl rfl rfl rfl ⟨rfl, rfl, rfl, rfl, rfl⟩ rfl rfl rfl rfl rfl (by kernel_rfl) Try.func3 (by kernel_rfl)
    (of_decide_eq_true (by kernel_rfl)) (by unfold Func.isWrapper; first | (rw [if_pos (by decide +kernel)]; kernel_rfl) | (rw [if_neg (by decide +kernel)]; exact ⟨rfl, rfl⟩))
    (fun os started H enc _ => lifted os started H enc)

/-- The statement. -/
theorem proved : Rows.LabelTellsSaid := over
#print axioms proved
end Go.Proofs.Ytbbfgcekjelmkaa.LabelTells
