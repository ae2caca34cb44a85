/- LabelBack: a right label is read as it was written, and a sector that is read is its label's; whatever label and sector come in. -/
import Derived.Test.YtbbfgcekjelmkaaShownL
import Derived.Test.YtbbfgcekjelmkaaArgL
namespace Go.Proofs.Ytbbfgcekjelmkaa.LabelBack
open Go.ChangeShapes Go.WideShapes Go.ChangeAt Go.RowKit Go.Proofs.Ytbbfgcekjelmkaa

set_option maxRecDepth 100000 in
set_option maxHeartbeats 4000000 in
theorem walk (l : Lab) (A : Option Addr) (n c : Nat) (s : Sec) (w : World) (hx : MbIn w w.heap.size A n c l.members) :
    Calls Try.prog 4 #[labV l A n c, secV s] w fun e w' => e = .returned (.bool true) ∧ Below w.heap.size w w' := by
  obtain ⟨K, hK⟩ : ∃ K, K = cutL l := ⟨_, rfl⟩
  have HCut := hide (fun A n c B0 w => cut_any l A n c B0 w)
  rw [← hK] at HCut
  have HShown := hide shownL_any
  have HPut := hide (fun A n c B0 w => lput_any K A n c B0 w)
  have HRight := hide (fun A n c B0 w => right_any K A n c B0 w)
  have HOfS := hide (fun w => of_any s w)
  clear hK
  obtain ⟨US, hU_US⟩ : ∃ U, U = secL s := ⟨_, rfl⟩
  have hUl_US : US.length = 64 := by rw [hU_US, secL_length]
  have hUo_US : ∀ v ∈ US, v.oneCell' = true := by rw [hU_US]; exact secL_one _
  have hUi_US : (Try.prog.info? 26).map (·.size) = some US.length := by rw [hUl_US]; exact sec_info
  have hUv_US : secV s = .agg US.toArray := by rw [hU_US]; rfl
  have hUe_US : Value.agg US.toArray = .agg (B8 (s).1).toArray := by rw [hU_US]; rfl
  have HN_US := hide hUl_US
  have HO_US := hide hUo_US
  have HI_US := hide hUi_US
  have HE_US := hide hUe_US
  have HU_US := hide hU_US
  have HV_US := hide hUv_US
  clear hU_US hUl_US hUo_US hUi_US hUv_US hUe_US
  obtain ⟨UX, hU_UX⟩ : ∃ U, U = secL (putS K) := ⟨_, rfl⟩
  have hUl_UX : UX.length = 64 := by rw [hU_UX, secL_length]
  have hUo_UX : ∀ v ∈ UX, v.oneCell' = true := by rw [hU_UX]; exact secL_one _
  have hUi_UX : (Try.prog.info? 26).map (·.size) = some UX.length := by rw [hUl_UX]; exact sec_info
  have hUv_UX : secV (putS K) = .agg UX.toArray := by rw [hU_UX]; rfl
  have hUe_UX : Value.agg UX.toArray = .agg (B8 ((putS K)).1).toArray := by rw [hU_UX]; rfl
  have HN_UX := hide hUl_UX
  have HO_UX := hide hUo_UX
  have HI_UX := hide hUi_UX
  have HE_UX := hide hUe_UX
  have HU_UX := hide hU_UX
  have HV_UX := hide hUv_UX
  clear hU_UX hUl_UX hUo_UX hUi_UX hUv_UX hUe_UX
  rw [HV_US.out] at HOfS ⊢
  rw [HV_UX.out] at HPut
  have HL_w := hide (Below.refl w.heap.size w)
  go_enter Try.func4, Try.ntmps4
  go_wp2_with (first
    | (refine wpList_box_blk rfl 24 (.tmp 0) rfl (.agg (labC l A n c).toArray) rfl ?_; intro w1 hb1q hl1 hs1; clear hs1; have hb1 : Blk w1 w.heap.size 24 (labC l A n c).toArray := hb1q; clear hb1q)
    | (refine wpList_box_blk rfl 26 (.tmp 1) rfl (.agg US.toArray) rfl ?_; intro w2 hb2q hl2 hs2; clear hs2; have hb2 : Blk w2 w1.heap.size 26 US.toArray := hb2q; clear hb2q))
  have hx1 := hb1.lt
  have hx2 := hb2.lt
  have HLB_w2 := hide (hb1.below hl2 hx1)
  have HSB_w2 := hide hb2
  have HX_w2 := hide ((hx.later hl1).later hl2)
  have HL_w2 := hide (hl1.trans (hl2.mono (by omega)))
  clear hb1 hb2 hl1 hl2
  refine (HShown.out w2).mono ?_
  rintro _ w3 ⟨rfl, hl3⟩
  have hb_w3 := hide (hl3)
  have HLB_w3 := hide (HLB_w2.out.below hb_w3.out HLB_w2.out.lt)
  have HSB_w3 := hide (HSB_w2.out.below hb_w3.out HSB_w2.out.lt)
  have HX_w3 := hide (HX_w2.out.later hb_w3.out)
  have HL_w3 := hide (HL_w2.out.trans (hb_w3.out.mono HL_w2.out.size))
  have hz_w3 := HL_w3.out.size
  have hy_w3 := hb_w3.out.size
  clear HLB_w2 HSB_w2 HX_w2
  clear hl3
  go_wp2_with (first
    | (refine wpList_load_blk rfl 24 (.tmp 2) rfl w.heap.size 0 24 _ HLB_w3.out rfl (labC l A n c) _ (fun j v hj => by rw [Nat.zero_add]; simpa using hj) Try.underlying24 rfl lab_info ?_))
  refine (HCut.out A n c w3.heap.size w3 HX_w3.out (Nat.le_refl _)).mono ?_
  rintro _ w4 ⟨⟨A4, n4, c4, rfl, hG4⟩, hl4⟩
  have HF := hide hG4.2
  have hb_w4 := hide (hl4)
  have HLB_w4 := hide (HLB_w3.out.below hb_w4.out HLB_w3.out.lt)
  have HSB_w4 := hide (HSB_w3.out.below hb_w4.out HSB_w3.out.lt)
  have HL_w4 := hide (HL_w3.out.trans (hb_w4.out.mono HL_w3.out.size))
  have hz_w4 := HL_w4.out.size
  have hy_w4 := hb_w4.out.size
  clear HLB_w3 HSB_w3
  clear hl4
  have HG_w4 := hide hG4
  clear hG4
  go_wp2_with (first
    | (refine wpList_store_all rfl 24 (.tmp 2) (.tmp 17) rfl w.heap.size 24 _ HLB_w4.out rfl (labC K A4 n4 c4) rfl lab_info rfl (labC_one _ _ _ _) ?_; intro w5 hc_w5 hg_w5 hs_w5; clear hs_w5; have hz5 := hg_w5.size; have HLB_w5 := hide hc_w5; have HSB_w5 := hide (HSB_w4.out.grown hg_w5 (fun e => by injection e with e; omega)); have HG_w5 := hide (HG_w4.out.grown hg_w5 (fun h0 ad e => by have := HF.out h0 ad e; omega)); have HL_w5 := hide (HL_w4.out.grown hg_w5 HL_w4.out.size (fun g e => by injection e with e; omega)); clear hc_w5 hg_w5)
    | (refine wpList_load_blk rfl 24 (.tmp 2) rfl w.heap.size 0 24 _ HLB_w5.out rfl (labC K A4 n4 c4) _ (fun j v hj => by rw [Nat.zero_add]; simpa using hj) Try.underlying24 rfl lab_info ?_))
  refine (HPut.out A4 n4 c4 w5.heap.size w5 HG_w5.out.1 (Nat.le_refl _)).mono ?_
  rintro _ w6 ⟨rfl, hl6⟩
  have hb_w6 := hide (hl6)
  have HLB_w6 := hide (HLB_w5.out.below hb_w6.out HLB_w5.out.lt)
  have HSB_w6 := hide (HSB_w5.out.below hb_w6.out HSB_w5.out.lt)
  have HG_w6 := hide (HG_w5.out.later hb_w6.out)
  have HL_w6 := hide (HL_w5.out.trans (hb_w6.out.mono HL_w5.out.size))
  have hz_w6 := HL_w6.out.size
  have hy_w6 := hb_w6.out.size
  clear HLB_w5 HSB_w5 HG_w5
  clear hl6
  cases hr : rightB K with
  | false =>
    have hPE : putE K = 1 := by rw [putE, hr]; rfl
    rw [hPE]
    rw [hr] at HRight
    clear hr hPE
    go_wp2_with (first
      | (refine wpList_alloc_blk rfl 26 rfl _ (sec_zero _) ?_; intro w7 ha_w7 hl_w7 hs_w7; clear hs_w7)
      | (refine wpList_store_all rfl 26 (.tmp 6) (.tmp 21) rfl w6.heap.size 26 _ ha_w7 rfl UX rfl HI_UX.out (HN_UX.out.trans (secL_length zeroSec).symm) HO_UX.out ?_; intro w8 hc_w8 hg_w8 hs_w8; clear hs_w8; have hbb_w8 : Below w6.heap.size w6 w8 := hl_w7.grown hg_w8 (by have := hl_w7.size; omega) (fun g e => by injection e with e; omega); have hb_w8 := hide (hbb_w8); have HLB_w8 := hide (HLB_w6.out.below hb_w8.out HLB_w6.out.lt); have HSB_w8 := hide (HSB_w6.out.below hb_w8.out HSB_w6.out.lt); have HG_w8 := hide (HG_w6.out.later hb_w8.out); have HL_w8 := hide (HL_w6.out.trans (hb_w8.out.mono HL_w6.out.size)); have hz_w8 := HL_w8.out.size; have hy_w8 := hb_w8.out.size; clear HLB_w6 HSB_w6 HG_w6; have HXV_w8 := hide hc_w8; have hv_HXV := hc_w8.lt; clear hbb_w8 hc_w8 ha_w7 hl_w7 hg_w8)
      | (refine wpList_load_blk rfl 24 (.tmp 2) rfl w.heap.size 0 24 _ HLB_w8.out rfl (labC K A4 n4 c4) _ (fun j v hj => by rw [Nat.zero_add]; simpa using hj) Try.underlying24 rfl lab_info ?_))
    refine (HRight.out A4 n4 c4 w8.heap.size w8 HG_w8.out.1 (Nat.le_refl _)).mono ?_
    rintro _ w9 ⟨rfl, hl9⟩
    have hb_w9 := hide (hl9)
    have HLB_w9 := hide (HLB_w8.out.below hb_w9.out HLB_w8.out.lt)
    have HSB_w9 := hide (HSB_w8.out.below hb_w9.out HSB_w8.out.lt)
    have HG_w9 := hide (HG_w8.out.later hb_w9.out)
    have HXV_w9 := hide (HXV_w8.out.below hb_w9.out HXV_w8.out.lt)
    have HL_w9 := hide (HL_w8.out.trans (hb_w9.out.mono HL_w8.out.size))
    have hz_w9 := HL_w9.out.size
    have hy_w9 := hb_w9.out.size
    clear HLB_w8 HSB_w8 HG_w8 HXV_w8
    clear hl9
    go_wp2_with (first
      | (refine wpList_load_blk rfl 26 (.tmp 3) rfl w1.heap.size 0 26 _ HSB_w9.out rfl US _ (fun j v hj => by rw [Nat.zero_add]; simpa using hj) Try.underlying26 rfl HI_US.out ?_))
    refine (HOfS.out w9).mono ?_
    rintro _ wa1 ⟨⟨A5, n5, c5, rfl, hG5⟩, hl5⟩
    have hb_wa1 := hide (hl5)
    have HLB_wa1 := hide (HLB_w9.out.below hb_wa1.out HLB_w9.out.lt)
    have HSB_wa1 := hide (HSB_w9.out.below hb_wa1.out HSB_w9.out.lt)
    have HG_wa1 := hide (HG_w9.out.later hb_wa1.out)
    have HXV_wa1 := hide (HXV_w9.out.below hb_wa1.out HXV_w9.out.lt)
    have HL_wa1 := hide (HL_w9.out.trans (hb_wa1.out.mono HL_w9.out.size))
    have hz_wa1 := HL_wa1.out.size
    have hy_wa1 := hb_wa1.out.size
    clear HLB_w9 HSB_w9 HG_w9 HXV_w9
    clear hl5
    have HK_wa1 := hide hG5
    clear hG5
    cases hs : ofB s with
    | false =>
      have hL5 : ofL s = Lab.none_ := by rw [ofL, hs]; rfl
      have hE5 : ofE s = 2 := by rw [ofE, hs]; rfl
      have hn5 : n5 = 0 := by have := HK_wa1.out.1.len; rw [hL5] at this; exact this.symm
      subst hn5
      rw [hL5, hE5]
      have HL5 := hide hL5
      clear hL5 hE5 hs
      go_wp2_with (first
        | (refine wpList_alloc_blk rfl 24 rfl _ (lab_zero _) ?_; intro wb1 ha_wb1 hl_wb1 hs_wb1; clear hs_wb1)
        | (refine wpList_store_all rfl 24 (.tmp 11) (.tmp 47) rfl wa1.heap.size 24 _ ha_wb1 rfl (labC Lab.none_ A5 0 c5) rfl lab_info rfl (labC_one _ _ _ _) ?_; intro wc1 hc_wc1 hg_wc1 hs_wc1; clear hs_wc1; have hbb_wc1 : Below wa1.heap.size wa1 wc1 := hl_wb1.grown hg_wc1 (by have := hl_wb1.size; omega) (fun g e => by injection e with e; omega); have hb_wc1 := hide (hbb_wc1); have HLB_wc1 := hide (HLB_wa1.out.below hb_wc1.out HLB_wa1.out.lt); have HSB_wc1 := hide (HSB_wa1.out.below hb_wc1.out HSB_wa1.out.lt); have HG_wc1 := hide (HG_wa1.out.later hb_wc1.out); have HXV_wc1 := hide (HXV_wa1.out.below hb_wc1.out HXV_wa1.out.lt); have HK_wc1 := hide (HK_wa1.out.later hb_wc1.out); have HL_wc1 := hide (HL_wa1.out.trans (hb_wc1.out.mono HL_wa1.out.size)); have hz_wc1 := HL_wc1.out.size; have hy_wc1 := hb_wc1.out.size; clear HLB_wa1 HSB_wa1 HG_wa1 HXV_wa1 HK_wa1; have HQ_wc1 := hide hc_wc1; have hv_HQ := hc_wc1.lt; clear hbb_wc1 hc_wc1 ha_wb1 hl_wb1 hg_wc1); have hx4 := lab_c4 HQ_wc1.out)
      go_ret
      exact ⟨rfl, HL_wc1.out⟩
    | true =>
      have hP := of_parts hs
      have hE5 : ofE s = 0 := by rw [ofE, hs]; rfl
      obtain ⟨J, hJ⟩ : ∃ J, J = ofL s := ⟨_, rfl⟩
      rw [← hJ] at hP
      have hPS : putS J = s := by rw [putS, hP.1]; exact hP.2
      have hPE : putE J = 0 := by rw [putE, hP.1]; rfl
      have HPutJ := hide (fun A n c B0 w => lput_any J A n c B0 w)
      rw [hPS, hPE, HV_US.out] at HPutJ
      rw [hE5, ← hJ]
      have HK2 := HK_wa1
      rw [← hJ] at HK2
      clear hP hE5 hJ hPS hPE hs HK_wa1
      have HK_wa1 := HK2
      clear HK2
      go_wp2_with (first
        | (refine wpList_alloc_blk rfl 24 rfl _ (lab_zero _) ?_; intro wb1 ha_wb1 hl_wb1 hs_wb1; clear hs_wb1)
        | (refine wpList_store_all rfl 24 (.tmp 11) (.tmp 47) rfl wa1.heap.size 24 _ ha_wb1 rfl (labC J A5 n5 c5) rfl lab_info rfl (labC_one _ _ _ _) ?_; intro wc1 hc_wc1 hg_wc1 hs_wc1; clear hs_wc1; have hbb_wc1 : Below wa1.heap.size wa1 wc1 := hl_wb1.grown hg_wc1 (by have := hl_wb1.size; omega) (fun g e => by injection e with e; omega); have hb_wc1 := hide (hbb_wc1); have HLB_wc1 := hide (HLB_wa1.out.below hb_wc1.out HLB_wa1.out.lt); have HSB_wc1 := hide (HSB_wa1.out.below hb_wc1.out HSB_wa1.out.lt); have HG_wc1 := hide (HG_wa1.out.later hb_wc1.out); have HXV_wc1 := hide (HXV_wa1.out.below hb_wc1.out HXV_wa1.out.lt); have HK_wc1 := hide (HK_wa1.out.later hb_wc1.out); have HL_wc1 := hide (HL_wa1.out.trans (hb_wc1.out.mono HL_wa1.out.size)); have hz_wc1 := HL_wc1.out.size; have hy_wc1 := hb_wc1.out.size; clear HLB_wa1 HSB_wa1 HG_wa1 HXV_wa1 HK_wa1; have HQ_wc1 := hide hc_wc1; have hv_HQ := hc_wc1.lt; clear hbb_wc1 hc_wc1 ha_wb1 hl_wb1 hg_wc1)
        | (refine wpList_load_blk rfl 24 (.tmp 11) rfl wa1.heap.size 0 24 _ HQ_wc1.out rfl (labC J A5 n5 c5) _ (fun j v hj => by rw [Nat.zero_add]; simpa using hj) Try.underlying24 rfl lab_info ?_))
      refine (HPutJ.out A5 n5 c5 wc1.heap.size wc1 HK_wc1.out.1 (Nat.le_refl _)).mono ?_
      rintro _ wd1 ⟨rfl, hl8⟩
      have hb_wd1 := hide (hl8)
      have HLB_wd1 := hide (HLB_wc1.out.below hb_wd1.out HLB_wc1.out.lt)
      have HSB_wd1 := hide (HSB_wc1.out.below hb_wd1.out HSB_wc1.out.lt)
      have HG_wd1 := hide (HG_wc1.out.later hb_wd1.out)
      have HXV_wd1 := hide (HXV_wc1.out.below hb_wd1.out HXV_wc1.out.lt)
      have HK_wd1 := hide (HK_wc1.out.later hb_wd1.out)
      have HQ_wd1 := hide (HQ_wc1.out.below hb_wd1.out HQ_wc1.out.lt)
      have HL_wd1 := hide (HL_wc1.out.trans (hb_wd1.out.mono HL_wc1.out.size))
      have hz_wd1 := HL_wd1.out.size
      have hy_wd1 := hb_wd1.out.size
      clear HLB_wc1 HSB_wc1 HG_wc1 HXV_wc1 HK_wc1 HQ_wc1
      clear hl8
      go_wp2_with (first
        | (refine wpList_alloc_blk rfl 26 rfl _ (sec_zero _) ?_; intro we1 ha_we1 hl_we1 hs_we1; clear hs_we1)
        | (refine wpList_store_all rfl 26 (.tmp 13) (.tmp 65) rfl wd1.heap.size 26 _ ha_we1 rfl US rfl HI_US.out (HN_US.out.trans (secL_length zeroSec).symm) HO_US.out ?_; intro wf1 hc_wf1 hg_wf1 hs_wf1; clear hs_wf1; have hbb_wf1 : Below wd1.heap.size wd1 wf1 := hl_we1.grown hg_wf1 (by have := hl_we1.size; omega) (fun g e => by injection e with e; omega); have hb_wf1 := hide (hbb_wf1); have HLB_wf1 := hide (HLB_wd1.out.below hb_wf1.out HLB_wd1.out.lt); have HSB_wf1 := hide (HSB_wd1.out.below hb_wf1.out HSB_wd1.out.lt); have HG_wf1 := hide (HG_wd1.out.later hb_wf1.out); have HXV_wf1 := hide (HXV_wd1.out.below hb_wf1.out HXV_wd1.out.lt); have HK_wf1 := hide (HK_wd1.out.later hb_wf1.out); have HQ_wf1 := hide (HQ_wd1.out.below hb_wf1.out HQ_wd1.out.lt); have HL_wf1 := hide (HL_wd1.out.trans (hb_wf1.out.mono HL_wd1.out.size)); have hz_wf1 := HL_wf1.out.size; have hy_wf1 := hb_wf1.out.size; clear HLB_wd1 HSB_wd1 HG_wd1 HXV_wd1 HK_wd1 HQ_wd1; have HY_wf1 := hide hc_wf1; have hv_HY := hc_wf1.lt; clear hbb_wf1 hc_wf1 ha_we1 hl_we1 hg_wf1)
        | (refine when_load rfl 26 (.tmp 13) rfl wd1.heap.size 0 26 _ HY_wf1.out rfl US _ (fun j v hj => by rw [Nat.zero_add]; simpa using hj) Try.underlying26 rfl HI_US.out ?_)
        | (refine when_load rfl 26 (.tmp 3) rfl w1.heap.size 0 26 _ HSB_wf1.out rfl US _ (fun j v hj => by rw [Nat.zero_add]; simpa using hj) Try.underlying26 rfl HI_US.out ?_)
        | (refine when_eql rfl 26 5 _ (.tmp 73) (.tmp 74) rfl 64 _ Try.underlying26 Try.underlying5 u8_info (by kernel_rfl) (by kernel_rfl) s.1 s.1 s.2 s.2 HE_US.out HE_US.out true (by simp) ?_))
      go_ret
      exact ⟨rfl, HL_wf1.out⟩
  | true =>
    have hPE : putE K = 0 := by rw [putE, hr]; rfl
    have hPS : putS K = labS K := by rw [putS, hr]; rfl
    have hof := of_put hr
    rw [← hPS] at hof
    have HOfX := hide (fun w => of_any (putS K) w)
    rw [hof.2.1, hof.2.2, HV_UX.out] at HOfX
    have HSame := hide (fun A C n c m d B1 B2 w => same_any K K A C n c m d B1 B2 w)
    rw [sameB_self] at HSame
    rw [hPE]
    rw [hr] at HRight
    clear hr hPE hPS hof
    go_wp2_with (first
      | (refine wpList_alloc_blk rfl 26 rfl _ (sec_zero _) ?_; intro w7 ha_w7 hl_w7 hs_w7; clear hs_w7)
      | (refine wpList_store_all rfl 26 (.tmp 6) (.tmp 21) rfl w6.heap.size 26 _ ha_w7 rfl UX rfl HI_UX.out (HN_UX.out.trans (secL_length zeroSec).symm) HO_UX.out ?_; intro w8 hc_w8 hg_w8 hs_w8; clear hs_w8; have hbb_w8 : Below w6.heap.size w6 w8 := hl_w7.grown hg_w8 (by have := hl_w7.size; omega) (fun g e => by injection e with e; omega); have hb_w8 := hide (hbb_w8); have HLB_w8 := hide (HLB_w6.out.below hb_w8.out HLB_w6.out.lt); have HSB_w8 := hide (HSB_w6.out.below hb_w8.out HSB_w6.out.lt); have HG_w8 := hide (HG_w6.out.later hb_w8.out); have HL_w8 := hide (HL_w6.out.trans (hb_w8.out.mono HL_w6.out.size)); have hz_w8 := HL_w8.out.size; have hy_w8 := hb_w8.out.size; clear HLB_w6 HSB_w6 HG_w6; have HXV_w8 := hide hc_w8; have hv_HXV := hc_w8.lt; clear hbb_w8 hc_w8 ha_w7 hl_w7 hg_w8)
      | (refine wpList_load_blk rfl 24 (.tmp 2) rfl w.heap.size 0 24 _ HLB_w8.out rfl (labC K A4 n4 c4) _ (fun j v hj => by rw [Nat.zero_add]; simpa using hj) Try.underlying24 rfl lab_info ?_))
    refine (HRight.out A4 n4 c4 w8.heap.size w8 HG_w8.out.1 (Nat.le_refl _)).mono ?_
    rintro _ w9 ⟨rfl, hl9⟩
    have hb_w9 := hide (hl9)
    have HLB_w9 := hide (HLB_w8.out.below hb_w9.out HLB_w8.out.lt)
    have HSB_w9 := hide (HSB_w8.out.below hb_w9.out HSB_w8.out.lt)
    have HG_w9 := hide (HG_w8.out.later hb_w9.out)
    have HXV_w9 := hide (HXV_w8.out.below hb_w9.out HXV_w8.out.lt)
    have HL_w9 := hide (HL_w8.out.trans (hb_w9.out.mono HL_w8.out.size))
    have hz_w9 := HL_w9.out.size
    have hy_w9 := hb_w9.out.size
    clear HLB_w8 HSB_w8 HG_w8 HXV_w8
    clear hl9
    go_wp2_with (first
      | (refine wpList_load_blk rfl 26 (.tmp 6) rfl w6.heap.size 0 26 _ HXV_w9.out rfl UX _ (fun j v hj => by rw [Nat.zero_add]; simpa using hj) Try.underlying26 rfl HI_UX.out ?_))
    refine (HOfX.out w9).mono ?_
    rintro _ w10 ⟨⟨A3, n3, c3, rfl, hG3⟩, hl10⟩
    have hb_w10 := hide (hl10)
    have HLB_w10 := hide (HLB_w9.out.below hb_w10.out HLB_w9.out.lt)
    have HSB_w10 := hide (HSB_w9.out.below hb_w10.out HSB_w9.out.lt)
    have HG_w10 := hide (HG_w9.out.later hb_w10.out)
    have HXV_w10 := hide (HXV_w9.out.below hb_w10.out HXV_w9.out.lt)
    have HL_w10 := hide (HL_w9.out.trans (hb_w10.out.mono HL_w9.out.size))
    have hz_w10 := HL_w10.out.size
    have hy_w10 := hb_w10.out.size
    clear HLB_w9 HSB_w9 HG_w9 HXV_w9
    clear hl10
    have HM_w10 := hide hG3
    clear hG3
    go_wp2_with (first
      | (refine wpList_alloc_blk rfl 24 rfl _ (lab_zero _) ?_; intro w11 ha_w11 hl_w11 hs_w11; clear hs_w11)
      | (refine wpList_store_all rfl 24 (.tmp 8) (.tmp 33) rfl w10.heap.size 24 _ ha_w11 rfl (labC K A3 n3 c3) rfl lab_info rfl (labC_one _ _ _ _) ?_; intro w12 hc_w12 hg_w12 hs_w12; clear hs_w12; have hbb_w12 : Below w10.heap.size w10 w12 := hl_w11.grown hg_w12 (by have := hl_w11.size; omega) (fun g e => by injection e with e; omega); have hb_w12 := hide (hbb_w12); have HLB_w12 := hide (HLB_w10.out.below hb_w12.out HLB_w10.out.lt); have HSB_w12 := hide (HSB_w10.out.below hb_w12.out HSB_w10.out.lt); have HG_w12 := hide (HG_w10.out.later hb_w12.out); have HXV_w12 := hide (HXV_w10.out.below hb_w12.out HXV_w10.out.lt); have HM_w12 := hide (HM_w10.out.later hb_w12.out); have HL_w12 := hide (HL_w10.out.trans (hb_w12.out.mono HL_w10.out.size)); have hz_w12 := HL_w12.out.size; have hy_w12 := hb_w12.out.size; clear HLB_w10 HSB_w10 HG_w10 HXV_w10 HM_w10; have HMV_w12 := hide hc_w12; have hv_HMV := hc_w12.lt; clear hbb_w12 hc_w12 ha_w11 hl_w11 hg_w12)
      | (refine wpList_load_blk rfl 24 (.tmp 8) rfl w10.heap.size 0 24 _ HMV_w12.out rfl (labC K A3 n3 c3) _ (fun j v hj => by rw [Nat.zero_add]; simpa using hj) Try.underlying24 rfl lab_info ?_)
      | (refine wpList_load_blk rfl 24 (.tmp 2) rfl w.heap.size 0 24 _ HLB_w12.out rfl (labC K A4 n4 c4) _ (fun j v hj => by rw [Nat.zero_add]; simpa using hj) Try.underlying24 rfl lab_info ?_))
    refine (HSame.out A3 A4 n3 c3 n4 c4 w12.heap.size w12.heap.size w12 HM_w12.out.1 HG_w12.out.1 (Nat.le_refl _) (Nat.le_refl _)).mono ?_
    rintro _ w13 ⟨rfl, hl13⟩
    have hb_w13 := hide (hl13)
    have HLB_w13 := hide (HLB_w12.out.below hb_w13.out HLB_w12.out.lt)
    have HSB_w13 := hide (HSB_w12.out.below hb_w13.out HSB_w12.out.lt)
    have HG_w13 := hide (HG_w12.out.later hb_w13.out)
    have HXV_w13 := hide (HXV_w12.out.below hb_w13.out HXV_w12.out.lt)
    have HM_w13 := hide (HM_w12.out.later hb_w13.out)
    have HMV_w13 := hide (HMV_w12.out.below hb_w13.out HMV_w12.out.lt)
    have HL_w13 := hide (HL_w12.out.trans (hb_w13.out.mono HL_w12.out.size))
    have hz_w13 := HL_w13.out.size
    have hy_w13 := hb_w13.out.size
    clear HLB_w12 HSB_w12 HG_w12 HXV_w12 HM_w12 HMV_w12
    clear hl13
    go_wp2_with (first
      | (refine wpList_load_blk rfl 26 (.tmp 3) rfl w1.heap.size 0 26 _ HSB_w13.out rfl US _ (fun j v hj => by rw [Nat.zero_add]; simpa using hj) Try.underlying26 rfl HI_US.out ?_))
    refine (HOfS.out w13).mono ?_
    rintro _ wa2 ⟨⟨A5, n5, c5, rfl, hG5⟩, hl5⟩
    have hb_wa2 := hide (hl5)
    have HLB_wa2 := hide (HLB_w13.out.below hb_wa2.out HLB_w13.out.lt)
    have HSB_wa2 := hide (HSB_w13.out.below hb_wa2.out HSB_w13.out.lt)
    have HG_wa2 := hide (HG_w13.out.later hb_wa2.out)
    have HXV_wa2 := hide (HXV_w13.out.below hb_wa2.out HXV_w13.out.lt)
    have HM_wa2 := hide (HM_w13.out.later hb_wa2.out)
    have HMV_wa2 := hide (HMV_w13.out.below hb_wa2.out HMV_w13.out.lt)
    have HL_wa2 := hide (HL_w13.out.trans (hb_wa2.out.mono HL_w13.out.size))
    have hz_wa2 := HL_wa2.out.size
    have hy_wa2 := hb_wa2.out.size
    clear HLB_w13 HSB_w13 HG_w13 HXV_w13 HM_w13 HMV_w13
    clear hl5
    have HK_wa2 := hide hG5
    clear hG5
    cases hs : ofB s with
    | false =>
      have hL5 : ofL s = Lab.none_ := by rw [ofL, hs]; rfl
      have hE5 : ofE s = 2 := by rw [ofE, hs]; rfl
      have hn5 : n5 = 0 := by have := HK_wa2.out.1.len; rw [hL5] at this; exact this.symm
      subst hn5
      rw [hL5, hE5]
      have HL5 := hide hL5
      clear hL5 hE5 hs
      go_wp2_with (first
        | (refine wpList_alloc_blk rfl 24 rfl _ (lab_zero _) ?_; intro wb2 ha_wb2 hl_wb2 hs_wb2; clear hs_wb2)
        | (refine wpList_store_all rfl 24 (.tmp 11) (.tmp 47) rfl wa2.heap.size 24 _ ha_wb2 rfl (labC Lab.none_ A5 0 c5) rfl lab_info rfl (labC_one _ _ _ _) ?_; intro wc2 hc_wc2 hg_wc2 hs_wc2; clear hs_wc2; have hbb_wc2 : Below wa2.heap.size wa2 wc2 := hl_wb2.grown hg_wc2 (by have := hl_wb2.size; omega) (fun g e => by injection e with e; omega); have hb_wc2 := hide (hbb_wc2); have HLB_wc2 := hide (HLB_wa2.out.below hb_wc2.out HLB_wa2.out.lt); have HSB_wc2 := hide (HSB_wa2.out.below hb_wc2.out HSB_wa2.out.lt); have HG_wc2 := hide (HG_wa2.out.later hb_wc2.out); have HXV_wc2 := hide (HXV_wa2.out.below hb_wc2.out HXV_wa2.out.lt); have HM_wc2 := hide (HM_wa2.out.later hb_wc2.out); have HMV_wc2 := hide (HMV_wa2.out.below hb_wc2.out HMV_wa2.out.lt); have HK_wc2 := hide (HK_wa2.out.later hb_wc2.out); have HL_wc2 := hide (HL_wa2.out.trans (hb_wc2.out.mono HL_wa2.out.size)); have hz_wc2 := HL_wc2.out.size; have hy_wc2 := hb_wc2.out.size; clear HLB_wa2 HSB_wa2 HG_wa2 HXV_wa2 HM_wa2 HMV_wa2 HK_wa2; have HQ_wc2 := hide hc_wc2; have hv_HQ := hc_wc2.lt; clear hbb_wc2 hc_wc2 ha_wb2 hl_wb2 hg_wc2); have hx4 := lab_c4 HQ_wc2.out)
      go_ret
      exact ⟨rfl, HL_wc2.out⟩
    | true =>
      have hP := of_parts hs
      have hE5 : ofE s = 0 := by rw [ofE, hs]; rfl
      obtain ⟨J, hJ⟩ : ∃ J, J = ofL s := ⟨_, rfl⟩
      rw [← hJ] at hP
      have hPS : putS J = s := by rw [putS, hP.1]; exact hP.2
      have hPE : putE J = 0 := by rw [putE, hP.1]; rfl
      have HPutJ := hide (fun A n c B0 w => lput_any J A n c B0 w)
      rw [hPS, hPE, HV_US.out] at HPutJ
      rw [hE5, ← hJ]
      have HK2 := HK_wa2
      rw [← hJ] at HK2
      clear hP hE5 hJ hPS hPE hs HK_wa2
      have HK_wa2 := HK2
      clear HK2
      go_wp2_with (first
        | (refine wpList_alloc_blk rfl 24 rfl _ (lab_zero _) ?_; intro wb2 ha_wb2 hl_wb2 hs_wb2; clear hs_wb2)
        | (refine wpList_store_all rfl 24 (.tmp 11) (.tmp 47) rfl wa2.heap.size 24 _ ha_wb2 rfl (labC J A5 n5 c5) rfl lab_info rfl (labC_one _ _ _ _) ?_; intro wc2 hc_wc2 hg_wc2 hs_wc2; clear hs_wc2; have hbb_wc2 : Below wa2.heap.size wa2 wc2 := hl_wb2.grown hg_wc2 (by have := hl_wb2.size; omega) (fun g e => by injection e with e; omega); have hb_wc2 := hide (hbb_wc2); have HLB_wc2 := hide (HLB_wa2.out.below hb_wc2.out HLB_wa2.out.lt); have HSB_wc2 := hide (HSB_wa2.out.below hb_wc2.out HSB_wa2.out.lt); have HG_wc2 := hide (HG_wa2.out.later hb_wc2.out); have HXV_wc2 := hide (HXV_wa2.out.below hb_wc2.out HXV_wa2.out.lt); have HM_wc2 := hide (HM_wa2.out.later hb_wc2.out); have HMV_wc2 := hide (HMV_wa2.out.below hb_wc2.out HMV_wa2.out.lt); have HK_wc2 := hide (HK_wa2.out.later hb_wc2.out); have HL_wc2 := hide (HL_wa2.out.trans (hb_wc2.out.mono HL_wa2.out.size)); have hz_wc2 := HL_wc2.out.size; have hy_wc2 := hb_wc2.out.size; clear HLB_wa2 HSB_wa2 HG_wa2 HXV_wa2 HM_wa2 HMV_wa2 HK_wa2; have HQ_wc2 := hide hc_wc2; have hv_HQ := hc_wc2.lt; clear hbb_wc2 hc_wc2 ha_wb2 hl_wb2 hg_wc2)
        | (refine wpList_load_blk rfl 24 (.tmp 11) rfl wa2.heap.size 0 24 _ HQ_wc2.out rfl (labC J A5 n5 c5) _ (fun j v hj => by rw [Nat.zero_add]; simpa using hj) Try.underlying24 rfl lab_info ?_))
      refine (HPutJ.out A5 n5 c5 wc2.heap.size wc2 HK_wc2.out.1 (Nat.le_refl _)).mono ?_
      rintro _ wd2 ⟨rfl, hl8⟩
      have hb_wd2 := hide (hl8)
      have HLB_wd2 := hide (HLB_wc2.out.below hb_wd2.out HLB_wc2.out.lt)
      have HSB_wd2 := hide (HSB_wc2.out.below hb_wd2.out HSB_wc2.out.lt)
      have HG_wd2 := hide (HG_wc2.out.later hb_wd2.out)
      have HXV_wd2 := hide (HXV_wc2.out.below hb_wd2.out HXV_wc2.out.lt)
      have HM_wd2 := hide (HM_wc2.out.later hb_wd2.out)
      have HMV_wd2 := hide (HMV_wc2.out.below hb_wd2.out HMV_wc2.out.lt)
      have HK_wd2 := hide (HK_wc2.out.later hb_wd2.out)
      have HQ_wd2 := hide (HQ_wc2.out.below hb_wd2.out HQ_wc2.out.lt)
      have HL_wd2 := hide (HL_wc2.out.trans (hb_wd2.out.mono HL_wc2.out.size))
      have hz_wd2 := HL_wd2.out.size
      have hy_wd2 := hb_wd2.out.size
      clear HLB_wc2 HSB_wc2 HG_wc2 HXV_wc2 HM_wc2 HMV_wc2 HK_wc2 HQ_wc2
      clear hl8
      go_wp2_with (first
        | (refine wpList_alloc_blk rfl 26 rfl _ (sec_zero _) ?_; intro we2 ha_we2 hl_we2 hs_we2; clear hs_we2)
        | (refine wpList_store_all rfl 26 (.tmp 13) (.tmp 65) rfl wd2.heap.size 26 _ ha_we2 rfl US rfl HI_US.out (HN_US.out.trans (secL_length zeroSec).symm) HO_US.out ?_; intro wf2 hc_wf2 hg_wf2 hs_wf2; clear hs_wf2; have hbb_wf2 : Below wd2.heap.size wd2 wf2 := hl_we2.grown hg_wf2 (by have := hl_we2.size; omega) (fun g e => by injection e with e; omega); have hb_wf2 := hide (hbb_wf2); have HLB_wf2 := hide (HLB_wd2.out.below hb_wf2.out HLB_wd2.out.lt); have HSB_wf2 := hide (HSB_wd2.out.below hb_wf2.out HSB_wd2.out.lt); have HG_wf2 := hide (HG_wd2.out.later hb_wf2.out); have HXV_wf2 := hide (HXV_wd2.out.below hb_wf2.out HXV_wd2.out.lt); have HM_wf2 := hide (HM_wd2.out.later hb_wf2.out); have HMV_wf2 := hide (HMV_wd2.out.below hb_wf2.out HMV_wd2.out.lt); have HK_wf2 := hide (HK_wd2.out.later hb_wf2.out); have HQ_wf2 := hide (HQ_wd2.out.below hb_wf2.out HQ_wd2.out.lt); have HL_wf2 := hide (HL_wd2.out.trans (hb_wf2.out.mono HL_wd2.out.size)); have hz_wf2 := HL_wf2.out.size; have hy_wf2 := hb_wf2.out.size; clear HLB_wd2 HSB_wd2 HG_wd2 HXV_wd2 HM_wd2 HMV_wd2 HK_wd2 HQ_wd2; have HY_wf2 := hide hc_wf2; have hv_HY := hc_wf2.lt; clear hbb_wf2 hc_wf2 ha_we2 hl_we2 hg_wf2)
        | (refine when_load rfl 26 (.tmp 13) rfl wd2.heap.size 0 26 _ HY_wf2.out rfl US _ (fun j v hj => by rw [Nat.zero_add]; simpa using hj) Try.underlying26 rfl HI_US.out ?_)
        | (refine when_load rfl 26 (.tmp 3) rfl w1.heap.size 0 26 _ HSB_wf2.out rfl US _ (fun j v hj => by rw [Nat.zero_add]; simpa using hj) Try.underlying26 rfl HI_US.out ?_)
        | (refine when_eql rfl 26 5 _ (.tmp 73) (.tmp 74) rfl 64 _ Try.underlying26 Try.underlying5 u8_info (by kernel_rfl) (by kernel_rfl) s.1 s.1 s.2 s.2 HE_US.out HE_US.out true (by simp) ?_))
      go_ret
      exact ⟨rfl, HL_wf2.out⟩

/-! The row's frame, by program: how the walk above proves the statement. -/
set_option maxRecDepth 100000 in
theorem lifted (os : Os) (started : os.Started) (H : Type) (enc : TypeId × Value → H) :
    ReturnsInHanded {} Try.checked os 4 .any (Rows.labelBackSpec.pre6 enc Try.prog Try.f4 Rows.labelBackRow.domain false) (Rows.labelBackSpec.post enc Try.prog Try.f4 false true false false) := by
  refine returnsInHanded_of_change (C := Try.checked) own started (by kernel_rfl) Try.func4
    (ChangeSpec.witness6 (enc := enc) (C := Try.checked) false ⟨#[], #[labV Lab.none_ none 0 0, secV zeroSec], []⟩ 8 (by kernel_rfl) (by kernel_rfl) (by kernel_rfl) (by kernel_rfl)) ?_
  intro W base args ds gs before hval0 hW hcnd _
  have hval : ∀ (j : Nat) t v, Try.f4.params[j]? = some t → args[j]? = some v → Value.okWide Try.prog W .any base t v := hval0
  have hW' := hW
  obtain ⟨p, q, hA0, hV, rfl, hfz, hnd⟩ := hW
  have hA : DataW.TrodAll enc Try.prog W 0 (fun _ => true) true Try.f4.params.toList args.toList ds p := hA0
  rw [Try.params4] at hA hval
  obtain ⟨v0, vs0, d0, ds0, p0, q0, hargs, rfl, rfl, h0, r0⟩ := trodAll_cons hA
  obtain ⟨v1, vs1, d1, ds1, p1, q1, rfl, rfl, rfl, h1, r1⟩ := trodAll_cons r0
  obtain ⟨rfl, rfl, rfl⟩ := trodAll_nil r1
  obtain rfl : args = #[v0, v1] := by cases args; simp_all
  obtain ⟨rfl, rfl⟩ := trodVars_none hV
  have k0 := h0
  have lt0 : ∀ x ∈ p0, x.block < W.heap.size := by obtain ⟨m, hm⟩ := k0; exact DataW.trod_lt m _ _ _ hm
  obtain ⟨l0, A0, n0, c0, rfl, x0⟩ := arg_label (hval 0 24 v0 rfl rfl) h0
  have k1 := h1
  have lt1 : ∀ x ∈ p1, x.block < W.heap.size := by obtain ⟨m, hm⟩ := k1; exact DataW.trod_lt m _ _ _ hm
  obtain ⟨s1, rfl⟩ := arg_sector (hval 1 26 v1 rfl rfl) h1
  clear hA0 hval0
  refine (walk l0 A0 n0 c0 s1 W x0).mono fun e W' ⟨he, bel⟩ => ?_
  subst he
  exact ⟨_, rfl, _, _, _, [], _, [], hW', trodAll_mk1 (shut_bool Try.underlying4 _), (trodAll_cons_mk (Below.trod laidOut (by kernel_rfl) (of_decide_eq_true (by kernel_rfl)) k0 bel lt0) (trodAll_cons_mk (Below.trod laidOut (by kernel_rfl) (of_decide_eq_true (by kernel_rfl)) k1 bel lt1) trodAll_mk0)), rfl, bel.frame _, fun h => by cases h⟩

theorem over : Rows.labelBackRow.holds Try.pinned (OpenSpec.ofChange Rows.labelBackSpec) :=
  OpenClaim.holds_of_wide 4 Try.f4 rfl rfl rfl rfl rfl rfl rfl ⟨rfl, rfl, rfl, rfl, rfl⟩ rfl rfl rfl rfl rfl (by kernel_rfl) Try.func4 (by kernel_rfl)
    (of_decide_eq_true (by kernel_rfl)) (by unfold Func.isWrapper; first | (rw [if_pos (by decide +kernel)]; kernel_rfl) | (rw [if_neg (by decide +kernel)]; exact ⟨rfl, rfl⟩))
    (fun os started H enc _ => lifted os started H enc)

/-- The statement. -/
theorem proved : Rows.LabelBackSaid := over
#print axioms proved
end Go.Proofs.Ytbbfgcekjelmkaa.LabelBack
