/- LabelNewer: of a member's two labels Load tells the newer one, and one of another member never; whatever two generations of unlike parity, whichever of both members; no condition. -/
import Derived.Test.YtbbfgcekjelmkaaShownL
import Derived.Test.YtbbfgcekjelmkaaArgL
import Derived.Test.YtbbfgcekjelmkaaQuiet
namespace Go.Proofs.Ytbbfgcekjelmkaa.LabelNewer
open Go.ChangeShapes Go.WideShapes Go.ChangeAt Go.RowKit Go.Proofs.Ytbbfgcekjelmkaa
set_option linter.unusedVariables false

theorem mask16 (v : Int) : ∃ m : Nat, bits .and .i64 v 65535 = (m : Int) ∧ m < 65536 := by
  have h := i64_mask v 16 (by decide)
  have h0 := Int.emod_nonneg v (show (2 : Int) ^ 16 ≠ 0 by decide)
  have h1 := Int.emod_lt_of_pos v (show (0 : Int) < 2 ^ 16 by decide)
  refine ⟨(v % 2 ^ 16).toNat, ?_, by omega⟩
  rw [Int.toNat_of_nonneg h0]
  exact h
/-- What Load tells of both labels. -/
theorem told {S : Bank} {x y : Lab} (hq : Quiet 200 S) (hx : rightB x = true) (hy : rightB y = true) (hm : x.member = 1) (h0 : S.newest 1 0 = labS x) (h1 : S.newest 1 1 = labS y) :
    S.loadL 1 = (if y.member = 1 ∧ x.gen < y.gen then y else x, 0) := by
  obtain ⟨_, gx, _⟩ := right_parts hx
  obtain ⟨_, gy, _⟩ := right_parts hy
  have hb : S.bestL 1 2 = if y.member = 1 ∧ x.gen < y.gen then y else x := by
    rw [best_two, h0, h1, cand_lab hx, if_pos ⟨hm, by show (0 : Int) < x.gen; omega⟩, cand_lab hy]
    rfl
  rw [hq.load (by decide) (by decide), hb]
  by_cases h : y.member = 1 ∧ x.gen < y.gen
  · rw [if_pos h, if_neg (by omega)]
  · rw [if_neg h, if_neg (by omega)]
theorem told_none {S : Bank} (hq : Quiet 200 S) (h0 : S.newest 2 0 = zeroSec) (h1 : S.newest 2 1 = zeroSec) : S.loadL 2 = (Lab.none_, 8) := by
  have hb : S.bestL 2 2 = Lab.none_ := by rw [best_two, h0, h1, cand_zero, cand_zero]
  rw [hq.load (by decide) (by decide), hb]
  rfl
set_option maxRecDepth 100000 in
set_option maxHeartbeats 8000000 in
theorem walk_t (a0 a1 : Int) (w : World) :
    Calls Try.prog 8 #[.int .i64 a0, .int .i64 a1, .bool true] w fun e w' => e = .returned (.bool true) ∧ Below w.heap.size w w' := by
  obtain ⟨m, hm, hml⟩ := mask16 a0
  obtain ⟨p, hp, hpl⟩ := mask16 a1
  obtain ⟨X, hX⟩ : ∃ X, X = plainL (2 + 2 * (m : Int)) 1 := ⟨_, rfl⟩
  obtain ⟨Y0, hY0⟩ : ∃ Y, Y = plainL (1 + 2 * (p : Int)) 1 := ⟨_, rfl⟩
  obtain ⟨Y, hY⟩ : ∃ Y, Y = plainL (1 + 2 * (p : Int)) 0 := ⟨_, rfl⟩
  have HPX := hide (fun w => plain_any (2 + 2 * (m : Int)) 1 w)
  have HPY := hide (fun w => plain_any (1 + 2 * (p : Int)) 1 w)
  rw [← hX] at HPX
  rw [← hY0] at HPY
  have HRX : Hid (rightB X = true) := by show _ = _; rw [hX]; exact right_plain (by omega) (by omega) (by decide) (by decide)
  have HRY : Hid (rightB Y = true) := by show _ = _; rw [hY]; exact right_plain (by omega) (by omega) (by decide) (by decide)
  have HEX := hide (show putE X = 0 by rw [putE, HRX.out]; rfl)
  have HEY := hide (show putE Y = 0 by rw [putE, HRY.out]; rfl)
  have HSX := hide (show putS X = labS X by rw [putS, HRX.out]; rfl)
  have HSY := hide (show putS Y = labS Y by rw [putS, HRY.out]; rfl)
  have HXM := hide (show X.member = 1 by rw [hX]; rfl)
  have HYM := hide (show Y.member = 0 by rw [hY]; rfl)
  have HXG := hide (show X.gen = 2 + 2 * (m : Int) by rw [hX]; rfl)
  have HYG := hide (show Y.gen = 1 + 2 * (p : Int) by rw [hY]; rfl)
  have HMY := hide (show Y.members = Y0.members by rw [hY, hY0]; rfl)
  have HCY := hide (fun A n c => show (labC Y0 A n c).toArray.setIfInBounds 2 (.int .i64 0) = (labC Y A n c).toArray by rw [hY, hY0]; rfl)
  have HShown := hide shownL_any
  have HPutX := hide (fun A n c B0 w => lput_any X A n c B0 w)
  have HPutY := hide (fun A n c B0 w => lput_any Y A n c B0 w)
  clear hX hY hY0
  obtain ⟨UX, hU_UX⟩ : ∃ U, U = secL (putS X) := ⟨_, rfl⟩
  have hUl_UX : UX.length = 64 := by rw [hU_UX, secL_length]
  have hUo_UX : ∀ v ∈ UX, v.oneCell' = true := by rw [hU_UX]; exact secL_one _
  have hUi_UX : (Try.prog.info? 26).map (·.size) = some UX.length := by rw [hUl_UX]; exact sec_info
  have hUv_UX : secV (putS X) = .agg UX.toArray := by rw [hU_UX]; rfl
  have hUe_UX : Value.agg UX.toArray = .agg (B8 ((putS X)).1).toArray := by rw [hU_UX]; rfl
  have HN_UX := hide hUl_UX
  have HO_UX := hide hUo_UX
  have HI_UX := hide hUi_UX
  have HE_UX := hide hUe_UX
  have HU_UX := hide hU_UX
  have HV_UX := hide hUv_UX
  clear hU_UX hUl_UX hUo_UX hUi_UX hUv_UX hUe_UX
  obtain ⟨UY, hU_UY⟩ : ∃ U, U = secL (putS Y) := ⟨_, rfl⟩
  have hUl_UY : UY.length = 64 := by rw [hU_UY, secL_length]
  have hUo_UY : ∀ v ∈ UY, v.oneCell' = true := by rw [hU_UY]; exact secL_one _
  have hUi_UY : (Try.prog.info? 26).map (·.size) = some UY.length := by rw [hUl_UY]; exact sec_info
  have hUv_UY : secV (putS Y) = .agg UY.toArray := by rw [hU_UY]; rfl
  have hUe_UY : Value.agg UY.toArray = .agg (B8 ((putS Y)).1).toArray := by rw [hU_UY]; rfl
  have HN_UY := hide hUl_UY
  have HO_UY := hide hUo_UY
  have HI_UY := hide hUi_UY
  have HE_UY := hide hUe_UY
  have HU_UY := hide hU_UY
  have HV_UY := hide hUv_UY
  clear hU_UY hUl_UY hUo_UY hUi_UY hUv_UY hUe_UY
  rw [HV_UX.out, HEX.out] at HPutX
  rw [HV_UY.out, HEY.out] at HPutY
  obtain ⟨S2, hS2⟩ : ∃ S, S = (Three.wrote.put 1 0 (putS X)).wrote.put 1 1 (putS Y) := ⟨_, rfl⟩
  have hq1 := (quiet_three.wrote).put 1 0 (putS X)
  have hq2 : Quiet 200 S2 := by rw [hS2]; exact (hq1.wrote).put 1 1 (putS Y)
  have HW1 := hide (fun (w1 : World) (b : Nat) (F : Nat → Prop) (h : BankOn w1 b F Three) => on_write h (by decide) 1 0 (putS X))
  rw [quiet_three.write (by decide) (by decide), HV_UX.out] at HW1
  have HW2 := hide (fun (w1 : World) (b : Nat) (F : Nat → Prop) (h : BankOn w1 b F (Three.wrote.put 1 0 (putS X))) => on_write h (by show 0 + 1 < 4611686018427387904; decide) 1 1 (putS Y))
  rw [hq1.write (by decide) (by decide), HV_UY.out, ← hS2] at HW2
  have h10 : S2.newest 1 0 = labS X := by rw [hS2, ← HSX.out]; rfl
  have h11 : S2.newest 1 1 = labS Y := by rw [hS2, ← HSY.out]; rfl
  have h20 : S2.newest 2 0 = zeroSec := by rw [hS2]; exact three_newest 2 0
  have h21 : S2.newest 2 1 = zeroSec := by rw [hS2]; exact three_newest 2 1
  have HT1 : Hid (S2.loadL 1 = (X, 0)) := by
    show _ = _
    rw [told hq2 HRX.out HRY.out HXM.out h10 h11, if_neg (fun h => absurd (h.1.symm.trans HYM.out) (by decide))]
  have HT2 := hide (told_none hq2 h20 h21)
  have HSame := hide (fun A C n c m d B1 B2 w => same_any X X A C n c m d B1 B2 w)
  rw [sameB_self] at HSame
  clear hS2 hq1 hq2 h10 h11 h20 h21
  have HL_w := hide (Below.refl w.heap.size w)
  go_enter Try.func8, Try.ntmps8
  go_wp2_with fail
  refine (HShown.out w).mono ?_
  rintro _ w1 ⟨rfl, hlq⟩
  have hb_w1 := hide (hlq)
  have HL_w1 := hide (HL_w.out.trans (hb_w1.out.mono HL_w.out.size))
  have hz_w1 := HL_w1.out.size
  have hy_w1 := hb_w1.out.size
  clear hlq
  go_wp2_with fail
  refine (bankNil_any w1).mono ?_
  rintro _ w2 ⟨⟨b, r, F, rfl, hB2, hlo2⟩, hlq⟩
  have hb_w2 := hide (hlq)
  have HL_w2 := hide (HL_w1.out.trans (hb_w2.out.mono HL_w1.out.size))
  have hz_w2 := HL_w2.out.size
  have hy_w2 := hb_w2.out.size
  clear hlq
  have HFB : Hid (∀ x, F x → w1.heap.size ≤ x ∧ x < w2.heap.size) := fun x hx => ⟨hlo2 x hx, hB2.1 x hx⟩
  have HBK_w2 := hide hB2
  clear hB2 hlo2
  go_wp2_with fail
  refine (HPX.out w2).mono ?_
  rintro _ w3 ⟨⟨A3, n3, c3, rfl, hG3, rfl⟩, hlq⟩
  have hb_w3 := hide (hlq)
  have HBK_w3 := hide (HBK_w2.out.later hb_w3.out)
  have HL_w3 := hide (HL_w2.out.trans (hb_w3.out.mono HL_w2.out.size))
  have hz_w3 := HL_w3.out.size
  have hy_w3 := hb_w3.out.size
  clear HBK_w2
  clear hlq
  have HGX_w3 := hide hG3
  have hlt_A3 : ∀ ad, A3 = some ad → ad.block < w3.heap.size := fun ad e => by obtain ⟨ad', e', h', _⟩ := HGX_w3.out.1.1.2 (by decide); rw [e] at e'; injection e' with e'; rw [e']; exact h'
  clear hG3
  go_wp2_with (first
    | (refine wpList_alloc_blk rfl 24 rfl _ (lab_zero _) ?_; intro w4 ha_w4 hl_w4 hs_w4; clear hs_w4)
    | (refine wpList_store_all rfl 24 (.tmp 10) (.tmp 37) rfl w3.heap.size 24 _ ha_w4 rfl (labC X A3 3 c3) rfl lab_info rfl (labC_one _ _ _ _) ?_; intro w5 hc_w5 hg_w5 hs_w5; clear hs_w5; have hbb_w5 : Below w3.heap.size w3 w5 := hl_w4.grown hg_w5 (by have := hl_w4.size; omega) (fun g e => by injection e with e; omega); have hb_w5 := hide (hbb_w5); have HBK_w5 := hide (HBK_w3.out.later hb_w5.out); have HGX_w5 := hide (HGX_w3.out.later hb_w5.out); have HL_w5 := hide (HL_w3.out.trans (hb_w5.out.mono HL_w3.out.size)); have hz_w5 := HL_w5.out.size; have hy_w5 := hb_w5.out.size; clear HBK_w3 HGX_w3; have HXB_w5 := hide hc_w5; have hv_HXB := hc_w5.lt; clear hbb_w5 hc_w5 ha_w4 hl_w4 hg_w5))
  refine (HPY.out w5).mono ?_
  rintro _ w6 ⟨⟨A6, n6, c6, rfl, hG6, rfl⟩, hlq⟩
  have hb_w6 := hide (hlq)
  have HBK_w6 := hide (HBK_w5.out.later hb_w6.out)
  have HGX_w6 := hide (HGX_w5.out.later hb_w6.out)
  have HXB_w6 := hide (HXB_w5.out.below hb_w6.out HXB_w5.out.lt)
  have HL_w6 := hide (HL_w5.out.trans (hb_w6.out.mono HL_w5.out.size))
  have hz_w6 := HL_w6.out.size
  have hy_w6 := hb_w6.out.size
  clear HBK_w5 HGX_w5 HXB_w5
  clear hlq
  have HGY_w6 := hide hG6
  clear hG6
  have hlt_A6 : ∀ ad, A6 = some ad → ad.block < w6.heap.size := fun ad e => by obtain ⟨ad', e', h', _⟩ := HGY_w6.out.1.1.2 (by decide); rw [e] at e'; injection e' with e'; rw [e']; exact h'
  go_wp2_with (first
    | (refine wpList_alloc_blk rfl 24 rfl _ (lab_zero w6) ?_; intro w7 ha_w7 hl_w7 hs_w7; clear hs_w7)
    | (refine wpList_store_all rfl 24 (.tmp 11) (.tmp 42) rfl w6.heap.size 24 _ ha_w7 rfl (labC Y0 A6 3 c6) rfl lab_info rfl (labC_one _ _ _ _) ?_; intro w8 hc_w8 hg_w8 hs_w8; clear hs_w8; have hbb_w8 : Below w6.heap.size w6 w8 := hl_w7.grown hg_w8 (by have := hl_w7.size; omega) (fun g e => by injection e with e; omega); have hb_w8 := hide (hbb_w8); have HBK_w8 := hide (HBK_w6.out.later hb_w8.out); have HGX_w8 := hide (HGX_w6.out.later hb_w8.out); have HXB_w8 := hide (HXB_w6.out.below hb_w8.out HXB_w6.out.lt); have HGY_w8 := hide (HGY_w6.out.later hb_w8.out); have HL_w8 := hide (HL_w6.out.trans (hb_w8.out.mono HL_w6.out.size)); have hz_w8 := HL_w8.out.size; have hy_w8 := hb_w8.out.size; clear HBK_w6 HGX_w6 HXB_w6 HGY_w6; have HYB_w8 := hide hc_w8; have hv_HYB := hc_w8.lt; clear hbb_w8 hc_w8 ha_w7 hl_w7 hg_w8; have cy2 := lab_c2 HYB_w8.out; have fy2 := HYB_w8.out.frozen 2)
    | (refine wpList_load_blk rfl 24 (.tmp 10) rfl w3.heap.size 0 24 _ (HXB_w8.out.far (p := ⟨w6.heap.size, 2, none⟩) (by show w3.heap.size ≠ w6.heap.size; omega) (.int .i64 0)) rfl (labC X A3 3 c3) _ (fun j v hj => by rw [Nat.zero_add]; simpa using hj) Try.underlying24 rfl lab_info ?_))
  obtain ⟨w9, hw9⟩ : ∃ w9, w9 = w8.setCell ⟨w6.heap.size, 2, none⟩ (.int .i64 0) := ⟨_, rfl⟩
  rw [← hw9]
  have hg9 : w8.grownBy w9 (some w6.heap.size) := by rw [hw9]; exact (grown_set (grown_refl w8 (some w6.heap.size)) ⟨w6.heap.size, 2, none⟩ rfl (.int .i64 0))
  have HXB_w9 := hide (HXB_w8.out.grown hg9 (fun e => by injection e with e; omega))
  have HYB_w9 : Hid (Blk w9 w6.heap.size 24 (labC Y A6 3 c6).toArray) := by show Blk _ _ _ _; rw [hw9, ← HCY.out]; exact HYB_w8.out.set_ 2 _
  have HGX_w9 := hide (HGX_w8.out.grown hg9 (fun h0 ad e => by have := hlt_A3 ad e; omega))
  have HGY_w9 : Hid (Gave Y w5 w9 A6 3 c6) := by
    have h := HGY_w8.out.grown hg9 (fun h0 ad e => by have := hlt_A6 ad e; omega)
    unfold Gave at h ⊢
    rw [HMY.out]
    exact h
  have HBK_w9 := hide (HBK_w8.out.grown hg9 (fun g e hf => by injection e with e; have := HFB.out g hf; omega))
  have HL_w9 := hide (HL_w8.out.grown hg9 HL_w8.out.size (fun g e => by injection e with e; omega))
  have hz9 : w9.heap.size = w8.heap.size := by rw [hw9]; simp [World.setCell]
  clear HXB_w8 HYB_w8 HGX_w8 HGY_w8 HBK_w8 cy2 fy2 hw9 hg9
  refine (HPutX.out A3 3 c3 w9.heap.size w9 HGX_w9.out.1 (Nat.le_refl _)).mono ?_
  rintro _ w10 ⟨rfl, hlq⟩
  have hb_w10 := hide (hlq)
  have HBK_w10 := hide (HBK_w9.out.later hb_w10.out)
  have HGX_w10 := hide (HGX_w9.out.later hb_w10.out)
  have HXB_w10 := hide (HXB_w9.out.below hb_w10.out HXB_w9.out.lt)
  have HGY_w10 := hide (HGY_w9.out.later hb_w10.out)
  have HYB_w10 := hide (HYB_w9.out.below hb_w10.out HYB_w9.out.lt)
  have HL_w10 := hide (HL_w9.out.trans (hb_w10.out.mono HL_w9.out.size))
  have hz_w10 := HL_w10.out.size
  have hy_w10 := hb_w10.out.size
  clear HBK_w9 HGX_w9 HXB_w9 HGY_w9 HYB_w9
  clear hlq
  go_wp2_with (first
    | (refine wpList_alloc_blk rfl 26 rfl _ (sec_zero w10) ?_; intro w11 ha_w11 hl_w11 hs_w11; clear hs_w11)
    | (refine wpList_store_all rfl 26 (.tmp 12) (.tmp 48) rfl w10.heap.size 26 _ ha_w11 rfl UX rfl HI_UX.out (HN_UX.out.trans (secL_length zeroSec).symm) HO_UX.out ?_; intro w12 hc_w12 hg_w12 hs_w12; clear hs_w12; have hbb_w12 : Below w10.heap.size w10 w12 := hl_w11.grown hg_w12 (by have := hl_w11.size; omega) (fun g e => by injection e with e; omega); have hb_w12 := hide (hbb_w12); have HBK_w12 := hide (HBK_w10.out.later hb_w12.out); have HGX_w12 := hide (HGX_w10.out.later hb_w12.out); have HXB_w12 := hide (HXB_w10.out.below hb_w12.out HXB_w10.out.lt); have HGY_w12 := hide (HGY_w10.out.later hb_w12.out); have HYB_w12 := hide (HYB_w10.out.below hb_w12.out HYB_w10.out.lt); have HL_w12 := hide (HL_w10.out.trans (hb_w12.out.mono HL_w10.out.size)); have hz_w12 := HL_w12.out.size; have hy_w12 := hb_w12.out.size; clear HBK_w10 HGX_w10 HXB_w10 HGY_w10 HYB_w10; have HSXV_w12 := hide hc_w12; have hv_HSXV := hc_w12.lt; clear hbb_w12 hc_w12 ha_w11 hl_w11 hg_w12)
    | (refine wpList_load_blk rfl 24 (.tmp 11) rfl w6.heap.size 0 24 _ HYB_w12.out rfl (labC Y A6 3 c6) _ (fun j v hj => by rw [Nat.zero_add]; simpa using hj) Try.underlying24 rfl lab_info ?_))
  refine (HPutY.out A6 3 c6 w12.heap.size w12 HGY_w12.out.1 (Nat.le_refl _)).mono ?_
  rintro _ w13 ⟨rfl, hlq⟩
  have hb_w13 := hide (hlq)
  have HBK_w13 := hide (HBK_w12.out.later hb_w13.out)
  have HGX_w13 := hide (HGX_w12.out.later hb_w13.out)
  have HXB_w13 := hide (HXB_w12.out.below hb_w13.out HXB_w12.out.lt)
  have HGY_w13 := hide (HGY_w12.out.later hb_w13.out)
  have HYB_w13 := hide (HYB_w12.out.below hb_w13.out HYB_w12.out.lt)
  have HSXV_w13 := hide (HSXV_w12.out.below hb_w13.out HSXV_w12.out.lt)
  have HL_w13 := hide (HL_w12.out.trans (hb_w13.out.mono HL_w12.out.size))
  have hz_w13 := HL_w13.out.size
  have hy_w13 := hb_w13.out.size
  clear HBK_w12 HGX_w12 HXB_w12 HGY_w12 HYB_w12 HSXV_w12
  clear hlq
  go_wp2_with (first
    | (refine wpList_alloc_blk rfl 26 rfl _ (sec_zero w13) ?_; intro w14 ha_w14 hl_w14 hs_w14; clear hs_w14)
    | (refine wpList_store_all rfl 26 (.tmp 14) (.tmp 53) rfl w13.heap.size 26 _ ha_w14 rfl UY rfl HI_UY.out (HN_UY.out.trans (secL_length zeroSec).symm) HO_UY.out ?_; intro w15 hc_w15 hg_w15 hs_w15; clear hs_w15; have hbb_w15 : Below w13.heap.size w13 w15 := hl_w14.grown hg_w15 (by have := hl_w14.size; omega) (fun g e => by injection e with e; omega); have hb_w15 := hide (hbb_w15); have HBK_w15 := hide (HBK_w13.out.later hb_w15.out); have HGX_w15 := hide (HGX_w13.out.later hb_w15.out); have HXB_w15 := hide (HXB_w13.out.below hb_w15.out HXB_w13.out.lt); have HGY_w15 := hide (HGY_w13.out.later hb_w15.out); have HYB_w15 := hide (HYB_w13.out.below hb_w15.out HYB_w13.out.lt); have HSXV_w15 := hide (HSXV_w13.out.below hb_w15.out HSXV_w13.out.lt); have HL_w15 := hide (HL_w13.out.trans (hb_w15.out.mono HL_w13.out.size)); have hz_w15 := HL_w15.out.size; have hy_w15 := hb_w15.out.size; clear HBK_w13 HGX_w13 HXB_w13 HGY_w13 HYB_w13 HSXV_w13; have HSYV_w15 := hide hc_w15; have hv_HSYV := hc_w15.lt; clear hbb_w15 hc_w15 ha_w14 hl_w14 hg_w15)
    | (refine wpList_load_blk rfl 26 (.tmp 12) rfl w10.heap.size 0 26 _ HSXV_w15.out rfl UX _ (fun j v hj => by rw [Nat.zero_add]; simpa using hj) Try.underlying26 rfl HI_UX.out ?_))
  refine (HW1.out w15 b F HBK_w15.out).mono ?_
  rintro _ w16 ⟨rfl, hBq, hTq⟩
  have hzt_w16 := hTq.size
  have HBK_w16 := hide hBq
  have HGX_w16 := hide (HGX_w15.out.turned hTq (fun x hx hf => by have := HFB.out x hf; omega))
  have HXB_w16 := hide (HXB_w15.out.turned hTq (fun hf => by have := HFB.out _ hf; have := HXB_w15.out.lt; omega))
  have HGY_w16 := hide (HGY_w15.out.turned hTq (fun x hx hf => by have := HFB.out x hf; omega))
  have HYB_w16 := hide (HYB_w15.out.turned hTq (fun hf => by have := HFB.out _ hf; have := HYB_w15.out.lt; omega))
  have HSXV_w16 := hide (HSXV_w15.out.turned hTq (fun hf => by have := HFB.out _ hf; have := HSXV_w15.out.lt; omega))
  have HSYV_w16 := hide (HSYV_w15.out.turned hTq (fun hf => by have := HFB.out _ hf; have := HSYV_w15.out.lt; omega))
  have HL_w16 := hide (HL_w15.out.trans (hTq.below_ (B := w.heap.size) HL_w15.out.size (fun x hx => by have := HFB.out x hx; omega)))
  have hz_w16 := HL_w16.out.size
  clear hBq hTq
  clear HBK_w15 HGX_w15 HXB_w15 HGY_w15 HYB_w15 HSXV_w15 HSYV_w15
  clear HSXV_w16
  go_wp2_with (first
    | (refine wpList_load_blk rfl 26 (.tmp 14) rfl w13.heap.size 0 26 _ HSYV_w16.out rfl UY _ (fun j v hj => by rw [Nat.zero_add]; simpa using hj) Try.underlying26 rfl HI_UY.out ?_))
  refine (HW2.out w16 b F HBK_w16.out).mono ?_
  rintro _ w17 ⟨rfl, hBq, hTq⟩
  have hzt_w17 := hTq.size
  have HBK_w17 := hide hBq
  have HGX_w17 := hide (HGX_w16.out.turned hTq (fun x hx hf => by have := HFB.out x hf; omega))
  have HXB_w17 := hide (HXB_w16.out.turned hTq (fun hf => by have := HFB.out _ hf; have := HXB_w16.out.lt; omega))
  have HGY_w17 := hide (HGY_w16.out.turned hTq (fun x hx hf => by have := HFB.out x hf; omega))
  have HYB_w17 := hide (HYB_w16.out.turned hTq (fun hf => by have := HFB.out _ hf; have := HYB_w16.out.lt; omega))
  have HSYV_w17 := hide (HSYV_w16.out.turned hTq (fun hf => by have := HFB.out _ hf; have := HSYV_w16.out.lt; omega))
  have HL_w17 := hide (HL_w16.out.trans (hTq.below_ (B := w.heap.size) HL_w16.out.size (fun x hx => by have := HFB.out x hx; omega)))
  have hz_w17 := HL_w17.out.size
  clear hBq hTq
  clear HBK_w16 HGX_w16 HXB_w16 HGY_w16 HYB_w16 HSYV_w16
  clear HSYV_w17
  go_wp2_with fail
  have hLd := lload_on HBK_w17.out 1
  rw [HT1.out] at hLd
  refine (hLd).mono ?_
  rintro _ w18 ⟨⟨A18, n18, c18, rfl, hG18⟩, hlq⟩
  have hb_w18 := hide (hlq)
  have HBK_w18 := hide (HBK_w17.out.later hb_w18.out)
  have HGX_w18 := hide (HGX_w17.out.later hb_w18.out)
  have HXB_w18 := hide (HXB_w17.out.below hb_w18.out HXB_w17.out.lt)
  have HGY_w18 := hide (HGY_w17.out.later hb_w18.out)
  have HYB_w18 := hide (HYB_w17.out.below hb_w18.out HYB_w17.out.lt)
  have HL_w18 := hide (HL_w17.out.trans (hb_w18.out.mono HL_w17.out.size))
  have hz_w18 := HL_w18.out.size
  have hy_w18 := hb_w18.out.size
  clear HBK_w17 HGX_w17 HXB_w17 HGY_w17 HYB_w17
  clear hlq
  have HGL_w18 := hide hG18
  clear hG18 hLd
  go_wp2_with (first
    | (refine wpList_alloc_blk rfl 24 rfl _ (lab_zero w18) ?_; intro w19 ha_w19 hl_w19 hs_w19; clear hs_w19)
    | (refine wpList_store_all rfl 24 (.tmp 16) (.tmp 66) rfl w18.heap.size 24 _ ha_w19 rfl (labC X A18 n18 c18) rfl lab_info rfl (labC_one _ _ _ _) ?_; intro w20 hc_w20 hg_w20 hs_w20; clear hs_w20; have hbb_w20 : Below w18.heap.size w18 w20 := hl_w19.grown hg_w20 (by have := hl_w19.size; omega) (fun g e => by injection e with e; omega); have hb_w20 := hide (hbb_w20); have HBK_w20 := hide (HBK_w18.out.later hb_w20.out); have HGX_w20 := hide (HGX_w18.out.later hb_w20.out); have HXB_w20 := hide (HXB_w18.out.below hb_w20.out HXB_w18.out.lt); have HGY_w20 := hide (HGY_w18.out.later hb_w20.out); have HYB_w20 := hide (HYB_w18.out.below hb_w20.out HYB_w18.out.lt); have HGL_w20 := hide (HGL_w18.out.later hb_w20.out); have HL_w20 := hide (HL_w18.out.trans (hb_w20.out.mono HL_w18.out.size)); have hz_w20 := HL_w20.out.size; have hy_w20 := hb_w20.out.size; clear HBK_w18 HGX_w18 HXB_w18 HGY_w18 HYB_w18 HGL_w18; have HLV_w20 := hide hc_w20; have hv_HLV := hc_w20.lt; clear hbb_w20 hc_w20 ha_w19 hl_w19 hg_w20)
    | (refine wpList_load_blk rfl 24 (.tmp 10) rfl w3.heap.size 0 24 _ HXB_w20.out rfl (labC X A3 3 c3) _ (fun j v hj => by rw [Nat.zero_add]; simpa using hj) Try.underlying24 rfl lab_info ?_)
    | (refine wpList_alloc_blk rfl 24 rfl _ (lab_zero w20) ?_; intro w21 ha_w21 hl_w21 hs_w21; clear hs_w21)
    | (refine wpList_store_all rfl 24 (.tmp 18) (.tmp 68) rfl w20.heap.size 24 _ ha_w21 rfl (labC X A3 3 c3) rfl lab_info rfl (labC_one _ _ _ _) ?_; intro w22 hc_w22 hg_w22 hs_w22; clear hs_w22; have hbb_w22 : Below w20.heap.size w20 w22 := hl_w21.grown hg_w22 (by have := hl_w21.size; omega) (fun g e => by injection e with e; omega); have hb_w22 := hide (hbb_w22); have HBK_w22 := hide (HBK_w20.out.later hb_w22.out); have HGX_w22 := hide (HGX_w20.out.later hb_w22.out); have HXB_w22 := hide (HXB_w20.out.below hb_w22.out HXB_w20.out.lt); have HGY_w22 := hide (HGY_w20.out.later hb_w22.out); have HYB_w22 := hide (HYB_w20.out.below hb_w22.out HYB_w20.out.lt); have HGL_w22 := hide (HGL_w20.out.later hb_w22.out); have HLV_w22 := hide (HLV_w20.out.below hb_w22.out HLV_w20.out.lt); have HL_w22 := hide (HL_w20.out.trans (hb_w22.out.mono HL_w20.out.size)); have hz_w22 := HL_w22.out.size; have hy_w22 := hb_w22.out.size; clear HBK_w20 HGX_w20 HXB_w20 HGY_w20 HYB_w20 HGL_w20 HLV_w20; have HWV_w22 := hide hc_w22; have hv_HWV := hc_w22.lt; clear hbb_w22 hc_w22 ha_w21 hl_w21 hg_w22)
    | (refine wpList_load_blk rfl 24 (.tmp 16) rfl w18.heap.size 0 24 _ HLV_w22.out rfl (labC X A18 n18 c18) _ (fun j v hj => by rw [Nat.zero_add]; simpa using hj) Try.underlying24 rfl lab_info ?_)
    | (refine wpList_load_blk rfl 24 (.tmp 18) rfl w20.heap.size 0 24 _ HWV_w22.out rfl (labC X A3 3 c3) _ (fun j v hj => by rw [Nat.zero_add]; simpa using hj) Try.underlying24 rfl lab_info ?_))
  refine (HSame.out A18 A3 n18 c18 3 c3 w22.heap.size w22.heap.size w22 HGL_w22.out.1 HGX_w22.out.1 (Nat.le_refl _) (Nat.le_refl _)).mono ?_
  rintro _ w24 ⟨rfl, hlq⟩
  have hb_w24 := hide (hlq)
  have HBK_w24 := hide (HBK_w22.out.later hb_w24.out)
  have HGX_w24 := hide (HGX_w22.out.later hb_w24.out)
  have HXB_w24 := hide (HXB_w22.out.below hb_w24.out HXB_w22.out.lt)
  have HGY_w24 := hide (HGY_w22.out.later hb_w24.out)
  have HYB_w24 := hide (HYB_w22.out.below hb_w24.out HYB_w22.out.lt)
  have HGL_w24 := hide (HGL_w22.out.later hb_w24.out)
  have HLV_w24 := hide (HLV_w22.out.below hb_w24.out HLV_w22.out.lt)
  have HWV_w24 := hide (HWV_w22.out.below hb_w24.out HWV_w22.out.lt)
  have HL_w24 := hide (HL_w22.out.trans (hb_w24.out.mono HL_w22.out.size))
  have hz_w24 := HL_w24.out.size
  have hy_w24 := hb_w24.out.size
  clear HBK_w22 HGX_w22 HXB_w22 HGY_w22 HYB_w22 HGL_w22 HLV_w22 HWV_w22
  clear hlq
  go_wp2_with fail
  have hLd := lload_on HBK_w24.out 2
  rw [HT2.out] at hLd
  refine (hLd).mono ?_
  rintro _ w25 ⟨⟨A25, n25, c25, rfl, hG25⟩, hlq⟩
  have hb_w25 := hide (hlq)
  have HBK_w25 := hide (HBK_w24.out.later hb_w25.out)
  have HGX_w25 := hide (HGX_w24.out.later hb_w25.out)
  have HXB_w25 := hide (HXB_w24.out.below hb_w25.out HXB_w24.out.lt)
  have HGY_w25 := hide (HGY_w24.out.later hb_w25.out)
  have HYB_w25 := hide (HYB_w24.out.below hb_w25.out HYB_w24.out.lt)
  have HGL_w25 := hide (HGL_w24.out.later hb_w25.out)
  have HLV_w25 := hide (HLV_w24.out.below hb_w25.out HLV_w24.out.lt)
  have HWV_w25 := hide (HWV_w24.out.below hb_w25.out HWV_w24.out.lt)
  have HL_w25 := hide (HL_w24.out.trans (hb_w25.out.mono HL_w24.out.size))
  have hz_w25 := HL_w25.out.size
  have hy_w25 := hb_w25.out.size
  clear HBK_w24 HGX_w24 HXB_w24 HGY_w24 HYB_w24 HGL_w24 HLV_w24 HWV_w24
  clear hlq
  clear hG25 hLd
  go_wp2_with (first
    | (refine wpList_alloc_blk rfl 24 rfl _ (lab_zero w25) ?_; intro w26 ha_w26 hl_w26 hs_w26; clear hs_w26)
    | (refine wpList_store_all rfl 24 (.tmp 20) (.tmp 85) rfl w25.heap.size 24 _ ha_w26 rfl (labC Lab.none_ A25 n25 c25) rfl lab_info rfl (labC_one _ _ _ _) ?_; intro w27 hc_w27 hg_w27 hs_w27; clear hs_w27; have hbb_w27 : Below w25.heap.size w25 w27 := hl_w26.grown hg_w27 (by have := hl_w26.size; omega) (fun g e => by injection e with e; omega); have hb_w27 := hide (hbb_w27); have HL_w27 := hide (HL_w25.out.trans (hb_w27.out.mono HL_w25.out.size)); have hz_w27 := HL_w27.out.size; have hy_w27 := hb_w27.out.size; have HZV_w27 := hide hc_w27; have hv_HZV := hc_w27.lt; clear hbb_w27 hc_w27 ha_w26 hl_w26 hg_w27))
  go_ret
  exact ⟨rfl, HL_w27.out⟩
set_option maxRecDepth 100000 in
set_option maxHeartbeats 8000000 in
theorem walk_f (a0 a1 : Int) (w : World) :
    Calls Try.prog 8 #[.int .i64 a0, .int .i64 a1, .bool false] w fun e w' => e = .returned (.bool true) ∧ Below w.heap.size w w' := by
  obtain ⟨m, hm, hml⟩ := mask16 a0
  obtain ⟨p, hp, hpl⟩ := mask16 a1
  obtain ⟨X, hX⟩ : ∃ X, X = plainL (2 + 2 * (m : Int)) 1 := ⟨_, rfl⟩
  obtain ⟨Y, hY⟩ : ∃ Y, Y = plainL (1 + 2 * (p : Int)) 1 := ⟨_, rfl⟩
  have HPX := hide (fun w => plain_any (2 + 2 * (m : Int)) 1 w)
  have HPY := hide (fun w => plain_any (1 + 2 * (p : Int)) 1 w)
  rw [← hX] at HPX
  rw [← hY] at HPY
  have HRX : Hid (rightB X = true) := by show _ = _; rw [hX]; exact right_plain (by omega) (by omega) (by decide) (by decide)
  have HRY : Hid (rightB Y = true) := by show _ = _; rw [hY]; exact right_plain (by omega) (by omega) (by decide) (by decide)
  have HEX := hide (show putE X = 0 by rw [putE, HRX.out]; rfl)
  have HEY := hide (show putE Y = 0 by rw [putE, HRY.out]; rfl)
  have HSX := hide (show putS X = labS X by rw [putS, HRX.out]; rfl)
  have HSY := hide (show putS Y = labS Y by rw [putS, HRY.out]; rfl)
  have HXM := hide (show X.member = 1 by rw [hX]; rfl)
  have HYM := hide (show Y.member = 1 by rw [hY]; rfl)
  have HXG := hide (show X.gen = 2 + 2 * (m : Int) by rw [hX]; rfl)
  have HYG := hide (show Y.gen = 1 + 2 * (p : Int) by rw [hY]; rfl)
  have HShown := hide shownL_any
  have HPutX := hide (fun A n c B0 w => lput_any X A n c B0 w)
  have HPutY := hide (fun A n c B0 w => lput_any Y A n c B0 w)
  clear hX hY
  obtain ⟨UX, hU_UX⟩ : ∃ U, U = secL (putS X) := ⟨_, rfl⟩
  have hUl_UX : UX.length = 64 := by rw [hU_UX, secL_length]
  have hUo_UX : ∀ v ∈ UX, v.oneCell' = true := by rw [hU_UX]; exact secL_one _
  have hUi_UX : (Try.prog.info? 26).map (·.size) = some UX.length := by rw [hUl_UX]; exact sec_info
  have hUv_UX : secV (putS X) = .agg UX.toArray := by rw [hU_UX]; rfl
  have hUe_UX : Value.agg UX.toArray = .agg (B8 ((putS X)).1).toArray := by rw [hU_UX]; rfl
  have HN_UX := hide hUl_UX
  have HO_UX := hide hUo_UX
  have HI_UX := hide hUi_UX
  have HE_UX := hide hUe_UX
  have HU_UX := hide hU_UX
  have HV_UX := hide hUv_UX
  clear hU_UX hUl_UX hUo_UX hUi_UX hUv_UX hUe_UX
  obtain ⟨UY, hU_UY⟩ : ∃ U, U = secL (putS Y) := ⟨_, rfl⟩
  have hUl_UY : UY.length = 64 := by rw [hU_UY, secL_length]
  have hUo_UY : ∀ v ∈ UY, v.oneCell' = true := by rw [hU_UY]; exact secL_one _
  have hUi_UY : (Try.prog.info? 26).map (·.size) = some UY.length := by rw [hUl_UY]; exact sec_info
  have hUv_UY : secV (putS Y) = .agg UY.toArray := by rw [hU_UY]; rfl
  have hUe_UY : Value.agg UY.toArray = .agg (B8 ((putS Y)).1).toArray := by rw [hU_UY]; rfl
  have HN_UY := hide hUl_UY
  have HO_UY := hide hUo_UY
  have HI_UY := hide hUi_UY
  have HE_UY := hide hUe_UY
  have HU_UY := hide hU_UY
  have HV_UY := hide hUv_UY
  clear hU_UY hUl_UY hUo_UY hUi_UY hUv_UY hUe_UY
  rw [HV_UX.out, HEX.out] at HPutX
  rw [HV_UY.out, HEY.out] at HPutY
  by_cases hgt : X.gen < Y.gen
  · obtain ⟨S2, hS2⟩ : ∃ S, S = (Three.wrote.put 1 0 (putS X)).wrote.put 1 1 (putS Y) := ⟨_, rfl⟩
    have hq1 := (quiet_three.wrote).put 1 0 (putS X)
    have hq2 : Quiet 200 S2 := by rw [hS2]; exact (hq1.wrote).put 1 1 (putS Y)
    have HW1 := hide (fun (w1 : World) (b : Nat) (F : Nat → Prop) (h : BankOn w1 b F Three) => on_write h (by decide) 1 0 (putS X))
    rw [quiet_three.write (by decide) (by decide), HV_UX.out] at HW1
    have HW2 := hide (fun (w1 : World) (b : Nat) (F : Nat → Prop) (h : BankOn w1 b F (Three.wrote.put 1 0 (putS X))) => on_write h (by show 0 + 1 < 4611686018427387904; decide) 1 1 (putS Y))
    rw [hq1.write (by decide) (by decide), HV_UY.out, ← hS2] at HW2
    have h10 : S2.newest 1 0 = labS X := by rw [hS2, ← HSX.out]; rfl
    have h11 : S2.newest 1 1 = labS Y := by rw [hS2, ← HSY.out]; rfl
    have h20 : S2.newest 2 0 = zeroSec := by rw [hS2]; exact three_newest 2 0
    have h21 : S2.newest 2 1 = zeroSec := by rw [hS2]; exact three_newest 2 1
    have HT1 : Hid (S2.loadL 1 = (Y, 0)) := by
      show _ = _
      rw [told hq2 HRX.out HRY.out HXM.out h10 h11, if_pos ⟨HYM.out, hgt⟩]
    have HT2 := hide (told_none hq2 h20 h21)
    have HSame := hide (fun A C n c m d B1 B2 w => same_any Y Y A C n c m d B1 B2 w)
    rw [sameB_self] at HSame
    have hgt2 : X.gen < Y.gen := by exact hgt
    clear hS2 hq1 hq2 h10 h11 h20 h21
    have HL_w := hide (Below.refl w.heap.size w)
    go_enter Try.func8, Try.ntmps8
    go_wp2_with fail
    refine (HShown.out w).mono ?_
    rintro _ w1 ⟨rfl, hlq⟩
    have hb_w1 := hide (hlq)
    have HL_w1 := hide (HL_w.out.trans (hb_w1.out.mono HL_w.out.size))
    have hz_w1 := HL_w1.out.size
    have hy_w1 := hb_w1.out.size
    clear hlq
    go_wp2_with fail
    refine (bankNil_any w1).mono ?_
    rintro _ w2 ⟨⟨b, r, F, rfl, hB2, hlo2⟩, hlq⟩
    have hb_w2 := hide (hlq)
    have HL_w2 := hide (HL_w1.out.trans (hb_w2.out.mono HL_w1.out.size))
    have hz_w2 := HL_w2.out.size
    have hy_w2 := hb_w2.out.size
    clear hlq
    have HFB : Hid (∀ x, F x → w1.heap.size ≤ x ∧ x < w2.heap.size) := fun x hx => ⟨hlo2 x hx, hB2.1 x hx⟩
    have HBK_w2 := hide hB2
    clear hB2 hlo2
    go_wp2_with fail
    refine (HPX.out w2).mono ?_
    rintro _ w3 ⟨⟨A3, n3, c3, rfl, hG3, rfl⟩, hlq⟩
    have hb_w3 := hide (hlq)
    have HBK_w3 := hide (HBK_w2.out.later hb_w3.out)
    have HL_w3 := hide (HL_w2.out.trans (hb_w3.out.mono HL_w2.out.size))
    have hz_w3 := HL_w3.out.size
    have hy_w3 := hb_w3.out.size
    clear HBK_w2
    clear hlq
    have HGX_w3 := hide hG3
    have hlt_A3 : ∀ ad, A3 = some ad → ad.block < w3.heap.size := fun ad e => by obtain ⟨ad', e', h', _⟩ := HGX_w3.out.1.1.2 (by decide); rw [e] at e'; injection e' with e'; rw [e']; exact h'
    clear hG3
    go_wp2_with (first
      | (refine wpList_alloc_blk rfl 24 rfl _ (lab_zero _) ?_; intro w4 ha_w4 hl_w4 hs_w4; clear hs_w4)
      | (refine wpList_store_all rfl 24 (.tmp 10) (.tmp 37) rfl w3.heap.size 24 _ ha_w4 rfl (labC X A3 3 c3) rfl lab_info rfl (labC_one _ _ _ _) ?_; intro w5 hc_w5 hg_w5 hs_w5; clear hs_w5; have hbb_w5 : Below w3.heap.size w3 w5 := hl_w4.grown hg_w5 (by have := hl_w4.size; omega) (fun g e => by injection e with e; omega); have hb_w5 := hide (hbb_w5); have HBK_w5 := hide (HBK_w3.out.later hb_w5.out); have HGX_w5 := hide (HGX_w3.out.later hb_w5.out); have HL_w5 := hide (HL_w3.out.trans (hb_w5.out.mono HL_w3.out.size)); have hz_w5 := HL_w5.out.size; have hy_w5 := hb_w5.out.size; clear HBK_w3 HGX_w3; have HXB_w5 := hide hc_w5; have hv_HXB := hc_w5.lt; clear hbb_w5 hc_w5 ha_w4 hl_w4 hg_w5))
    refine (HPY.out w5).mono ?_
    rintro _ w6 ⟨⟨A6, n6, c6, rfl, hG6, rfl⟩, hlq⟩
    have hb_w6 := hide (hlq)
    have HBK_w6 := hide (HBK_w5.out.later hb_w6.out)
    have HGX_w6 := hide (HGX_w5.out.later hb_w6.out)
    have HXB_w6 := hide (HXB_w5.out.below hb_w6.out HXB_w5.out.lt)
    have HL_w6 := hide (HL_w5.out.trans (hb_w6.out.mono HL_w5.out.size))
    have hz_w6 := HL_w6.out.size
    have hy_w6 := hb_w6.out.size
    clear HBK_w5 HGX_w5 HXB_w5
    clear hlq
    have HGY_w6 := hide hG6
    clear hG6
    have hlt_A6 : ∀ ad, A6 = some ad → ad.block < w6.heap.size := fun ad e => by obtain ⟨ad', e', h', _⟩ := HGY_w6.out.1.1.2 (by decide); rw [e] at e'; injection e' with e'; rw [e']; exact h'
    go_wp2_with (first
      | (refine wpList_alloc_blk rfl 24 rfl _ (lab_zero w6) ?_; intro w7 ha_w7 hl_w7 hs_w7; clear hs_w7)
      | (refine wpList_store_all rfl 24 (.tmp 11) (.tmp 42) rfl w6.heap.size 24 _ ha_w7 rfl (labC Y A6 3 c6) rfl lab_info rfl (labC_one _ _ _ _) ?_; intro w9 hc_w9 hg_w9 hs_w9; clear hs_w9; have hbb_w9 : Below w6.heap.size w6 w9 := hl_w7.grown hg_w9 (by have := hl_w7.size; omega) (fun g e => by injection e with e; omega); have hb_w9 := hide (hbb_w9); have HBK_w9 := hide (HBK_w6.out.later hb_w9.out); have HGX_w9 := hide (HGX_w6.out.later hb_w9.out); have HXB_w9 := hide (HXB_w6.out.below hb_w9.out HXB_w6.out.lt); have HGY_w9 := hide (HGY_w6.out.later hb_w9.out); have HL_w9 := hide (HL_w6.out.trans (hb_w9.out.mono HL_w6.out.size)); have hz_w9 := HL_w9.out.size; have hy_w9 := hb_w9.out.size; clear HBK_w6 HGX_w6 HXB_w6 HGY_w6; have HYB_w9 := hide hc_w9; have hv_HYB := hc_w9.lt; clear hbb_w9 hc_w9 ha_w7 hl_w7 hg_w9)
      | (refine wpList_load_blk rfl 24 (.tmp 10) rfl w3.heap.size 0 24 _ HXB_w9.out rfl (labC X A3 3 c3) _ (fun j v hj => by rw [Nat.zero_add]; simpa using hj) Try.underlying24 rfl lab_info ?_))
    refine (HPutX.out A3 3 c3 w9.heap.size w9 HGX_w9.out.1 (Nat.le_refl _)).mono ?_
    rintro _ w10 ⟨rfl, hlq⟩
    have hb_w10 := hide (hlq)
    have HBK_w10 := hide (HBK_w9.out.later hb_w10.out)
    have HGX_w10 := hide (HGX_w9.out.later hb_w10.out)
    have HXB_w10 := hide (HXB_w9.out.below hb_w10.out HXB_w9.out.lt)
    have HGY_w10 := hide (HGY_w9.out.later hb_w10.out)
    have HYB_w10 := hide (HYB_w9.out.below hb_w10.out HYB_w9.out.lt)
    have HL_w10 := hide (HL_w9.out.trans (hb_w10.out.mono HL_w9.out.size))
    have hz_w10 := HL_w10.out.size
    have hy_w10 := hb_w10.out.size
    clear HBK_w9 HGX_w9 HXB_w9 HGY_w9 HYB_w9
    clear hlq
    go_wp2_with (first
      | (refine wpList_alloc_blk rfl 26 rfl _ (sec_zero w10) ?_; intro w11 ha_w11 hl_w11 hs_w11; clear hs_w11)
      | (refine wpList_store_all rfl 26 (.tmp 12) (.tmp 48) rfl w10.heap.size 26 _ ha_w11 rfl UX rfl HI_UX.out (HN_UX.out.trans (secL_length zeroSec).symm) HO_UX.out ?_; intro w12 hc_w12 hg_w12 hs_w12; clear hs_w12; have hbb_w12 : Below w10.heap.size w10 w12 := hl_w11.grown hg_w12 (by have := hl_w11.size; omega) (fun g e => by injection e with e; omega); have hb_w12 := hide (hbb_w12); have HBK_w12 := hide (HBK_w10.out.later hb_w12.out); have HGX_w12 := hide (HGX_w10.out.later hb_w12.out); have HXB_w12 := hide (HXB_w10.out.below hb_w12.out HXB_w10.out.lt); have HGY_w12 := hide (HGY_w10.out.later hb_w12.out); have HYB_w12 := hide (HYB_w10.out.below hb_w12.out HYB_w10.out.lt); have HL_w12 := hide (HL_w10.out.trans (hb_w12.out.mono HL_w10.out.size)); have hz_w12 := HL_w12.out.size; have hy_w12 := hb_w12.out.size; clear HBK_w10 HGX_w10 HXB_w10 HGY_w10 HYB_w10; have HSXV_w12 := hide hc_w12; have hv_HSXV := hc_w12.lt; clear hbb_w12 hc_w12 ha_w11 hl_w11 hg_w12)
      | (refine wpList_load_blk rfl 24 (.tmp 11) rfl w6.heap.size 0 24 _ HYB_w12.out rfl (labC Y A6 3 c6) _ (fun j v hj => by rw [Nat.zero_add]; simpa using hj) Try.underlying24 rfl lab_info ?_))
    refine (HPutY.out A6 3 c6 w12.heap.size w12 HGY_w12.out.1 (Nat.le_refl _)).mono ?_
    rintro _ w13 ⟨rfl, hlq⟩
    have hb_w13 := hide (hlq)
    have HBK_w13 := hide (HBK_w12.out.later hb_w13.out)
    have HGX_w13 := hide (HGX_w12.out.later hb_w13.out)
    have HXB_w13 := hide (HXB_w12.out.below hb_w13.out HXB_w12.out.lt)
    have HGY_w13 := hide (HGY_w12.out.later hb_w13.out)
    have HYB_w13 := hide (HYB_w12.out.below hb_w13.out HYB_w12.out.lt)
    have HSXV_w13 := hide (HSXV_w12.out.below hb_w13.out HSXV_w12.out.lt)
    have HL_w13 := hide (HL_w12.out.trans (hb_w13.out.mono HL_w12.out.size))
    have hz_w13 := HL_w13.out.size
    have hy_w13 := hb_w13.out.size
    clear HBK_w12 HGX_w12 HXB_w12 HGY_w12 HYB_w12 HSXV_w12
    clear hlq
    go_wp2_with (first
      | (refine wpList_alloc_blk rfl 26 rfl _ (sec_zero w13) ?_; intro w14 ha_w14 hl_w14 hs_w14; clear hs_w14)
      | (refine wpList_store_all rfl 26 (.tmp 14) (.tmp 53) rfl w13.heap.size 26 _ ha_w14 rfl UY rfl HI_UY.out (HN_UY.out.trans (secL_length zeroSec).symm) HO_UY.out ?_; intro w15 hc_w15 hg_w15 hs_w15; clear hs_w15; have hbb_w15 : Below w13.heap.size w13 w15 := hl_w14.grown hg_w15 (by have := hl_w14.size; omega) (fun g e => by injection e with e; omega); have hb_w15 := hide (hbb_w15); have HBK_w15 := hide (HBK_w13.out.later hb_w15.out); have HGX_w15 := hide (HGX_w13.out.later hb_w15.out); have HXB_w15 := hide (HXB_w13.out.below hb_w15.out HXB_w13.out.lt); have HGY_w15 := hide (HGY_w13.out.later hb_w15.out); have HYB_w15 := hide (HYB_w13.out.below hb_w15.out HYB_w13.out.lt); have HSXV_w15 := hide (HSXV_w13.out.below hb_w15.out HSXV_w13.out.lt); have HL_w15 := hide (HL_w13.out.trans (hb_w15.out.mono HL_w13.out.size)); have hz_w15 := HL_w15.out.size; have hy_w15 := hb_w15.out.size; clear HBK_w13 HGX_w13 HXB_w13 HGY_w13 HYB_w13 HSXV_w13; have HSYV_w15 := hide hc_w15; have hv_HSYV := hc_w15.lt; clear hbb_w15 hc_w15 ha_w14 hl_w14 hg_w15)
      | (refine wpList_load_blk rfl 26 (.tmp 12) rfl w10.heap.size 0 26 _ HSXV_w15.out rfl UX _ (fun j v hj => by rw [Nat.zero_add]; simpa using hj) Try.underlying26 rfl HI_UX.out ?_))
    refine (HW1.out w15 b F HBK_w15.out).mono ?_
    rintro _ w16 ⟨rfl, hBq, hTq⟩
    have hzt_w16 := hTq.size
    have HBK_w16 := hide hBq
    have HGX_w16 := hide (HGX_w15.out.turned hTq (fun x hx hf => by have := HFB.out x hf; omega))
    have HXB_w16 := hide (HXB_w15.out.turned hTq (fun hf => by have := HFB.out _ hf; have := HXB_w15.out.lt; omega))
    have HGY_w16 := hide (HGY_w15.out.turned hTq (fun x hx hf => by have := HFB.out x hf; omega))
    have HYB_w16 := hide (HYB_w15.out.turned hTq (fun hf => by have := HFB.out _ hf; have := HYB_w15.out.lt; omega))
    have HSXV_w16 := hide (HSXV_w15.out.turned hTq (fun hf => by have := HFB.out _ hf; have := HSXV_w15.out.lt; omega))
    have HSYV_w16 := hide (HSYV_w15.out.turned hTq (fun hf => by have := HFB.out _ hf; have := HSYV_w15.out.lt; omega))
    have HL_w16 := hide (HL_w15.out.trans (hTq.below_ (B := w.heap.size) HL_w15.out.size (fun x hx => by have := HFB.out x hx; omega)))
    have hz_w16 := HL_w16.out.size
    clear hBq hTq
    clear HBK_w15 HGX_w15 HXB_w15 HGY_w15 HYB_w15 HSXV_w15 HSYV_w15
    clear HSXV_w16
    go_wp2_with (first
      | (refine wpList_load_blk rfl 26 (.tmp 14) rfl w13.heap.size 0 26 _ HSYV_w16.out rfl UY _ (fun j v hj => by rw [Nat.zero_add]; simpa using hj) Try.underlying26 rfl HI_UY.out ?_))
    refine (HW2.out w16 b F HBK_w16.out).mono ?_
    rintro _ w17 ⟨rfl, hBq, hTq⟩
    have hzt_w17 := hTq.size
    have HBK_w17 := hide hBq
    have HGX_w17 := hide (HGX_w16.out.turned hTq (fun x hx hf => by have := HFB.out x hf; omega))
    have HXB_w17 := hide (HXB_w16.out.turned hTq (fun hf => by have := HFB.out _ hf; have := HXB_w16.out.lt; omega))
    have HGY_w17 := hide (HGY_w16.out.turned hTq (fun x hx hf => by have := HFB.out x hf; omega))
    have HYB_w17 := hide (HYB_w16.out.turned hTq (fun hf => by have := HFB.out _ hf; have := HYB_w16.out.lt; omega))
    have HSYV_w17 := hide (HSYV_w16.out.turned hTq (fun hf => by have := HFB.out _ hf; have := HSYV_w16.out.lt; omega))
    have HL_w17 := hide (HL_w16.out.trans (hTq.below_ (B := w.heap.size) HL_w16.out.size (fun x hx => by have := HFB.out x hx; omega)))
    have hz_w17 := HL_w17.out.size
    clear hBq hTq
    clear HBK_w16 HGX_w16 HXB_w16 HGY_w16 HYB_w16 HSYV_w16
    clear HSYV_w17
    go_wp2_with fail
    have hLd := lload_on HBK_w17.out 1
    rw [HT1.out] at hLd
    refine (hLd).mono ?_
    rintro _ w18 ⟨⟨A18, n18, c18, rfl, hG18⟩, hlq⟩
    have hb_w18 := hide (hlq)
    have HBK_w18 := hide (HBK_w17.out.later hb_w18.out)
    have HGX_w18 := hide (HGX_w17.out.later hb_w18.out)
    have HXB_w18 := hide (HXB_w17.out.below hb_w18.out HXB_w17.out.lt)
    have HGY_w18 := hide (HGY_w17.out.later hb_w18.out)
    have HYB_w18 := hide (HYB_w17.out.below hb_w18.out HYB_w17.out.lt)
    have HL_w18 := hide (HL_w17.out.trans (hb_w18.out.mono HL_w17.out.size))
    have hz_w18 := HL_w18.out.size
    have hy_w18 := hb_w18.out.size
    clear HBK_w17 HGX_w17 HXB_w17 HGY_w17 HYB_w17
    clear hlq
    have HGL_w18 := hide hG18
    clear hG18 hLd
    have hlt_A18 : 0 < n18 → ∀ ad, A18 = some ad → ad.block < w18.heap.size := fun h0 ad e => by obtain ⟨ad', e', h', _⟩ := HGL_w18.out.1.1.2 h0; rw [e] at e'; injection e' with e'; rw [e']; exact h'
    go_wp2_with (first
      | (refine wpList_alloc_blk rfl 24 rfl _ (lab_zero w18) ?_; intro w19 ha_w19 hl_w19 hs_w19; clear hs_w19)
      | (refine wpList_store_all rfl 24 (.tmp 16) (.tmp 66) rfl w18.heap.size 24 _ ha_w19 rfl (labC Y A18 n18 c18) rfl lab_info rfl (labC_one _ _ _ _) ?_; intro w20 hc_w20 hg_w20 hs_w20; clear hs_w20; have hbb_w20 : Below w18.heap.size w18 w20 := hl_w19.grown hg_w20 (by have := hl_w19.size; omega) (fun g e => by injection e with e; omega); have hb_w20 := hide (hbb_w20); have HBK_w20 := hide (HBK_w18.out.later hb_w20.out); have HGX_w20 := hide (HGX_w18.out.later hb_w20.out); have HXB_w20 := hide (HXB_w18.out.below hb_w20.out HXB_w18.out.lt); have HGY_w20 := hide (HGY_w18.out.later hb_w20.out); have HYB_w20 := hide (HYB_w18.out.below hb_w20.out HYB_w18.out.lt); have HGL_w20 := hide (HGL_w18.out.later hb_w20.out); have HL_w20 := hide (HL_w18.out.trans (hb_w20.out.mono HL_w18.out.size)); have hz_w20 := HL_w20.out.size; have hy_w20 := hb_w20.out.size; clear HBK_w18 HGX_w18 HXB_w18 HGY_w18 HYB_w18 HGL_w18; have HLV_w20 := hide hc_w20; have hv_HLV := hc_w20.lt; clear hbb_w20 hc_w20 ha_w19 hl_w19 hg_w20)
      | (refine wpList_load_blk rfl 24 (.tmp 10) rfl w3.heap.size 0 24 _ HXB_w20.out rfl (labC X A3 3 c3) _ (fun j v hj => by rw [Nat.zero_add]; simpa using hj) Try.underlying24 rfl lab_info ?_)
      | (refine wpList_alloc_blk rfl 24 rfl _ (lab_zero w20) ?_; intro w21 ha_w21 hl_w21 hs_w21; clear hs_w21)
      | (refine wpList_store_all rfl 24 (.tmp 18) (.tmp 68) rfl w20.heap.size 24 _ ha_w21 rfl (labC X A3 3 c3) rfl lab_info rfl (labC_one _ _ _ _) ?_; intro w22 hc_w22 hg_w22 hs_w22; clear hs_w22; have hbb_w22 : Below w20.heap.size w20 w22 := hl_w21.grown hg_w22 (by have := hl_w21.size; omega) (fun g e => by injection e with e; omega); have hb_w22 := hide (hbb_w22); have HBK_w22 := hide (HBK_w20.out.later hb_w22.out); have HGX_w22 := hide (HGX_w20.out.later hb_w22.out); have HXB_w22 := hide (HXB_w20.out.below hb_w22.out HXB_w20.out.lt); have HGY_w22 := hide (HGY_w20.out.later hb_w22.out); have HYB_w22 := hide (HYB_w20.out.below hb_w22.out HYB_w20.out.lt); have HGL_w22 := hide (HGL_w20.out.later hb_w22.out); have HLV_w22 := hide (HLV_w20.out.below hb_w22.out HLV_w20.out.lt); have HL_w22 := hide (HL_w20.out.trans (hb_w22.out.mono HL_w20.out.size)); have hz_w22 := HL_w22.out.size; have hy_w22 := hb_w22.out.size; clear HBK_w20 HGX_w20 HXB_w20 HGY_w20 HYB_w20 HGL_w20 HLV_w20; have HWV_w22 := hide hc_w22; have hv_HWV := hc_w22.lt; clear hbb_w22 hc_w22 ha_w21 hl_w21 hg_w22; have gx1 := lab_c1 HXB_w22.out; have gy1 := lab_c1 HYB_w22.out)
      | (refine wpList_load_blk rfl 24 (.tmp 11) rfl w6.heap.size 0 24 _ HYB_w22.out rfl (labC Y A6 3 c6) _ (fun j v hj => by rw [Nat.zero_add]; simpa using hj) Try.underlying24 rfl lab_info ?_)
      | (refine wpList_store_all rfl 24 (.tmp 18) (.tmp 78) rfl w20.heap.size 24 _ HWV_w22.out rfl (labC Y A6 3 c6) rfl lab_info rfl (labC_one _ _ _ _) ?_; intro w23 hc_w23 hg_w23 hs_w23; clear hs_w23; have HWV_w23 := hide hc_w23; have HLV_w23 := hide (HLV_w22.out.grown hg_w23 (fun e => by injection e with e; omega)); have HBK_w23 := hide (HBK_w22.out.grown hg_w23 (fun g e hf => by injection e with e; have := HFB.out g hf; omega)); have HGL_w23 := hide (HGL_w22.out.grown hg_w23 (fun h0 ad e => by have := hlt_A18 h0 ad e; omega)); have HGY_w23 := hide (HGY_w22.out.grown hg_w23 (fun h0 ad e => by have := hlt_A6 ad e; omega)); have HL_w23 := hide (HL_w22.out.grown hg_w23 HL_w22.out.size (fun g e => by injection e with e; omega)); clear HWV_w22 HLV_w22 HBK_w22 HGL_w22 HGY_w22 HXB_w22 HYB_w22 HGX_w22 gx1 gy1 hc_w23)
      | (refine wpList_load_blk rfl 24 (.tmp 16) rfl w18.heap.size 0 24 _ HLV_w23.out rfl (labC Y A18 n18 c18) _ (fun j v hj => by rw [Nat.zero_add]; simpa using hj) Try.underlying24 rfl lab_info ?_)
      | (refine wpList_load_blk rfl 24 (.tmp 18) rfl w20.heap.size 0 24 _ HWV_w23.out rfl (labC Y A6 3 c6) _ (fun j v hj => by rw [Nat.zero_add]; simpa using hj) Try.underlying24 rfl lab_info ?_))
    refine (HSame.out A18 A6 n18 c18 3 c6 w23.heap.size w23.heap.size w23 HGL_w23.out.1 HGY_w23.out.1 (Nat.le_refl _) (Nat.le_refl _)).mono ?_
    rintro _ w24 ⟨rfl, hlq⟩
    have hb_w24 := hide (hlq)
    have HWV_w24 := hide (HWV_w23.out.below hb_w24.out HWV_w23.out.lt)
    have HLV_w24 := hide (HLV_w23.out.below hb_w24.out HLV_w23.out.lt)
    have HBK_w24 := hide (HBK_w23.out.later hb_w24.out)
    have HGL_w24 := hide (HGL_w23.out.later hb_w24.out)
    have HGY_w24 := hide (HGY_w23.out.later hb_w24.out)
    have HL_w24 := hide (HL_w23.out.trans (hb_w24.out.mono HL_w23.out.size))
    have hz_w24 := HL_w24.out.size
    have hy_w24 := hb_w24.out.size
    clear HWV_w23 HLV_w23 HBK_w23 HGL_w23 HGY_w23
    clear hlq
    go_wp2_with fail
    have hLd := lload_on HBK_w24.out 2
    rw [HT2.out] at hLd
    refine (hLd).mono ?_
    rintro _ w25 ⟨⟨A25, n25, c25, rfl, hG25⟩, hlq⟩
    have hb_w25 := hide (hlq)
    have HWV_w25 := hide (HWV_w24.out.below hb_w25.out HWV_w24.out.lt)
    have HLV_w25 := hide (HLV_w24.out.below hb_w25.out HLV_w24.out.lt)
    have HBK_w25 := hide (HBK_w24.out.later hb_w25.out)
    have HGL_w25 := hide (HGL_w24.out.later hb_w25.out)
    have HGY_w25 := hide (HGY_w24.out.later hb_w25.out)
    have HL_w25 := hide (HL_w24.out.trans (hb_w25.out.mono HL_w24.out.size))
    have hz_w25 := HL_w25.out.size
    have hy_w25 := hb_w25.out.size
    clear HWV_w24 HLV_w24 HBK_w24 HGL_w24 HGY_w24
    clear hlq
    clear hG25 hLd
    go_wp2_with (first
      | (refine wpList_alloc_blk rfl 24 rfl _ (lab_zero w25) ?_; intro w26 ha_w26 hl_w26 hs_w26; clear hs_w26)
      | (refine wpList_store_all rfl 24 (.tmp 20) (.tmp 85) rfl w25.heap.size 24 _ ha_w26 rfl (labC Lab.none_ A25 n25 c25) rfl lab_info rfl (labC_one _ _ _ _) ?_; intro w27 hc_w27 hg_w27 hs_w27; clear hs_w27; have hbb_w27 : Below w25.heap.size w25 w27 := hl_w26.grown hg_w27 (by have := hl_w26.size; omega) (fun g e => by injection e with e; omega); have hb_w27 := hide (hbb_w27); have HL_w27 := hide (HL_w25.out.trans (hb_w27.out.mono HL_w25.out.size)); have hz_w27 := HL_w27.out.size; have hy_w27 := hb_w27.out.size; have HZV_w27 := hide hc_w27; have hv_HZV := hc_w27.lt; clear hbb_w27 hc_w27 ha_w26 hl_w26 hg_w27))
    go_ret
    exact ⟨rfl, HL_w27.out⟩
  · obtain ⟨S2, hS2⟩ : ∃ S, S = (Three.wrote.put 1 0 (putS X)).wrote.put 1 1 (putS Y) := ⟨_, rfl⟩
    have hq1 := (quiet_three.wrote).put 1 0 (putS X)
    have hq2 : Quiet 200 S2 := by rw [hS2]; exact (hq1.wrote).put 1 1 (putS Y)
    have HW1 := hide (fun (w1 : World) (b : Nat) (F : Nat → Prop) (h : BankOn w1 b F Three) => on_write h (by decide) 1 0 (putS X))
    rw [quiet_three.write (by decide) (by decide), HV_UX.out] at HW1
    have HW2 := hide (fun (w1 : World) (b : Nat) (F : Nat → Prop) (h : BankOn w1 b F (Three.wrote.put 1 0 (putS X))) => on_write h (by show 0 + 1 < 4611686018427387904; decide) 1 1 (putS Y))
    rw [hq1.write (by decide) (by decide), HV_UY.out, ← hS2] at HW2
    have h10 : S2.newest 1 0 = labS X := by rw [hS2, ← HSX.out]; rfl
    have h11 : S2.newest 1 1 = labS Y := by rw [hS2, ← HSY.out]; rfl
    have h20 : S2.newest 2 0 = zeroSec := by rw [hS2]; exact three_newest 2 0
    have h21 : S2.newest 2 1 = zeroSec := by rw [hS2]; exact three_newest 2 1
    have HT1 : Hid (S2.loadL 1 = (X, 0)) := by
      show _ = _
      rw [told hq2 HRX.out HRY.out HXM.out h10 h11, if_neg (fun h => hgt h.2)]
    have HT2 := hide (told_none hq2 h20 h21)
    have HSame := hide (fun A C n c m d B1 B2 w => same_any X X A C n c m d B1 B2 w)
    rw [sameB_self] at HSame
    have hgt2 : ¬ X.gen < Y.gen := by exact hgt
    clear hS2 hq1 hq2 h10 h11 h20 h21
    have HL_w := hide (Below.refl w.heap.size w)
    go_enter Try.func8, Try.ntmps8
    go_wp2_with fail
    refine (HShown.out w).mono ?_
    rintro _ w1 ⟨rfl, hlq⟩
    have hb_w1 := hide (hlq)
    have HL_w1 := hide (HL_w.out.trans (hb_w1.out.mono HL_w.out.size))
    have hz_w1 := HL_w1.out.size
    have hy_w1 := hb_w1.out.size
    clear hlq
    go_wp2_with fail
    refine (bankNil_any w1).mono ?_
    rintro _ w2 ⟨⟨b, r, F, rfl, hB2, hlo2⟩, hlq⟩
    have hb_w2 := hide (hlq)
    have HL_w2 := hide (HL_w1.out.trans (hb_w2.out.mono HL_w1.out.size))
    have hz_w2 := HL_w2.out.size
    have hy_w2 := hb_w2.out.size
    clear hlq
    have HFB : Hid (∀ x, F x → w1.heap.size ≤ x ∧ x < w2.heap.size) := fun x hx => ⟨hlo2 x hx, hB2.1 x hx⟩
    have HBK_w2 := hide hB2
    clear hB2 hlo2
    go_wp2_with fail
    refine (HPX.out w2).mono ?_
    rintro _ w3 ⟨⟨A3, n3, c3, rfl, hG3, rfl⟩, hlq⟩
    have hb_w3 := hide (hlq)
    have HBK_w3 := hide (HBK_w2.out.later hb_w3.out)
    have HL_w3 := hide (HL_w2.out.trans (hb_w3.out.mono HL_w2.out.size))
    have hz_w3 := HL_w3.out.size
    have hy_w3 := hb_w3.out.size
    clear HBK_w2
    clear hlq
    have HGX_w3 := hide hG3
    have hlt_A3 : ∀ ad, A3 = some ad → ad.block < w3.heap.size := fun ad e => by obtain ⟨ad', e', h', _⟩ := HGX_w3.out.1.1.2 (by decide); rw [e] at e'; injection e' with e'; rw [e']; exact h'
    clear hG3
    go_wp2_with (first
      | (refine wpList_alloc_blk rfl 24 rfl _ (lab_zero _) ?_; intro w4 ha_w4 hl_w4 hs_w4; clear hs_w4)
      | (refine wpList_store_all rfl 24 (.tmp 10) (.tmp 37) rfl w3.heap.size 24 _ ha_w4 rfl (labC X A3 3 c3) rfl lab_info rfl (labC_one _ _ _ _) ?_; intro w5 hc_w5 hg_w5 hs_w5; clear hs_w5; have hbb_w5 : Below w3.heap.size w3 w5 := hl_w4.grown hg_w5 (by have := hl_w4.size; omega) (fun g e => by injection e with e; omega); have hb_w5 := hide (hbb_w5); have HBK_w5 := hide (HBK_w3.out.later hb_w5.out); have HGX_w5 := hide (HGX_w3.out.later hb_w5.out); have HL_w5 := hide (HL_w3.out.trans (hb_w5.out.mono HL_w3.out.size)); have hz_w5 := HL_w5.out.size; have hy_w5 := hb_w5.out.size; clear HBK_w3 HGX_w3; have HXB_w5 := hide hc_w5; have hv_HXB := hc_w5.lt; clear hbb_w5 hc_w5 ha_w4 hl_w4 hg_w5))
    refine (HPY.out w5).mono ?_
    rintro _ w6 ⟨⟨A6, n6, c6, rfl, hG6, rfl⟩, hlq⟩
    have hb_w6 := hide (hlq)
    have HBK_w6 := hide (HBK_w5.out.later hb_w6.out)
    have HGX_w6 := hide (HGX_w5.out.later hb_w6.out)
    have HXB_w6 := hide (HXB_w5.out.below hb_w6.out HXB_w5.out.lt)
    have HL_w6 := hide (HL_w5.out.trans (hb_w6.out.mono HL_w5.out.size))
    have hz_w6 := HL_w6.out.size
    have hy_w6 := hb_w6.out.size
    clear HBK_w5 HGX_w5 HXB_w5
    clear hlq
    have HGY_w6 := hide hG6
    clear hG6
    have hlt_A6 : ∀ ad, A6 = some ad → ad.block < w6.heap.size := fun ad e => by obtain ⟨ad', e', h', _⟩ := HGY_w6.out.1.1.2 (by decide); rw [e] at e'; injection e' with e'; rw [e']; exact h'
    go_wp2_with (first
      | (refine wpList_alloc_blk rfl 24 rfl _ (lab_zero w6) ?_; intro w7 ha_w7 hl_w7 hs_w7; clear hs_w7)
      | (refine wpList_store_all rfl 24 (.tmp 11) (.tmp 42) rfl w6.heap.size 24 _ ha_w7 rfl (labC Y A6 3 c6) rfl lab_info rfl (labC_one _ _ _ _) ?_; intro w9 hc_w9 hg_w9 hs_w9; clear hs_w9; have hbb_w9 : Below w6.heap.size w6 w9 := hl_w7.grown hg_w9 (by have := hl_w7.size; omega) (fun g e => by injection e with e; omega); have hb_w9 := hide (hbb_w9); have HBK_w9 := hide (HBK_w6.out.later hb_w9.out); have HGX_w9 := hide (HGX_w6.out.later hb_w9.out); have HXB_w9 := hide (HXB_w6.out.below hb_w9.out HXB_w6.out.lt); have HGY_w9 := hide (HGY_w6.out.later hb_w9.out); have HL_w9 := hide (HL_w6.out.trans (hb_w9.out.mono HL_w6.out.size)); have hz_w9 := HL_w9.out.size; have hy_w9 := hb_w9.out.size; clear HBK_w6 HGX_w6 HXB_w6 HGY_w6; have HYB_w9 := hide hc_w9; have hv_HYB := hc_w9.lt; clear hbb_w9 hc_w9 ha_w7 hl_w7 hg_w9)
      | (refine wpList_load_blk rfl 24 (.tmp 10) rfl w3.heap.size 0 24 _ HXB_w9.out rfl (labC X A3 3 c3) _ (fun j v hj => by rw [Nat.zero_add]; simpa using hj) Try.underlying24 rfl lab_info ?_))
    refine (HPutX.out A3 3 c3 w9.heap.size w9 HGX_w9.out.1 (Nat.le_refl _)).mono ?_
    rintro _ w10 ⟨rfl, hlq⟩
    have hb_w10 := hide (hlq)
    have HBK_w10 := hide (HBK_w9.out.later hb_w10.out)
    have HGX_w10 := hide (HGX_w9.out.later hb_w10.out)
    have HXB_w10 := hide (HXB_w9.out.below hb_w10.out HXB_w9.out.lt)
    have HGY_w10 := hide (HGY_w9.out.later hb_w10.out)
    have HYB_w10 := hide (HYB_w9.out.below hb_w10.out HYB_w9.out.lt)
    have HL_w10 := hide (HL_w9.out.trans (hb_w10.out.mono HL_w9.out.size))
    have hz_w10 := HL_w10.out.size
    have hy_w10 := hb_w10.out.size
    clear HBK_w9 HGX_w9 HXB_w9 HGY_w9 HYB_w9
    clear hlq
    go_wp2_with (first
      | (refine wpList_alloc_blk rfl 26 rfl _ (sec_zero w10) ?_; intro w11 ha_w11 hl_w11 hs_w11; clear hs_w11)
      | (refine wpList_store_all rfl 26 (.tmp 12) (.tmp 48) rfl w10.heap.size 26 _ ha_w11 rfl UX rfl HI_UX.out (HN_UX.out.trans (secL_length zeroSec).symm) HO_UX.out ?_; intro w12 hc_w12 hg_w12 hs_w12; clear hs_w12; have hbb_w12 : Below w10.heap.size w10 w12 := hl_w11.grown hg_w12 (by have := hl_w11.size; omega) (fun g e => by injection e with e; omega); have hb_w12 := hide (hbb_w12); have HBK_w12 := hide (HBK_w10.out.later hb_w12.out); have HGX_w12 := hide (HGX_w10.out.later hb_w12.out); have HXB_w12 := hide (HXB_w10.out.below hb_w12.out HXB_w10.out.lt); have HGY_w12 := hide (HGY_w10.out.later hb_w12.out); have HYB_w12 := hide (HYB_w10.out.below hb_w12.out HYB_w10.out.lt); have HL_w12 := hide (HL_w10.out.trans (hb_w12.out.mono HL_w10.out.size)); have hz_w12 := HL_w12.out.size; have hy_w12 := hb_w12.out.size; clear HBK_w10 HGX_w10 HXB_w10 HGY_w10 HYB_w10; have HSXV_w12 := hide hc_w12; have hv_HSXV := hc_w12.lt; clear hbb_w12 hc_w12 ha_w11 hl_w11 hg_w12)
      | (refine wpList_load_blk rfl 24 (.tmp 11) rfl w6.heap.size 0 24 _ HYB_w12.out rfl (labC Y A6 3 c6) _ (fun j v hj => by rw [Nat.zero_add]; simpa using hj) Try.underlying24 rfl lab_info ?_))
    refine (HPutY.out A6 3 c6 w12.heap.size w12 HGY_w12.out.1 (Nat.le_refl _)).mono ?_
    rintro _ w13 ⟨rfl, hlq⟩
    have hb_w13 := hide (hlq)
    have HBK_w13 := hide (HBK_w12.out.later hb_w13.out)
    have HGX_w13 := hide (HGX_w12.out.later hb_w13.out)
    have HXB_w13 := hide (HXB_w12.out.below hb_w13.out HXB_w12.out.lt)
    have HGY_w13 := hide (HGY_w12.out.later hb_w13.out)
    have HYB_w13 := hide (HYB_w12.out.below hb_w13.out HYB_w12.out.lt)
    have HSXV_w13 := hide (HSXV_w12.out.below hb_w13.out HSXV_w12.out.lt)
    have HL_w13 := hide (HL_w12.out.trans (hb_w13.out.mono HL_w12.out.size))
    have hz_w13 := HL_w13.out.size
    have hy_w13 := hb_w13.out.size
    clear HBK_w12 HGX_w12 HXB_w12 HGY_w12 HYB_w12 HSXV_w12
    clear hlq
    go_wp2_with (first
      | (refine wpList_alloc_blk rfl 26 rfl _ (sec_zero w13) ?_; intro w14 ha_w14 hl_w14 hs_w14; clear hs_w14)
      | (refine wpList_store_all rfl 26 (.tmp 14) (.tmp 53) rfl w13.heap.size 26 _ ha_w14 rfl UY rfl HI_UY.out (HN_UY.out.trans (secL_length zeroSec).symm) HO_UY.out ?_; intro w15 hc_w15 hg_w15 hs_w15; clear hs_w15; have hbb_w15 : Below w13.heap.size w13 w15 := hl_w14.grown hg_w15 (by have := hl_w14.size; omega) (fun g e => by injection e with e; omega); have hb_w15 := hide (hbb_w15); have HBK_w15 := hide (HBK_w13.out.later hb_w15.out); have HGX_w15 := hide (HGX_w13.out.later hb_w15.out); have HXB_w15 := hide (HXB_w13.out.below hb_w15.out HXB_w13.out.lt); have HGY_w15 := hide (HGY_w13.out.later hb_w15.out); have HYB_w15 := hide (HYB_w13.out.below hb_w15.out HYB_w13.out.lt); have HSXV_w15 := hide (HSXV_w13.out.below hb_w15.out HSXV_w13.out.lt); have HL_w15 := hide (HL_w13.out.trans (hb_w15.out.mono HL_w13.out.size)); have hz_w15 := HL_w15.out.size; have hy_w15 := hb_w15.out.size; clear HBK_w13 HGX_w13 HXB_w13 HGY_w13 HYB_w13 HSXV_w13; have HSYV_w15 := hide hc_w15; have hv_HSYV := hc_w15.lt; clear hbb_w15 hc_w15 ha_w14 hl_w14 hg_w15)
      | (refine wpList_load_blk rfl 26 (.tmp 12) rfl w10.heap.size 0 26 _ HSXV_w15.out rfl UX _ (fun j v hj => by rw [Nat.zero_add]; simpa using hj) Try.underlying26 rfl HI_UX.out ?_))
    refine (HW1.out w15 b F HBK_w15.out).mono ?_
    rintro _ w16 ⟨rfl, hBq, hTq⟩
    have hzt_w16 := hTq.size
    have HBK_w16 := hide hBq
    have HGX_w16 := hide (HGX_w15.out.turned hTq (fun x hx hf => by have := HFB.out x hf; omega))
    have HXB_w16 := hide (HXB_w15.out.turned hTq (fun hf => by have := HFB.out _ hf; have := HXB_w15.out.lt; omega))
    have HGY_w16 := hide (HGY_w15.out.turned hTq (fun x hx hf => by have := HFB.out x hf; omega))
    have HYB_w16 := hide (HYB_w15.out.turned hTq (fun hf => by have := HFB.out _ hf; have := HYB_w15.out.lt; omega))
    have HSXV_w16 := hide (HSXV_w15.out.turned hTq (fun hf => by have := HFB.out _ hf; have := HSXV_w15.out.lt; omega))
    have HSYV_w16 := hide (HSYV_w15.out.turned hTq (fun hf => by have := HFB.out _ hf; have := HSYV_w15.out.lt; omega))
    have HL_w16 := hide (HL_w15.out.trans (hTq.below_ (B := w.heap.size) HL_w15.out.size (fun x hx => by have := HFB.out x hx; omega)))
    have hz_w16 := HL_w16.out.size
    clear hBq hTq
    clear HBK_w15 HGX_w15 HXB_w15 HGY_w15 HYB_w15 HSXV_w15 HSYV_w15
    clear HSXV_w16
    go_wp2_with (first
      | (refine wpList_load_blk rfl 26 (.tmp 14) rfl w13.heap.size 0 26 _ HSYV_w16.out rfl UY _ (fun j v hj => by rw [Nat.zero_add]; simpa using hj) Try.underlying26 rfl HI_UY.out ?_))
    refine (HW2.out w16 b F HBK_w16.out).mono ?_
    rintro _ w17 ⟨rfl, hBq, hTq⟩
    have hzt_w17 := hTq.size
    have HBK_w17 := hide hBq
    have HGX_w17 := hide (HGX_w16.out.turned hTq (fun x hx hf => by have := HFB.out x hf; omega))
    have HXB_w17 := hide (HXB_w16.out.turned hTq (fun hf => by have := HFB.out _ hf; have := HXB_w16.out.lt; omega))
    have HGY_w17 := hide (HGY_w16.out.turned hTq (fun x hx hf => by have := HFB.out x hf; omega))
    have HYB_w17 := hide (HYB_w16.out.turned hTq (fun hf => by have := HFB.out _ hf; have := HYB_w16.out.lt; omega))
    have HSYV_w17 := hide (HSYV_w16.out.turned hTq (fun hf => by have := HFB.out _ hf; have := HSYV_w16.out.lt; omega))
    have HL_w17 := hide (HL_w16.out.trans (hTq.below_ (B := w.heap.size) HL_w16.out.size (fun x hx => by have := HFB.out x hx; omega)))
    have hz_w17 := HL_w17.out.size
    clear hBq hTq
    clear HBK_w16 HGX_w16 HXB_w16 HGY_w16 HYB_w16 HSYV_w16
    clear HSYV_w17
    go_wp2_with fail
    have hLd := lload_on HBK_w17.out 1
    rw [HT1.out] at hLd
    refine (hLd).mono ?_
    rintro _ w18 ⟨⟨A18, n18, c18, rfl, hG18⟩, hlq⟩
    have hb_w18 := hide (hlq)
    have HBK_w18 := hide (HBK_w17.out.later hb_w18.out)
    have HGX_w18 := hide (HGX_w17.out.later hb_w18.out)
    have HXB_w18 := hide (HXB_w17.out.below hb_w18.out HXB_w17.out.lt)
    have HGY_w18 := hide (HGY_w17.out.later hb_w18.out)
    have HYB_w18 := hide (HYB_w17.out.below hb_w18.out HYB_w17.out.lt)
    have HL_w18 := hide (HL_w17.out.trans (hb_w18.out.mono HL_w17.out.size))
    have hz_w18 := HL_w18.out.size
    have hy_w18 := hb_w18.out.size
    clear HBK_w17 HGX_w17 HXB_w17 HGY_w17 HYB_w17
    clear hlq
    have HGL_w18 := hide hG18
    clear hG18 hLd
    go_wp2_with (first
      | (refine wpList_alloc_blk rfl 24 rfl _ (lab_zero w18) ?_; intro w19 ha_w19 hl_w19 hs_w19; clear hs_w19)
      | (refine wpList_store_all rfl 24 (.tmp 16) (.tmp 66) rfl w18.heap.size 24 _ ha_w19 rfl (labC X A18 n18 c18) rfl lab_info rfl (labC_one _ _ _ _) ?_; intro w20 hc_w20 hg_w20 hs_w20; clear hs_w20; have hbb_w20 : Below w18.heap.size w18 w20 := hl_w19.grown hg_w20 (by have := hl_w19.size; omega) (fun g e => by injection e with e; omega); have hb_w20 := hide (hbb_w20); have HBK_w20 := hide (HBK_w18.out.later hb_w20.out); have HGX_w20 := hide (HGX_w18.out.later hb_w20.out); have HXB_w20 := hide (HXB_w18.out.below hb_w20.out HXB_w18.out.lt); have HGY_w20 := hide (HGY_w18.out.later hb_w20.out); have HYB_w20 := hide (HYB_w18.out.below hb_w20.out HYB_w18.out.lt); have HGL_w20 := hide (HGL_w18.out.later hb_w20.out); have HL_w20 := hide (HL_w18.out.trans (hb_w20.out.mono HL_w18.out.size)); have hz_w20 := HL_w20.out.size; have hy_w20 := hb_w20.out.size; clear HBK_w18 HGX_w18 HXB_w18 HGY_w18 HYB_w18 HGL_w18; have HLV_w20 := hide hc_w20; have hv_HLV := hc_w20.lt; clear hbb_w20 hc_w20 ha_w19 hl_w19 hg_w20)
      | (refine wpList_load_blk rfl 24 (.tmp 10) rfl w3.heap.size 0 24 _ HXB_w20.out rfl (labC X A3 3 c3) _ (fun j v hj => by rw [Nat.zero_add]; simpa using hj) Try.underlying24 rfl lab_info ?_)
      | (refine wpList_alloc_blk rfl 24 rfl _ (lab_zero w20) ?_; intro w21 ha_w21 hl_w21 hs_w21; clear hs_w21)
      | (refine wpList_store_all rfl 24 (.tmp 18) (.tmp 68) rfl w20.heap.size 24 _ ha_w21 rfl (labC X A3 3 c3) rfl lab_info rfl (labC_one _ _ _ _) ?_; intro w22 hc_w22 hg_w22 hs_w22; clear hs_w22; have hbb_w22 : Below w20.heap.size w20 w22 := hl_w21.grown hg_w22 (by have := hl_w21.size; omega) (fun g e => by injection e with e; omega); have hb_w22 := hide (hbb_w22); have HBK_w22 := hide (HBK_w20.out.later hb_w22.out); have HGX_w22 := hide (HGX_w20.out.later hb_w22.out); have HXB_w22 := hide (HXB_w20.out.below hb_w22.out HXB_w20.out.lt); have HGY_w22 := hide (HGY_w20.out.later hb_w22.out); have HYB_w22 := hide (HYB_w20.out.below hb_w22.out HYB_w20.out.lt); have HGL_w22 := hide (HGL_w20.out.later hb_w22.out); have HLV_w22 := hide (HLV_w20.out.below hb_w22.out HLV_w20.out.lt); have HL_w22 := hide (HL_w20.out.trans (hb_w22.out.mono HL_w20.out.size)); have hz_w22 := HL_w22.out.size; have hy_w22 := hb_w22.out.size; clear HBK_w20 HGX_w20 HXB_w20 HGY_w20 HYB_w20 HGL_w20 HLV_w20; have HWV_w22 := hide hc_w22; have hv_HWV := hc_w22.lt; clear hbb_w22 hc_w22 ha_w21 hl_w21 hg_w22; have gx1 := lab_c1 HXB_w22.out; have gy1 := lab_c1 HYB_w22.out)
      | (refine wpList_load_blk rfl 24 (.tmp 16) rfl w18.heap.size 0 24 _ HLV_w22.out rfl (labC X A18 n18 c18) _ (fun j v hj => by rw [Nat.zero_add]; simpa using hj) Try.underlying24 rfl lab_info ?_)
      | (refine wpList_load_blk rfl 24 (.tmp 18) rfl w20.heap.size 0 24 _ HWV_w22.out rfl (labC X A3 3 c3) _ (fun j v hj => by rw [Nat.zero_add]; simpa using hj) Try.underlying24 rfl lab_info ?_))
    refine (HSame.out A18 A3 n18 c18 3 c3 w22.heap.size w22.heap.size w22 HGL_w22.out.1 HGX_w22.out.1 (Nat.le_refl _) (Nat.le_refl _)).mono ?_
    rintro _ w24 ⟨rfl, hlq⟩
    have hb_w24 := hide (hlq)
    have HBK_w24 := hide (HBK_w22.out.later hb_w24.out)
    have HGX_w24 := hide (HGX_w22.out.later hb_w24.out)
    have HXB_w24 := hide (HXB_w22.out.below hb_w24.out HXB_w22.out.lt)
    have HGY_w24 := hide (HGY_w22.out.later hb_w24.out)
    have HYB_w24 := hide (HYB_w22.out.below hb_w24.out HYB_w22.out.lt)
    have HGL_w24 := hide (HGL_w22.out.later hb_w24.out)
    have HLV_w24 := hide (HLV_w22.out.below hb_w24.out HLV_w22.out.lt)
    have HWV_w24 := hide (HWV_w22.out.below hb_w24.out HWV_w22.out.lt)
    have HL_w24 := hide (HL_w22.out.trans (hb_w24.out.mono HL_w22.out.size))
    have hz_w24 := HL_w24.out.size
    have hy_w24 := hb_w24.out.size
    clear HBK_w22 HGX_w22 HXB_w22 HGY_w22 HYB_w22 HGL_w22 HLV_w22 HWV_w22
    clear hlq
    go_wp2_with fail
    have hLd := lload_on HBK_w24.out 2
    rw [HT2.out] at hLd
    refine (hLd).mono ?_
    rintro _ w25 ⟨⟨A25, n25, c25, rfl, hG25⟩, hlq⟩
    have hb_w25 := hide (hlq)
    have HBK_w25 := hide (HBK_w24.out.later hb_w25.out)
    have HGX_w25 := hide (HGX_w24.out.later hb_w25.out)
    have HXB_w25 := hide (HXB_w24.out.below hb_w25.out HXB_w24.out.lt)
    have HGY_w25 := hide (HGY_w24.out.later hb_w25.out)
    have HYB_w25 := hide (HYB_w24.out.below hb_w25.out HYB_w24.out.lt)
    have HGL_w25 := hide (HGL_w24.out.later hb_w25.out)
    have HLV_w25 := hide (HLV_w24.out.below hb_w25.out HLV_w24.out.lt)
    have HWV_w25 := hide (HWV_w24.out.below hb_w25.out HWV_w24.out.lt)
    have HL_w25 := hide (HL_w24.out.trans (hb_w25.out.mono HL_w24.out.size))
    have hz_w25 := HL_w25.out.size
    have hy_w25 := hb_w25.out.size
    clear HBK_w24 HGX_w24 HXB_w24 HGY_w24 HYB_w24 HGL_w24 HLV_w24 HWV_w24
    clear hlq
    clear hG25 hLd
    go_wp2_with (first
      | (refine wpList_alloc_blk rfl 24 rfl _ (lab_zero w25) ?_; intro w26 ha_w26 hl_w26 hs_w26; clear hs_w26)
      | (refine wpList_store_all rfl 24 (.tmp 20) (.tmp 85) rfl w25.heap.size 24 _ ha_w26 rfl (labC Lab.none_ A25 n25 c25) rfl lab_info rfl (labC_one _ _ _ _) ?_; intro w27 hc_w27 hg_w27 hs_w27; clear hs_w27; have hbb_w27 : Below w25.heap.size w25 w27 := hl_w26.grown hg_w27 (by have := hl_w26.size; omega) (fun g e => by injection e with e; omega); have hb_w27 := hide (hbb_w27); have HL_w27 := hide (HL_w25.out.trans (hb_w27.out.mono HL_w25.out.size)); have hz_w27 := HL_w27.out.size; have hy_w27 := hb_w27.out.size; have HZV_w27 := hide hc_w27; have hv_HZV := hc_w27.lt; clear hbb_w27 hc_w27 ha_w26 hl_w26 hg_w27))
    go_ret
    exact ⟨rfl, HL_w27.out⟩
theorem walk (a0 a1 : Int) (a2 : Bool) (w : World) (_ : -9223372036854775808 ≤ a0) (_ : a0 ≤ 9223372036854775807) (_ : -9223372036854775808 ≤ a1) (_ : a1 ≤ 9223372036854775807) :
    Calls Try.prog 8 #[.int .i64 a0, .int .i64 a1, .bool a2] w fun e w' => e = .returned (.bool true) ∧ Below w.heap.size w w' := by
  cases a2 with
  | true => exact walk_t a0 a1 w
  | false => exact walk_f a0 a1 w
#print axioms walk

/-! The row's frame, by program: how the walk above proves the statement. -/
set_option maxRecDepth 100000 in
theorem lifted (os : Os) (started : os.Started) (H : Type) (enc : TypeId × Value → H) :
    ReturnsInHanded {} Try.checked os 8 .any (Rows.labelNewerSpec.pre6 enc Try.prog Try.f8 Rows.labelNewerRow.domain false) (Rows.labelNewerSpec.post enc Try.prog Try.f8 false true false false) := by
  refine returnsInHanded_of_change (C := Try.checked) own started (by kernel_rfl) Try.func8
    (ChangeSpec.witness6 (enc := enc) (C := Try.checked) false ⟨#[], #[.int .i64 0, .int .i64 0, .bool false], []⟩ 8 (by kernel_rfl) (by kernel_rfl) (by kernel_rfl) (by kernel_rfl)) ?_
  intro W base args ds gs before hval0 hW hcnd _
  have hval : ∀ (j : Nat) t v, Try.f8.params[j]? = some t → args[j]? = some v → Value.okWide Try.prog W .any base t v := hval0
  have hW' := hW
  obtain ⟨p, q, hA0, hV, rfl, hfz, hnd⟩ := hW
  have hA : DataW.TrodAll enc Try.prog W 0 (fun _ => true) true Try.f8.params.toList args.toList ds p := hA0
  rw [Try.params8] at hA hval
  obtain ⟨v0, vs0, d0, ds0, p0, q0, hargs, rfl, rfl, h0, r0⟩ := trodAll_cons hA
  obtain ⟨v1, vs1, d1, ds1, p1, q1, rfl, rfl, rfl, h1, r1⟩ := trodAll_cons r0
  obtain ⟨v2, vs2, d2, ds2, p2, q2, rfl, rfl, rfl, h2, r2⟩ := trodAll_cons r1
  obtain ⟨rfl, rfl, rfl⟩ := trodAll_nil r2
  obtain rfl : args = #[v0, v1, v2] := by cases args; simp_all
  obtain ⟨rfl, rfl⟩ := trodVars_none hV
  obtain ⟨a0, rfl, rfl, rfl, w0⟩ := open_int Try.underlying3 (hval 0 3 v0 rfl rfl) h0
  have b0 := bounds_i64 w0
  obtain ⟨a1, rfl, rfl, rfl, w1⟩ := open_int Try.underlying3 (hval 1 3 v1 rfl rfl) h1
  have b1 := bounds_i64 w1
  obtain ⟨a2, rfl, rfl, rfl⟩ := open_bool Try.underlying4 (hval 2 4 v2 rfl rfl) h2
  clear hA0 hval0
  refine (walk a0 a1 a2 W b0.1 b0.2 b1.1 b1.2).mono fun e W' ⟨he, bel⟩ => ?_
  subst he
  exact ⟨_, rfl, _, _, _, [], _, [], hW', trodAll_mk1 (shut_bool Try.underlying4 _), (trodAll_cons_mk (shut_int Try.underlying3 w0) (trodAll_cons_mk (shut_int Try.underlying3 w1) (trodAll_cons_mk (shut_bool Try.underlying4 a2) trodAll_mk0))), rfl, bel.frame _, fun h => by cases h⟩

theorem over : Rows.labelNewerRow.holds Try.pinned (OpenSpec.ofChange Rows.labelNewerSpec) :=
  OpenClaim.holds_of_wide 8 Try.f8 rfl rfl rfl rfl rfl rfl rfl ⟨rfl, rfl, rfl, rfl, rfl⟩ rfl rfl rfl rfl rfl (by kernel_rfl) Try.func8 (by kernel_rfl)
    (of_decide_eq_true (by kernel_rfl)) (by unfold Func.isWrapper; first | (rw [if_pos (by decide +kernel)]; kernel_rfl) | (rw [if_neg (by decide +kernel)]; exact ⟨rfl, rfl⟩))
    (fun os started H enc _ => lifted os started H enc)

/-- The statement. -/
theorem proved : Rows.LabelNewerSaid := over
#print axioms proved
end Go.Proofs.Ytbbfgcekjelmkaa.LabelNewer
