/- LabelPlaces: a label is laid at the place of its generation, and nowhere else: whatever generation (28 bits), whichever of three members, whatever raw sectors lie there; no condition. -/
import Derived.Test.YtbbfgcekjelmkaaShownL
import Derived.Test.YtbbfgcekjelmkaaSectors
import Derived.Test.YtbbfgcekjelmkaaSaveL
import Derived.Deep.QuietTactic
import Derived.BigQuiet
namespace Go.Proofs.Ytbbfgcekjelmkaa.LabelPlaces
open Go.ChangeShapes Go.WideShapes Go.ChangeAt Go.RowKit Go.Proofs.Ytbbfgcekjelmkaa
set_option linter.unusedVariables false

theorem mask28 (v : Int) : ∃ m : Nat, bits .and .i64 v 268435455 = (m : Int) ∧ m < 268435456 := by
  have h := i64_mask v 28 (by decide)
  have h0 := Int.emod_nonneg v (show (2 : Int) ^ 28 ≠ 0 by decide)
  have h1 := Int.emod_lt_of_pos v (show (0 : Int) < 2 ^ 28 by decide)
  refine ⟨(v % 2 ^ 28).toNat, ?_, by omega⟩
  rw [Int.toNat_of_nonneg h0]
  exact h
theorem mask4 (v : Int) : ∃ m : Nat, bits .and .i64 v 15 = (m : Int) ∧ m < 16 := by
  have h := i64_mask v 4 (by decide)
  have h0 := Int.emod_nonneg v (show (2 : Int) ^ 4 ≠ 0 by decide)
  have h1 := Int.emod_lt_of_pos v (show (0 : Int) < 2 ^ 4 by decide)
  refine ⟨(v % 2 ^ 4).toNat, ?_, by omega⟩
  rw [Int.toNat_of_nonneg h0]
  exact h
set_option maxRecDepth 100000 in
set_option maxHeartbeats 8000000 in
theorem walk (a0 a1 : Int) (C : Option Addr) (n c : Nat) (gs : Nat → Sec) (w : World) (_ : -9223372036854775808 ≤ a0) (_ : a0 ≤ 9223372036854775807) (_ : -9223372036854775808 ≤ a1) (_ : a1 ≤ 9223372036854775807) (hx : SecsIn w w.heap.size C n gs) (hnc : n ≤ c) (hc63 : c ≤ 9223372036854775807) :
    Calls Try.prog 7 #[.int .i64 a0, .int .i64 a1, .slice C n c] w fun e w' => e = .returned (.bool true) ∧ Below w.heap.size w w' := by
  obtain ⟨m, hm, hml⟩ := mask28 a0
  obtain ⟨q, hq, hql⟩ := mask4 a1
  obtain ⟨mm, hmm⟩ : ∃ k : Nat, k = q % 3 := ⟨_, rfl⟩
  have hmm3 : mm < 3 := by omega
  have hmo : (q : Int) % 3 = (mm : Int) := by omega
  obtain ⟨L, hL⟩ : ∃ L, L = plainL (1 + (m : Int)) (mm : Int) := ⟨_, rfl⟩
  obtain ⟨g, hg⟩ : ∃ k : Nat, k = lowBit (1 + (m : Int)) := ⟨_, rfl⟩
  obtain ⟨hlb, hg2⟩ := low_bit (1 + (m : Int))
  rw [← hg] at hlb hg2
  have HPL := hide (fun w => plain_any (1 + (m : Int)) (mm : Int) w)
  rw [← hL] at HPL
  have HRL : Hid (rightB L = true) := by show _ = _; rw [hL]; exact right_plain (by omega) (by omega) (by omega) (by omega)
  have HEL := hide (show putE L = 0 by rw [putE, HRL.out]; rfl)
  have HSL := hide (show putS L = labS L by rw [putS, HRL.out]; rfl)
  have hLm : L.member.toNat = mm := by rw [hL]; show ((mm : Nat) : Int).toNat = mm; exact Int.toNat_natCast mm
  have hLg : L.gen.toNat % 2 = g := by rw [hL, hg]; show (1 + (m : Int)).toNat % 2 = lowBit (1 + (m : Int)); unfold lowBit; omega
  obtain ⟨S, hS⟩ : ∃ S, S = lawB (fun _ => (Lab.none_, none, 0, 0)) 0 gs n := ⟨_, rfl⟩
  obtain ⟨hqS, hwS⟩ := lawB_quiet (fun _ => (Lab.none_, none, 0, 0)) 0 gs n
  rw [← hS] at hqS hwS
  obtain ⟨T, hT⟩ : ∃ T, T = (S.wrote.put mm g (putS L)).flush mm := ⟨_, rfl⟩
  have hqT : Quiet 200 T := by rw [hT]; exact ((hqS.wrote).put mm g (putS L)).flush mm
  have hsv : S.saveL L = (0, T) := by rw [hqS.save HRL.out (by rw [hLm]; exact hmm3) (by decide), hLm, hLg, hT, HSL.out]
  have HSV := hide (fun (w1 : World) (b : Nat) (F : Nat → Prop) (h : BankOn w1 b F S) A n c hm => lsave_on h (by omega) L A n c hm)
  rw [hsv] at HSV
  have HYes : Hid (∀ i, i = mm + 3 * g → T.newest (i % 3) (i / 3) = putS L) := fun i hi => by
    rw [hT]
    show upd2 S.newest mm g (putS L) (i % 3) (i / 3) = putS L
    rw [show i % 3 = mm by omega, show i / 3 = g by omega, upd2_self]
  have HNo : Hid (∀ i, i < 6 → i ≠ mm + 3 * g → T.newest (i % 3) (i / 3) = S.newest (i % 3) (i / 3)) := fun i hi hne => by
    rw [hT]
    show upd2 S.newest mm g (putS L) (i % 3) (i / 3) = _
    exact upd2_ne _ _ (fun e => hne (by omega))
  have HShown := hide shownL_any
  have HBank := hide (fun (w1 : World) (hl : Below w.heap.size w w1) => bank_any none 0 0 (fun _ => (Lab.none_, none, 0, 0)) C n c gs w1 LabsIn.nil (fun h0 => by obtain ⟨ad, e1, e2, e3⟩ := (hx.below hl) h0; exact ⟨ad, e1, Nat.lt_of_lt_of_le e2 hl.size, e3⟩) hnc hc63)
  rw [← hS] at HBank
  have HSec0 := hide (fun (w1 : World) (b : Nat) (F : Nat → Prop) (h : BankOn w1 b F S) => lawSectors_any h hqS)
  have HSec1 := hide (fun (w1 : World) (b : Nat) (F : Nat → Prop) (h : BankOn w1 b F T) => lawSectors_any h hqT)
  have HPut := hide (fun A n c B0 w => lput_any L A n c B0 w)
  have HG := hide hg
  clear hL hS hT hqS hqT hwS hsv hLm hLg hx hmm hg
  obtain ⟨UL, hU_UL⟩ : ∃ U, U = secL (putS L) := ⟨_, rfl⟩
  have hUl_UL : UL.length = 64 := by rw [hU_UL, secL_length]
  have hUo_UL : ∀ v ∈ UL, v.oneCell' = true := by rw [hU_UL]; exact secL_one _
  have hUi_UL : (Try.prog.info? 26).map (·.size) = some UL.length := by rw [hUl_UL]; exact sec_info
  have hUv_UL : secV (putS L) = .agg UL.toArray := by rw [hU_UL]; rfl
  have hUe_UL : Value.agg UL.toArray = .agg (B8 ((putS L)).1).toArray := by rw [hU_UL]; rfl
  have HN_UL := hide hUl_UL
  have HO_UL := hide hUo_UL
  have HI_UL := hide hUi_UL
  have HE_UL := hide hUe_UL
  have HU_UL := hide hU_UL
  have HV_UL := hide hUv_UL
  clear hU_UL hUl_UL hUo_UL hUi_UL hUv_UL hUe_UL
  rw [HV_UL.out, HEL.out] at HPut
  have HL_w := hide (Below.refl w.heap.size w)
  go_enter Try.func7, Try.ntmps7
  go_wp2_with fail
  refine (HShown.out w).mono ?_
  rintro _ w1 ⟨rfl, hlq⟩
  have hb_w1 := hide (hlq)
  have HL_w1 := hide (HL_w.out.trans (hb_w1.out.mono HL_w.out.size))
  have hz_w1 := HL_w1.out.size
  have hy_w1 := hb_w1.out.size
  clear hlq
  go_wp2_with fail
  refine (HBank.out w1 HL_w1.out).mono ?_
  rintro _ w2 ⟨⟨b, r, rfl, hBo⟩, hlq⟩
  have hb_w2 := hide (hlq)
  have HL_w2 := hide (HL_w1.out.trans (hb_w2.out.mono HL_w1.out.size))
  have hz_w2 := HL_w2.out.size
  have hy_w2 := hb_w2.out.size
  clear hlq
  obtain ⟨F, G, hB2, _, _, hlo2⟩ := hBo.ex
  have HFB : Hid (∀ x, F x → w1.heap.size ≤ x ∧ x < w2.heap.size) := fun x hx => ⟨hlo2 x (.inl hx), hB2.1 x hx⟩
  have HBK_w2 := hide hB2
  clear hB2 hlo2 hBo
  go_wp2_with fail
  refine (HSec0.out w2 b F HBK_w2.out).mono ?_
  rintro _ w3 ⟨⟨g1, c1, rfl, hg1lo, cs1, hcs1, hat1⟩, hlq⟩
  have hb_w3 := hide (hlq)
  have HBK_w3 := hide (HBK_w2.out.later hb_w3.out)
  have HL_w3 := hide (HL_w2.out.trans (hb_w3.out.mono HL_w2.out.size))
  have hz_w3 := HL_w3.out.size
  have hy_w3 := hb_w3.out.size
  clear HBK_w2
  clear hlq
  have HWA_w3 := hide hcs1
  have HAT1 := hide hat1
  clear hcs1 hat1
  go_wp2_with fail
  refine (HPL.out w3).mono ?_
  rintro _ w4 ⟨⟨A4, n4, c4, rfl, hG4, rfl⟩, hlq⟩
  have hb_w4 := hide (hlq)
  have HBK_w4 := hide (HBK_w3.out.later hb_w4.out)
  have HWA_w4 := hide (HWA_w3.out.below hb_w4.out HWA_w3.out.lt)
  have HL_w4 := hide (HL_w3.out.trans (hb_w4.out.mono HL_w3.out.size))
  have hz_w4 := HL_w4.out.size
  have hy_w4 := hb_w4.out.size
  clear HBK_w3 HWA_w3
  clear hlq
  have HGL_w4 := hide hG4
  clear hG4
  go_wp2_with (first
    | (refine wpList_alloc_blk rfl 24 rfl _ (lab_zero w4) ?_; intro w5 ha_w5 hl_w5 hs_w5; clear hs_w5)
    | (refine wpList_store_all rfl 24 (.tmp 11) (.tmp 39) rfl w4.heap.size 24 _ ha_w5 rfl (labC L A4 3 c4) rfl lab_info rfl (labC_one _ _ _ _) ?_; intro w6 hc_w6 hg_w6 hs_w6; clear hs_w6; have hbb_w6 : Below w4.heap.size w4 w6 := hl_w5.grown hg_w6 (by have := hl_w5.size; omega) (fun g e => by injection e with e; omega); have hb_w6 := hide (hbb_w6); have HBK_w6 := hide (HBK_w4.out.later hb_w6.out); have HWA_w6 := hide (HWA_w4.out.below hb_w6.out HWA_w4.out.lt); have HGL_w6 := hide (HGL_w4.out.later hb_w6.out); have HL_w6 := hide (HL_w4.out.trans (hb_w6.out.mono HL_w4.out.size)); have hz_w6 := HL_w6.out.size; have hy_w6 := hb_w6.out.size; clear HBK_w4 HWA_w4 HGL_w4; have HLB_w6 := hide hc_w6; have hv_HLB := hc_w6.lt; clear hbb_w6 hc_w6 ha_w5 hl_w5 hg_w6)
    | (refine wpList_load_blk rfl 24 (.tmp 11) rfl w4.heap.size 0 24 _ HLB_w6.out rfl (labC L A4 3 c4) _ (fun j v hj => by rw [Nat.zero_add]; simpa using hj) Try.underlying24 rfl lab_info ?_))
  refine (HPut.out A4 3 c4 w6.heap.size w6 HGL_w6.out.1 (Nat.le_refl _)).mono ?_
  rintro _ w7 ⟨rfl, hlq⟩
  have hb_w7 := hide (hlq)
  have HBK_w7 := hide (HBK_w6.out.later hb_w7.out)
  have HWA_w7 := hide (HWA_w6.out.below hb_w7.out HWA_w6.out.lt)
  have HGL_w7 := hide (HGL_w6.out.later hb_w7.out)
  have HLB_w7 := hide (HLB_w6.out.below hb_w7.out HLB_w6.out.lt)
  have HL_w7 := hide (HL_w6.out.trans (hb_w7.out.mono HL_w6.out.size))
  have hz_w7 := HL_w7.out.size
  have hy_w7 := hb_w7.out.size
  clear HBK_w6 HWA_w6 HGL_w6 HLB_w6
  clear hlq
  go_wp2_with (first
    | (refine wpList_alloc_blk rfl 26 rfl _ (sec_zero w7) ?_; intro w8 ha_w8 hl_w8 hs_w8; clear hs_w8)
    | (refine wpList_store_all rfl 26 (.tmp 12) (.tmp 43) rfl w7.heap.size 26 _ ha_w8 rfl UL rfl HI_UL.out (HN_UL.out.trans (secL_length zeroSec).symm) HO_UL.out ?_; intro w9 hc_w9 hg_w9 hs_w9; clear hs_w9; have hbb_w9 : Below w7.heap.size w7 w9 := hl_w8.grown hg_w9 (by have := hl_w8.size; omega) (fun g e => by injection e with e; omega); have hb_w9 := hide (hbb_w9); have HBK_w9 := hide (HBK_w7.out.later hb_w9.out); have HWA_w9 := hide (HWA_w7.out.below hb_w9.out HWA_w7.out.lt); have HGL_w9 := hide (HGL_w7.out.later hb_w9.out); have HLB_w9 := hide (HLB_w7.out.below hb_w9.out HLB_w7.out.lt); have HL_w9 := hide (HL_w7.out.trans (hb_w9.out.mono HL_w7.out.size)); have hz_w9 := HL_w9.out.size; have hy_w9 := hb_w9.out.size; clear HBK_w7 HWA_w7 HGL_w7 HLB_w7; have HSB_w9 := hide hc_w9; have hv_HSB := hc_w9.lt; clear hbb_w9 hc_w9 ha_w8 hl_w8 hg_w9)
    | (refine wpList_load_blk rfl 24 (.tmp 11) rfl w4.heap.size 0 24 _ HLB_w9.out rfl (labC L A4 3 c4) _ (fun j v hj => by rw [Nat.zero_add]; simpa using hj) Try.underlying24 rfl lab_info ?_))
  refine (HSV.out w9 b F HBK_w9.out A4 3 c4 HGL_w9.out.1).mono ?_
  rintro _ w10 ⟨rfl, hBq, hTq⟩
  have hzt_w10 := hTq.size
  have HBK_w10 := hide hBq
  have HWA_w10 := hide (HWA_w9.out.turned hTq (fun hf => by have := HFB.out _ hf; have := HWA_w9.out.lt; omega))
  have HGL_w10 := hide (HGL_w9.out.turned hTq (fun x hx hf => by have := HFB.out x hf; omega))
  have HLB_w10 := hide (HLB_w9.out.turned hTq (fun hf => by have := HFB.out _ hf; have := HLB_w9.out.lt; omega))
  have HSB_w10 := hide (HSB_w9.out.turned hTq (fun hf => by have := HFB.out _ hf; have := HSB_w9.out.lt; omega))
  have HL_w10 := hide (HL_w9.out.trans (hTq.below_ (B := w.heap.size) HL_w9.out.size (fun x hx => by have := HFB.out x hx; omega)))
  have hz_w10 := HL_w10.out.size
  clear hBq hTq
  clear HBK_w9 HWA_w9 HGL_w9 HLB_w9 HSB_w9
  go_wp2_with fail
  refine (HSec1.out w10 b F HBK_w10.out).mono ?_
  rintro _ w11 ⟨⟨g2, c2, rfl, hg2lo, cs2, hcs2, hat2⟩, hlq⟩
  have hb_w11 := hide (hlq)
  have HBK_w11 := hide (HBK_w10.out.later hb_w11.out)
  have HWA_w11 := hide (HWA_w10.out.below hb_w11.out HWA_w10.out.lt)
  have HGL_w11 := hide (HGL_w10.out.later hb_w11.out)
  have HLB_w11 := hide (HLB_w10.out.below hb_w11.out HLB_w10.out.lt)
  have HSB_w11 := hide (HSB_w10.out.below hb_w11.out HSB_w10.out.lt)
  have HL_w11 := hide (HL_w10.out.trans (hb_w11.out.mono HL_w10.out.size))
  have hz_w11 := HL_w11.out.size
  have hy_w11 := hb_w11.out.size
  clear HBK_w10 HWA_w10 HGL_w10 HLB_w10 HSB_w10
  clear hlq
  have HNW_w11 := hide hcs2
  have HAT2 := hide hat2
  clear hcs2 hat2
  have hml64 : 3 * (g : Int) ≤ 3 := by omega
  go_wp2_with fail
  have hbl1 := HWA_w11.out.lt
  go_loopw [16] (fun s16 wr => ∃ i q : Nat, s16 = .int .i64 (i : Int) ∧ i ≤ 6 ∧ wr = w11.drewN q) (fun s16 _ => 6 - (intOf s16).toNat)
  case atStart => exact ⟨0, 0, rfl, by decide, rfl⟩
  case round =>
    obtain ⟨i, q, rfl, hi6, rfl⟩ := hrel
    by_cases hi : i < 6
    · have hi2 : (i : Int) < 6 := by omega
      by_cases he : i = mm + 3 * g
      · have hd1 : ((i : Int) == (mm : Int) + 3 * (g : Int)) = true := by simp; omega
        have HC2 : Hid (∀ (j : Nat) (v : Value), UL[j]? = some v → cs2[i * 64 + j]? = some v) := fun j v hj => HAT2.out i hi j v (by rw [HYes.out i he, ← HU_UL.out]; exact hj)
        clear he
        go_wp2_with fail
        refine wp_region_quiet_lit (by kernel_rfl) (by kernel_rfl) ?_
        iterate 3 (go_big_quiet_step (fail))
        refine quiet_when_load rfl 26 (.tmp 79) rfl g2 (i * 64) 26 _ (by rintro w1 ⟨q1, rfl⟩; exact (HNW_w11.out.drewN q).drewN _) rfl UL _ HC2.out Try.underlying26 rfl HI_UL.out ?_
        simp only [Act.put, List.setIfInBounds_toArray, List.set_cons_succ, List.set_cons_zero]
        refine quiet_when_load rfl 26 (.tmp 12) rfl w7.heap.size 0 26 _ (by rintro w1 ⟨q1, rfl⟩; exact (HSB_w11.out.drewN q).drewN _) rfl UL _ (fun j v hj => by rw [Nat.zero_add]; simpa using hj) Try.underlying26 rfl HI_UL.out ?_
        simp only [Act.put, List.setIfInBounds_toArray, List.set_cons_succ, List.set_cons_zero]
        refine quiet_when_eqn rfl true 26 5 _ (.tmp 80) (.tmp 81) rfl 64 _ Try.underlying26 Try.underlying5 u8_info (by kernel_rfl) (by kernel_rfl) (putS L).1 (putS L).1 (putS L).2 (putS L).2 HE_UL.out HE_UL.out false (by simp) ?_
        simp only [Act.put, List.setIfInBounds_toArray, List.set_cons_succ, List.set_cons_zero]
        refine wpQuiet_nil ?_
        rintro w12 ⟨q1, rfl⟩
        go_wp2
        go_roundw
        case rel => exact ⟨i + 1, q + q1, by simp, by omega, by first | rfl | exact World.drewN_drewN _ _ _⟩
        case measure => simp [intOf]; omega
      · have hd1 : ((i : Int) == (mm : Int) + 3 * (g : Int)) = false := by simp; omega
        obtain ⟨X, hX⟩ : ∃ X, X = S.newest (i % 3) (i / 3) := ⟨_, rfl⟩
        obtain ⟨U, hU⟩ : ∃ U, U = secL X := ⟨_, rfl⟩
        have hUl : U.length = 64 := by rw [hU, secL_length]
        have hiU : (Try.prog.info? 26).map (·.size) = some U.length := by rw [hUl]; exact sec_info
        have hEX : Value.agg U.toArray = .agg (B8 X.1).toArray := by rw [hU]; rfl
        have HC2 : Hid (∀ (j : Nat) (v : Value), U[j]? = some v → cs2[i * 64 + j]? = some v) := fun j v hj => HAT2.out i hi j v (by rw [HNo.out i hi he, ← hX, ← hU]; exact hj)
        have HC1 : Hid (∀ (j : Nat) (v : Value), U[j]? = some v → cs1[i * 64 + j]? = some v) := fun j v hj => HAT1.out i hi j v (by rw [← hX, ← hU]; exact hj)
        have HIU := hide hiU
        have HEX := hide hEX
        clear hX hU hUl hiU hEX
        go_wp2_with fail
        refine wp_region_quiet_lit (by kernel_rfl) (by kernel_rfl) ?_
        iterate 3 (go_big_quiet_step (fail))
        refine quiet_when_load rfl 26 (.tmp 85) rfl g2 (i * 64) 26 _ (by rintro w1 ⟨q1, rfl⟩; exact (HNW_w11.out.drewN q).drewN _) rfl U _ HC2.out Try.underlying26 rfl HIU.out ?_
        simp only [Act.put, List.setIfInBounds_toArray, List.set_cons_succ, List.set_cons_zero]
        iterate 3 (go_big_quiet_step (fail))
        refine quiet_when_load rfl 26 (.tmp 89) rfl g1 (i * 64) 26 _ (by rintro w1 ⟨q1, rfl⟩; exact (HWA_w11.out.drewN q).drewN _) rfl U _ HC1.out Try.underlying26 rfl HIU.out ?_
        simp only [Act.put, List.setIfInBounds_toArray, List.set_cons_succ, List.set_cons_zero]
        refine quiet_when_eqn rfl true 26 5 _ (.tmp 86) (.tmp 90) rfl 64 _ Try.underlying26 Try.underlying5 u8_info (by kernel_rfl) (by kernel_rfl) X.1 X.1 X.2 X.2 HEX.out HEX.out false (by simp) ?_
        simp only [Act.put, List.setIfInBounds_toArray, List.set_cons_succ, List.set_cons_zero]
        refine wpQuiet_nil ?_
        rintro w12 ⟨q1, rfl⟩
        go_wp2
        go_roundw
        case rel => exact ⟨i + 1, q + q1, by simp, by omega, by first | rfl | exact World.drewN_drewN _ _ _⟩
        case measure => simp [intOf]; omega
    · obtain rfl : i = 6 := by omega
      rw [show ((6 : Nat) : Int) = 6 from rfl]
      go_wp2_with fail
      go_ret
      exact ⟨rfl, below_drewN HL_w11.out _⟩
  #print axioms walk

/-! The row's frame, by program: how the walk above proves the statement. -/
set_option maxRecDepth 100000 in
theorem lifted (os : Os) (started : os.Started) (H : Type) (enc : TypeId × Value → H) :
    ReturnsInHanded {} Try.checked os 7 .any (Rows.labelPlacesSpec.pre6 enc Try.prog Try.f7 Rows.labelPlacesRow.domain false) (Rows.labelPlacesSpec.post enc Try.prog Try.f7 false true false false) := by
  refine returnsInHanded_of_change (C := Try.checked) own started (by kernel_rfl) Try.func7
    (ChangeSpec.witness6 (enc := enc) (C := Try.checked) false ⟨#[], #[.int .i64 0, .int .i64 0, .slice none 0 0], []⟩ 8 (by kernel_rfl) (by kernel_rfl) (by kernel_rfl) (by kernel_rfl)) ?_
  intro W base args ds gs before hval0 hW hcnd _
  have hval : ∀ (j : Nat) t v, Try.f7.params[j]? = some t → args[j]? = some v → Value.okWide Try.prog W .any base t v := hval0
  have hW' := hW
  obtain ⟨p, q, hA0, hV, rfl, hfz, hnd⟩ := hW
  have hA : DataW.TrodAll enc Try.prog W 0 (fun _ => true) true Try.f7.params.toList args.toList ds p := hA0
  rw [Try.params7] at hA hval
  obtain ⟨v0, vs0, d0, ds0, p0, q0, hargs, rfl, rfl, h0, r0⟩ := trodAll_cons hA
  obtain ⟨v1, vs1, d1, ds1, p1, q1, rfl, rfl, rfl, h1, r1⟩ := trodAll_cons r0
  obtain ⟨v2, vs2, d2, ds2, p2, q2, rfl, rfl, rfl, h2, r2⟩ := trodAll_cons r1
  obtain ⟨rfl, rfl, rfl⟩ := trodAll_nil r2
  obtain rfl : args = #[v0, v1, v2] := by cases args; simp_all
  obtain ⟨rfl, rfl⟩ := trodVars_none hV
  obtain ⟨a0, rfl, rfl, rfl, w0⟩ := open_int Try.underlying3 (hval 0 3 v0 rfl rfl) h0
  have b0 := bounds_i64 w0
  obtain ⟨a1, rfl, rfl, rfl, w1⟩ := open_int Try.underlying3 (hval 1 3 v1 rfl rfl) h1
  have b1 := bounds_i64 w1
  obtain ⟨A2, n2, c2, rfl⟩ := okWide_slice Try.underlying38 (hval 2 38 v2 rfl rfl)
  have k2 := h2
  have lt2 : ∀ x ∈ p2, x.block < W.heap.size := by obtain ⟨m, hm⟩ := k2; exact DataW.trod_lt m _ _ _ hm
  obtain ⟨l2, x2, g2, z2⟩ := arg_secs h2
  clear hA0 hval0
  refine (walk a0 a1 A2 n2 c2 l2 W b0.1 b0.2 b1.1 b1.2 x2 g2 z2).mono fun e W' ⟨he, bel⟩ => ?_
  subst he
  exact ⟨_, rfl, _, _, _, [], _, [], hW', trodAll_mk1 (shut_bool Try.underlying4 _), (trodAll_cons_mk (shut_int Try.underlying3 w0) (trodAll_cons_mk (shut_int Try.underlying3 w1) (trodAll_cons_mk (Below.trod laidOut (by kernel_rfl) (of_decide_eq_true (by kernel_rfl)) k2 bel lt2) trodAll_mk0))), rfl, bel.frame _, fun h => by cases h⟩

theorem over : Rows.labelPlacesRow.holds Try.pinned (OpenSpec.ofChange Rows.labelPlacesSpec) :=
  OpenClaim.holds_of_wide 7 Try.f7 rfl rfl rfl rfl rfl rfl rfl ⟨rfl, rfl, rfl, rfl, rfl⟩ rfl rfl rfl rfl rfl (by kernel_rfl) Try.func7 (by kernel_rfl)
    (of_decide_eq_true (by kernel_rfl)) (by unfold Func.isWrapper; first | (rw [if_pos (by decide +kernel)]; kernel_rfl) | (rw [if_neg (by decide +kernel)]; exact ⟨rfl, rfl⟩))
    (fun os started H enc _ => lifted os started H enc)

/-- The statement. -/
theorem proved : Rows.LabelPlacesSaid := over
#print axioms proved
end Go.Proofs.Ytbbfgcekjelmkaa.LabelPlaces
