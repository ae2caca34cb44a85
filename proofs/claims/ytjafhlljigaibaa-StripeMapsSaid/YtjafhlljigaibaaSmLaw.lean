/- StripeMaps' walk over the contracts. -/
import Derived.Test.YtjafhlljigaibaaLump3
namespace Go.Proofs.Ytjafhlljigaibaa
open Go.RowKit
set_option linter.unusedVariables false
theorem dataR_few (X : List PlI) (n : Nat) (t : Int) : (dataR X n t).length ≤ X.length := by
  unfold dataR strD strO
  split
  · refine Nat.le_trans (List.length_eraseIdx_le _ _) ?_
    rw [strM_length]
    exact Nat.le_refl _
  · exact Nat.zero_le _
theorem matesR_few (X : List PlI) (n : Nat) (s : Int) : (matesR X n s).length ≤ X.length + 1 := by
  unfold matesR matesP
  split
  · rw [List.length_append, List.length_singleton]
    have h1 := List.length_eraseIdx_le (strD X (s.toNat / (X.length - 1))) (s.toNat % (X.length - 1))
    have h2 : (strD X (s.toNat / (X.length - 1))).length ≤ X.length := by
      unfold strD strO
      refine Nat.le_trans (List.length_eraseIdx_le _ _) ?_
      rw [strM_length]
      exact Nat.le_refl _
    omega
  · exact Nat.zero_le _
set_option maxRecDepth 100000 in
set_option maxHeartbeats 8000000 in
theorem stripeMaps_walk (K : StrK) (A : Option Addr) (n c : Nat) (X0 : List PlI) (w : World) (hr : Reads w w.heap.size 2 A n (plsL X0)) (hn : n ≤ c) (hc : c ≤ 9223372036854775807) (slot t v : Int) (hs : I64In slot) (ht : I64In t) (hv : I64In v) :
    Calls Try.prog 3 #[.slice A n c, .int .i64 slot, .int .i64 t, .int .i64 v] w fun e w' => e = .returned (.bool true) ∧ Below w.heap.size w w' := by
  obtain ⟨N, hN, hN2⟩ := mask11 v
  have HSH := hide (fun w => shown13_any K w)
  have HR := hide hr
  have HCC := hide (And.intro hn hc)
  have HSI := hide hs
  have HTI := hide ht
  have HN2 := hide hN2
  clear hr hn hc hs ht hv hN2
  go_enter Try.func3, Try.ntmps3
  go_upto_region 4 with (first
    | (go_at_call 9; refine (HSH.out _).mono ?_; rintro _ x1 ⟨rfl, hlq⟩; have HX1 := hide hlq; clear hlq)
    | (go_at_call 10; refine (few_any (HR.out.later HX1.out) HCC.out.1 HCC.out.2).mono ?_; rintro _ x2 ⟨A2, m, c2, F, rfl, hm9, hF, hfx, ho, hlq⟩; have HS_x2 : Hid (Rox w x2 [] A2 m c2 F) := hide (Rox.of (HX1.out.trans (hlq.mono HX1.out.size)) (own_mono ho HX1.out.size) hfx.small (by omega)); have HF := hide hF; have HM9 := hide hm9; clear hm9 hF hfx ho hlq))
  obtain ⟨p, hp⟩ : ∃ p, homeR F m slot = p := ⟨_, rfl⟩
  obtain ⟨e1, he1⟩ : ∃ e, homeE m slot = e := ⟨_, rfl⟩
  obtain ⟨q, hq⟩ : ∃ q, parR F m t = q := ⟨_, rfl⟩
  obtain ⟨e2, he2⟩ : ∃ e, strE m t = e := ⟨_, rfl⟩
  obtain ⟨D, hD⟩ : ∃ D, dataR F m t = D := ⟨_, rfl⟩
  obtain ⟨T, hT⟩ : ∃ T, matesR F m slot = T := ⟨_, rfl⟩
  have HDF := hide (show D.length ≤ 1000000 by rw [← hD]; have := dataR_few F m t; have := HF.out; have := HM9.out; omega)
  have HTF := hide (show T.length ≤ 1000000 by rw [← hT]; have := matesR_few F m slot; have := HF.out; have := HM9.out; omega)
  have HP := hide (And.intro hp he1)
  have HQ := hide (And.intro hq he2)
  have HD := hide hD
  have HT := hide hT
  clear hp he1 hq he2 hD hT
  obtain ⟨sl, hsl⟩ : ∃ k, slotsN N = k := ⟨_, rfl⟩
  have HSL := hide hsl
  clear hsl
  have hneg : IntKind.i64.wrap (-(N : Int)) = -(N : Int) := IntWalk.i64_in _ (by have := HN2.out; omega)
  go_upto_region 5 with (first
    | (go_at_call 11; refine (HS_x2.out.home K slot HSI.out).mono ?_; rintro _ y1 ⟨rfl, hsq⟩; rw [HP.out.1, HP.out.2]; have HS_y1 : Hid (Rox w y1 [] A2 m c2 F) := hide (hsq); clear hsq)
    | ((with_reducible refine at_slot 10 ?_); refine wpList_alloc_blk rfl 26 rfl _ (mplace_zero _) ?_; intro y2 hbq hl1 hs1; clear hs1)
    | ((with_reducible refine at_store 10 ?_); refine wpList_store_all rfl 26 (.tmp 10) (.tmp 37) rfl y1.heap.size 26 _ hbq rfl (plC p) rfl mplace_info rfl (plC_one _) ?_; intro y3 hbz hg hs; have HS_y3 : Hid (Rox w y3 [(y1.heap.size, 26, plC p)] A2 m c2 F) := hide (HS_y1.out.new hl1 hg hbz); clear hs hbq hl1 hg hbz))
  go_upto_region 6 with (first
    | (go_at_call 12; refine (HS_y3.out.rhome slot).mono ?_; rintro _ y4 ⟨rfl, hsq⟩; rw [HP.out.1, HP.out.2]; have HS_y4 : Hid (Rox w y4 [(y1.heap.size, 26, plC p)] A2 m c2 F) := hide (hsq); clear hsq)
    | ((with_reducible refine at_slot 12 ?_); refine wpList_alloc_blk rfl 26 rfl _ (mplace_zero _) ?_; intro y5 hbq hl1 hs1; clear hs1)
    | ((with_reducible refine at_store 12 ?_); refine wpList_store_all rfl 26 (.tmp 12) (.tmp 43) rfl y4.heap.size 26 _ hbq rfl (plC p) rfl mplace_info rfl (plC_one _) ?_; intro y6 hbz hg hs; have HS_y6 : Hid (Rox w y6 [(y1.heap.size, 26, plC p), (y4.heap.size, 26, plC p)] A2 m c2 F) := hide (HS_y4.out.new hl1 hg hbz); clear hs hbq hl1 hg hbz))
  go_upto_region 7 with (first
    | (go_at_call 13; refine (HS_y6.out.par K t HTI.out).mono ?_; rintro _ y7 ⟨rfl, hsq⟩; rw [HQ.out.1, HQ.out.2]; have HS_y7 : Hid (Rox w y7 [(y1.heap.size, 26, plC p), (y4.heap.size, 26, plC p)] A2 m c2 F) := hide (hsq); clear hsq)
    | ((with_reducible refine at_slot 14 ?_); refine wpList_alloc_blk rfl 26 rfl _ (mplace_zero _) ?_; intro y8 hbq hl1 hs1; clear hs1)
    | ((with_reducible refine at_store 14 ?_); refine wpList_store_all rfl 26 (.tmp 14) (.tmp 49) rfl y7.heap.size 26 _ hbq rfl (plC q) rfl mplace_info rfl (plC_one _) ?_; intro y9 hbz hg hs; have HS_y9 : Hid (Rox w y9 [(y1.heap.size, 26, plC p), (y4.heap.size, 26, plC p), (y7.heap.size, 26, plC q)] A2 m c2 F) := hide (HS_y7.out.new hl1 hg hbz); clear hs hbq hl1 hg hbz))
  go_upto_region 8 with (first
    | (go_at_call 14; refine (HS_y9.out.rpar t).mono ?_; rintro _ y10 ⟨rfl, hsq⟩; rw [HQ.out.1, HQ.out.2]; have HS_y10 : Hid (Rox w y10 [(y1.heap.size, 26, plC p), (y4.heap.size, 26, plC p), (y7.heap.size, 26, plC q)] A2 m c2 F) := hide (hsq); clear hsq)
    | ((with_reducible refine at_slot 16 ?_); refine wpList_alloc_blk rfl 26 rfl _ (mplace_zero _) ?_; intro y11 hbq hl1 hs1; clear hs1)
    | ((with_reducible refine at_store 16 ?_); refine wpList_store_all rfl 26 (.tmp 16) (.tmp 55) rfl y10.heap.size 26 _ hbq rfl (plC q) rfl mplace_info rfl (plC_one _) ?_; intro y12 hbz hg hs; have HS_y12 : Hid (Rox w y12 [(y1.heap.size, 26, plC p), (y4.heap.size, 26, plC p), (y7.heap.size, 26, plC q), (y10.heap.size, 26, plC q)] A2 m c2 F) := hide (HS_y10.out.new hl1 hg hbz); clear hs hbq hl1 hg hbz))
  go_upto_region 10 with (first
    | ((with_reducible refine at_slot 57 ?_); refine when_own rfl (.tmp 10) rfl HS_y12.out.own 0 rfl rfl Try.underlying26 rfl mplace_info ?_)
    | ((with_reducible refine at_slot 58 ?_); refine when_own rfl (.tmp 12) rfl HS_y12.out.own 1 rfl rfl Try.underlying26 rfl mplace_info ?_)
    | ((with_reducible refine at_slot 59 ?_); refine when_gives rfl _ (run_nePl _ _ (.tmp 57) (.tmp 58) _ rfl p p rfl rfl false (by simp)) ?_)
    | ((with_reducible refine at_slot 66 ?_); refine when_own rfl (.tmp 14) rfl HS_y12.out.own 2 rfl rfl Try.underlying26 rfl mplace_info ?_)
    | ((with_reducible refine at_slot 67 ?_); refine when_own rfl (.tmp 16) rfl HS_y12.out.own 3 rfl rfl Try.underlying26 rfl mplace_info ?_)
    | ((with_reducible refine at_slot 68 ?_); refine when_gives rfl _ (run_nePl _ _ (.tmp 66) (.tmp 67) _ rfl q q rfl rfl false (by simp)) ?_)
    | (go_at_call 15; (with_reducible refine (HS_y12.out.slots K (N : Int) (by omega) (by have := HN2.out; omega)).mono ?_); rintro _ y13 ⟨rfl, hsq⟩; rw [Int.toNat_natCast, HSL.out]; have HS_y13 : Hid (Rox w y13 [(y1.heap.size, 26, plC p), (y4.heap.size, 26, plC p), (y7.heap.size, 26, plC q), (y10.heap.size, 26, plC q)] A2 m c2 F) := hide (hsq); clear hsq)
    | (go_at_call 16; refine (refSlots_any (N : Int) (by omega) (by have := HN2.out; omega) _).mono ?_; rintro _ _ ⟨rfl, rfl⟩; rw [Int.toNat_natCast, HSL.out])
    | (go_at_call 15; (with_reducible refine (HS_y13.out.slots K (-(N : Int)) (by have := HN2.out; omega) (by omega)).mono ?_); rintro _ y14 ⟨rfl, hsq⟩; rw [show slotsN (-(N : Int)).toNat = 0 by rw [show (-(N : Int)).toNat = 0 by omega]; rfl]; have HS_y14 : Hid (Rox w y14 [(y1.heap.size, 26, plC p), (y4.heap.size, 26, plC p), (y7.heap.size, 26, plC q), (y10.heap.size, 26, plC q)] A2 m c2 F) := hide (hsq); clear hsq))
  go_upto_region 11 with (first
    | (go_at_call 17; refine (HS_y14.out.data K t HTI.out).mono ?_; rintro _ y15 ⟨B_y15, m_y15, k_y15, rfl, hrd, hcp, hcm, hlq, hsq⟩; rw [HD.out] at hrd; rw [HQ.out.2]; have HR_y15 := hide hrd; have HC_y15 := hide (And.intro hcp hcm); have HL_y15 := hide hlq; have HS_y15 : Hid (Rox w y15 [(y1.heap.size, 26, plC p), (y4.heap.size, 26, plC p), (y7.heap.size, 26, plC q), (y10.heap.size, 26, plC q)] A2 m c2 F) := hide hsq; clear hsq hrd hcp hcm hlq))
  go_upto_region 12 with (first
    | (go_at_call 18; refine (HS_y15.out.rdata t).mono ?_; rintro _ y16 ⟨B_y16, m_y16, k_y16, rfl, hrd, hcp, hcm, hlq, hsq⟩; rw [HD.out] at hrd; rw [HQ.out.2]; have HR_y16 := hide hrd; have HC_y16 := hide (And.intro hcp hcm); have HL_y16 := hide hlq; have HS_y16 : Hid (Rox w y16 [(y1.heap.size, 26, plC p), (y4.heap.size, 26, plC p), (y7.heap.size, 26, plC q), (y10.heap.size, 26, plC q)] A2 m c2 F) := hide hsq; clear hsq hrd hcp hcm hlq))
  go_upto_region 13 with (first
    | (go_at_call 19; refine (HS_y16.out.mates K slot HSI.out).mono ?_; rintro _ y17 ⟨B_y17, m_y17, k_y17, rfl, hrd, hcp, hcm, hlq, hsq⟩; rw [HT.out] at hrd; rw [HP.out.2]; have HR_y17 := hide hrd; have HC_y17 := hide (And.intro hcp hcm); have HL_y17 := hide hlq; have HS_y17 : Hid (Rox w y17 [(y1.heap.size, 26, plC p), (y4.heap.size, 26, plC p), (y7.heap.size, 26, plC q), (y10.heap.size, 26, plC q)] A2 m c2 F) := hide hsq; clear hsq hrd hcp hcm hlq))
  go_upto_region 14 with (first
    | (go_at_call 20; refine (HS_y17.out.rmates slot).mono ?_; rintro _ y18 ⟨B_y18, m_y18, k_y18, rfl, hrd, hcp, hcm, hlq, hsq⟩; rw [HT.out] at hrd; rw [HP.out.2]; have HR_y18 := hide hrd; have HC_y18 := hide (And.intro hcp hcm); have HL_y18 := hide hlq; have HS_y18 : Hid (Rox w y18 [(y1.heap.size, 26, plC p), (y4.heap.size, 26, plC p), (y7.heap.size, 26, plC q), (y10.heap.size, 26, plC q)] A2 m c2 F) := hide hsq; clear hsq hrd hcp hcm hlq))
  have HRA := hide (((HR_y15.out.later HL_y16.out).later HL_y17.out).later HL_y18.out)
  have HRB := hide ((HR_y16.out.later HL_y17.out).later HL_y18.out)
  have HRC := hide (HR_y17.out.later HL_y18.out)
  have hl1 := reads_len HRA.out
  have hl2 := reads_len HRB.out
  have hl3 := reads_len HRC.out
  have hl4 := reads_len HR_y18.out
  have HLN := hide (And.intro hl1 (And.intro hl2 (And.intro hl3 hl4)))
  clear hl1 hl2 hl3 hl4
  go_upto_region 15 with (first
    | (go_at_call 21; refine (refSame_any HRA.out HRB.out (by have := HDF.out; have := HLN.out; omega) (by have := HDF.out; have := HLN.out; omega)).mono ?_; rintro _ y19 ⟨rfl, hlq⟩; rw [decide_eq_true rfl]; have HL_y19 := hide hlq; have HS_y19 : Hid (Rox w y19 [(y1.heap.size, 26, plC p), (y4.heap.size, 26, plC p), (y7.heap.size, 26, plC q), (y10.heap.size, 26, plC q)] A2 m c2 F) := hide (HS_y18.out.later hlq); clear hlq))
  go_wp2_with (first
    | (go_at_call 21; refine (refSame_any (HRC.out.later HL_y19.out) (HR_y18.out.later HL_y19.out) (by have := HTF.out; have := HLN.out; omega) (by have := HTF.out; have := HLN.out; omega)).mono ?_; rintro _ y20 ⟨rfl, hlq⟩; rw [decide_eq_true rfl]; have HS_y20 : Hid (Rox w y20 [(y1.heap.size, 26, plC p), (y4.heap.size, 26, plC p), (y7.heap.size, 26, plC q), (y10.heap.size, 26, plC q)] A2 m c2 F) := hide (HS_y19.out.later hlq); clear hlq))
  go_ret
  exact ⟨rfl, HS_y20.out.low⟩
#print axioms stripeMaps_walk
end Go.Proofs.Ytjafhlljigaibaa
