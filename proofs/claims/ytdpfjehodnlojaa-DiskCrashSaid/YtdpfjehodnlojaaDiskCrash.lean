/- DiskCrash holds: for all steps and every mask: behind at most a hundred writes and flushes on three disks of eight sectors, and a crash, the sectors that were loose, in the order in which they became so, are each new or as they were flushed, as the mask says, and all others are as they were; no condition. -/
import Derived.Test.YtdpfjehodnlojaaDuo
import Derived.Test.YtdpfjehodnlojaaRowC
import Derived.Deep.CutRange
import Derived.Test.YtdpfjehodnlojaaChecked
import Derived.Test.YtdpfjehodnlojaaRows
import Derived.Deep.DeepCutAuto
import Derived.Deep.CutBlock
import Derived.Deep.RegionHeld3
namespace Go.Proofs.Ytdpfjehodnlojaa.DiskCrash
open Go.ChangeShapes Go.WideShapes Go.ChangeAt Go.RowKit Go.Proofs.Ytdpfjehodnlojaa
set_option linter.unusedVariables false

set_option maxRecDepth 100000 in
set_option maxHeartbeats 4000000 in
theorem walk (A : Option Addr) (nl c : Nat) (f : Nat → Step) (v1 : Int) (w : World) (hst : Steps w w.heap.size A nl f) (hnc : nl ≤ c) (hc63 : c ≤ 9223372036854775807) (b0 : 0 ≤ v1) (b1 : v1 ≤ 18446744073709551615) :
    Calls Try.prog 3 #[.slice A nl c, .int .u64 v1] w fun e w' => e = .returned (.bool true) ∧ Below w.heap.size w w' := by
  obtain ⟨m, rfl⟩ : ∃ m : Nat, v1 = (m : Int) := ⟨v1.toNat, by omega⟩
  have hm64 : m < 18446744073709551616 := by omega
  have HST := hide hst
  obtain ⟨ii, hii, hiz, his, hib⟩ := int_info
  have HII := hide hii
  have HIZ := hide hiz
  have HIS := hide his
  have HIB := hide hib
  clear hst hii hiz his hib
  go_enter Try.func3, Try.ntmps3
  go_wp2_with (first
    | (go_at_call 9; refine (shown_any _).mono ?_; rintro _ w1 ⟨rfl, hl1⟩))
  refine (laid_any _).mono ?_
  rintro _ w2 ⟨rfl, hB2, hl2⟩
  have hs1 := hl1.size
  have hs2 := hl2.size
  have hblt : w1.heap.size < w2.heap.size := bank_lt hB2
  have HB2 := hide hB2
  clear hB2
  go_upto_block 0 with (first
    | (refine wpList_alloc_blk (w := w2) rfl 29 rfl _ (table_zero _) ?_; intro w3 hb3 hl3 hs3; clear hs3)
    | (refine wpList_alloc_blk (w := w3) rfl 29 rfl _ (table_zero _) ?_; intro w4 hb4 hl4 hs4; clear hs4))
  have hF4 : Blk w4 w2.heap.size 29 (arrL (fun _ => zeroSec) 24).toArray := Blk.below hb3 hl4 hb3.lt
  have hN4 : Blk w4 w3.heap.size 29 (arrL (fun _ => zeroSec) 24).toArray := hb4
  have HF4 := hide hF4
  have HN4 := hide hN4
  have hl24 : Below w2.heap.size w2 w4 := hl3.trans (hl4.mono hl3.size)
  have HB4 := hide (HB2.out.later hl24)
  have hl04 : Below w.heap.size w w4 := (hl1.trans (hl2.mono hs1)).trans (hl24.mono (by omega))
  have hlt3 : w2.heap.size < w3.heap.size := hb3.lt
  have hlt4 : w3.heap.size < w4.heap.size := hb4.lt
  clear hb3 hb4 hF4 hN4 hl3 hl4
  go_cut [9, 10, 11, 12, 13, 14, 15, 16] (fun s9 _ _ _ _ _ _ _ wx => ∃ (S : Bank) (TF TN : Nat → Sec) (AO : Option Addr) (cO : Nat), s9 = .slice AO S.order.length cO ∧ BankAt wx w1.heap.size w1.heap.size w2.heap.size S ∧ Calm S ∧ Tells S.flushed TF ∧ Tells S.newest TN ∧ Blk wx w2.heap.size 29 (arrL TF 24).toArray ∧ Blk wx w3.heap.size 29 (arrL TN 24).toArray ∧ wx.ownsRow w4.heap.size 3 1 (.slice AO S.order.length cO) S.order.length (codeL S.order) ∧ Below w.heap.size w wx ∧ S.writes ≤ 100 ∧ w4.heap.size ≤ wx.heap.size)
  case first =>
    go_wp2_with fail
    go_loopw [9, 10, 11, 12, 13, 14, 15, 16] (fun s9 s10 _ _ _ _ _ _ wr => ∃ (i : Nat) (S : Bank) (TF TN : Nat → Sec) (AO : Option Addr) (cO : Nat), s10 = .int .i64 (i : Int) ∧ s9 = .slice AO S.order.length cO ∧ i ≤ nl ∧ i ≤ 100 ∧ S.writes ≤ i ∧ BankAt wr w1.heap.size w1.heap.size w2.heap.size S ∧ Calm S ∧ Tells S.flushed TF ∧ Tells S.newest TN ∧ Blk wr w2.heap.size 29 (arrL TF 24).toArray ∧ Blk wr w3.heap.size 29 (arrL TN 24).toArray ∧ wr.ownsRow w4.heap.size 3 1 (.slice AO S.order.length cO) S.order.length (codeL S.order) ∧ Below w.heap.size w wr ∧ w4.heap.size ≤ wr.heap.size) (fun _ s10 _ _ _ _ _ _ _ => 100 - (intOf s10).toNat)
    case atStart => exact ⟨0, Laid, _, _, none, 0, rfl, rfl, Nat.zero_le _, by decide, Nat.le_refl _, HB4.out, calm_laid, fun d k _ _ => laid_zero d k, fun d k _ _ => laid_newest d k, HF4.out, HN4.out, World.ownsRow_nil _ _ _ _, hl04, Nat.le_refl _⟩
    case round =>
      obtain ⟨i, S, TF, TN, AO, cO, rfl, rfl, hin, hi100, hwr, hB, hcalm, htf, htn, hF, hN, hrow, hlr, hz4⟩ := hrel
      obtain ⟨wo, rfl⟩ : ∃ wo, wo = wr := ⟨_, rfl⟩
      have HB := hide hB
      have HC := hide hcalm
      have HTF := hide htf
      have HTN := hide htn
      have HF := hide hF
      have HN := hide hN
      have HROW := hide hrow
      have hol := order_le S hB.ok S.order hB.ok.nodup (fun _ hp => hp)
      have hnlt := hN.lt
      have hhl := hB.1
      obtain ⟨hol1, hol2⟩ := own_bounds hrow
      clear hB hcalm htf htn hF hN hrow
      by_cases hlt : i < nl ∧ i < 100
      · have hg1 : (i : Int) < (nl : Int) := by omega
        have hg2 : (i : Int) < 100 := by omega
        obtain ⟨ad, rfl, hadb, hcells⟩ := (HST.out.below hlr) (by omega)
        have hcn : ∀ w', Below w.heap.size w w' → w'.cell? (ad.add (i * 5)) = some (.int .i64 (f i).k) ∧ w'.cell? ⟨(ad.add (i * 5)).block, (ad.add (i * 5)).off + 1, none⟩ = some (.int .i64 (f i).d) ∧ w'.cell? ⟨(ad.add (i * 5)).block, (ad.add (i * 5)).off + 2, none⟩ = some (.int .i64 (f i).a) ∧ w'.cell? ⟨(ad.add (i * 5)).block, (ad.add (i * 5)).off + 3, none⟩ = some (.int .i64 (f i).n) := fun w' hb => ((HST.out.below hb) (by omega)).elim fun ad' h => by
          obtain ⟨e, _, hc⟩ := h
          injection e with e
          subst e
          exact ⟨(hc i hlt.1).1, (hc i hlt.1).2.1, (hc i hlt.1).2.2.1, (hc i hlt.1).2.2.2.1⟩
        have HCN := hide hcn
        clear hcells hcn
        obtain ⟨md, hd, hdl⟩ := mask16 (f i).d
        obtain ⟨k, hk, hkl⟩ := mask3 (f i).a
        obtain ⟨ck, cd, ca, cn⟩ := HCN.out wo hlr
        by_cases hk2 : (f i).k = 2
        · have hke : (f i).k = 2 := hk2
          go_wp2_with fail
          obtain ⟨d, hdd⟩ : ∃ d, d = md % 3 := ⟨_, rfl⟩
          have hd3 : d < 3 := by omega
          rw [show (md : Int) % 3 = (d : Int) by omega]
          have hfb := bank_flush HB.out d
          rw [HC.out.may hd3, if_pos rfl] at hfb
          have HFB := hide hfb
          clear hd hdl hdd hfb ck cd ca cn
          refine HFB.out.mono ?_
          rintro _ w5 ⟨rfl, hB5, hu5⟩
          have hl5 : Below w.heap.size w w5 := hlr.trans (hu5.low hs1 (by omega))
          have hsz5 := hu5.size
          have HB5 := hide hB5
          have HF5 := hide (HF.out.upto hu5 (.inl (Nat.le_refl _)))
          have HN5 := hide (HN.out.upto hu5 (.inl (by omega)))
          have HROW5 := hide (own_upto HROW.out hu5 (by omega))
          clear hB5
          go_wp2_with fail
          generalize hw6 : World.alloc w5 _ = w6
          have hbel6 : Below w5.heap.size w5 w6 := by rw [← hw6]; exact (Below.refl _ _).alloc (Nat.le_refl _) _
          have hmade : w6.ownsRow w5.heap.size 3 1 (.slice (some ⟨w5.heap.size, 0, none⟩) 0 0) 0 (codeL []) := by rw [← hw6]; exact World.ownsRow_made w5 #[] 0 (Nat.le_refl _) (by decide) rfl
          clear hw6
          have hl6 : Below w.heap.size w w6 := hl5.trans (hbel6.mono hl5.size)
          have hsz6 := hbel6.size
          have HB6 := hide (HB5.out.later hbel6)
          have HF6 := hide (HF5.out.below hbel6 HF5.out.lt)
          have HN6 := hide (HN5.out.below hbel6 HN5.out.lt)
          have HROW6 := hide (own_later HROW5.out hbel6)
          have HMADE := hide hmade
          have hog : ∀ g, (Value.slice AO S.order.length cO).ownBlock = some g → w4.heap.size ≤ g ∧ g < w5.heap.size := fun g hg => own_block_ge HROW5.out hg
          have HOG := hide hog
          have hordlt := fun p (hp : p ∈ S.order) => HC.out.order_lt HB.out.ok hp
          have HOL := hide hordlt
          have hw54 : w4.heap.size ≤ w5.heap.size := by omega
          clear hmade hog hordlt
          go_loopw [13, 14] (fun s13 s14 wr => ∃ (n : Nat) (TF' : Nat → Sec) (R : List (Nat × Nat)) (AR : Option Addr) (cR : Nat), s14 = .int .i64 (n : Int) ∧ s13 = .slice AR R.length cR ∧ n ≤ S.order.length ∧ R = (S.order.take n).filter (fun p => p.1 != d) ∧ Tells (flushTo S d n) TF' ∧ Blk wr w2.heap.size 29 (arrL TF' 24).toArray ∧ Blk wr w3.heap.size 29 (arrL TN 24).toArray ∧ wr.ownsRow w4.heap.size 3 1 (.slice AO S.order.length cO) S.order.length (codeL S.order) ∧ wr.ownsRow w5.heap.size 3 1 (.slice AR R.length cR) R.length (codeL R) ∧ BankAt wr w1.heap.size w1.heap.size w2.heap.size (S.flush d) ∧ Below w.heap.size w wr ∧ w5.heap.size ≤ wr.heap.size) (fun _ s14 _ => S.order.length - (intOf s14).toNat)
          case atStart => exact ⟨0, TF, [], _, 0, rfl, rfl, Nat.zero_le _, rfl, by rw [flushTo_0]; exact HTF.out, HF6.out, HN6.out, HROW6.out, HMADE.out, HB6.out, hl6, hsz6⟩
          case round =>
            obtain ⟨n, TF', R, AR, cR, rfl, rfl, hn, hR, htf', hF', hN', hrowO, hrowR, hB', hl', hsz'⟩ := hrel
            obtain ⟨wp, rfl⟩ : ∃ wp, wp = wr := ⟨_, rfl⟩
            have HB' := hide hB'
            have HTF' := hide htf'
            have HF' := hide hF'
            have HN' := hide hN'
            have HRO := hide hrowO
            have HRR := hide hrowR
            have HR := hide hR
            have hrl : R.length ≤ n := by rw [hR]; exact Nat.le_trans (List.length_filter_le _ _) (by rw [List.length_take]; omega)
            obtain ⟨hrl1, hrl2⟩ := own_bounds hrowR
            clear hB' htf' hF' hN' hrowO hrowR hR
            by_cases hnl : n < S.order.length
            · have hnw : (n : Int) < (S.order.length : Int) := by omega
              obtain ⟨p, hp⟩ : ∃ p, S.order[n]? = some p := ⟨_, List.getElem?_eq_getElem hnl⟩
              obtain ⟨hp3, hp8⟩ := HOL.out p (List.mem_of_getElem? hp)
              obtain ⟨g, rfl, hgb, hgl, hcell⟩ := own_code HRO.out hp
              have hg5 := (HOG.out g rfl).2
              have hcd : (code p : Int) / 8 = (p.1 : Int) := by unfold code; omega
              have hc24 : code p < 24 := by unfold code; omega
              have hfs := flushTo_succ S d n p hp
              have hrs := rest_succ S d n p hp
              obtain ⟨cp, hcp⟩ : ∃ cp, cp = code p := ⟨_, rfl⟩
              have HCODP : Hid (code p = cp) := hcp.symm
              have HCOD : Hid (cp = 8 * p.1 + p.2) := hcp
              rw [← hcp] at hcell hcd hc24
              clear hcp
              by_cases hpd : p.1 = d
              · rw [if_pos hpd] at hfs hrs
                have hqd : (p.1 : Int) = (d : Int) := by omega
                have HFS := hide hfs
                have HRS := hide hrs
                clear hfs hrs
                obtain ⟨V, hV⟩ : ∃ V, V = secL (TN cp) := ⟨_, rfl⟩
                have hVl : V.length = 64 := by rw [hV, secL_length]
                have hVo : ∀ v ∈ V, v.oneCell' = true := by rw [hV]; exact secL_one _
                have hiV : (Try.prog.info? 28).map (·.size) = some V.length := by rw [hVl]; exact sec_info
                have hVc : ∀ (j : Nat) v, V[j]? = some v → wp.drew.cell? ⟨w3.heap.size, cp * 64 + j, none⟩ = some v := by
                  intro j v hj
                  rw [HN'.out.drew.cell, List.getElem?_toArray, arrL_at TN 24 cp j hc24 (lt64 hVl hj), ← hV]
                  exact hj
                have HVL := hide hVl
                have HVO := hide hVo
                have HIV := hide hiV
                have HVC := hide hVc
                have HV := hide hV
                have hcelld : wp.drew.cell? ⟨g, n, none⟩ = some (.int .i64 (cp : Int)) := hcell
                have hcpw : (cp : Int) < 24 := by omega
                clear hV hVl hVo hiV hVc
                go_wp2_with fail
                refine wp_region_still_tail 11 (by kernel_rfl) (by kernel_rfl) ?_
                change wpStill _ _ wp.drew _ _ _
                simp only [List.take_succ_cons, List.take_zero, List.drop_succ_cons, List.drop_zero]
                iterate 9 still_step
                refine still_load_at rfl 28 (.tmp 82) rfl ⟨w3.heap.size, cp * 64, none⟩ rfl V _ (fun j v hj => ?_) Try.underlying28 rfl HIV.out ?_
                · rw [Addr.add_mid]
                  exact HVC.out j v hj
                still_step
                refine wpStill_nil ?_
                change wpList _ _ _ _ _ wp.drew
                go_wp2_with (first
                  | (refine wpList_store_blk rfl 28 (.tmp 84) (.tmp 83) rfl w2.heap.size (cp * 64) 29 _ HF'.out.drew rfl V rfl HIV.out (by rw [HVL.out, arrL_24]; omega) HVO.out ?_; intro w7 hb7 hg7 hs7; clear hs7))
                go_roundw
                case rel =>
                  refine ⟨n + 1, upd TF' cp (TN cp), R, AR, cR, by simp, rfl, by omega, HRS.out ▸ HR.out, ?_, ?_, HN'.out.drew.grown hg7 (fun e => by injection e with e; omega), ?_, ?_, HB'.out.drew.grown hg7 (fun g e => .inr (by injection e with e; omega)), hl'.drew.grown hg7 (by show w.heap.size ≤ wp.heap.size; omega) (fun g e => by injection e with e; omega), Nat.le_trans hsz' hg7.size⟩
                  · rw [HFS.out, HCOD.out]
                    have h := HTF'.out.put (d := p.1) (k := p.2) hp8 (S.newest p.1 p.2)
                    rw [HTN.out p.1 p.2 hp3 hp8] at h ⊢
                    exact h
                  · have hb8 := hb7
                    rw [HV.out] at hb8
                    rw [← arrL_put TF' (TN cp) _ 24 hc24]
                    exact hb8
                  · exact own_grown (own_later HRO.out ((Below.refl _ _).drew)) hg7 (fun g e => .inl (by injection e with e; omega))
                  · exact own_grown (own_later HRR.out ((Below.refl _ _).drew)) hg7 (fun g e => .inl (by injection e with e; omega))
                case measure => simp only [intOf]; omega
              · rw [if_neg hpd] at hfs hrs
                have hqd : ¬ ((p.1 : Int) = (d : Int)) := by omega
                have HFS := hide hfs
                have HRS := hide hrs
                clear hfs hrs
                have HCOD2 : Hid (code p = cp) := HCODP.out
                have hlump := Reads.lump (w := wp) [.int .i64 (cp : Int)] 3 (wp.heap.size + 1) 1 (by omega) rfl
                have HLUMP := hide hlump
                have HQ := hide (show R.length + 1 ≤ maxLen ∧ (R.length + 1) * 8 ≤ 140737488355328 by simp only [maxLen]; omega)
                clear hlump
                go_wp2_with (first
                  | (refine wpList_append_row rfl (.tmp 85) (.tmp 90) 30 rfl w5.heap.size 3 ii _ 1 8 Try.underlying30 HII.out HIZ.out HIS.out HIB.out rfl (by decide) _ _ _ rfl (HRR.out.alloc _) (wp.heap.size + 1) (some ⟨wp.heap.size, 0, none⟩) 1 1 [.int .i64 (cp : Int)] rfl HLUMP.out (by intro u hu; simp at hu; rw [hu]; rfl) HQ.out.1 HQ.out.2 (le_alloc hsz' _) ?_; intro v7 w7 hown7 hg7))
                have HGA : Hid (∀ g, (Value.slice AR R.length cR).ownBlock = some g → w5.heap.size ≤ g) := fun g hg => (own_block_ge HRR.out hg).1
                obtain ⟨A7, c7, rfl, _, _⟩ := own_slice hown7
                go_roundw
                case rel =>
                  refine ⟨n + 1, TF', R ++ [p], A7, c7, by simp, by rw [List.length_append, List.length_singleton], by omega, by rw [HRS.out, ← HR.out], by rw [HFS.out]; exact HTF'.out, (HF'.out.alloc _).grown hg7 (fun e => by have := HGA.out _ e.symm; omega), (HN'.out.alloc _).grown hg7 (fun e => by have := HGA.out _ e.symm; omega), ?_, ?_, (HB'.out.later ((Below.refl _ _).alloc (Nat.le_refl _) _)).grown hg7 (fun g e => .inr (by have := HGA.out _ e; omega)), (hl'.alloc (by omega) _).grown hg7 (le_alloc (by omega) _) (fun g e => by have := HGA.out _ e; omega), ?_⟩
                  · refine World.ownsRow.kept (HRO.out.alloc _) hg7 (.inr (fun e => ?_))
                    have h1 := HGA.out g e.symm
                    omega
                  · rw [List.length_append, List.length_singleton, codeL_append, HCOD2.out]
                    exact hown7
                  · have := hg7.size
                    rw [World.size_alloc] at this
                    omega
                case measure => simp only [intOf]; omega
            · obtain rfl : n = S.order.length := by omega
              have hnw : ¬ ((S.order.length : Int) < (S.order.length : Int)) := by omega
              have hre : (S.flush d).order = R := by rw [HR.out, List.take_length]; rfl
              have hft : Tells (S.flush d).flushed TF' := by rw [← flushTo_all S HB.out.ok d]; exact HTF'.out
              have HRE := hide hre
              have HFT := hide hft
              clear hre hft
              go_wp2_with fail
              go_roundw
              case rel => exact ⟨i + 1, S.flush d, TF', TN, AR, cR, by simp, by rw [HRE.out], by omega, by omega, by show S.writes ≤ _; omega, HB'.out, HC.out.flush d, HFT.out, HTN.out, HF'.out, HN'.out, by rw [HRE.out]; exact own_mono HRR.out hw54, hl', by omega⟩
              case measure => simp only [intOf]; omega
        · have hke : ¬ ((f i).k = 2) := hk2
          obtain ⟨X, hX⟩ : ∃ X, X = secOf (f i).n := ⟨_, rfl⟩
          obtain ⟨U, hU⟩ : ∃ U, U = secL X := ⟨_, rfl⟩
          have HSECK := hide (fun W : World => sector_held (w := W) (f i).n X hX hU)
          obtain ⟨d, hdd⟩ : ∃ d, d = md % 3 := ⟨_, rfl⟩
          have hd3 : d < 3 := by omega
          have hdm : (md : Int) % 3 = (d : Int) := by omega
          have hwk := fun w' (hb : Below wo.heap.size wo w') => write_held HB.out (by omega) d k X hU w' hb
          rw [HC.out.write hd3 hkl] at hwk
          have HWK := hide hwk
          have HDM := hide hdm
          have HUU := hide hU
          have hUl : U.length = 64 := by rw [hU, secL_length]
          have hUo : ∀ v ∈ U, v.oneCell' = true := by rw [hU]; exact secL_one _
          have hiU : (Try.prog.info? 28).map (·.size) = some U.length := by rw [hUl]; exact sec_info
          have hEX : Value.agg U.toArray = .agg (B8 X.1).toArray := by rw [hU]; rfl
          have HULU := hide hUl
          have HUOU := hide hUo
          have HIUU := hide hiU
          have HEXU := hide hEX
          clear hUl hUo hiU hEX hU
          clear hX hwk hdm hdl hdd
          have hcomm : 8 * d + k < 24 := by omega
          have hcn : ∀ w', Below w.heap.size w w' → w'.cell? ⟨(ad.add (i * 5)).block, (ad.add (i * 5)).off + 3, none⟩ = some (.int .i64 (f i).n) := fun w' hb => (HCN.out w' hb).2.2.2
          have HCNN := hide hcn
          clear hcn
          go_wp2_with fail
          rw [HDM.out]
          refine (HSECK.out wo wo (Below.refl _ _)).mono ?_
          rintro _ w5 ⟨rfl, hl5⟩
          go_wp2_with fail
          refine (HWK.out w5 hl5).mono ?_
          rintro _ w6 ⟨rfl, hB6, hu6⟩
          have hl06 : Below w.heap.size w w6 := hlr.trans (hu6.low hs1 (by omega))
          have hsz6 := hu6.size
          have HB6 := hide hB6
          have HF6 := hide (HF.out.upto hu6 (.inl (Nat.le_refl _)))
          have HN6 := hide (HN.out.upto hu6 (.inl (by omega)))
          have HROW6 := hide (own_upto HROW.out hu6 (by omega))
          have cn6 := HCNN.out w6 hl06
          clear hB6 ck cd ca cn hl5 hd
          go_wp2_with fail
          refine (HSECK.out w6 w6 (Below.refl _ _)).mono ?_
          rintro _ w7 ⟨rfl, hl7⟩
          have hl07 : Below w.heap.size w w7 := hl06.trans (hl7.mono hl06.size)
          have hsz7 := hl7.size
          have HB7 := hide (HB6.out.later hl7)
          have HF7 := hide (HF6.out.below hl7 HF6.out.lt)
          have HN7 := hide (HN6.out.below hl7 HN6.out.lt)
          have HROW7 := hide (own_later HROW6.out hl7)
          clear hl7 cn6
          go_wp2_with (first
            | (refine wpList_store_blk rfl 28 (.tmp 115) (.tmp 114) rfl w3.heap.size ((8 * d + k) * 64) 29 _ HN7.out rfl U rfl HIUU.out (by rw [HULU.out, arrL_24]; omega) HUOU.out ?_; intro w8 hb8 hg8 hs8; clear hs8))
          have HN8 : Hid (Blk w8 w3.heap.size 29 (arrL (upd TN (8 * d + k) X) 24).toArray) := by
            have hb9 := hb8
            rw [HUU.out] at hb9
            show Blk _ _ _ _
            rw [← arrL_put TN X _ 24 hcomm]
            exact hb9
          have HF8 := hide (HF7.out.grown hg8 (fun e => by injection e with e; omega))
          have HB8 := hide (HB7.out.grown hg8 (fun g e => .inr (by injection e with e; omega)))
          have HROW8 := hide (own_grown HROW7.out hg8 (fun g e => .inl (by injection e with e; omega)))
          have hl08 : Below w.heap.size w w8 := hl07.grown hg8 (by omega) (fun g e => by injection e with e; omega)
          have hsz8 := hg8.size
          have htn8 := HTN.out.put (d := d) hkl X
          have HTN8 := hide htn8
          have HOL := hide (fun p (hp : p ∈ S.order) => HC.out.order_lt HB.out.ok hp)
          clear hb8 hg8 htn8
          go_loopw [15, 16] (fun s15 s16 wr => ∃ n : Nat, s16 = .int .i64 (n : Int) ∧ n ≤ S.order.length ∧ s15 = .bool (decide ((d, k) ∈ S.order.take n)) ∧ w8 = wr) (fun _ s16 _ => S.order.length - (intOf s16).toNat)
          case atStart => exact ⟨0, rfl, Nat.zero_le _, by simp, rfl⟩
          case round =>
            obtain ⟨n, rfl, hn, rfl, rfl⟩ := hrel
            by_cases hnl : n < S.order.length
            · have hnw : (n : Int) < (S.order.length : Int) := by omega
              obtain ⟨p, hp⟩ : ∃ p, S.order[n]? = some p := ⟨_, List.getElem?_eq_getElem hnl⟩
              obtain ⟨hp3, hp8⟩ := HOL.out p (List.mem_of_getElem? hp)
              have HSS := hide (seen_succ S.order n p (d, k) hp)
              obtain ⟨g, rfl, hgb, hgl, hcell⟩ := own_code HROW8.out hp
              by_cases hm : (d, k) ∈ S.order.take n
              · rw [decide_eq_true hm]
                clear hcell
                go_wp2_with fail
                go_roundw
                case rel => exact ⟨n + 1, by simp, by omega, by rw [HSS.out, decide_eq_true hm]; rfl, trivial⟩
                case measure => simp only [intOf]; omega
              · rw [decide_eq_false hm]
                obtain ⟨cp, hcp⟩ : ∃ cp, cp = code p := ⟨_, rfl⟩
                rw [← hcp] at hcell
                by_cases hpq : p = (d, k)
                · have hceq : (cp : Int) = 8 * (d : Int) + (k : Int) := by rw [hcp, hpq]; unfold code; simp only; omega
                  have HSF : Hid (decide ((d, k) ∈ S.order.take (n + 1)) = true) := by show _ = _; rw [HSS.out, hpq]; simp
                  clear hcp hpq
                  go_wp2_with fail
                  go_roundw
                  case rel => exact ⟨n + 1, by simp, by omega, by rw [HSF.out], trivial⟩
                  case measure => simp only [intOf]; omega
                · have hceq : ¬ ((cp : Int) = 8 * (d : Int) + (k : Int)) := by
                    intro e
                    refine hpq (code_inj hp8 (show (d, k).2 < 8 from hkl) ?_)
                    rw [← hcp]
                    unfold code
                    simp only
                    omega
                  have HSF : Hid (decide ((d, k) ∈ S.order.take (n + 1)) = false) := by show _ = _; rw [HSS.out, decide_eq_false hm, decide_eq_false hpq]; rfl
                  clear hcp
                  go_wp2_with fail
                  go_roundw
                  case rel => exact ⟨n + 1, by simp, by omega, by rw [HSF.out, beq_eq_false_iff_ne.2 hceq], trivial⟩
                  case measure => simp only [intOf]; omega
            · obtain rfl : n = S.order.length := by omega
              have hnw : ¬ ((S.order.length : Int) < (S.order.length : Int)) := by omega
              rw [List.take_length]
              obtain ⟨S', hS'⟩ : ∃ S', S' = S.wrote.put d k X := ⟨_, rfl⟩
              have hordS : S'.order = if (d, k) ∈ S.order then S.order else S.order ++ [(d, k)] := by rw [hS']; rfl
              have hcS : Calm S' := by rw [hS']; exact (HC.out.wrote).put _ _ _
              have hwS : S'.writes ≤ i + 1 := by rw [hS']; show S.writes + 1 ≤ _; omega
              have hfS : Tells S'.flushed TF := by rw [hS']; exact HTF.out
              have hnS : Tells S'.newest (upd TN (8 * d + k) X) := by rw [hS']; exact HTN8.out
              have hbS : BankAt w8 w1.heap.size w1.heap.size w2.heap.size S' := by rw [hS']; exact HB8.out
              have HOS := hide hordS
              have HCS := hide hcS
              have HFS := hide hfS
              have HNS := hide hnS
              have HBS := hide hbS
              clear hS' hordS hcS hfS hnS hbS
              by_cases hm : (d, k) ∈ S.order
              · rw [decide_eq_true hm]
                have hoe : S'.order = S.order := by rw [HOS.out, if_pos hm]
                have HOE := hide hoe
                clear hoe
                go_wp2_with fail
                go_roundw
                case rel => exact ⟨i + 1, S', TF, upd TN (8 * d + k) X, AO, cO, by simp, by rw [HOE.out], by omega, by omega, by omega, HBS.out, HCS.out, HFS.out, HNS.out, HF8.out, HN8.out, by rw [HOE.out]; exact HROW8.out, hl08, by omega⟩
                case measure => simp only [intOf]; omega
              · rw [decide_eq_false hm]
                have hoe : S'.order = S.order ++ [(d, k)] := by rw [HOS.out, if_neg hm]
                have HOE := hide hoe
                have hlump := Reads.lump (w := w8) [.int .i64 (8 * (d : Int) + (k : Int))] 3 (w8.heap.size + 1) 1 (by omega) rfl
                have HLUMP := hide hlump
                have HQ := hide (show S.order.length + 1 ≤ maxLen ∧ (S.order.length + 1) * 8 ≤ 140737488355328 by simp only [maxLen]; omega)
                have HGA : Hid (∀ g, (Value.slice AO S.order.length cO).ownBlock = some g → w4.heap.size ≤ g) := fun g hg => (own_block_ge HROW8.out hg).1
                clear hoe hlump
                go_wp2_with (first
                  | (refine wpList_append_row rfl (.tmp 136) (.tmp 141) 30 rfl w4.heap.size 3 ii _ 1 8 Try.underlying30 HII.out HIZ.out HIS.out HIB.out rfl (by decide) _ _ _ rfl (HROW8.out.alloc _) (w8.heap.size + 1) (some ⟨w8.heap.size, 0, none⟩) 1 1 [.int .i64 (8 * (d : Int) + (k : Int))] rfl HLUMP.out (by intro u hu; simp at hu; rw [hu]; rfl) HQ.out.1 HQ.out.2 (le_alloc (by omega) _) ?_; intro v9 w9 hown9 hg9))
                obtain ⟨A9, c9, rfl, _, _⟩ := own_slice hown9
                go_roundw
                case rel =>
                  refine ⟨i + 1, S', TF, upd TN (8 * d + k) X, A9, c9, by simp, by rw [HOE.out, List.length_append, List.length_singleton], by omega, by omega, by omega, (HBS.out.later ((Below.refl _ _).alloc (Nat.le_refl _) _)).grown hg9 (fun g e => .inr (by have := HGA.out _ e; omega)), HCS.out, HFS.out, HNS.out, (HF8.out.alloc _).grown hg9 (fun e => by have := HGA.out _ e.symm; omega), (HN8.out.alloc _).grown hg9 (fun e => by have := HGA.out _ e.symm; omega), ?_, (hl08.alloc (by omega) _).grown hg9 (le_alloc (by omega) _) (fun g e => by have := HGA.out _ e; omega), ?_⟩
                  · rw [HOE.out, List.length_append, List.length_singleton, codeL_append, show (((code (d, k)) : Nat) : Int) = 8 * (d : Int) + (k : Int) by unfold code; simp only; omega]
                    exact hown9
                  · have := hg9.size
                    rw [World.size_alloc] at this
                    omega
                case measure => simp only [intOf]; omega
      · by_cases h1 : i < nl
        · have hd5 : decide ((i : Int) < 100) = false := by simp; omega
          go_wp2_with fail
          go_meet
          exact ⟨S, TF, TN, AO, cO, rfl, HB.out, HC.out, HTF.out, HTN.out, HF.out, HN.out, HROW.out, hlr, by omega, hz4⟩
        · have hd5 : decide ((i : Int) < (nl : Int)) = false := by simp; omega
          go_wp2_with fail
          go_meet
          exact ⟨S, TF, TN, AO, cO, rfl, HB.out, HC.out, HTF.out, HTN.out, HF.out, HN.out, HROW.out, hlr, by omega, hz4⟩
  case rest =>
    obtain ⟨S, TF, TN, AO, cO, rfl, hB, hcalm, htf, htn, hF, hN, hrow, hlr, hwr, hz4⟩ := hcut
    have HC := hide hcalm
    have hok := hB.ok
    have HOK := hide hok
    have hcr := crash_up hcalm.up m
    obtain ⟨S2, hS2⟩ : ∃ S2, S2 = S.crash m := ⟨_, rfl⟩
    rw [← hS2] at hcr
    have hdn : S2.down = true := by rw [hcr]
    have hor2 : S2.order.length = 0 := by rw [hcr]; rfl
    have hmay : S2.may 0 = 6 := by
      rw [hcr]
      unfold Bank.may
      simp only
      rw [if_neg (by rw [hcalm.n]; omega), hcalm.live 0 (by decide)]
      rfl
    have hpl : S2.place 0 0 = 6 := by unfold Bank.place; rw [hmay]; rfl
    have hrd2 : readV S2 0 0 = .tuple #[secV zeroSec, .int .i64 6] := by unfold readV; rw [hpl]; rfl
    have hwr2 : ∀ s, S2.write 0 0 s = (6, S2) := by
      intro s
      unfold Bank.write
      rw [count_down hdn]
      simp only [Bool.false_eq_true, if_false, hpl]
      rfl
    have hc3 : Calm S2.start := by rw [hS2]; exact hcalm.restart m
    have hn3 : S2.start.newest = (S.upTo m S.order.length).flushed := by rw [S.upTo_all m]; show S2.newest = S.kept m; rw [hcr]
    have hw2 : S2.writes ≤ 100 := by rw [hS2, crash_writes]; exact hwr
    obtain ⟨U0, hU0⟩ : ∃ U, U = secL zeroSec := ⟨_, rfl⟩
    have HBZ := hide (show Try.prog.built 28 [] = some U0.toArray by rw [hU0]; exact built_zero)
    have hbp : Try.prog.built 37 [] = some #[.int .i64 0, .int .i64 0] := by kernel_rfl
    have HBP := hide hbp
    have hlo := bank_loose hB
    have HLO := hide hlo
    have hcrash := bank_crash hB m hm64
    rw [← hS2] at hcrash
    have HCR := hide hcrash
    have hR2 : ∀ w', BankAt w' w1.heap.size w1.heap.size w2.heap.size S2 → Calls Try.prog 16 #[.pointer (some ⟨w1.heap.size, 0, none⟩), .agg #[.int .i64 0, .int .i64 0]] w' fun e w'' => e = .returned (.tuple #[.agg U0.toArray, .int .i64 6]) ∧ Below w'.heap.size w' w'' := fun w' h => by
      have h2 := bank_read h 0 0
      rw [hrd2, show secV zeroSec = .agg U0.toArray by rw [hU0]; rfl] at h2
      exact h2
    have hU2 : ∀ w', BankAt w' w1.heap.size w1.heap.size w2.heap.size S2 → Calls Try.prog 17 #[.pointer (some ⟨w1.heap.size, 0, none⟩)] w' fun e w'' => e = .returned (.bool false) ∧ w' = w'' := fun w' h => by
      have h2 := bank_up h
      rw [hdn] at h2
      exact h2
    have hL2 : ∀ w', BankAt w' w1.heap.size w1.heap.size w2.heap.size S2 → Calls Try.prog 14 #[.pointer (some ⟨w1.heap.size, 0, none⟩)] w' fun e w'' => e = .returned (.int .i64 0) ∧ w' = w'' := fun w' h => by
      have h2 := bank_loose h
      rw [hor2] at h2
      exact h2
    have hW2 : ∀ w', BankAt w' w1.heap.size w1.heap.size w2.heap.size S2 → Calls Try.prog 12 #[.pointer (some ⟨w1.heap.size, 0, none⟩), .agg #[.int .i64 0, .int .i64 0], .agg U0.toArray] w' fun e w'' => e = .returned (.int .i64 6) ∧ BankAt w'' w1.heap.size w1.heap.size w2.heap.size S2 ∧ Upto w1.heap.size w2.heap.size w' w'' := fun w' h => by
      have h2 := bank_write h (by omega) 0 0 zeroSec
      rw [hwr2, show secV zeroSec = .agg U0.toArray by rw [hU0]; rfl] at h2
      exact h2
    have hF2 : ∀ w', BankAt w' w1.heap.size w1.heap.size w2.heap.size S2 → Calls Try.prog 11 #[.pointer (some ⟨w1.heap.size, 0, none⟩), .int .i64 0] w' fun e w'' => e = .returned (.int .i64 6) ∧ BankAt w'' w1.heap.size w1.heap.size w2.heap.size S2 ∧ Upto w1.heap.size w2.heap.size w' w'' := fun w' h => by
      have h2 := bank_flush h 0
      rw [hmay, if_neg (by decide)] at h2
      exact h2
    have HR2 := hide hR2
    have HU2 := hide hU2
    have HL2 := hide hL2
    have HW2 := hide hW2
    have HF2 := hide hF2
    have HC3 := hide hc3
    have HN3 := hide hn3
    have HTF := hide htf
    have HTN := hide htn
    have HF := hide hF
    have HN := hide hN
    have HROW := hide hrow
    have hnlt := hN.lt
    have hhl := hB.1
    obtain ⟨hol1, hol2⟩ := own_bounds hrow
    have hol := order_le S hok S.order hok.nodup (fun _ hp => hp)
    have HB := hide hB
    have HOL := hide (fun p (hp : p ∈ S.order) => hcalm.order_lt hok hp)
    have hUl0 : U0.length = 64 := by rw [hU0, secL_length]
    have hUo0 : ∀ v ∈ U0, v.oneCell' = true := by rw [hU0]; exact secL_one _
    have hiU0 : (Try.prog.info? 28).map (·.size) = some U0.length := by rw [hUl0]; exact sec_info
    have HULU0 := hide hUl0
    have HUOU0 := hide hUo0
    have HIUU0 := hide hiU0
    clear hcalm hok hcr hS2 hdn hor2 hmay hpl hrd2 hwr2 hc3 hn3 hU0 hbp hlo hcrash hR2 hU2 hL2 hW2 hF2 htf htn hF hN hrow hB hUl0 hUo0 hiU0
    go_wp2_with fail
    refine HLO.out.mono ?_
    rintro _ _ ⟨rfl, rfl⟩
    go_wp2_with fail
    refine HCR.out.mono ?_
    rintro _ w5 ⟨rfl, hB5, hu5⟩
    have hl5 : Below w.heap.size w w5 := hlr.trans (hu5.low hs1 (by omega))
    have hsz5 := hu5.size
    have HB5 := hide hB5
    have HF5 := hide (HF.out.upto hu5 (.inl (Nat.le_refl _)))
    have HN5 := hide (HN.out.upto hu5 (.inl (by omega)))
    have HROW5 := hide (own_upto HROW.out hu5 (by omega))
    clear hB5
    go_wp2_with (first
      | (refine wpList_build_is rfl 37 #[] rfl [] (by simp) #[.int .i64 0, .int .i64 0] HBP.out ?_))
    refine (HR2.out w5 HB5.out).mono ?_
    rintro _ w6 ⟨rfl, hl6⟩
    have hsz6 := hl6.size
    go_wp2_with (first
      | (refine wpList_alloc_blk rfl 28 rfl _ (sec_zero _) ?_; intro w7 hb7 hl7 hs7; clear hs7)
      | (refine wpList_store_all rfl 28 (.tmp 17) (.tmp 155) rfl w6.heap.size 28 _ hb7 rfl U0 rfl HIUU0.out (HULU0.out.trans (secL_length zeroSec).symm) HUOU0.out ?_; intro w8 hb8 hg8 hs8; clear hs8; have hle8 := ((hl6.trans (hl7.mono hsz6)).grown hg8 (by have := hl7.size; omega) (fun g e => by injection e with e; omega)))
      | (go_at_call 17; ((with_reducible refine (HU2.out w8 (HB5.out.later hle8)).mono ?_); rintro _ _ ⟨rfl, rfl⟩))
      | (go_at_call 14; ((with_reducible refine (HL2.out w8 (HB5.out.later hle8)).mono ?_); rintro _ _ ⟨rfl, rfl⟩))
      | (refine when_build rfl 37 #[] rfl [] (by simp) #[.int .i64 0, .int .i64 0] HBP.out ?_)
      | (refine when_build rfl 28 #[] rfl [] (by simp) U0.toArray HBZ.out ?_)
      | (go_at_call 12; ((with_reducible refine (HW2.out w8 (HB5.out.later hle8)).mono ?_); rintro _ w9 ⟨rfl, hB9, hu9⟩))
      | (go_at_call 11; ((with_reducible refine (HF2.out w9 hB9).mono ?_); rintro _ w10 ⟨rfl, hB10, hu10⟩)))
    have hu510 : Upto w1.heap.size w2.heap.size w5 w10 := ((Upto.of_below hle8).trans hu9).trans hu10
    have hl10 : Below w.heap.size w w10 := hl5.trans (hu510.low hs1 (by omega))
    have hsz10 := hu510.size
    have HB10 := hide hB10
    have HF10 := hide (HF5.out.upto hu510 (.inl (Nat.le_refl _)))
    have HN10 := hide (HN5.out.upto hu510 (.inl (by omega)))
    have HROW10 := hide (own_upto HROW5.out hu510 (by omega))
    clear hB9 hB10 hb7 hb8 hg8 hl7 hle8 hl6 hu9 hu10 hu510
    refine (bank_start HB10.out).mono ?_
    rintro _ w11 ⟨rfl, hB11, hu11⟩
    have hl11 : Below w.heap.size w w11 := hl10.trans (hu11.low hs1 (by omega))
    have hsz11 := hu11.size
    have HB11 := hide hB11
    have HF11 := hide (HF10.out.upto hu11 (.inl (Nat.le_refl _)))
    have HN11 := hide (HN10.out.upto hu11 (.inl (by omega)))
    have HROW11 := hide (own_upto HROW10.out hu11 (by omega))
    obtain ⟨S3, hS3⟩ : ∃ S3, S3 = S2.start := ⟨_, rfl⟩
    rw [← hS3] at HB11 HC3 HN3
    clear hB11 hu11 hS3
    go_wp2_with fail
    go_loopw [19] (fun s19 wr => ∃ (n : Nat) (TF' : Nat → Sec), s19 = .int .i64 (n : Int) ∧ n ≤ S.order.length ∧ Tells (S.upTo m n).flushed TF' ∧ Blk wr w2.heap.size 29 (arrL TF' 24).toArray ∧ Blk wr w3.heap.size 29 (arrL TN 24).toArray ∧ wr.ownsRow w4.heap.size 3 1 (.slice AO S.order.length cO) S.order.length (codeL S.order) ∧ BankAt wr w1.heap.size w1.heap.size w2.heap.size S3 ∧ Below w.heap.size w wr) (fun s19 _ => S.order.length - (intOf s19).toNat)
    case atStart => exact ⟨0, TF, rfl, Nat.zero_le _, HTF.out, HF11.out, HN11.out, HROW11.out, HB11.out, hl11⟩
    case round =>
      obtain ⟨n, TF', rfl, hn, htf', hF', hN', hrowO, hB', hl'⟩ := hrel
      obtain ⟨wp, rfl⟩ : ∃ wp, wp = wr := ⟨_, rfl⟩
      have HB' := hide hB'
      have HTF' := hide htf'
      have HF' := hide hF'
      have HN' := hide hN'
      have HRO := hide hrowO
      have hszp := hl'.size
      clear hB' htf' hF' hN' hrowO
      by_cases hnl : n < S.order.length
      · have hnw : (n : Int) < (S.order.length : Int) := by omega
        obtain ⟨p, hp⟩ : ∃ p, S.order[n]? = some p := ⟨_, List.getElem?_eq_getElem hnl⟩
        obtain ⟨hp3, hp8⟩ := HOL.out p (List.mem_of_getElem? hp)
        obtain ⟨g, rfl, hgb, hgl, hcell⟩ := own_code HRO.out hp
        have hc24 : code p < 24 := by unfold code; omega
        have hus := S.upTo_succ m n p hp
        have HCOD : Hid (code p = 8 * p.1 + p.2) := rfl
        obtain ⟨cp, hcp⟩ : ∃ cp, cp = code p := ⟨_, rfl⟩
        rw [← hcp] at hcell hc24 HCOD
        clear hcp
        have hk63 := mask_nat63 n
        have hbt := bit_test m (n % 64) hm64
        have HUS := hide hus
        clear hus
        cases hbit : m.testBit (n % 64) with
        | false =>
          rw [hbit] at hbt HUS
          go_wp2_with fail
          go_roundw
          case rel => exact ⟨n + 1, TF', by simp, by omega, by rw [HUS.out]; exact HTF'.out, HF'.out, HN'.out, HRO.out, HB'.out, hl'⟩
          case measure => simp only [intOf]; omega
        | true =>
          rw [hbit] at hbt HUS
          obtain ⟨V, hV⟩ : ∃ V, V = secL (TN cp) := ⟨_, rfl⟩
          have hVl : V.length = 64 := by rw [hV, secL_length]
          have hVo : ∀ v ∈ V, v.oneCell' = true := by rw [hV]; exact secL_one _
          have hiV : (Try.prog.info? 28).map (·.size) = some V.length := by rw [hVl]; exact sec_info
          have hVc : ∀ (j : Nat) v, V[j]? = some v → wp.drew.cell? ⟨w3.heap.size, cp * 64 + j, none⟩ = some v := by
            intro j v hj
            rw [HN'.out.drew.cell, List.getElem?_toArray, arrL_at TN 24 cp j hc24 (lt64 hVl hj), ← hV]
            exact hj
          have HVL := hide hVl
          have HVO := hide hVo
          have HIV := hide hiV
          have HVC := hide hVc
          have HV := hide hV
          have hcelld : wp.drew.cell? ⟨g, n, none⟩ = some (.int .i64 (cp : Int)) := hcell
          have hcpw : (cp : Int) < 24 := by omega
          clear hV hVl hVo hiV hVc
          go_wp2_with fail
          refine wp_region_still_tail 11 (by kernel_rfl) (by kernel_rfl) ?_
          change wpStill _ _ wp.drew _ _ _
          simp only [List.take_succ_cons, List.take_zero, List.drop_succ_cons, List.drop_zero]
          iterate 9 still_step
          refine still_load_at rfl 28 (.tmp 203) rfl ⟨w3.heap.size, cp * 64, none⟩ rfl V _ (fun j v hj => ?_) Try.underlying28 rfl HIV.out ?_
          · rw [Addr.add_mid]
            exact HVC.out j v hj
          still_step
          refine wpStill_nil ?_
          change wpList _ _ _ _ _ wp.drew
          go_wp2_with (first
            | (refine wpList_store_blk rfl 28 (.tmp 205) (.tmp 204) rfl w2.heap.size (cp * 64) 29 _ HF'.out.drew rfl V rfl HIV.out (by rw [HVL.out, arrL_24]; omega) HVO.out ?_; intro w7 hb7 hg7 hs7; clear hs7))
          go_roundw
          case rel =>
            refine ⟨n + 1, upd TF' cp (TN cp), by simp, by omega, ?_, ?_, HN'.out.drew.grown hg7 (fun e => by injection e with e; omega), ?_, HB'.out.drew.grown hg7 (fun g e => .inr (by injection e with e; omega)), hl'.drew.grown hg7 (by show w.heap.size ≤ wp.heap.size; omega) (fun g e => by injection e with e; omega)⟩
            · rw [HUS.out, if_pos trivial, HCOD.out]
              have h := HTF'.out.put (d := p.1) (k := p.2) hp8 (S.newest p.1 p.2)
              rw [HTN.out p.1 p.2 hp3 hp8] at h ⊢
              exact h
            · have hb8 := hb7
              rw [HV.out] at hb8
              rw [← arrL_put TF' (TN cp) _ 24 hc24]
              exact hb8
            · exact own_grown (own_later HRO.out ((Below.refl _ _).drew)) hg7 (fun g e => .inl (by injection e with e; omega))
          case measure => simp only [intOf]; omega
      · have hnw : ¬ ((n : Int) < (S.order.length : Int)) := by omega
        have hne : n = S.order.length := by omega
        have hn4 : ∀ j, j < 24 → S3.newest (j / 8) (j % 8) = TF' j := by
          intro j hj
          have h := HTF'.out (j / 8) (j % 8) (by omega) (by omega)
          rw [hne] at h
          rw [HN3.out, h]
          congr 1
          omega
        have HN4 := hide hn4
        clear hn4 hne
        go_wp2_with fail
        go_loopw [20, 21, 22] (fun s20 _ _ wr => ∃ i : Nat, s20 = .int .i64 (i : Int) ∧ i ≤ 24 ∧ BankAt wr w1.heap.size w1.heap.size w2.heap.size S3 ∧ Blk wr w2.heap.size 29 (arrL TF' 24).toArray ∧ Below w.heap.size w wr) (fun s20 _ _ _ => 24 - (intOf s20).toNat)
        case atStart => exact ⟨0, rfl, by decide, HB'.out, HF'.out, hl'⟩
        case round =>
          obtain ⟨i, rfl, hi24, hB, hT, hlr⟩ := hrel
          obtain ⟨wo, rfl⟩ : ∃ wo, wo = wr := ⟨_, rfl⟩
          have HBo := hide hB
          have HTo := hide hT
          have htlt := hT.lt
          clear hB hT
          by_cases hlt : i < 24
          · have hg1 : (i : Int) < 24 := by omega
            have hk := mask_nat i
            obtain ⟨X, hX⟩ : ∃ X, X = TF' i := ⟨_, rfl⟩
            obtain ⟨U, hU⟩ : ∃ U, U = secL X := ⟨_, rfl⟩
            have hR := bank_read HBo.out (i / 8) (i % 8)
            rw [readV_calm HC3.out (by omega) (by omega), HN4.out i hlt, ← hX, show secV X = .agg U.toArray by rw [hU]; rfl, show (((i / 8 : Nat)) : Int) = (i : Int) / 8 by omega, show (((i % 8 : Nat)) : Int) = (i : Int) % 8 by omega] at hR
            have HR := hide hR
            have hat : ∀ (j : Nat) v, U[j]? = some v → (arrL TF' 24).toArray[i * 64 + j]? = some v := by
              intro j v hj
              rw [List.getElem?_toArray, arrL_at TF' 24 i j hlt (lt64 (by rw [hU, secL_length]) hj), ← hX, ← hU]
              exact hj
            have HAT := hide hat
            have hUl : U.length = 64 := by rw [hU, secL_length]
            have hUo : ∀ v ∈ U, v.oneCell' = true := by rw [hU]; exact secL_one _
            have hiU : (Try.prog.info? 28).map (·.size) = some U.length := by rw [hUl]; exact sec_info
            have hEX : Value.agg U.toArray = .agg (B8 X.1).toArray := by rw [hU]; rfl
            have HULU := hide hUl
            have HUOU := hide hUo
            have HIUU := hide hiU
            have HEXU := hide hEX
            clear hUl hUo hiU hEX hU
            clear hR hX hat
            go_wp2_with fail
            refine HR.out.mono ?_
            rintro _ w7 ⟨rfl, hl7⟩
            have hsz7 := hl7.size
            have HB7 := hide (HBo.out.later hl7)
            have HT7 := hide (HTo.out.below hl7 htlt)
            have hl07 : Below w.heap.size w w7 := hlr.trans (hl7.mono hlr.size)
            clear hl7
            go_wp2_with (first
              | (refine wpList_alloc_blk rfl 28 rfl _ (sec_zero _) ?_; intro w8 hb8 hl8 hs8; clear hs8)
              | (refine wpList_store_all rfl 28 (.tmp 21) (.tmp 218) rfl w7.heap.size 28 _ hb8 rfl U rfl HIUU.out (HULU.out.trans (secL_length zeroSec).symm) HUOU.out ?_; intro w9 hb9 hg9 hs9; clear hs9))
            have HBX := hide hb9
            have HTX := hide ((HT7.out.below hl8 (by omega)).grown hg9 (fun e => by injection e with e; omega))
            have HBY := hide ((HB7.out.later hl8).grown hg9 (fun g e => .inr (by injection e with e; omega)))
            have hlX : Below w.heap.size w w9 := (hl07.trans (hl8.mono hl07.size)).grown hg9 (by have := hl8.size; omega) (fun g e => by injection e with e; omega)
            clear hb9 hb8 hg9 hl8
            refine wp_region_quiet_lit (by kernel_rfl) (by kernel_rfl) ?_
            iterate 3 (go_big_quiet_step (fail))
            refine quiet_when_load rfl 28 (.tmp 21) rfl w7.heap.size 0 28 _ (by rintro w1 ⟨q1, rfl⟩; exact HBX.out.drewN _) rfl U _ (fun j v hj => by rw [Nat.zero_add]; simpa using hj) Try.underlying28 rfl HIUU.out ?_
            simp only [Act.put, List.setIfInBounds_toArray, List.set_cons_succ, List.set_cons_zero]
            iterate 2 (go_big_quiet_step (fail))
            refine quiet_when_load rfl 28 (.tmp 225) rfl w2.heap.size (i * 64) 29 _ (by rintro w1 ⟨q1, rfl⟩; exact HTX.out.drewN _) rfl U _ HAT.out Try.underlying28 rfl HIUU.out ?_
            simp only [Act.put, List.setIfInBounds_toArray, List.set_cons_succ, List.set_cons_zero]
            refine quiet_when_eqn rfl true 28 5 _ (.tmp 223) (.tmp 226) rfl 64 _ Try.underlying28 Try.underlying5 u8_info (by kernel_rfl) (by kernel_rfl) X.1 X.1 X.2 X.2 HEXU.out HEXU.out false (by simp) ?_
            simp only [Act.put, List.setIfInBounds_toArray, List.set_cons_succ, List.set_cons_zero]
            go_big_quiet_step (fail)
            refine wpQuiet_nil ?_
            rintro w11 ⟨q1, rfl⟩
            go_wp2
            go_roundw
            case rel => exact ⟨i + 1, by simp, by omega, HBY.out.later (below_drewN (Below.refl _ _) _), HTX.out.drewN _, below_drewN hlX _⟩
            case measure => simp [intOf]; omega
          · have hge : ¬ ((i : Int) < 24) := by omega
            go_wp2_with fail
            go_ret
            exact ⟨rfl, hlr⟩

/-! The row's frame, by program: how the walk above proves the statement. -/
set_option maxRecDepth 100000 in
theorem lifted (os : Os) (started : os.Started) (H : Type) (enc : TypeId × Value → H) :
    ReturnsInHanded {} Try.checked os 3 .any (Rows.diskCrashSpec.pre6 enc Try.prog Try.f3 Rows.diskCrashRow.domain false) (Rows.diskCrashSpec.post enc Try.prog Try.f3 false true false false) := by
  refine returnsInHanded_of_change (C := Try.checked) own started (by kernel_rfl) Try.func3
    (ChangeSpec.witness6 (enc := enc) (C := Try.checked) false ⟨#[], #[.slice none 0 0, .int .u64 0], []⟩ 8 (by kernel_rfl) (by kernel_rfl) (by kernel_rfl) (by kernel_rfl)) ?_
  intro W base args ds gs before hval0 hW hcnd _
  have hval : ∀ (j : Nat) t v, Try.f3.params[j]? = some t → args[j]? = some v → Value.okWide Try.prog W .any base t v := hval0
  have hW' := hW
  obtain ⟨p, q, hA0, hV, rfl, hfz, hnd⟩ := hW
  have hA : DataW.TrodAll enc Try.prog W 0 (fun _ => true) true Try.f3.params.toList args.toList ds p := hA0
  rw [Try.params3] at hA hval
  obtain ⟨v0, vs0, d0, ds0, p0, q0, hargs, rfl, rfl, h0, r0⟩ := trodAll_cons hA
  obtain ⟨v1, vs1, d1, ds1, p1, q1, rfl, rfl, rfl, h1, r1⟩ := trodAll_cons r0
  obtain ⟨rfl, rfl, rfl⟩ := trodAll_nil r1
  obtain rfl : args = #[v0, v1] := by cases args; simp_all
  obtain ⟨rfl, rfl⟩ := trodVars_none hV
  obtain ⟨A0, n0, c0, rfl⟩ := okWide_slice Try.underlying22 (hval 0 22 v0 rfl rfl)
  have k0 := h0
  have lt0 : ∀ x ∈ p0, x.block < W.heap.size := by obtain ⟨m, hm⟩ := k0; exact DataW.trod_lt m _ _ _ hm
  obtain ⟨l0, x0, g0, z0⟩ := arg_steps h0
  obtain ⟨a1, rfl, rfl, rfl, w1⟩ := open_int Try.underlying23 (hval 1 23 v1 rfl rfl) h1
  have b1 := bounds_u64 w1
  clear hA0 hval0
  refine (walk A0 n0 c0 l0 a1 W x0 g0 z0 b1.1 b1.2).mono fun e W' ⟨he, bel⟩ => ?_
  subst he
  exact ⟨_, rfl, _, _, _, [], _, [], hW', trodAll_mk1 (shut_bool Try.underlying4 _), (trodAll_cons_mk (Below.trod laidOut (by kernel_rfl) (of_decide_eq_true (by kernel_rfl)) k0 bel lt0) (trodAll_cons_mk (shut_int Try.underlying23 w1) trodAll_mk0)), rfl, bel.frame _, fun h => by cases h⟩

theorem over : Rows.diskCrashRow.holds Try.pinned (OpenSpec.ofChange Rows.diskCrashSpec) :=
  OpenClaim.holds_of_wide 3 Try.f3 rfl rfl rfl rfl rfl rfl rfl ⟨rfl, rfl, rfl, rfl, rfl⟩ rfl rfl rfl rfl rfl (by kernel_rfl) Try.func3 (by kernel_rfl)
    (of_decide_eq_true (by kernel_rfl)) (by unfold Func.isWrapper; first | (rw [if_pos (by decide +kernel)]; kernel_rfl) | (rw [if_neg (by decide +kernel)]; exact ⟨rfl, rfl⟩))
    (fun os started H enc _ => lifted os started H enc)

/-- The statement. -/
theorem proved : Rows.DiskCrashSaid := over
#print axioms proved
end Go.Proofs.Ytdpfjehodnlojaa.DiskCrash
