/- The walk of the closure of eachFinds that looks for a disk. -/
import Derived.Test.YtmaiikmgpeafkaaGrpM
namespace Go.Proofs.Ytmaiikmgpeafkaa
open Go.RowKit

set_option maxRecDepth 100000 in
set_option maxHeartbeats 2000000 in
theorem find_any (w0 : World) (B1 bG bR mF bF mT bT bS : Nat) (AR : Option Addr) (cR : Nat) (vG : Value) (rm : List Int) (Bs : List (List Int)) (hs : Spots w0.heap.size B1 bG bR mF bF mT bT bS)
    (hrm : Reads w0 w0.heap.size 1 AR rm.length (I64 rm)) (hn : rm.length ≤ 1000000) (hm : Bs.length ≤ 1000000) (hG : GB w0 w0.heap.size vG Bs) (hGl : ∀ l ∈ Bs, l.length < 4611686018427387904) :
    ∀ (k x : Nat) (F : Nat → List Nat) (T : Nat → Bool) (V : Nat → Value) (w : World), untried rm.length T < k → x < Bs.length → St w0 w0.heap.size B1 bG bR mF bF mT bT bS (.slice AR rm.length cR) vG rm.length F T V w → FOk rm Bs F → (∀ y, cnt rm.length F y ≤ 1) → (∀ d, T d = true → d < rm.length ∧ roomN rm d ≤ (F d).length) →
      Calls Try.prog 45 #[.int .i64 (x : Int), .pointer (some ⟨bR, 0, none⟩), .pointer (some ⟨bF, 0, none⟩), .pointer (some ⟨bG, 0, none⟩), .pointer (some ⟨bT, 0, none⟩), .pointer (some ⟨bS, 0, none⟩)] w fun e w' =>
        ∃ b : Bool, e = .returned (.bool b) ∧ ((b = true ∧ ∃ F' T' V', St w0 w0.heap.size B1 bG bR mF bF mT bT bS (.slice AR rm.length cR) vG rm.length F' T' V' w' ∧ Found rm Bs F T x F') ∨ (b = false ∧ ∃ T', St w0 w0.heap.size B1 bG bR mF bF mT bT bS (.slice AR rm.length cR) vG rm.length F T' V w' ∧ NotFound rm Bs F T x T')) := by
  intro k
  induction k with
  | zero => intro x F T V w h; omega
  | succ k ih =>
    intro x F T V w hk hx hst hok hc1 hfull
    obtain ⟨i0, hi0, hz0, hz1, hz2⟩ := info_parts int_parts
    obtain ⟨gG, cG, uG, rfl, hmG, hgG, hcG, hrG, hsG⟩ := hG x hx
    obtain ⟨AU, cU, rfl, hU1, hU2, hU3⟩ := hrG.reads
    have HI := hide (And.intro hi0 (And.intro hz0 (And.intro hz1 hz2)))
    have HRG := hide hrG
    have HSG := hide hsG
    have HOK := hide hok
    have HC1 := hide hc1
    have HFU := hide hfull
    have HIH := hide ih
    have HRM := hide hrm
    have HCG := hide hcG
    have hll : (grp Bs x).length < 4611686018427387904 := hGl _ (by unfold grp; rw [List.getD, List.getElem?_eq_getElem hx]; exact List.getElem_mem hx)
    have HLL := hide hll
    have HGL := hide hGl
    have HGG := hide hG
    have hamong : ∀ (W : World), Below w0.heap.size w0 W → ∀ (q : Nat) (bo : Bool), (grp Bs x).contains (q : Int) = bo → Calls Try.prog 39 #[.slice AU (grp Bs x).length cU, .int .i64 (q : Int)] W fun e w' => e = .returned (.bool bo) ∧ ∃ z, w' = W.drewN z := by
      intro W hW q bo hbo
      rw [← hbo]
      exact among_any _ _ HSG.out 0 W (HRG.out.below hW).1 _ HLL.out
    have HAM := hide hamong
    clear hi0 hz0 hz1 hz2 hrG hsG hok hc1 hfull ih hrm hcG hll hGl hG hamong hU1 hU2 hU3
    have c0r := hst.vars.r
    go_enter Try.func45, Try.ntmps45
    go_wp2
    go_loopw [17] (fun i wr => ∃ q : Nat, q ≤ rm.length ∧ i = .int .i64 q ∧ Hid (St w0 w0.heap.size B1 bG bR mF bF mT bT bS (.slice AR rm.length cR) (.slice (some ⟨gG, 0, none⟩) Bs.length cG) rm.length F T V wr) ∧ Hid (NoFree rm Bs F x q)) (fun i _ => rm.length - (intOf i).toNat)
    case atStart => exact ⟨0, Nat.zero_le _, rfl, hide hst, hide NoFree.zero⟩
    case round =>
      clear c0r hst
      obtain ⟨q, hq, rfl, HST, HNF⟩ := hrel
      by_cases hqn : q < rm.length
      · obtain ⟨ad, rv, rfl, hab, hrv, hcr⟩ := HRM.out.i64_at hqn
        have hce := (HST.out.vars.low.cell (p := ad.add q) (by rw [block_of_add]; exact hab)).trans hcr
        have c1 := HST.out.vars.f
        have c2 := HST.out.vars.g
        have c3 := (HST.out.vars.low.cell (p := ⟨gG, x, none⟩) hgG).trans HCG.out
        have hri := roomI_at hrv
        obtain ⟨f, hmap, hf, hf2⟩ := HST.out.fnd.map
        obtain ⟨AV, cV, hV, hV1, hV2⟩ := own_shape (HST.out.fnd.own q hqn)
        have hfq := hf q
        rw [hV] at hfq
        have HFQ := hide hfq
        have HMAP := hide hmap
        have HF := hide hf
        have HF2 := hide hf2
        have HV := hide hV
        have HRI := hide hri
        have hq63 : q < 9223372036854775808 := by omega
        have HLOW := hide HST.out.vars.low
        clear hcr hrv hab hri hmap hf hf2 hfq hV hV1 hV2
        by_cases hlr : ((F q).length : Int) < rv
        · cases hb : (grp Bs x).contains (q : Int) with
          | true =>
            have HB := hide hb
            clear hb
            go_wp2_with (first
              | ((with_reducible refine at_slot 24 ?_); refine wpList_look_plain rfl (.tmp 22) (.tmp 23) 66 22 rfl Try.underlying66 _ (Try.zeroValue22 _) mF f rfl HMAP.out q rfl _ HFQ.out hq63 ?_)
              | (go_at_call 39; refine (HAM.out _ HLOW.out q true HB.out).mono ?_; rintro _ _ ⟨rfl, z, rfl⟩))
            have HN2 := hide (HNF.out.succ (by rintro ⟨_, h2⟩; exact h2 (by simpa using HB.out)))
            have HST2 := hide (HST.out.drewN hs z)
            go_roundw
            case rel => exact ⟨q + 1, by omega, by go_num, HST2, HN2⟩
            case measure => simp [intOf]; omega
          | false =>
            have HB := hide hb
            clear hb
            go_wp2_with (first
              | ((with_reducible refine at_slot 24 ?_); refine wpList_look_plain rfl (.tmp 22) (.tmp 23) 66 22 rfl Try.underlying66 _ (Try.zeroValue22 _) mF f rfl HMAP.out q rfl _ HFQ.out hq63 ?_)
              | (go_at_call 39; refine (HAM.out _ HLOW.out q false HB.out).mono ?_; rintro _ _ ⟨rfl, z, rfl⟩))
            have hlt1 : (F q).length + 1 ≤ maxLen := by have := HOK.out.len_le HC1.out hqn; simp only [maxLen]; omega
            have hlt2 : ((F q).length + 1) * 8 ≤ 140737488355328 := by have := HOK.out.len_le HC1.out hqn; omega
            have hsz := HST.out.vars.size
            obtain ⟨wy, hwy⟩ : ∃ wy, wy = wr.drewN z := ⟨_, rfl⟩
            rw [← hwy]
            have hgy : wr.grownBy wy none := by rw [hwy]; exact grown_drewN (grown_refl wr none) z
            clear hwy
            obtain ⟨wz, hwz⟩ : ∃ wz, wz = wy.drew := ⟨_, rfl⟩
            have hgz : wr.grownBy wz none := by rw [hwz]; exact grown_drew hgy
            have HMZ := hide (HMAP.out.grown hgz (by simp))
            obtain ⟨wa, hwa⟩ : ∃ wa, wa = (wy.alloc (.cells #[.int .i64 (x : Int)] 3)).drew := ⟨_, rfl⟩
            have hga : wr.grownBy wa none := by rw [hwa]; exact grown_drew (grown_trans hgy (World.grownBy_alloc _ _ _))
            have HMA := hide (HMAP.out.grown hga (by simp))
            have hrowa : wa.ownsRow B1 3 1 (.slice AV (F q).length cV) (F q).length (I64 (toI (F q))) := by
              rw [← HV.out]
              exact (HST.out.fnd.own q hqn).kept hga (by cases (V q).ownBlock <;> simp)
            obtain ⟨v', wb, hrun, hown, hgb, hvb⟩ := run_append_any (P := Try.prog) wa B1 22 22 3 i0 _ 1 8 Try.underlying22 HI.out.1 HI.out.2.1 HI.out.2.2.1 HI.out.2.2.2 rfl (by decide) _ _ _ hrowa (wy.heap.size + 1) (some ⟨wy.heap.size, 0, none⟩) 1 1 [.int .i64 (x : Int)] (by rw [hwa]; exact (Reads.one _ _ _ _ (by omega)).drew) (one_i64 _) hlt1 hlt2 (Nat.le_trans hsz hga.size)
            have hVB : ∀ g, (Value.slice AV (F q).length cV).ownBlock = some g → B1 ≤ g := fun g hg => (hrowa.lt g hg).1
            have HMB := hide (HMA.out.grown hgb (fun e => by have := hVB mF e.symm; have := hs.mf; omega))
            obtain ⟨wc, hput, hmc, hgc⟩ := HMB.out.put Try.underlying66 hq63 v' (List.Pairwise.filter _ List.nodup_range) (keys_mem HF2.out) (filter_few _ _ hn)
            have hlk1 := HMZ.out.look_plain Try.underlying66 (Try.zeroValue22 _) HFQ.out hq63
            have hlk2 := HMA.out.look_plain Try.underlying66 (Try.zeroValue22 _) HFQ.out hq63
            have hv1 := (HST.out.vars.grown hs hgy (by simp)).f
            have hv2 := (HST.out.vars.grown hs hga (by simp)).f
            have hv3 := ((HST.out.vars.grown hs hga (by simp)).grown hs hgb (fun g e => .inr (.inr (hVB g e)))).f
            have hst3 := HST.out.add hs hqn hga HF.out HF2.out hown (by rw [HV.out]; exact hgb) (by rw [HV.out]; exact hvb) hmc hgc
            have HST3 := hide hst3
            have HFD := hide (found_add HOK.out HFU.out hqn (by rw [HRI.out]; exact hlr) hx (by simpa using HB.out))
            clear hst3 hgb hvb hown hmc hgc hrowa hgy hgz hga hlt1 hlt2 hVB c1 c2 c3 hce
            rw [hwa] at hlk2 hrun hv2
            rw [hwz] at hlk1
            clear hwa hwz
            go_region_law (first
              | (refine step_known rfl (.tmp 41) (.tmp 43) 22 rfl _ _ rfl rfl v' wb hrun ?_))
            all_goals
              go_wp2
              go_ret
              exact ⟨true, rfl, .inl ⟨rfl, _, _, _, HST3.out, HFD.out⟩⟩
        · have hlr2 : ¬ (((F q).length : Int) < rv) := hlr
          go_wp2_with (first
            | ((with_reducible refine at_slot 24 ?_); refine wpList_look_plain rfl (.tmp 22) (.tmp 23) 66 22 rfl Try.underlying66 _ (Try.zeroValue22 _) mF f rfl HMAP.out q rfl _ HFQ.out hq63 ?_))
          have HN2 := hide (HNF.out.succ (by rintro ⟨h1, _⟩; rw [HRI.out] at h1; exact hlr h1))
          go_roundw
          case rel => exact ⟨q + 1, by omega, by go_num, HST, HN2⟩
          case measure => simp [intOf]; omega
      · obtain rfl : q = rm.length := by omega
        have c0 := HST.out.vars.r
        go_wp2
        go_loopw [48] (fun i w2 => ∃ (q : Nat) (T' : Nat → Bool), q ≤ rm.length ∧ i = .int .i64 q ∧ Hid (St w0 w0.heap.size B1 bG bR mF bF mT bT bS (.slice AR rm.length cR) (.slice (some ⟨gG, 0, none⟩) Bs.length cG) rm.length F T' V w2) ∧ Hid (Mid rm Bs F T x q T')) (fun i _ => rm.length - (intOf i).toNat)
        case atStart => exact ⟨0, T, Nat.zero_le _, rfl, HST, hide (Mid.zero HFU.out)⟩
        case round =>
          clear c0
          obtain ⟨q, T', hq, rfl, HS2, HM⟩ := hrel
          by_cases hqn : q < rm.length
          · have c1 := HS2.out.vars.t
            have hq63 : q < 9223372036854775808 := by omega
            cases hT : T' q with
            | true =>
              have htf : trF T' q = some (.agg #[]) := by rw [trF, hT]; rfl
              have HTF := hide htf
              have HM2 := hide (HM.out.succ (fun _ => hT))
              clear htf hT
              go_wp2_with (first
                | ((with_reducible refine at_slot 54 ?_); refine wpList_look_some rfl (.tmp 52) (.tmp 53) 67 69 true rfl Try.underlying67 (.agg #[]) (unit_zero _) mT (trF T') rfl HS2.out.tri q rfl (.agg #[]) HTF.out (.tuple #[.agg #[], .bool true]) rfl ?_)
                | ((with_reducible refine at_slot 11 ?_); refine wpList_alloc_blk rfl 69 rfl _ (unit_zero _) ?_; intro w3 hb3 hl3 hs3; clear hs3)
                | ((with_reducible refine at_store 11 ?_); refine wpList_store_all rfl 69 (.tmp 11) (.tmp 55) rfl wr.heap.size 69 _ hb3 rfl [] rfl unit_info rfl (by simp) ?_; intro w4 hb4 hg4 hs4; clear hs4; have hl4 : Below wr.heap.size wr w4 := hl3.grown hg4 hl3.size (fun g e => (by injection e with e; omega)); have HS4 := hide (HS2.out.below hs hl4); have HV4 := hide HS4.out.vars; have d2 := HV4.out.g; have d3 := (HV4.out.low.cell (p := ⟨gG, x, none⟩) hgG).trans HCG.out))
              go_roundw
              case rel => exact ⟨q + 1, T', by omega, by go_num, HS4, HM2⟩
              case measure => simp [intOf]; omega
            | false =>
              have htf : trF T' q = none := by rw [trF, hT]; rfl
              have HTF := hide htf
              have HT := hide hT
              clear htf hT
              cases hb : (grp Bs x).contains (q : Int) with
              | true =>
                have HB := hide hb
                clear hb
                have HM2 := hide (HM.out.succ (fun h => absurd (by simpa using HB.out) h))
                go_wp2_with (first
                  | ((with_reducible refine at_slot 54 ?_); refine wpList_look_none rfl (.tmp 52) (.tmp 53) 67 69 true rfl Try.underlying67 (.agg #[]) (unit_zero _) mT (trF T') rfl HS2.out.tri q rfl HTF.out hq63 (.tuple #[.agg #[], .bool false]) rfl ?_)
                  | ((with_reducible refine at_slot 11 ?_); refine wpList_alloc_blk rfl 69 rfl _ (unit_zero _) ?_; intro w3 hb3 hl3 hs3; clear hs3)
                  | ((with_reducible refine at_store 11 ?_); refine wpList_store_all rfl 69 (.tmp 11) (.tmp 55) rfl wr.heap.size 69 _ hb3 rfl [] rfl unit_info rfl (by simp) ?_; intro w4 hb4 hg4 hs4; clear hs4; have hl4 : Below wr.heap.size wr w4 := hl3.grown hg4 hl3.size (fun g e => (by injection e with e; omega)); have HS4 := hide (HS2.out.below hs hl4); have HV4 := hide HS4.out.vars; have d2 := HV4.out.g; have d3 := (HV4.out.low.cell (p := ⟨gG, x, none⟩) hgG).trans HCG.out)
                  | (go_at_call 39; refine (HAM.out _ HV4.out.low q true HB.out).mono ?_; rintro _ _ ⟨rfl, z, rfl⟩))
                have HS5 := hide (HS4.out.drewN hs z)
                go_roundw
                case rel => exact ⟨q + 1, T', by omega, by go_num, HS5, HM2⟩
                case measure => simp [intOf]; omega
              | false =>
                have HB := hide hb
                clear hb
                have hnb : (q : Int) ∉ grp Bs x := by simpa using HB.out
                have HNB := hide hnb
                clear hnb
                go_wp2_with (first
                  | ((with_reducible refine at_slot 54 ?_); refine wpList_look_none rfl (.tmp 52) (.tmp 53) 67 69 true rfl Try.underlying67 (.agg #[]) (unit_zero _) mT (trF T') rfl HS2.out.tri q rfl HTF.out hq63 (.tuple #[.agg #[], .bool false]) rfl ?_)
                  | ((with_reducible refine at_slot 11 ?_); refine wpList_alloc_blk rfl 69 rfl _ (unit_zero _) ?_; intro w3 hb3 hl3 hs3; clear hs3)
                  | ((with_reducible refine at_store 11 ?_); refine wpList_store_all rfl 69 (.tmp 11) (.tmp 55) rfl wr.heap.size 69 _ hb3 rfl [] rfl unit_info rfl (by simp) ?_; intro w4 hb4 hg4 hs4; clear hs4; have hl4 : Below wr.heap.size wr w4 := hl3.grown hg4 hl3.size (fun g e => (by injection e with e; omega)); have HS4 := hide (HS2.out.below hs hl4); have HV4 := hide HS4.out.vars; have d2 := HV4.out.g; have d3 := (HV4.out.low.cell (p := ⟨gG, x, none⟩) hgG).trans HCG.out)
                  | (go_at_call 39; refine (HAM.out _ HV4.out.low q false HB.out).mono ?_; rintro _ _ ⟨rfl, z, rfl⟩; have HS5 := hide (HS4.out.drewN hs z); have d1 := HS5.out.vars.t)
                  | (refine wpList_put rfl (.tmp 66) (.tmp 67) (.tmp 68) 67 69 rfl Try.underlying67 mT (trF T') rfl HS5.out.tri q hq63 (.agg #[]) rfl rfl _ (List.Pairwise.filter _ List.nodup_range) (trF_mem (fun d hd => (HM.out.full d hd).1)) (filter_few _ _ hn) ?_; intro w6 hm6 hg6; rw [trF_set] at hm6; have HS6 := hide (HS5.out.tried hs hm6 hg6); clear hm6 hg6; have d4 := HS6.out.vars.f; obtain ⟨f, hmap, hf, hf2⟩ := HS6.out.fnd.map; obtain ⟨AV, cV, hV, hV1, hV2⟩ := own_shape (HS6.out.fnd.own q hqn); have hfq := hf q; rw [hV] at hfq; have HFQ := hide hfq; have HMAP := hide hmap; have HVQ := hide hV; clear hmap hf hf2 hfq hV)
                  | ((with_reducible refine at_slot 71 ?_); refine wpList_look_plain rfl (.tmp 69) (.tmp 70) 66 22 rfl Try.underlying66 _ (Try.zeroValue22 _) mF f rfl HMAP.out q rfl _ HFQ.out hq63 ?_))
                have HLW := hide (HM.out.low HNF.out hqn HNB.out)
                clear c1 d1 d2 d3 d4
                go_loopw [73] (fun i w7 => ∃ (j : Nat) (T2 : Nat → Bool), j ≤ (F q).length ∧ i = .int .i64 j ∧ Hid (St w0 w0.heap.size B1 bG bR mF bF mT bT bS (.slice AR rm.length cR) (.slice (some ⟨gG, 0, none⟩) Bs.length cG) rm.length F T2 V w7) ∧ Hid (Low rm Bs F T x q T' j T2)) (fun i _ => (F q).length - (intOf i).toNat)
                case atStart => exact ⟨0, _, Nat.zero_le _, rfl, HS6, HLW⟩
                case round =>
                  obtain ⟨j, T2, hj, rfl, HS7, HL⟩ := hrel
                  have hlm := HOK.out.len_le HC1.out hqn
                  by_cases hjn : j < (F q).length
                  · have hown7 := HS7.out.fnd.own q hqn
                    obtain ⟨g7, c7, hv7, _, hg7⟩ := hown7.form (by omega)
                    have hAV : AV = some ⟨g7, 0, none⟩ := by
                      have := HVQ.out
                      rw [hv7] at this
                      injection this with h1 _ _
                      exact h1.symm
                    subst hAV
                    obtain ⟨o, ho⟩ : ∃ o, (F q)[j]? = some o := ⟨_, List.getElem?_eq_getElem hjn⟩
                    have hce : wr.cell? ⟨g7, j, none⟩ = some (.int .i64 (o : Int)) := by
                      have h1 := hown7.cells (g := g7) (by rw [hv7]; rfl) j (.int .i64 (o : Int)) (by simp [I64, toI, ho])
                      have hadd : (⟨g7, 0, none⟩ : Addr).add j = ⟨g7, j, none⟩ := by unfold Addr.add; split <;> simp_all
                      rwa [hadd] at h1
                    have c5 := HS7.out.vars.s
                    have HO := hide ho
                    have hob := HOK.out.mem q o (List.mem_of_getElem? ho)
                    have hcall := HIH.out o F T2 V wr (by have := HL.out.untried_lt HM.out hqn HT.out; omega) hob.1 HS7.out HOK.out HC1.out HL.out.full
                    have HCALL := hide hcall
                    clear hcall ho hown7 hv7 hob
                    go_wp2_with fail
                    refine HCALL.out.mono ?_
                    rintro e w8 ⟨b, rfl, hpost⟩
                    rcases hpost with ⟨rfl, F8, T8, V8, hst8, hfd8⟩ | ⟨rfl, T8, hst8, hnf8⟩
                    · have HS8 := hide hst8
                      obtain ⟨hFq, hfound⟩ := HL.out.found HM.out HT.out hqn HO.out hfd8 hx HNB.out
                      have HFO := hide hfound
                      obtain ⟨f8, hmap8, hf8, _⟩ := hst8.fnd.map
                      have hown8 := hst8.fnd.own q hqn
                      obtain ⟨g8, c8, hv8, _, hg8⟩ := hown8.form (by rw [hFq]; omega)
                      have hfq8 := hf8 q
                      rw [hv8] at hfq8
                      obtain ⟨cur, hcur, hcs⟩ : ∃ cur, Blk w8 g8 3 cur ∧ (F8 q).length ≤ cur.size := by
                        rcases hown8.2 with ⟨h0, _⟩ | ⟨g', cap', cur', hv', h1, h2, h3, h4, h5, h6⟩
                        · rw [hv8] at h0; cases h0
                        · rw [hv8] at hv'
                          injection hv' with e1 _ _
                          injection e1 with e1
                          injection e1 with e1
                          subst e1
                          exact ⟨cur', h2, by omega⟩
                      have hjs : j < cur.size := by rw [hFq] at hcs; omega
                      have HJS := hide hjs
                      have HF8 := hide hfq8
                      have HM8 := hide hmap8
                      have HC8 := hide hcur
                      have hl8 : j < (F8 q).length := by rw [hFq]; exact hjn
                      have c6 := hst8.vars.f
                      have HV8 := hide hv8
                      have HO8 := hide hown8
                      clear hst8 hfd8 hfound hmap8 hf8 hown8 hv8 hfq8 hcur hcs hjs hce c5
                      go_wp2_with (first
                        | ((with_reducible refine at_slot 83 ?_); refine wpList_look_plain rfl (.tmp 81) (.tmp 82) 66 22 rfl Try.underlying66 _ (Try.zeroValue22 _) mF f8 rfl HM8.out q rfl _ HF8.out hq63 ?_)
                        | ((with_reducible refine at_store 86 ?_); refine wpList_poke rfl 3 (.tmp 86) (.tmp 85) rfl g8 j 3 cur HC8.out rfl (.int .i64 (x : Int)) rfl rfl (by kernel_rfl) HJS.out ?_; intro w9 hb9 hg9 hs9; clear hs9))
                      have hvb : (V8 q).ownBlock = some g8 := by rw [HV8.out]; rfl
                      have hown9 : w9.ownsRow B1 3 1 (V8 q) (F8 q).length (I64 (toI ((F8 q).set j x))) := by
                        have h := HO8.out
                        rw [HV8.out] at h ⊢
                        rw [toI_set]
                        exact own_poke h HC8.out hb9
                      have HS9 := hide (HS8.out.put hs hqn hg9 hvb hown9)
                      clear hown9 hb9 hg9
                      go_wp2
                      go_ret
                      exact ⟨true, rfl, .inl ⟨rfl, _, _, _, HS9.out, HFO.out⟩⟩
                    · have HS8 := hide hst8
                      have HL8 := hide (HL.out.next HO.out hnf8)
                      clear hst8 hnf8 hce c5
                      go_wp2
                      go_roundw
                      case rel => exact ⟨j + 1, T8, by omega, by go_num, HS8, HL8⟩
                      case measure => simp [intOf]; omega
                  · obtain rfl : j = (F q).length := by omega
                    have HM2 := hide (Low.end_ HM.out HL.out)
                    go_wp2
                    go_roundw
                    case rel => exact ⟨q + 1, T2, by omega, by go_num, HS7, HM2⟩
                    case measure => simp [intOf]; omega
          · obtain rfl : q = rm.length := by omega
            have HND := hide HM.out.done
            go_wp2
            go_ret
            exact ⟨false, rfl, .inr ⟨rfl, T', HS2.out, HND.out⟩⟩
#print axioms find_any
end Go.Proofs.Ytmaiikmgpeafkaa

