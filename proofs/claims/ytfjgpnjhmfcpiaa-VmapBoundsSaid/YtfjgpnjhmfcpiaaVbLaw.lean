/- VmapBounds' walk over the contracts. -/
import Derived.Test.YtfjgpnjhmfcpiaaVmV
namespace Go.Proofs.Ytfjgpnjhmfcpiaa
open Go.RowKit Go.Maps
set_option linter.unusedVariables false
theorem vb_new : newV 3 = [Wh.none_, Wh.none_, Wh.none_] := rfl
theorem vb_dis (q : Wh) : Dis [Wh.none_, q, Wh.none_] := by
  unfold Dis
  refine List.Pairwise.cons (fun a _ _ => rfl) (List.Pairwise.cons (fun a ha e => ?_) (List.pairwise_singleton _ _))
  rw [e, List.mem_singleton.1 ha]
  rfl
theorem vb_set (q : Wh) : setE (newV 3) [((1 : Int), q)] = (if q.ok = true then 0 else 1) ∧ atW (setV (newV 3) [((1 : Int), q)]) 1 = (if q.ok = true then q else Wh.none_) ∧ atE (setV (newV 3) [((1 : Int), q)]) 1 = 0 := by
  have hb : badE (newV 3).length [((1 : Int), q)] = if q.ok = true then 0 else 1 := by
    unfold badE
    rw [if_pos (by rw [vb_new]; rfl)]
    simp
  have hc : chgs (newV 3) [((1 : Int), q)] = [Wh.none_, q, Wh.none_] := rfl
  by_cases hq : q.ok = true
  · rw [if_pos hq] at hb
    have he : setE (newV 3) [((1 : Int), q)] = 0 := by unfold setE; rw [if_pos hb, hc, if_pos (vb_dis q)]
    rw [if_pos hq, if_pos hq, setV_yes he, hc]
    exact ⟨he, rfl, rfl⟩
  · rw [if_neg hq] at hb
    have he : setE (newV 3) [((1 : Int), q)] = 1 := by unfold setE; rw [hb, if_neg (by decide)]
    rw [if_neg hq, if_neg hq, setV_no (by rw [he]; decide)]
    exact ⟨he, rfl, rfl⟩
theorem ok_none (q : Wh) (h : q.t = 0 ∨ (q.t ≠ 1 ∧ q.t ≠ 2)) : q.ok = decide (q = Wh.none_) := by
  by_cases h0 : q.t = 0
  · unfold Wh.ok
    rw [if_pos h0]
    have : (q.g = 0 ∧ q.s = 0) ↔ q = Wh.none_ := by
      cases q
      simp only [Wh.none_, Wh.mk.injEq]
      simp only at h0
      omega
    simp only [this]
  · have h2 := h.resolve_left h0
    have : q ≠ Wh.none_ := fun e => h0 (by rw [e]; rfl)
    rw [decide_eq_false this]
    unfold Wh.ok
    rw [if_neg h0, if_neg h2.1, if_neg h2.2]
set_option maxRecDepth 100000 in
set_option maxHeartbeats 4000000 in
theorem vmapBounds_walk (q : Wh) (hq : q.fits) (w : World) : Calls Try.prog 6 #[.agg (whC q).toArray] w fun e w' => e = .returned (.bool true) ∧ Below w.heap.size w w' := by
  have HS_w : Hid (Sta w w [] []) := hide (Sta.begin w)
  have HSH := hide shown15_any
  have HQF := hide hq
  have HOK := hide ok01
  have heq := run_eql_vm
  obtain ⟨v0, h0⟩ : ∃ v, newV 3 = v := ⟨_, rfl⟩
  have hvb := vb_set q
  rw [h0] at hvb
  have HV0 := hide h0
  obtain ⟨v1, h1⟩ : ∃ v, setV v0 [((1 : Int), q)] = v := ⟨_, rfl⟩
  rw [h1] at hvb
  have HV1 := hide h1
  obtain ⟨E, hE⟩ : ∃ e, setE v0 [((1 : Int), q)] = e := ⟨_, rfl⟩
  have HE := hide hE
  rw [hE] at hvb
  have HVB := hide hvb
  obtain ⟨z, hz⟩ : ∃ z, decide (q = Wh.none_) = z := ⟨_, rfl⟩
  have HZ := hide hz
  clear hq h0 hvb h1 hE hz
  go_enter Try.func6, Try.ntmps6
  go_upto_region 8 with (first
    | ((with_reducible refine at_slot 1 ?_); refine wpList_box_blk rfl 24 _ rfl (.agg (whC q).toArray) rfl ?_; intro y1 hbq hl1 hs1; have HS_y1 : Hid (Sta w y1 [] [(w.heap.size, 24, whC q)]) := hide (HS_w.out.var hl1 (Nat.le_refl _) hbq); clear hbq hl1 hs1)
    | (go_at_call 9; refine (HSH.out _).mono ?_; rintro _ y2 ⟨rfl, hlq⟩; have HS_y2 : Hid (Sta w y2 [] [(w.heap.size, 24, whC q)]) := hide (HS_y1.out.later hlq); clear hlq)
    | (go_at_call 10; refine (HS_y2.out.mk_ 3).mono ?_; rintro _ y3 ⟨m, rfl, hsq⟩; rw [HV0.out] at hsq; have HS_y3 : Hid (Sta w y3 [vmT m v0] [(w.heap.size, 24, whC q)]) := hide hsq; clear hsq)
    | ((with_reducible refine at_slot 20 ?_); refine when_loadW rfl (.tmp 1) rfl ⟨w.heap.size, 0, none⟩ (q) (blk_at (cs := whC (q)) (HS_y3.out.own.blk 0 rfl)) rfl ?_)
    | ((with_reducible refine at_slot 21 ?_); refine wpList_build_is rfl 34 _ rfl [(0, .int .i64 1), (1, .agg (whC q).toArray)] (by first | (simp [Act.eval]; done) | (simp [Act.eval, Act.put]; done)) _ (ch_built 1 q) ?_)
    | ((with_reducible refine at_slot 22 ?_); refine wpList_oneC rfl (.tmp 21) rfl (((1 : Int), q)) rfl ?_; intro y4 hbq hl1; have HS_y4 : Hid (Sta w y4 [vmT m v0] [(w.heap.size, 24, whC q), (y3.heap.size, 34, chsL [((1 : Int), q)])]) := hide (HS_y3.out.var hl1 (Nat.le_refl _) hbq); clear hbq hl1)
    | (go_at_call 12; refine (HS_y4.out.set_ 0 rfl (chIn_blk (L := [((1 : Int), q)]) (HS_y4.out.own.blk 1 rfl) (one_fits HOK.out.2 HQF.out) (by simp) (by simp))).mono ?_; rintro _ y5 ⟨rfl, hsq⟩; rw [HE.out]; rw [HV1.out] at hsq; have HS_y5 : Hid (Sta w y5 [vmT m v1] [(w.heap.size, 24, whC q), (y3.heap.size, 34, chsL [((1 : Int), q)])]) := hide hsq; clear hsq)
    | ((with_reducible refine at_slot 24 ?_); refine when_loadW rfl (.tmp 1) rfl ⟨w.heap.size, 0, none⟩ (q) (blk_at (cs := whC (q)) (HS_y5.out.own.blk 0 rfl)) rfl ?_)
    | ((with_reducible refine at_slot 25 ?_); refine wpList_build_is rfl 24 _ rfl _ rfl _ (wh_built0) ?_)
    | ((with_reducible refine at_slot 26 ?_); refine when_eqW rfl (.tmp 24) (.tmp 25) _ rfl q Wh.none_ rfl rfl z HZ.out ?_))
  have c0 : y5.cell? ⟨w.heap.size, 0, none⟩ = some (.int .i64 q.t) := (HS_y5.out.own.blk 0 rfl).cell 0
  have c1 : y5.cell? ⟨w.heap.size, 1, none⟩ = some (.int .i64 q.g) := (HS_y5.out.own.blk 0 rfl).cell 1
  have c2 : y5.cell? ⟨w.heap.size, 2, none⟩ = some (.int .i64 q.s) := (HS_y5.out.own.blk 0 rfl).cell 2
  go_cut [35] (fun s35 wx => y5 = wx ∧ ∃ b : Bool, s35 = .bool b ∧ Hid (b = true ↔ (q.t = 1 ∨ q.t = 2)))
  case first =>
    obtain ⟨pt, hpt⟩ : ∃ x, x = q.t := ⟨_, rfl⟩
    rw [← hpt] at c0
    have HPT := hide hpt
    clear hpt
    by_cases h1 : pt = 1
    · subst h1
      go_wp2_with fail
      go_meet
      case rel => exact ⟨rfl, true, rfl, hide ⟨fun _ => .inl HPT.out.symm, fun _ => rfl⟩⟩
    · have k1 : (pt == 1) = false := by simpa using h1
      by_cases h2 : pt = 2
      · subst h2
        clear h1 k1
        go_wp2_with fail
        go_meet
        case rel => exact ⟨rfl, true, rfl, hide ⟨fun _ => .inr HPT.out.symm, fun _ => rfl⟩⟩
      · have k2 : (pt == 2) = false := by simpa using h2
        have HN := hide (And.intro h1 h2)
        clear h1 h2
        go_wp2_with fail
        go_meet
        case rel => exact ⟨rfl, false, rfl, hide ⟨fun h => by (cases h), fun h => by (rcases h with h | h; exact absurd (HPT.out.trans h) HN.out.1; exact absurd (HPT.out.trans h) HN.out.2)⟩⟩
  obtain ⟨rfl, bb, rfl, HBB⟩ := hcut
  go_upto_if 35 with fail
  go_cut [7, 8] (fun s7 _ wx => y5 = wx ∧ s7 = .bool q.ok)
  case first =>
    obtain ⟨pt, hpt⟩ : ∃ x, x = q.t := ⟨_, rfl⟩
    obtain ⟨pg, hpg⟩ : ∃ x, x = q.g := ⟨_, rfl⟩
    obtain ⟨ps, hps⟩ : ∃ x, x = q.s := ⟨_, rfl⟩
    rw [← hpt] at c0 HBB
    rw [← hpg] at c1
    rw [← hps] at c2
    have HK : Hid (q.ok = Wh.ok ⟨pt, pg, ps⟩) := hide (by rw [hpt, hpg, hps])
    have HZ2 : Hid ((pt = 0 ∨ (pt ≠ 1 ∧ pt ≠ 2)) → q.ok = z) := hide (fun h => (ok_none q (by rw [← hpt]; exact h)).trans HZ.out)
    clear hpt hpg hps
    by_cases h1 : pt = 1
    · subst h1
      obtain rfl : bb = true := HBB.out.2 (.inl rfl)
      by_cases a : 0 ≤ ps
      · skip
        by_cases b : ps ≤ 7
        · skip
          by_cases c : 0 ≤ pg
          · skip
            by_cases d : pg ≤ 255
            · have HE1 := hide (HK.out.trans (show Wh.ok ⟨1, pg, ps⟩ = true by
                unfold Wh.ok
                dsimp only
                rw [if_neg (show ¬ ((1 : Int) = 0) by decide), if_pos rfl]; exact decide_eq_true (by omega)))
              clear HZ2
              go_wp2_with fail
              go_meet
              case rel => exact ⟨rfl, by rw [HE1.out]⟩
            · have HE1 := hide (HK.out.trans (show Wh.ok ⟨1, pg, ps⟩ = false by
                unfold Wh.ok
                dsimp only
                rw [if_neg (show ¬ ((1 : Int) = 0) by decide), if_pos rfl]; exact decide_eq_false (by omega)))
              clear HZ2
              have n1 : 255 < pg := by omega
              go_wp2_with fail
              go_meet
              case rel => exact ⟨rfl, by rw [HE1.out]⟩
          · have HE1 := hide (HK.out.trans (show Wh.ok ⟨1, pg, ps⟩ = false by
              unfold Wh.ok
              dsimp only
              rw [if_neg (show ¬ ((1 : Int) = 0) by decide), if_pos rfl]; exact decide_eq_false (by omega)))
            clear HZ2
            have n1 : pg < 0 := by omega
            go_wp2_with fail
            go_meet
            case rel => exact ⟨rfl, by rw [HE1.out]⟩
        · have HE1 := hide (HK.out.trans (show Wh.ok ⟨1, pg, ps⟩ = false by
            unfold Wh.ok
            dsimp only
            rw [if_neg (show ¬ ((1 : Int) = 0) by decide), if_pos rfl]; exact decide_eq_false (by omega)))
          clear HZ2
          have n1 : 7 < ps := by omega
          go_wp2_with fail
          go_meet
          case rel => exact ⟨rfl, by rw [HE1.out]⟩
      · have HE1 := hide (HK.out.trans (show Wh.ok ⟨1, pg, ps⟩ = false by
          unfold Wh.ok
          dsimp only
          rw [if_neg (show ¬ ((1 : Int) = 0) by decide), if_pos rfl]; exact decide_eq_false (by omega)))
        clear HZ2
        have n1 : ps < 0 := by omega
        go_wp2_with fail
        go_meet
        case rel => exact ⟨rfl, by rw [HE1.out]⟩
    by_cases h2 : pt = 2
    · subst h2
      obtain rfl : bb = true := HBB.out.2 (.inr rfl)
      by_cases a : 0 ≤ ps
      · skip
        by_cases b : ps ≤ 87
        · skip
          by_cases c : 0 ≤ pg
          · skip
            by_cases d : pg ≤ 255
            · have HE1 := hide (HK.out.trans (show Wh.ok ⟨2, pg, ps⟩ = true by
                unfold Wh.ok
                dsimp only
                rw [if_neg (show ¬ ((2 : Int) = 0) by decide), if_neg (show ¬ ((2 : Int) = 1) by decide), if_pos rfl]; exact decide_eq_true (by omega)))
              clear HZ2
              go_wp2_with fail
              go_meet
              case rel => exact ⟨rfl, by rw [HE1.out]⟩
            · have HE1 := hide (HK.out.trans (show Wh.ok ⟨2, pg, ps⟩ = false by
                unfold Wh.ok
                dsimp only
                rw [if_neg (show ¬ ((2 : Int) = 0) by decide), if_neg (show ¬ ((2 : Int) = 1) by decide), if_pos rfl]; exact decide_eq_false (by omega)))
              clear HZ2
              have n1 : 255 < pg := by omega
              go_wp2_with fail
              go_meet
              case rel => exact ⟨rfl, by rw [HE1.out]⟩
          · have HE1 := hide (HK.out.trans (show Wh.ok ⟨2, pg, ps⟩ = false by
              unfold Wh.ok
              dsimp only
              rw [if_neg (show ¬ ((2 : Int) = 0) by decide), if_neg (show ¬ ((2 : Int) = 1) by decide), if_pos rfl]; exact decide_eq_false (by omega)))
            clear HZ2
            have n1 : pg < 0 := by omega
            go_wp2_with fail
            go_meet
            case rel => exact ⟨rfl, by rw [HE1.out]⟩
        · have HE1 := hide (HK.out.trans (show Wh.ok ⟨2, pg, ps⟩ = false by
            unfold Wh.ok
            dsimp only
            rw [if_neg (show ¬ ((2 : Int) = 0) by decide), if_neg (show ¬ ((2 : Int) = 1) by decide), if_pos rfl]; exact decide_eq_false (by omega)))
          clear HZ2
          have n1 : 87 < ps := by omega
          go_wp2_with fail
          go_meet
          case rel => exact ⟨rfl, by rw [HE1.out]⟩
      · have HE1 := hide (HK.out.trans (show Wh.ok ⟨2, pg, ps⟩ = false by
          unfold Wh.ok
          dsimp only
          rw [if_neg (show ¬ ((2 : Int) = 0) by decide), if_neg (show ¬ ((2 : Int) = 1) by decide), if_pos rfl]; exact decide_eq_false (by omega)))
        clear HZ2
        have n1 : ps < 0 := by omega
        go_wp2_with fail
        go_meet
        case rel => exact ⟨rfl, by rw [HE1.out]⟩
    obtain rfl : bb = false := by
      cases bb with
      | false => rfl
      | true => exact absurd (HBB.out.1 rfl) (by rintro (h | h) <;> contradiction)
    have HE1 := hide (HZ2.out (.inr ⟨h1, h2⟩))
    have k1 : (pt == 1) = false := by simpa using h1
    have k2 : (pt == 2) = false := by simpa using h2
    clear h1 h2 HZ2
    go_wp2_with fail
    go_meet
    case rel => exact ⟨rfl, by rw [HE1.out]⟩
  obtain ⟨rfl, rfl⟩ := hcut
  clear c0 c1 c2
  cases hqok : q.ok with
  | true =>
    have hvb := HVB.out
    rw [hqok] at hvb
    have HX1 := hide (show E = 0 ∧ atW v1 1 = q ∧ atE v1 1 = 0 from hvb)
    obtain ⟨rfl, hx2, hx3⟩ := HX1.out
    have HX2 := hide hx2
    have HX3 := hide hx3
    clear hvb HX1 hx2 hx3 HVB
    clear hqok
    go_wp2_with (first
      | (go_at_call 16; refine (HS_y5.out.at_ 0 rfl 1).mono ?_; rintro _ y6 ⟨rfl, hsq⟩; rw [HX2.out, HX3.out]; have HS_y6 : Hid (Sta w y6 [vmT m v1] [(w.heap.size, 24, whC q), (y3.heap.size, 34, chsL [((1 : Int), q)])]) := hide hsq; clear hsq)
      | ((with_reducible refine at_slot 9 ?_); refine wpList_alloc_blk rfl 24 rfl _ (wh_zero _) ?_; intro y7 hbq hl1 hs1; clear hs1)
      | ((with_reducible refine at_store 9 ?_); refine wpList_store_all rfl 24 (.tmp 9) (.tmp 61) rfl y6.heap.size 24 _ hbq rfl (whC q) rfl (wh_info _) rfl (wh_one _) ?_; intro y8 hbz hg hs; have HS_y8 : Hid (Sta w y8 [vmT m v1] [(w.heap.size, 24, whC q), (y3.heap.size, 34, chsL [((1 : Int), q)]), (y6.heap.size, 24, whC q)]) := hide (HS_y6.out.new hl1 hg hbz); clear hs hbq hl1 hg hbz)
      | ((with_reducible refine at_slot 79 ?_); refine when_loadW rfl (.tmp 9) rfl ⟨y6.heap.size, 0, none⟩ (q) (blk_at (cs := whC (q)) (HS_y8.out.own.blk 2 rfl)) rfl ?_)
      | ((with_reducible refine at_slot 80 ?_); refine when_loadW rfl (.tmp 1) rfl ⟨w.heap.size, 0, none⟩ (q) (blk_at (cs := whC (q)) (HS_y8.out.own.blk 0 rfl)) rfl ?_)
      | ((with_reducible refine at_slot 81 ?_); refine when_eqW rfl (.tmp 79) (.tmp 80) _ rfl q q rfl rfl true (by simp) ?_))
    go_ret
    exact ⟨rfl, HS_y8.out.low⟩
  | false =>
    have hvb := HVB.out
    rw [hqok] at hvb
    have HX1 := hide (show E = 1 ∧ atW v1 1 = Wh.none_ ∧ atE v1 1 = 0 from hvb)
    obtain ⟨rfl, hx2, hx3⟩ := HX1.out
    have HX2 := hide hx2
    have HX3 := hide hx3
    clear hvb HX1 hx2 hx3 HVB
    have HNQ := hide (show decide (Wh.none_ = q) = false from decide_eq_false (fun e => by rw [← e] at hqok; cases hqok))
    clear hqok
    go_wp2_with (first
      | (go_at_call 16; refine (HS_y5.out.at_ 0 rfl 1).mono ?_; rintro _ y6 ⟨rfl, hsq⟩; rw [HX2.out, HX3.out]; have HS_y6 : Hid (Sta w y6 [vmT m v1] [(w.heap.size, 24, whC q), (y3.heap.size, 34, chsL [((1 : Int), q)])]) := hide hsq; clear hsq)
      | ((with_reducible refine at_slot 9 ?_); refine wpList_alloc_blk rfl 24 rfl _ (wh_zero _) ?_; intro y7 hbq hl1 hs1; clear hs1)
      | ((with_reducible refine at_store 9 ?_); refine wpList_store_all rfl 24 (.tmp 9) (.tmp 61) rfl y6.heap.size 24 _ hbq rfl (whC Wh.none_) rfl (wh_info _) rfl (wh_one _) ?_; intro y8 hbz hg hs; have HS_y8 : Hid (Sta w y8 [vmT m v1] [(w.heap.size, 24, whC q), (y3.heap.size, 34, chsL [((1 : Int), q)]), (y6.heap.size, 24, whC Wh.none_)]) := hide (HS_y6.out.new hl1 hg hbz); clear hs hbq hl1 hg hbz)
      | ((with_reducible refine at_slot 79 ?_); refine when_loadW rfl (.tmp 9) rfl ⟨y6.heap.size, 0, none⟩ (Wh.none_) (blk_at (cs := whC (Wh.none_)) (HS_y8.out.own.blk 2 rfl)) rfl ?_)
      | ((with_reducible refine at_slot 80 ?_); refine when_loadW rfl (.tmp 1) rfl ⟨w.heap.size, 0, none⟩ (q) (blk_at (cs := whC (q)) (HS_y8.out.own.blk 0 rfl)) rfl ?_)
      | ((with_reducible refine at_slot 81 ?_); refine when_eqW rfl (.tmp 79) (.tmp 80) _ rfl Wh.none_ q rfl rfl false HNQ.out ?_))
    go_ret
    exact ⟨rfl, HS_y8.out.low⟩
#print axioms vmapBounds_walk
end Go.Proofs.Ytfjgpnjhmfcpiaa
