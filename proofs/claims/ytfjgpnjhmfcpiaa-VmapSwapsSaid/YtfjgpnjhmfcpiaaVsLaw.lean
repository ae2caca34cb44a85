/- VmapSwaps' walk over the contracts. -/
import Derived.Test.YtfjgpnjhmfcpiaaVmV
import Derived.Test.YtfjgpnjhmfcpiaaArgW
import Derived.Deep.DeepCutAuto
import Derived.Deep.CutBlock
namespace Go.Proofs.Ytfjgpnjhmfcpiaa
open Go.RowKit Go.Maps
set_option linter.unusedVariables false
/-- Numbers masked. -/
theorem vmask (v : Int) (k : Nat) (hk : k ≤ 16) : ∃ N : Nat, bits .and .i64 v (2 ^ k - 1) = (N : Int) ∧ N < 2 ^ k := by
  have h := i64_mask v k (by omega)
  have hp : (0 : Int) < 2 ^ k := Int.pow_pos (by decide)
  refine ⟨(v % 2 ^ k).toNat, ?_, ?_⟩
  · rw [h]
    have := Int.emod_nonneg v (Int.ne_of_gt hp)
    omega
  · have h1 := Int.emod_nonneg v (Int.ne_of_gt hp)
    have h2 := Int.emod_lt_of_pos v hp
    have h3 : (2 : Int) ^ k = ((2 ^ k : Nat) : Int) := by simp
    rw [h3] at h1 h2 ⊢
    omega
theorem vmask255 (v : Int) : ∃ N : Nat, bits .and .i64 v 255 = (N : Int) ∧ N < 256 := vmask v 8 (by decide)
theorem dis_iff {V : List Wh} : Dis V ↔ ∀ (i j : Nat) (p : Wh), i ≠ j → V[i]? = some p → V[j]? = some p → p.t = 0 := by
  constructor
  · intro h i j p hne hi hj
    obtain ⟨hi1, hi2⟩ := List.getElem?_eq_some_iff.1 hi
    obtain ⟨hj1, hj2⟩ := List.getElem?_eq_some_iff.1 hj
    have hp := List.pairwise_iff_getElem.1 h
    rcases Nat.lt_or_ge i j with hij | hij
    · have := hp i j hi1 hj1 hij (hi2.trans hj2.symm)
      rwa [hi2] at this
    · have := hp j i hj1 hi1 (by omega) (hj2.trans hi2.symm)
      rwa [hj2] at this
  · intro h
    refine List.pairwise_iff_getElem.2 fun i j hi hj hij e => ?_
    exact h i j _ (by omega) (List.getElem?_eq_getElem hi) (by rw [List.getElem?_eq_getElem hj, e])
/-- Two blocks change places. -/
theorem swap_facts {V : List Wh} (h : OkV V) {a b : Nat} {x y : Wh} (ha : V[a]? = some x) (hb : V[b]? = some y) (hne : a ≠ b) (hx : x.t ≠ 0) (hy : y.t ≠ 0) :
    setE V [((a : Int), y)] = 9 ∧ setV V [((a : Int), y)] = V ∧ setE V [((a : Int), y), ((b : Int), x)] = 0 ∧ atW (setV V [((a : Int), y), ((b : Int), x)]) (a : Int) = y ∧ atW (setV V [((a : Int), y), ((b : Int), x)]) (b : Int) = x := by
  have ha1 := (List.getElem?_eq_some_iff.1 ha).1
  have hb1 := (List.getElem?_eq_some_iff.1 hb).1
  have ha2 : inB V.length (a : Int) = true := by unfold inB; exact decide_eq_true (by omega)
  have hb2 : inB V.length (b : Int) = true := by unfold inB; exact decide_eq_true (by omega)
  have hox := h.ok x (List.mem_of_getElem? ha)
  have hoy := h.ok y (List.mem_of_getElem? hb)
  have g1 : chgs V [((a : Int), y)] = V.set a y := by unfold chgs; simp
  have g2 : chgs V [((a : Int), y), ((b : Int), x)] = (V.set a y).set b x := by unfold chgs; simp
  have n1 : ¬ Dis (V.set a y) := fun hd => hy (dis_iff.1 hd a b y hne (by rw [List.getElem?_set, if_pos rfl, if_pos ha1]) (by rw [List.getElem?_set, if_neg hne]; exact hb))
  have e1 : setE V [((a : Int), y)] = 9 := by
    have hz : badE V.length [((a : Int), y)] = 0 := badE_ok (fun c hc => by rw [List.mem_singleton.1 hc]; exact ha2) (fun c hc => by rw [List.mem_singleton.1 hc]; exact hoy)
    unfold setE
    rw [if_pos hz, g1, if_neg n1]
  have hat : ∀ i, ((V.set a y).set b x)[i]? = if i = b then some x else if i = a then some y else V[i]? := fun i => by
    rw [List.getElem?_set, List.length_set]
    by_cases hib : i = b
    · rw [if_pos hib.symm, if_pos hib, if_pos hb1]
    · rw [if_neg (fun e => hib e.symm), if_neg hib, List.getElem?_set]
      by_cases hia : i = a
      · rw [if_pos hia.symm, if_pos hia, if_pos ha1]
      · rw [if_neg (fun e => hia e.symm), if_neg hia]
  have d2 : Dis ((V.set a y).set b x) := by
    refine dis_iff.2 fun i j p hij hi hj => ?_
    have hd := dis_iff.1 h.dis
    rw [hat] at hi hj
    -- the place where it was
    have hs : ∀ i, (if i = b then some x else if i = a then some y else V[i]?) = V[if i = b then a else if i = a then b else i]? := fun i => by
      by_cases hib : i = b
      · rw [if_pos hib, if_pos hib, ha]
      · rw [if_neg hib, if_neg hib]
        by_cases hia : i = a
        · rw [if_pos hia, if_pos hia, hb]
        · rw [if_neg hia, if_neg hia]
    rw [hs] at hi hj
    refine hd _ _ p (fun e => ?_) hi hj
    repeat' split at e
    all_goals omega
  have e2 : setE V [((a : Int), y), ((b : Int), x)] = 0 := by
    have hz : badE V.length [((a : Int), y), ((b : Int), x)] = 0 := badE_ok (fun c hc => by
      rcases List.mem_cons.1 hc with rfl | hc
      · exact ha2
      · rw [List.mem_singleton.1 hc]; exact hb2) (fun c hc => by
      rcases List.mem_cons.1 hc with rfl | hc
      · exact hoy
      · rw [List.mem_singleton.1 hc]; exact hox)
    unfold setE
    rw [if_pos hz, g2, if_pos d2]
  have hl : ((V.set a y).set b x).length = V.length := by rw [List.length_set, List.length_set]
  refine ⟨e1, setV_no (by rw [e1]; decide), e2, ?_, ?_⟩
  · rw [setV_yes e2, g2]
    unfold atW
    rw [hl, ha2, if_pos rfl, Int.toNat_natCast]
    exact getD_at (by rw [hat, if_neg hne, if_pos rfl])
  · rw [setV_yes e2, g2]
    unfold atW
    rw [hl, hb2, if_pos rfl, Int.toNat_natCast]
    exact getD_at (by rw [hat, if_pos rfl])
theorem atW_in {V : List Wh} {a : Nat} {x : Wh} (h : V[a]? = some x) : atW V (a : Int) = x := by
  have ha1 := (List.getElem?_eq_some_iff.1 h).1
  unfold atW
  rw [show inB V.length (a : Int) = true by unfold inB; exact decide_eq_true (by omega), if_pos rfl, Int.toNat_natCast]
  exact getD_at h
set_option maxRecDepth 100000 in
set_option maxHeartbeats 8000000 in
theorem vmapSwaps_walk (ni : Int) (A : Option Addr) (n c : Nat) (L : List Ch) (a b : Int) (w : World) (hx : ChsIn w w.heap.size ⟨A, n, c, L⟩) :
    Calls Try.prog 5 #[.int .i64 ni, .slice A n c, .int .i64 a, .int .i64 b] w fun e w' => e = .returned (.bool true) ∧ Below w.heap.size w w' := by
  have HS_w : Hid (Sta w w [] []) := hide (Sta.begin w)
  have HSH := hide shown15_any
  have HX := hide hx
  have HXL := hide (show L.length = n by have := hx.rd.1; rw [chsL_len] at this; dsimp only at this; omega)
  have hnc : n ≤ c := hx.le
  have hcm : c ≤ 9223372036854775807 := hx.lt
  have heq := run_eql_vm
  obtain ⟨v0, h0⟩ : ∃ v, newV ni = v := ⟨_, rfl⟩
  have HV0 := hide h0
  clear hx h0
  go_enter Try.func5, Try.ntmps5
  go_upto_block 0 with (first
    | (go_at_call 9; refine (HSH.out _).mono ?_; rintro _ y1 ⟨rfl, hlq⟩; have HS_y1 : Hid (Sta w y1 [] []) := hide (HS_w.out.later hlq); clear hlq)
    | (go_at_call 10; refine (HS_y1.out.mk_ ni).mono ?_; rintro _ y2 ⟨m, rfl, hsq⟩; rw [HV0.out] at hsq; have HS_y2 : Hid (Sta w y2 [vmT m v0] []) := hide hsq; clear hsq))
  go_cut [11] (fun _ wx => ∃ V : List Wh, Hid (Sta w wx [vmT m V] []))
  case first =>
    go_wp2_with fail
    go_loopw [11] (fun s11 wr => ∃ (i : Nat) (V : List Wh), s11 = .int .i64 (i : Int) ∧ i ≤ 60 ∧ Hid (Sta w wr [vmT m V] [])) (fun s11 _ => 60 - (intOf s11).toNat)
    case atStart => exact ⟨0, v0, rfl, by decide, HS_y2⟩
    case round =>
      obtain ⟨i, V, rfl, hi60, HS_z1⟩ := hrel
      obtain ⟨z1, rfl⟩ : ∃ z, z = wr := ⟨_, rfl⟩
      by_cases hin : (i : Int) < (n : Int)
      · by_cases h60 : (i : Int) < 60
        · obtain ⟨q, hq⟩ : ∃ q, L[i]? = some q := ⟨_, List.getElem?_eq_getElem (by rw [HXL.out]; omega)⟩
          obtain ⟨ad, hA, hone⟩ := HX.out.one HS_z1.out.low hq
          dsimp only at hA
          subst hA
          have HONE := hide hone
          clear hone hq
          go_wp2_with (first
            | (go_at_call 12; refine (HS_z1.out.set_ 0 rfl HONE.out).mono ?_; rintro _ z2 ⟨rfl, hsq⟩; have HS_z2 : Hid (Sta w z2 [vmT m (setV V [q])] []) := hide hsq; clear hsq))
          go_roundw
          case rel => exact ⟨i + 1, _, by go_num, by omega, HS_z2⟩
          case measure => simp [intOf]; omega
        · have hd : decide ((i : Int) < 60) = false := by simpa using h60
          go_wp2_with fail
          go_meet
          exact ⟨V, HS_z1⟩
      · have hd : decide ((i : Int) < (n : Int)) = false := by simpa using hin
        go_wp2_with fail
        go_meet
        exact ⟨V, HS_z1⟩
  obtain ⟨V, HS_z⟩ := hcut
  obtain ⟨z, hz⟩ : ∃ z, z = wc := ⟨_, rfl⟩
  subst hz
  have hok := HS_z.out.okV 0 rfl
  have HOKV := hide hok
  have h1 := hok.one
  have h96 := hok.few
  obtain ⟨N, hN⟩ : ∃ N, V.length = N := ⟨_, rfl⟩
  rw [hN] at h1 h96
  have HN := hide hN
  obtain ⟨M1, hm1, hm1'⟩ := vmask255 a
  obtain ⟨M2, hm2, hm2'⟩ := vmask255 b
  have hlt1 : ¬ ((N : Int) < 1) := by omega
  have hN0 : ((N : Int) == 0) = false := by simp; omega
  clear hok hN
  go_upto_region 13 with (first
    | (go_at_call 23; refine (HS_z.out.len_ 0 rfl).mono ?_; rintro _ _ ⟨rfl, rfl⟩; rw [HN.out]))
  obtain ⟨a1, ha1⟩ : ∃ k : Nat, k = M1 % N := ⟨_, rfl⟩
  obtain ⟨b1, hb1⟩ : ∃ k : Nat, k = M2 % N := ⟨_, rfl⟩
  have ea : ((M1 : Int) % (N : Int)) = (a1 : Int) := by rw [ha1]; omega
  have eb : ((M2 : Int) % (N : Int)) = (b1 : Int) := by rw [hb1]; omega
  rw [ea, eb]
  have han : a1 < N := by rw [ha1]; exact Nat.mod_lt _ (by omega)
  have hbn : b1 < N := by rw [hb1]; exact Nat.mod_lt _ (by omega)
  obtain ⟨x, hx⟩ : ∃ x, V[a1]? = some x := ⟨_, List.getElem?_eq_getElem (by rw [HN.out]; exact han)⟩
  obtain ⟨y, hy⟩ : ∃ y, V[b1]? = some y := ⟨_, List.getElem?_eq_getElem (by rw [HN.out]; exact hbn)⟩
  have HXA := hide (atW_in hx)
  have HYB := hide (atW_in hy)
  have HVX := hide hx
  have HVY := hide hy
  have HFX := hide (Wh.ok_fits (HOKV.out.ok x (List.mem_of_getElem? hx)))
  have HFY := hide (Wh.ok_fits (HOKV.out.ok y (List.mem_of_getElem? hy)))
  have HA6 := hide (show okI64 (a1 : Int) by unfold okI64; omega)
  have HB6 := hide (show okI64 (b1 : Int) by unfold okI64; omega)
  clear ha1 hb1 ea eb hx hy hm1 hm2 hm1' hm2' hlt1 hN0
  go_upto_region 15 with (first
    | (go_at_call 16; (with_reducible refine (HS_z.out.at_ 0 rfl (a1 : Int)).mono ?_); rintro _ y21 ⟨rfl, hsq⟩; rw [HXA.out]; have HS_y21 : Hid (Sta w y21 [vmT m V] []) := hide hsq; clear hsq)
    | ((with_reducible refine at_slot 12 ?_); refine wpList_alloc_blk rfl 24 rfl _ (wh_zero _) ?_; intro y22 hbq hl1 hs1; clear hs1)
    | ((with_reducible refine at_store 12 ?_); refine wpList_store_all rfl 24 (.tmp 12) (.tmp 65) rfl y21.heap.size 24 _ hbq rfl (whC x) rfl (wh_info _) rfl (wh_one _) ?_; intro y23 hbz hg hs; have HS_y23 : Hid (Sta w y23 [vmT m V] [(y21.heap.size, 24, whC x)]) := hide (HS_y21.out.new hl1 hg hbz); clear hs hbq hl1 hg hbz)
    | (go_at_call 16; (with_reducible refine (HS_y23.out.at_ 0 rfl (b1 : Int)).mono ?_); rintro _ y24 ⟨rfl, hsq⟩; rw [HYB.out]; have HS_y24 : Hid (Sta w y24 [vmT m V] [(y21.heap.size, 24, whC x)]) := hide hsq; clear hsq)
    | ((with_reducible refine at_slot 14 ?_); refine wpList_alloc_blk rfl 24 rfl _ (wh_zero _) ?_; intro y25 hbq hl1 hs1; clear hs1)
    | ((with_reducible refine at_store 14 ?_); refine wpList_store_all rfl 24 (.tmp 14) (.tmp 71) rfl y24.heap.size 24 _ hbq rfl (whC y) rfl (wh_info _) rfl (wh_one _) ?_; intro y26 hbz hg hs; have HS_y26 : Hid (Sta w y26 [vmT m V] [(y21.heap.size, 24, whC x), (y24.heap.size, 24, whC y)]) := hide (HS_y24.out.new hl1 hg hbz); clear hs hbq hl1 hg hbz))
  have c0 : y26.cell? ⟨y21.heap.size, 0, none⟩ = some (.int .i64 x.t) := (HS_y26.out.own.blk 0 rfl).cell 0
  have c1 : y26.cell? ⟨y24.heap.size, 0, none⟩ = some (.int .i64 y.t) := (HS_y26.out.own.blk 1 rfl).cell 0
  by_cases hab : a1 = b1
  · have hd : ((a1 : Int) == (b1 : Int)) = true := by simp; omega
    go_wp2_with fail
    go_ret
    exact ⟨rfl, HS_y26.out.low⟩
  have hd : ((a1 : Int) == (b1 : Int)) = false := by simp; omega
  by_cases hx0 : x.t = 0
  · have hd2 : (x.t == 0) = true := by simpa using hx0
    go_wp2_with fail
    go_ret
    exact ⟨rfl, HS_y26.out.low⟩
  have hd2 : (x.t == 0) = false := by simpa using hx0
  by_cases hy0 : y.t = 0
  · have hd3 : (y.t == 0) = true := by simpa using hy0
    go_wp2_with fail
    go_ret
    exact ⟨rfl, HS_y26.out.low⟩
  have hd3 : (y.t == 0) = false := by simpa using hy0
  have hsw := swap_facts HOKV.out HVX.out HVY.out hab hx0 hy0
  obtain ⟨V2, hV2⟩ : ∃ V2, setV V [((a1 : Int), y), ((b1 : Int), x)] = V2 := ⟨_, rfl⟩
  rw [hV2] at hsw
  have HE2 := hide hV2
  have HSW := hide hsw
  clear hV2 hsw hab hx0 hy0
  go_upto_region 18 with (first
    | ((with_reducible refine at_slot 88 ?_); refine when_loadW rfl (.tmp 14) rfl ⟨y24.heap.size, 0, none⟩ (y) (blk_at (cs := whC (y)) (HS_y26.out.own.blk 1 rfl)) rfl ?_)
    | ((with_reducible refine at_slot 89 ?_); refine wpList_build_is rfl 34 _ rfl [(0, .int .i64 (a1 : Int)), (1, .agg (whC y).toArray)] (by first | (simp [Act.eval]; done) | (simp [Act.eval, Act.put]; done)) _ (ch_built (a1 : Int) y) ?_)
    | ((with_reducible refine at_slot 90 ?_); refine wpList_oneC rfl (.tmp 89) rfl (((a1 : Int), y)) rfl ?_; intro y27 hbq hl1; have HS_y27 : Hid (Sta w y27 [vmT m V] [(y21.heap.size, 24, whC x), (y24.heap.size, 24, whC y), (y26.heap.size, 34, chsL [((a1 : Int), y)])]) := hide (HS_y26.out.var hl1 (Nat.le_refl _) hbq); clear hbq hl1)
    | (go_at_call 12; refine (HS_y27.out.set_ 0 rfl (chIn_blk (L := [((a1 : Int), y)]) (HS_y27.out.own.blk 2 rfl) (one_fits HA6.out HFY.out) (by simp) (by simp))).mono ?_; rintro _ y28 ⟨rfl, hsq⟩; rw [HSW.out.1]; rw [HSW.out.2.1] at hsq; have HS_y28 : Hid (Sta w y28 [vmT m V] [(y21.heap.size, 24, whC x), (y24.heap.size, 24, whC y), (y26.heap.size, 34, chsL [((a1 : Int), y)])]) := hide hsq; clear hsq))
  go_upto_region 19 with (first
    | ((with_reducible refine at_slot 94 ?_); refine when_loadW rfl (.tmp 14) rfl ⟨y24.heap.size, 0, none⟩ (y) (blk_at (cs := whC (y)) (HS_y28.out.own.blk 1 rfl)) rfl ?_)
    | ((with_reducible refine at_slot 95 ?_); refine wpList_build_is rfl 34 _ rfl [(0, .int .i64 (a1 : Int)), (1, .agg (whC y).toArray)] (by first | (simp [Act.eval]; done) | (simp [Act.eval, Act.put]; done)) _ (ch_built (a1 : Int) y) ?_)
    | ((with_reducible refine at_slot 97 ?_); refine when_loadW rfl (.tmp 12) rfl ⟨y21.heap.size, 0, none⟩ (x) (blk_at (cs := whC (x)) (HS_y28.out.own.blk 0 rfl)) rfl ?_)
    | ((with_reducible refine at_slot 98 ?_); refine wpList_build_is rfl 34 _ rfl [(0, .int .i64 (b1 : Int)), (1, .agg (whC x).toArray)] (by first | (simp [Act.eval]; done) | (simp [Act.eval, Act.put]; done)) _ (ch_built (b1 : Int) x) ?_)
    | ((with_reducible refine at_slot 99 ?_); refine wpList_twoC rfl (.tmp 95) (.tmp 98) rfl (((a1 : Int), y)) (((b1 : Int), x)) rfl rfl ?_; intro y29 hbq hl1; have HS_y29 : Hid (Sta w y29 [vmT m V] [(y21.heap.size, 24, whC x), (y24.heap.size, 24, whC y), (y26.heap.size, 34, chsL [((a1 : Int), y)]), (y28.heap.size, 34, chsL [((a1 : Int), y), ((b1 : Int), x)])]) := hide (HS_y28.out.var hl1 (Nat.le_refl _) hbq); clear hbq hl1)
    | (go_at_call 12; refine (HS_y29.out.set_ 0 rfl (chIn_blk (L := [((a1 : Int), y), ((b1 : Int), x)]) (HS_y29.out.own.blk 3 rfl) (two_fits HA6.out HFY.out HB6.out HFX.out) (by simp) (by simp))).mono ?_; rintro _ y30 ⟨rfl, hsq⟩; rw [HSW.out.2.2.1]; rw [HE2.out] at hsq; have HS_y30 : Hid (Sta w y30 [vmT m V2] [(y21.heap.size, 24, whC x), (y24.heap.size, 24, whC y), (y26.heap.size, 34, chsL [((a1 : Int), y)]), (y28.heap.size, 34, chsL [((a1 : Int), y), ((b1 : Int), x)])]) := hide hsq; clear hsq))
  go_upto_region 21 with (first
    | (go_at_call 16; (with_reducible refine (HS_y30.out.at_ 0 rfl (a1 : Int)).mono ?_); rintro _ y31 ⟨rfl, hsq⟩; rw [HSW.out.2.2.2.1]; have HS_y31 : Hid (Sta w y31 [vmT m V2] [(y21.heap.size, 24, whC x), (y24.heap.size, 24, whC y), (y26.heap.size, 34, chsL [((a1 : Int), y)]), (y28.heap.size, 34, chsL [((a1 : Int), y), ((b1 : Int), x)])]) := hide hsq; clear hsq)
    | ((with_reducible refine at_slot 18 ?_); refine wpList_alloc_blk rfl 24 rfl _ (wh_zero _) ?_; intro y32 hbq hl1 hs1; clear hs1)
    | ((with_reducible refine at_store 18 ?_); refine wpList_store_all rfl 24 (.tmp 18) (.tmp 105) rfl y31.heap.size 24 _ hbq rfl (whC y) rfl (wh_info _) rfl (wh_one _) ?_; intro y33 hbz hg hs; have HS_y33 : Hid (Sta w y33 [vmT m V2] [(y21.heap.size, 24, whC x), (y24.heap.size, 24, whC y), (y26.heap.size, 34, chsL [((a1 : Int), y)]), (y28.heap.size, 34, chsL [((a1 : Int), y), ((b1 : Int), x)]), (y31.heap.size, 24, whC y)]) := hide (HS_y31.out.new hl1 hg hbz); clear hs hbq hl1 hg hbz)
    | (go_at_call 16; (with_reducible refine (HS_y33.out.at_ 0 rfl (b1 : Int)).mono ?_); rintro _ y34 ⟨rfl, hsq⟩; rw [HSW.out.2.2.2.2]; have HS_y34 : Hid (Sta w y34 [vmT m V2] [(y21.heap.size, 24, whC x), (y24.heap.size, 24, whC y), (y26.heap.size, 34, chsL [((a1 : Int), y)]), (y28.heap.size, 34, chsL [((a1 : Int), y), ((b1 : Int), x)]), (y31.heap.size, 24, whC y)]) := hide hsq; clear hsq)
    | ((with_reducible refine at_slot 20 ?_); refine wpList_alloc_blk rfl 24 rfl _ (wh_zero _) ?_; intro y35 hbq hl1 hs1; clear hs1)
    | ((with_reducible refine at_store 20 ?_); refine wpList_store_all rfl 24 (.tmp 20) (.tmp 111) rfl y34.heap.size 24 _ hbq rfl (whC x) rfl (wh_info _) rfl (wh_one _) ?_; intro y36 hbz hg hs; have HS_y36 : Hid (Sta w y36 [vmT m V2] [(y21.heap.size, 24, whC x), (y24.heap.size, 24, whC y), (y26.heap.size, 34, chsL [((a1 : Int), y)]), (y28.heap.size, 34, chsL [((a1 : Int), y), ((b1 : Int), x)]), (y31.heap.size, 24, whC y), (y34.heap.size, 24, whC x)]) := hide (HS_y34.out.new hl1 hg hbz); clear hs hbq hl1 hg hbz))
  go_wp2_with (first
    | ((with_reducible refine at_slot 120 ?_); refine when_loadW rfl (.tmp 18) rfl ⟨y31.heap.size, 0, none⟩ (y) (blk_at (cs := whC (y)) (HS_y36.out.own.blk 4 rfl)) rfl ?_)
    | ((with_reducible refine at_slot 121 ?_); refine when_loadW rfl (.tmp 14) rfl ⟨y24.heap.size, 0, none⟩ (y) (blk_at (cs := whC (y)) (HS_y36.out.own.blk 1 rfl)) rfl ?_)
    | ((with_reducible refine at_slot 122 ?_); refine when_eqW rfl (.tmp 120) (.tmp 121) _ rfl y y rfl rfl true (by simp) ?_)
    | ((with_reducible refine at_slot 125 ?_); refine when_loadW rfl (.tmp 20) rfl ⟨y34.heap.size, 0, none⟩ (x) (blk_at (cs := whC (x)) (HS_y36.out.own.blk 5 rfl)) rfl ?_)
    | ((with_reducible refine at_slot 126 ?_); refine when_loadW rfl (.tmp 12) rfl ⟨y21.heap.size, 0, none⟩ (x) (blk_at (cs := whC (x)) (HS_y36.out.own.blk 0 rfl)) rfl ?_)
    | ((with_reducible refine at_slot 127 ?_); refine when_eqW rfl (.tmp 125) (.tmp 126) _ rfl x x rfl rfl true (by simp) ?_))
  go_ret
  exact ⟨rfl, HS_y36.out.low⟩
#print axioms vmapSwaps_walk
end Go.Proofs.Ytfjgpnjhmfcpiaa
