/- Texts of the proof laid one behind the other: ZPlug ZFull StrZ. -/
import Derived.Test.YtmjjnbabfldbcaaGreatLump6
import Derived.Deep.DeepCutAuto
import Derived.Deep.CutBlock
namespace Go.Proofs.YtmjjnbabfldbcaaGreat
open Go.RowKit
set_option linter.unusedVariables false
theorem step_pls2 {ops : Array Oper} {o : Oper} {a : Act} {w : World} {K : Act → World → Prop} {Q : Exit → Act → World → Prop} {E : Prop} (hg : o.guard = none) (x y : Operand) (ho : o.op = .buildSlice 39 2 #[(0, x), (1, y)]) (p q : PlI) (hx : a.eval x = .agg (plC p).toArray) (hy : a.eval y = .agg (plC q).toArray)
    (hK : K (a.put o.dst (.slice (some ⟨w.heap.size, 0, none⟩) 2 2)) (w.alloc (.cells (plsL [p, q]).toArray 47))) : if Region.wanted o (yielded ops a.tmps) = true then Oper.wp Tryz.prog o a w K Q else E := by
  have hw : Region.wanted o (yielded ops a.tmps) = true := by simp [Region.wanted, hg]
  rw [if_pos hw]
  obtain ⟨i0, hi0, hz0, hz1, hz2⟩ := info_parts pl_parts
  have hrun := run_build_aggs (P := Tryz.prog) w 39 47 i0 _ 2 Tryz.underlying39 hi0 (pl_zero _) hz1 (by decide) (by decide) 2 (by decide) (by decide) #[(0, .agg (plC p).toArray), (1, .agg (plC q).toArray)] (plsL [p, q]).toArray (fun C hC => fill_two 2 _ _ rfl rfl C hC)
  unfold Oper.wp
  simp [execOp, ho, hx, hy, hrun, Result.andThen]
  exact hK
def xorS (a b : Sec) : Sec := ⟨xorL a.1 b.1, xorL_length a.2 b.2⟩
theorem place_five (S : Bank) (p : PlI) : S.placeP p ≠ 5 := by
  unfold Bank.placeP Bank.place Bank.may
  repeat' split
  all_goals decide
theorem plug_is {S : Bank} {X : List PlI} {slot : Nat} {s : Sec} {p q : PlI} {m : List PlI} (he : homeE X.length (slot : Int) = 0) (hp : homeP X slot = p) (hq : strP X (slot / (X.length - 1)) = q) (hm : (strD X (slot / (X.length - 1))).eraseIdx (slot % (X.length - 1)) = m) :
    S.splug X (slot : Int) s = if (S.stog [p, q]).2 = 5 then (if (S.stog m).2 = 0 then (xorS (S.stog m).1 s, 0) else (zeroSec, (S.stog m).2)) else if (S.stog [p, q]).2 = 0 then (xorS (S.stog [p, q]).1 s, 0) else (zeroSec, (S.stog [p, q]).2) := by
  have hgm : (S.stog m).2 = S.gatherE m := by unfold Bank.stog; split <;> simp_all
  have hgm1 : S.gatherE m = 0 → (S.stog m).1 = parS (m.map S.readP) := fun h => by unfold Bank.stog; rw [if_pos h]
  have hg2 : (S.stog [p, q]).2 = S.gatherE [p, q] := by unfold Bank.stog; split <;> simp_all
  have hgl1 : S.gatherE [p, q] = 0 → (S.stog [p, q]).1 = parS ([p, q].map S.readP) := fun h => by unfold Bank.stog; rw [if_pos h]
  have hg : S.gatherE [p, q] = if S.placeP p = 0 ∨ lostB (S.placeP p) = true then (if S.placeP q = 0 ∨ lostB (S.placeP q) = true then (if S.placeP p = 0 ∧ S.placeP q = 0 then 0 else 5) else S.placeP q) else S.placeP p := by
    have hb : S.badP [p, q] = if S.placeP p = 0 ∨ lostB (S.placeP p) = true then (if S.placeP q = 0 ∨ lostB (S.placeP q) = true then 0 else S.placeP q) else S.placeP p := rfl
    have hn : S.goneP [p, q] = (if S.placeP p = 0 then 0 else 1) + ((if S.placeP q = 0 then 0 else 1) + 0) := rfl
    unfold Bank.gatherE
    by_cases h1 : S.placeP p = 0 ∨ lostB (S.placeP p) = true
    · rw [if_pos h1] at hb ⊢
      by_cases h2 : S.placeP q = 0 ∨ lostB (S.placeP q) = true
      · rw [if_pos h2] at hb ⊢
        rw [hb, if_pos rfl, hn]
        by_cases h3 : S.placeP p = 0
        · by_cases h4 : S.placeP q = 0
          · rw [if_pos h3, if_pos h4, if_pos (show 0 + (0 + 0) = 0 from rfl)]; exact (if_pos ⟨h3, h4⟩).symm
          · rw [if_pos h3, if_neg h4, if_neg (show ¬ 0 + (1 + 0) = 0 by decide)]; exact (if_neg (fun h => h4 h.2)).symm
        · rw [if_neg h3, if_neg (show ¬ 1 + ((if S.placeP q = 0 then 0 else 1) + 0) = 0 by rw [Nat.add_comm]; exact Nat.succ_ne_zero _)]; exact (if_neg (fun h => h3 h.1)).symm
      · rw [if_neg h2] at hb ⊢
        rw [hb, if_neg (fun h => h2 (.inl h))]
    · rw [if_neg h1] at hb ⊢
      rw [hb, if_neg (fun h => h1 (.inl h))]
  unfold Bank.splug
  rw [if_pos he]
  simp only [Int.toNat_natCast, hp, hq, hm]
  rw [hg2, hgm, hg]
  by_cases h1 : S.placeP p = 0 ∨ lostB (S.placeP p) = true
  · rw [if_pos h1, if_pos h1]
    by_cases h2 : S.placeP q = 0 ∨ lostB (S.placeP q) = true
    · rw [if_pos h2, if_pos h2]
      by_cases h3 : S.placeP p = 0 ∧ S.placeP q = 0
      · rw [if_pos h3, if_pos h3, if_neg (by decide), if_pos rfl, hgl1 (by rw [hg, if_pos h1, if_pos h2, if_pos h3])]
        refine Prod.ext (Subtype.ext ?_) rfl
        show xorL (xorL _ _) _ = xorL (parOf (rawS [S.readP p, S.readP q])) _
        congr 1
        exact ((par_snoc (l := [(S.readP p).1]) (fun x hx => by rw [List.mem_singleton.1 hx]; exact (S.readP p).2) (S.readP q).2).trans (by rw [par_one (S.readP p).2])).symm
      · rw [if_neg h3, if_neg h3, if_pos rfl]
        by_cases h4 : S.gatherE m = 0
        · rw [if_pos h4, if_pos h4, hgm1 h4]
          refine Prod.ext (Subtype.ext ?_) rfl
          show parOf (rawS (m.map S.readP ++ [s])) = xorL (parOf (rawS (m.map S.readP))) s.1
          rw [rawS_append]
          exact par_snoc (rawS_secs _) s.2
        · rw [if_neg h4, if_neg h4]
    · rw [if_neg h2, if_neg h2, if_neg (place_five S q), if_neg (fun h => h2 (.inl h))]
  · rw [if_neg h1, if_neg h1, if_neg (place_five S p), if_neg (fun h => h1 (.inl h))]
section
variable {A : Option Addr} {n c : Nat} {X : List PlI} {b : Nat} {F : Nat → Prop} {S : Bank}
set_option maxRecDepth 100000 in
set_option maxHeartbeats 8000000 in
theorem zplug_any (w : World) (hB : BankOn w b F S) (hx : XtIn w A n c X) (slot : Int) (hsl : I64In slot) (s0 : Sec) :
    Calls Tryz.prog 30 #[.pointer (some ⟨b, 0, none⟩), .slice A n c, .int .i64 slot, secV s0] w fun e w' => e = .returned (.tuple #[secV (S.splug X slot s0).1, .int .i64 ((S.splug X slot s0).2 : Int)]) ∧ Below w.heap.size w w' := by
  have hXn := hx.length
  have hn : n ≤ 1000000 := by have := hx.few; omega
  have HV1 := hide (secL_one s0)
  have HV2 := hide (secL_length s0)
  by_cases he : homeE n slot = 0
  · obtain ⟨h2, h0, h8⟩ := homeE_ok he
    obtain ⟨s, rfl⟩ : ∃ s : Nat, slot = (s : Int) := ⟨slot.toNat, by omega⟩
    have hs8 : s < slotsN n := by omega
    have HR := hide (fun w => rowSlot_ok (A := A) (c := c) hn he hsl w)
    have ht8 : s / (n - 1) < 8 := by
      refine (Nat.div_lt_iff_lt_mul (by omega)).2 ?_
      unfold slotsN at hs8
      exact hs8
    have hkn := kOf_lt (n := n) (s := s) h2
    have hhp : homeP X s = plAt (strM X (s / (n - 1))) (kOf n s) := by rw [← hXn]; exact zHome_at (by omega)
    have hmp : (strD X (s / (n - 1))).eraseIdx (s % (n - 1)) = butTo (strM X (s / (n - 1))) [(kOf n s : Int), (strH n (s / (n - 1)) : Int)] n := by rw [← hXn]; exact (but_two (by omega) (by rw [hXn]; exact hs8)).symm
    have hsp := plug_is (S := S) (X := X) (slot := s) (s := s0) (by rw [hXn]; exact he) rfl rfl rfl
    rw [hXn] at hsp
    have hqp : strP X (s / (n - 1)) = plAt (strM X (s / (n - 1))) (strH n (s / (n - 1))) := by rw [← hXn]; rfl
    rw [hsp]
    clear hsp
    obtain ⟨t, ht⟩ : ∃ t, t = s / (n - 1) := ⟨_, rfl⟩
    obtain ⟨k, hk⟩ : ∃ k, k = kOf n s := ⟨_, rfl⟩
    rw [← ht] at ht8 hhp hmp HR hqp ⊢
    rw [← hk] at hhp hmp HR hkn
    obtain ⟨h, hh⟩ : ∃ h, h = strH n t := ⟨_, rfl⟩
    have hhn : h < n := by rw [hh]; exact strH_lt (by omega)
    have HP := hide (fun w => rpar_any (A := A) (c := c) t (show 0 < n by omega) hn ht8 w)
    have HLE := hide (show (butTo (strM X t) [(k : Int), (strH n t : Int)] n).length ≤ 1000 from Nat.le_trans (butTo_len _ _ n) (by have := hx.few; omega))
    rw [← hh] at hmp hqp HP HLE
    have HSQ := hide (fun (br bt : Nat) (a2 : Option Addr) => but_seq (Br := br) (Bt := bt) (A := A) (c := c) (A2 := a2) (m := 2) (c2 := 2) (L := [(k : Int), (h : Int)]) hXn hn (by decide) hx.small ht8)
    obtain ⟨p, hpx⟩ : ∃ p, X[k]? = some p := ⟨X[k]'(by rw [hXn]; exact hkn), List.getElem?_eq_getElem _⟩
    obtain ⟨q, hqx⟩ : ∃ q, X[h]? = some q := ⟨X[h]'(by rw [hXn]; exact hhn), List.getElem?_eq_getElem _⟩
    have hpa : plAt (strM X t) k = (p.1, p.2 + (t : Int)) := by unfold plAt; rw [strM_at hpx]; rfl
    have hqa : plAt (strM X t) h = (q.1, q.2 + (t : Int)) := by unfold plAt; rw [strM_at hqx]; rfl
    have HO1 := hide (fun (w' : World) (hb : Below w.heap.size w w') => on_any (w := w') (c := c) ((hx.reads.later hb)) hpx hx.small hn ht8)
    have HO2 := hide (fun (w' : World) (hb : Below w.heap.size w w') => on_any (w := w') (c := c) ((hx.reads.later hb)) hqx hx.small hn ht8)
    obtain ⟨L, hL⟩ : ∃ L, L = butTo (strM X t) [(k : Int), (h : Int)] n := ⟨_, rfl⟩
    rw [← hL] at HLE HSQ hmp
    rw [hhp, hqp, hmp, hpa, hqa]
    obtain ⟨P, hP⟩ : ∃ P : PlI, P = (p.1, p.2 + (t : Int)) := ⟨_, rfl⟩
    obtain ⟨R, hR⟩ : ∃ R : PlI, R = (q.1, q.2 + (t : Int)) := ⟨_, rfl⟩
    rw [← hP] at HO1
    rw [← hR] at HO2
    rw [← hP, ← hR]
    obtain ⟨g1, hg1⟩ : ∃ g, g = (S.stog [P, R]).1 := ⟨_, rfl⟩
    obtain ⟨E1, hE1⟩ : ∃ e, e = (S.stog [P, R]).2 := ⟨_, rfl⟩
    obtain ⟨g2, hg2⟩ : ∃ g, g = (S.stog L).1 := ⟨_, rfl⟩
    obtain ⟨E2, hE2⟩ : ∃ e, e = (S.stog L).2 := ⟨_, rfl⟩
    have HT1 := hide (show (Value.tuple #[secV (S.stog [P, R]).1, .int .i64 ((S.stog [P, R]).2 : Int)]) = .tuple #[.agg (secL g1).toArray, .int .i64 (E1 : Int)] by rw [hg1, hE1]; rfl)
    have HT2 := hide (show (Value.tuple #[secV (S.stog L).1, .int .i64 ((S.stog L).2 : Int)]) = .tuple #[.agg (secL g2).toArray, .int .i64 (E2 : Int)] by rw [hg2, hE2]; rfl)
    rw [← hg1, ← hE1, ← hg2, ← hE2]
    obtain ⟨res, hres⟩ : ∃ r, r = if E1 = 5 then (if E2 = 0 then (xorS g2 s0, 0) else (zeroSec, E2)) else if E1 = 0 then (xorS g1 s0, 0) else (zeroSec, E1) := ⟨_, rfl⟩
    rw [← hres]
    have HRES := hide hres
    clear hres
    have HG11 := hide (secL_one g1)
    have HG12 := hide (secL_length g1)
    have HG21 := hide (secL_one g2)
    have HG22 := hide (secL_length g2)
    have HXR := hide hx.reads
    have HBK := hide hB
    have HR1 := hide (rowL_one A n c t)
    have HVC := hide (show (secV s0).cells = (secL s0).toArray from rfl)
    clear hL hP hR hg1 hE1 hg2 hE2 hpa hqa hpx hqx hhp hqp hmp hk ht hh ht8 hs8 he h0 h8 hXn hx hB hkn hhn
    go_enter Tryz.func30, Tryz.ntmps30
    go_upto_region 4 with (first
      | ((with_reducible refine at_slot 7 ?_); refine wpList_box_blk rfl 43 _ rfl (secV s0) rfl ?_; intro w0 h1 h2 h3; have HB0 : Hid (Blk w0 w.heap.size 43 (secL s0).toArray) := hide h1; have HL0 := hide h2; clear h1 h2 h3)
      | ((with_reducible refine at_slot 8 ?_); refine wpList_alloc_blk rfl 43 rfl _ (psec_nought _) ?_; intro w1 h1 h2 h3; have HB1 : Hid (Blk w1 w0.heap.size 43 (B8 zeroL).toArray) := hide h1; have HL1 := hide h2; clear h1 h2 h3)
      | (go_at_call 53; refine (HR.out _).mono ?_; rintro _ w2 ⟨rfl, hl2q⟩; have HL2 := hide hl2q; clear hl2q)
      | ((with_reducible refine at_slot 10 ?_); refine wpList_alloc_blk rfl 90 rfl _ (row_zero _) ?_; intro w3 h1 h2 h3; have HB3 := hide h1; have HL3 := hide h2; clear h1 h2 h3)
      | ((with_reducible refine at_store 10 ?_); refine wpList_store_all rfl 90 (.tmp 10) (.tmp 18) rfl w2.heap.size 90 _ HB3.out rfl (rowL A n c t) rfl row_info rfl HR1.out ?_; intro w4 h1 h2 h3; have HRB := hide h1; have HLR := hide (show Below w2.heap.size w2 w4 from HL3.out.grown h2 HL3.out.size (fun g e => by injection e with e; subst e; exact Nat.le_refl _)); clear h1 h2 h3))
    obtain ⟨rb, hrb⟩ : ∃ rb, rb = w2.heap.size := ⟨_, rfl⟩
    obtain ⟨ob, hob⟩ : ∃ ob, ob = w0.heap.size := ⟨_, rfl⟩
    rw [← hrb] at HRB ⊢
    rw [← hob] at HB1 ⊢
    have hl14 : Below w1.heap.size w1 w4 := HL2.out.trans (HLR.out.mono HL2.out.size)
    have HZ := hide (show Below w.heap.size w w4 from (HL0.out.trans ((HL1.out.trans ((HL2.out.trans (HLR.out.mono HL2.out.size)).mono HL1.out.size)).mono HL0.out.size)))
    have HQ1 := hide (HB1.out.below hl14 HB1.out.lt)
    have HQ0 := hide ((HB0.out.below HL1.out HB0.out.lt).below hl14 (Nat.lt_of_lt_of_le HB0.out.lt HL1.out.size))
    have HRW := hide (show w.heap.size < ob ∧ ob < rb from ⟨by rw [hob]; exact HB0.out.lt, by rw [hrb]; exact Nat.lt_of_lt_of_le HB1.out.lt HL2.out.size⟩)
    have HRS := hide (fun (W : World) (h : Blk W rb 90 (rowL A n c t).toArray) => show W.cell? ⟨rb, 0, none⟩ = some (.slice A n c) ∧ W.cell? ⟨rb, 1, none⟩ = some (.int .i64 (t : Int)) from ⟨(h.cell 0).trans rfl, (h.cell 1).trans rfl⟩)
    have Hz0 := hide (show Below w4.heap.size w4 w4.drew from (Below.refl _ _).drew)
    clear hl14 hrb hob HL0 HL1 HL2 HL3 HB0 HB1 HB3 HLR
    go_cut [12, 13] (fun s12 s13 wx => ∃ sb : Nat, s12 = .int .i64 (E1 : Int) ∧ s13 = .pointer (some ⟨sb, 0, none⟩) ∧ Hid (Blk wx sb 43 (secL g1).toArray) ∧ Hid (Below w4.heap.size w4 wx) ∧ Hid (w4.heap.size ≤ sb))
    case first =>
      refine wp_region_held_drew (S := (fun W => W.cell? ⟨rb, 0, none⟩ = some (.slice A n c) ∧ W.cell? ⟨rb, 1, none⟩ = some (.int .i64 (t : Int)))) (by kernel_rfl) ?_ (fun hHeld => ?_)
      · exact (HRS.out _ (HRB.out.below Hz0.out HRB.out.lt))
      refine heldTake (i := 0) (v := ?_) rfl (by kernel_rfl) (by kernel_rfl) (by kernel_rfl) (fun _ _ _ h => h) (Or.inl ⟨by rfl, ?_⟩) (by assumption) ?_
      rotate_left
      · intro w hSw; (try dsimp only at hSw); go_simp <;> (with_reducible rfl)
      try simp only [Act.put, List.setIfInBounds_toArray, List.set_cons_zero, List.set_cons_succ]
      refine heldTake (i := 1) (v := .agg (rowL A n c t).toArray) rfl (by kernel_rfl) (by kernel_rfl) (by kernel_rfl) (fun _ _ _ h => h) (Or.inl ⟨by rfl, fun V hV => ?_⟩) (by assumption) ?_
      · obtain ⟨e0, e1⟩ := hV
        go_simp
        try rfl
      try simp only [Act.put, List.setIfInBounds_toArray, List.set_cons_zero, List.set_cons_succ]
      refine heldTake (i := 2) (v := ?_) rfl (by kernel_rfl) (by kernel_rfl) (by kernel_rfl) (fun _ _ _ h => h) (Or.inl ⟨by rfl, ?_⟩) (by assumption) ?_
      rotate_left
      · intro w hSw; (try dsimp only at hSw); go_simp <;> (with_reducible rfl)
      try simp only [Act.put, List.setIfInBounds_toArray, List.set_cons_zero, List.set_cons_succ]
      refine heldTake (i := 4) (v := .agg (rowL A n c t).toArray) rfl (by kernel_rfl) (by kernel_rfl) (by kernel_rfl) (fun _ _ _ h => h) (Or.inl ⟨by rfl, fun V hV => ?_⟩) (by assumption) ?_
      · obtain ⟨e0, e1⟩ := hV
        go_simp
        try rfl
      try simp only [Act.put, List.setIfInBounds_toArray, List.set_cons_zero, List.set_cons_succ]
      refine heldTake (i := 5) (v := .agg (rowL A n c t).toArray) rfl (by kernel_rfl) (by kernel_rfl) (by kernel_rfl) (fun _ _ _ h => h) (Or.inl ⟨by rfl, fun V hV => ?_⟩) (by assumption) ?_
      · obtain ⟨e0, e1⟩ := hV
        go_simp
        try rfl
      try simp only [Act.put, List.setIfInBounds_toArray, List.set_cons_zero, List.set_cons_succ]
      refine wpAnyH_ready (rs := [3, 14]) (by kernel_rfl) (by simp) ?_
      refine heldCons (i := 3) rfl (fun Kq hKq => ?_) (heldCons (i := 14) rfl (fun Kq hKq => ?_) AllReadyH.nil)
      · clear hHeld
        go_simp
        go_at_call 51
        refine (HO1.out _ (HZ.out.trans (Hz0.out.mono HZ.out.size))).mono ?_
        rintro _ z1 ⟨rfl, hlq⟩
        have Hz1 := hide (Hz0.out.trans (hlq.mono Hz0.out.size))
        clear hlq
        first | (refine hKq.out _ _ (HRS.out _ (HRB.out.below Hz1.out HRB.out.lt)) (fun hHeld => ?_)) | (go_wp2_with fail; refine hKq.out _ _ (HRS.out _ (HRB.out.below Hz1.out HRB.out.lt)) (fun hHeld => ?_))
        clear hKq Kq
        try simp only [Act.put, List.setIfInBounds_toArray, List.set_cons_zero, List.set_cons_succ]
        refine wpAnyH_ready (rs := [6, 14]) (by kernel_rfl) (by simp) ?_
        refine heldCons (i := 6) rfl (fun Kq hKq => ?_) (heldCons (i := 14) rfl (fun Kq hKq => ?_) AllReadyH.nil)
        · clear hHeld
          go_simp
          go_at_call 52
          refine (HP.out _).mono ?_
          rintro _ z2 ⟨rfl, hlq⟩
          have Hz2 := hide (Hz1.out.trans (hlq.mono Hz1.out.size))
          clear hlq
          first | (refine hKq.out _ _ (HRS.out _ (HRB.out.below Hz2.out HRB.out.lt)) (fun hHeld => ?_)) | (go_wp2_with fail; refine hKq.out _ _ (HRS.out _ (HRB.out.below Hz2.out HRB.out.lt)) (fun hHeld => ?_))
          clear hKq Kq
          try simp only [Act.put, List.setIfInBounds_toArray, List.set_cons_zero, List.set_cons_succ]
          refine wpAnyH_ready (rs := [7, 14]) (by kernel_rfl) (by simp) ?_
          refine heldCons (i := 7) rfl (fun Kq hKq => ?_) (heldCons (i := 14) rfl (fun Kq hKq => ?_) AllReadyH.nil)
          · clear hHeld
            go_simp
            go_at_call 51
            refine (HO2.out _ (HZ.out.trans (Hz2.out.mono HZ.out.size))).mono ?_
            rintro _ z3 ⟨rfl, hlq⟩
            have Hz3 := hide (Hz2.out.trans (hlq.mono Hz2.out.size))
            clear hlq
            first | (refine hKq.out _ _ (HRS.out _ (HRB.out.below Hz3.out HRB.out.lt)) (fun hHeld => ?_)) | (go_wp2_with fail; refine hKq.out _ _ (HRS.out _ (HRB.out.below Hz3.out HRB.out.lt)) (fun hHeld => ?_))
            clear hKq Kq
            try simp only [Act.put, List.setIfInBounds_toArray, List.set_cons_zero, List.set_cons_succ]
            refine wpAnyH_ready (rs := [8, 14]) (by kernel_rfl) (by simp) ?_
            refine heldCons (i := 8) rfl (fun Kq hKq => ?_) (heldCons (i := 14) rfl (fun Kq hKq => ?_) AllReadyH.nil)
            · clear hHeld
              refine step_pls2 rfl (.tmp 29) (.tmp 33) rfl P R rfl rfl ?_
              obtain ⟨z4, hz4⟩ : ∃ v, v = z3.alloc (.cells (plsL [P, R]).toArray 47) := ⟨_, rfl⟩
              have hlq : Below z3.heap.size z3 z4 := by rw [hz4]; exact (Below.refl _ _).alloc (Nat.le_refl _) _
              have HI8 := hide (show Blk z4 z3.heap.size 47 (plsL [P, R]).toArray by rw [hz4]; exact Blk.new _ _ _)
              rw [← hz4]
              clear hz4
              obtain ⟨pb, hpb⟩ : ∃ pb, pb = z3.heap.size := ⟨_, rfl⟩
              rw [← hpb] at HI8 ⊢
              clear hpb
              have Hz4 := hide (Hz3.out.trans (hlq.mono Hz3.out.size))
              clear hlq
              first | (refine hKq.out _ _ (HRS.out _ (HRB.out.below Hz4.out HRB.out.lt)) (fun hHeld => ?_)) | (go_wp2_with fail; refine hKq.out _ _ (HRS.out _ (HRB.out.below Hz4.out HRB.out.lt)) (fun hHeld => ?_))
              clear hKq Kq
              try simp only [Act.put, List.setIfInBounds_toArray, List.set_cons_zero, List.set_cons_succ]
              refine wpAnyH_ready (rs := [9, 14]) (by kernel_rfl) (by simp) ?_
              refine heldCons (i := 9) rfl (fun Kq hKq => ?_) (heldCons (i := 14) rfl (fun Kq hKq => ?_) AllReadyH.nil)
              · clear hHeld
                go_simp
                go_at_call 70
                refine (values_make (some ⟨pb, 0, none⟩) 2 2 _).mono ?_
                rintro _ z5 ⟨rfl, hb1, hlq, hsq⟩
                have HVD := hide (show ValD _ (some ⟨pb, 0, none⟩) 2 2 [P, R] z5 from ⟨hb1, ⟨rfl, fun _ => ⟨_, rfl, (HI8.out.below hlq HI8.out.lt).lt, fun j v hj => blk_at (HI8.out.below hlq HI8.out.lt) j v hj⟩⟩⟩)
                have HI8 := hide (HI8.out.below hlq HI8.out.lt)
                have Hz5 := hide (Hz4.out.trans (hlq.mono Hz4.out.size))
                clear hlq hb1 hsq
                first | (refine hKq.out _ _ (HRS.out _ (HRB.out.below Hz5.out HRB.out.lt)) (fun hHeld => ?_)) | (go_wp2_with fail; refine hKq.out _ _ (HRS.out _ (HRB.out.below Hz5.out HRB.out.lt)) (fun hHeld => ?_))
                clear hKq Kq
                try simp only [Act.put, List.setIfInBounds_toArray, List.set_cons_zero, List.set_cons_succ]
                refine wpAnyH_ready (rs := [10, 14]) (by kernel_rfl) (by simp) ?_
                refine heldCons (i := 10) rfl (fun Kq hKq => ?_) (heldCons (i := 14) rfl (fun Kq hKq => ?_) AllReadyH.nil)
                · clear hHeld
                  go_simp
                  go_at_call 62
                  refine (sgather_any (values_seq (L := [P, R]) (by decide)) (show (2 : Nat) ≤ 1000 by decide) _ HVD.out (HBK.out.later (HZ.out.trans (Hz5.out.mono HZ.out.size)))).mono ?_
                  rw [HT1.out]
                  rintro _ z6 ⟨rfl, hlq⟩
                  have HI8 := hide (HI8.out.below hlq HI8.out.lt)
                  have HVD := hide (HVD.out.kept (Turn.of_below (F := fun _ => False) hlq) (fun _ h => h.elim))
                  have Hz6 := hide (Hz5.out.trans (hlq.mono Hz5.out.size))
                  clear hlq
                  first | (refine hKq.out _ _ (HRS.out _ (HRB.out.below Hz6.out HRB.out.lt)) (fun hHeld => ?_)) | (go_wp2_with fail; refine hKq.out _ _ (HRS.out _ (HRB.out.below Hz6.out HRB.out.lt)) (fun hHeld => ?_))
                  clear hKq Kq
                  try simp only [Act.put, List.setIfInBounds_toArray, List.set_cons_zero, List.set_cons_succ]
                  refine heldTake (i := 11) (v := ?_) rfl (by kernel_rfl) (by kernel_rfl) (by kernel_rfl) (fun _ _ _ h => h) (Or.inl ⟨by rfl, ?_⟩) (by assumption) ?_
                  rotate_left
                  · intro w hSw; (try dsimp only at hSw); go_simp <;> (with_reducible rfl)
                  try simp only [Act.put, List.setIfInBounds_toArray, List.set_cons_zero, List.set_cons_succ]
                  refine heldTake (i := 12) (v := ?_) rfl (by kernel_rfl) (by kernel_rfl) (by kernel_rfl) (fun _ _ _ h => h) (Or.inl ⟨by rfl, ?_⟩) (by assumption) ?_
                  rotate_left
                  · intro w hSw; (try dsimp only at hSw); go_simp <;> (with_reducible rfl)
                  try simp only [Act.put, List.setIfInBounds_toArray, List.set_cons_zero, List.set_cons_succ]
                  refine heldTake (i := 13) (v := ?_) rfl (by kernel_rfl) (by kernel_rfl) (by kernel_rfl) (fun _ _ _ h => h) (Or.inl ⟨by rfl, ?_⟩) (by assumption) ?_
                  rotate_left
                  · intro w hSw; (try dsimp only at hSw); go_simp <;> (with_reducible rfl)
                  try simp only [Act.put, List.setIfInBounds_toArray, List.set_cons_zero, List.set_cons_succ]
                  refine wpAnyH_ready (rs := [14]) (by kernel_rfl) (by simp) ?_
                  refine heldCons (i := 14) rfl (fun Kq hKq => ?_) AllReadyH.nil
                  refine step_alloc_blk rfl 43 rfl _ (psec_nought _) ?_
                  intro z7 h1 h2 h3
                  have HAB : Hid (Blk z7 z6.heap.size 43 (B8 zeroL).toArray) := hide h1
                  have Hz7 := hide (Hz6.out.trans (h2.mono Hz6.out.size))
                  have HAW := hide (show w4.heap.size ≤ z6.heap.size from Hz6.out.size)
                  have HI8 := hide (HI8.out.below h2 HI8.out.lt)
                  have HVD := hide (HVD.out.kept (Turn.of_below (F := fun _ => False) h2) (fun _ h => h.elim))
                  clear h1 h2 h3
                  obtain ⟨sb, hsb⟩ : ∃ sb, sb = z6.heap.size := ⟨_, rfl⟩
                  rw [← hsb] at HAB HAW ⊢
                  clear hsb
                  first | (refine hKq.out _ _ (HRS.out _ (HRB.out.below Hz7.out HRB.out.lt)) (fun hHeld => ?_)) | (go_wp2_with fail; refine hKq.out _ _ (HRS.out _ (HRB.out.below Hz7.out HRB.out.lt)) (fun hHeld => ?_))
                  clear hKq Kq
                  try simp only [Act.put, List.setIfInBounds_toArray, List.set_cons_zero, List.set_cons_succ]
                  refine wpAnyH_ready (rs := [15]) (by kernel_rfl) (by simp) ?_
                  refine heldCons (i := 15) rfl (fun Kq hKq => ?_) AllReadyH.nil
                  refine step_store_blk rfl 43 (.tmp 13) (.tmp 37) rfl sb 0 43 _ HAB.out rfl (secL g1) rfl (by rw [HG12.out]; exact psec_info) (by rw [HG12.out]; decide) HG11.out ?_
                  intro z8 hb7q hg7 hs7
                  have HB7 : Hid (Blk z8 sb 43 (secL g1).toArray) := hide (by
                    rw [List.take_zero, List.nil_append, HG12.out, List.drop_of_length_le (by decide), List.append_nil] at hb7q
                    exact hb7q)
                  have Hz8 := hide (Hz7.out.grown hg7 Hz7.out.size (fun g e => by injection e with e; subst e; exact HAW.out))
                  refine hKq.out _ _ (HRS.out _ (HRB.out.below Hz8.out HRB.out.lt)) (fun hHeld => ?_)
                  clear hKq Kq
                  try simp only [Act.put]
                  refine heldTake (i := 16) (v := ?_) rfl (by kernel_rfl) (by kernel_rfl) (by kernel_rfl) (fun _ _ _ h => h) (Or.inl ⟨by rfl, ?_⟩) (by assumption) ?_
                  rotate_left
                  · intro w hSw; (try dsimp only at hSw); go_simp <;> (with_reducible rfl)
                  try simp only [Act.put, List.setIfInBounds_toArray, List.set_cons_zero, List.set_cons_succ]
                  refine wpAnyH_done (by kernel_rfl) ?_ _
                  go_wp2_with fail
                  go_meet
                  exact ⟨sb, rfl, rfl, HB7, Hz8, HAW⟩
                · clear hHeld
                  refine step_alloc_blk rfl 43 rfl _ (psec_nought _) ?_
                  intro z9 h1 h2 h3
                  have HAB : Hid (Blk z9 z5.heap.size 43 (B8 zeroL).toArray) := hide h1
                  have Hz9 := hide (Hz5.out.trans (h2.mono Hz5.out.size))
                  have HAW := hide (show w4.heap.size ≤ z5.heap.size from Hz5.out.size)
                  have HI8 := hide (HI8.out.below h2 HI8.out.lt)
                  have HVD := hide (HVD.out.kept (Turn.of_below (F := fun _ => False) h2) (fun _ h => h.elim))
                  clear h1 h2 h3
                  obtain ⟨sb, hsb⟩ : ∃ sb, sb = z5.heap.size := ⟨_, rfl⟩
                  rw [← hsb] at HAB HAW ⊢
                  clear hsb
                  first | (refine hKq.out _ _ (HRS.out _ (HRB.out.below Hz9.out HRB.out.lt)) (fun hHeld => ?_)) | (go_wp2_with fail; refine hKq.out _ _ (HRS.out _ (HRB.out.below Hz9.out HRB.out.lt)) (fun hHeld => ?_))
                  clear hKq Kq
                  try simp only [Act.put, List.setIfInBounds_toArray, List.set_cons_zero, List.set_cons_succ]
                  refine wpAnyH_ready (rs := [10]) (by kernel_rfl) (by simp) ?_
                  refine heldCons (i := 10) rfl (fun Kq hKq => ?_) AllReadyH.nil
                  go_simp
                  go_at_call 62
                  refine (sgather_any (values_seq (L := [P, R]) (by decide)) (show (2 : Nat) ≤ 1000 by decide) _ HVD.out (HBK.out.later (HZ.out.trans (Hz9.out.mono HZ.out.size)))).mono ?_
                  rw [HT1.out]
                  rintro _ z10 ⟨rfl, hlq⟩
                  have HI8 := hide (HI8.out.below hlq HI8.out.lt)
                  have HVD := hide (HVD.out.kept (Turn.of_below (F := fun _ => False) hlq) (fun _ h => h.elim))
                  have Hz10 := hide (Hz9.out.trans (hlq.mono Hz9.out.size))
                  have HAB := hide (HAB.out.below hlq HAB.out.lt)
                  clear hlq
                  first | (refine hKq.out _ _ (HRS.out _ (HRB.out.below Hz10.out HRB.out.lt)) (fun hHeld => ?_)) | (go_wp2_with fail; refine hKq.out _ _ (HRS.out _ (HRB.out.below Hz10.out HRB.out.lt)) (fun hHeld => ?_))
                  clear hKq Kq
                  try simp only [Act.put, List.setIfInBounds_toArray, List.set_cons_zero, List.set_cons_succ]
                  refine heldTake (i := 11) (v := ?_) rfl (by kernel_rfl) (by kernel_rfl) (by kernel_rfl) (fun _ _ _ h => h) (Or.inl ⟨by rfl, ?_⟩) (by assumption) ?_
                  rotate_left
                  · intro w hSw; (try dsimp only at hSw); go_simp <;> (with_reducible rfl)
                  try simp only [Act.put, List.setIfInBounds_toArray, List.set_cons_zero, List.set_cons_succ]
                  refine heldTake (i := 12) (v := ?_) rfl (by kernel_rfl) (by kernel_rfl) (by kernel_rfl) (fun _ _ _ h => h) (Or.inl ⟨by rfl, ?_⟩) (by assumption) ?_
                  rotate_left
                  · intro w hSw; (try dsimp only at hSw); go_simp <;> (with_reducible rfl)
                  try simp only [Act.put, List.setIfInBounds_toArray, List.set_cons_zero, List.set_cons_succ]
                  refine heldTake (i := 13) (v := ?_) rfl (by kernel_rfl) (by kernel_rfl) (by kernel_rfl) (fun _ _ _ h => h) (Or.inl ⟨by rfl, ?_⟩) (by assumption) ?_
                  rotate_left
                  · intro w hSw; (try dsimp only at hSw); go_simp <;> (with_reducible rfl)
                  try simp only [Act.put, List.setIfInBounds_toArray, List.set_cons_zero, List.set_cons_succ]
                  refine wpAnyH_ready (rs := [15]) (by kernel_rfl) (by simp) ?_
                  refine heldCons (i := 15) rfl (fun Kq hKq => ?_) AllReadyH.nil
                  refine step_store_blk rfl 43 (.tmp 13) (.tmp 37) rfl sb 0 43 _ HAB.out rfl (secL g1) rfl (by rw [HG12.out]; exact psec_info) (by rw [HG12.out]; decide) HG11.out ?_
                  intro z11 hb7q hg7 hs7
                  have HB7 : Hid (Blk z11 sb 43 (secL g1).toArray) := hide (by
                    rw [List.take_zero, List.nil_append, HG12.out, List.drop_of_length_le (by decide), List.append_nil] at hb7q
                    exact hb7q)
                  have Hz11 := hide (Hz10.out.grown hg7 Hz10.out.size (fun g e => by injection e with e; subst e; exact HAW.out))
                  refine hKq.out _ _ (HRS.out _ (HRB.out.below Hz11.out HRB.out.lt)) (fun hHeld => ?_)
                  clear hKq Kq
                  try simp only [Act.put]
                  refine heldTake (i := 16) (v := ?_) rfl (by kernel_rfl) (by kernel_rfl) (by kernel_rfl) (fun _ _ _ h => h) (Or.inl ⟨by rfl, ?_⟩) (by assumption) ?_
                  rotate_left
                  · intro w hSw; (try dsimp only at hSw); go_simp <;> (with_reducible rfl)
                  try simp only [Act.put, List.setIfInBounds_toArray, List.set_cons_zero, List.set_cons_succ]
                  refine wpAnyH_done (by kernel_rfl) ?_ _
                  go_wp2_with fail
                  go_meet
                  exact ⟨sb, rfl, rfl, HB7, Hz11, HAW⟩
              · clear hHeld
                refine step_alloc_blk rfl 43 rfl _ (psec_nought _) ?_
                intro z12 h1 h2 h3
                have HAB : Hid (Blk z12 z4.heap.size 43 (B8 zeroL).toArray) := hide h1
                have Hz12 := hide (Hz4.out.trans (h2.mono Hz4.out.size))
                have HAW := hide (show w4.heap.size ≤ z4.heap.size from Hz4.out.size)
                have HI8 := hide (HI8.out.below h2 HI8.out.lt)
                clear h1 h2 h3
                obtain ⟨sb, hsb⟩ : ∃ sb, sb = z4.heap.size := ⟨_, rfl⟩
                rw [← hsb] at HAB HAW ⊢
                clear hsb
                first | (refine hKq.out _ _ (HRS.out _ (HRB.out.below Hz12.out HRB.out.lt)) (fun hHeld => ?_)) | (go_wp2_with fail; refine hKq.out _ _ (HRS.out _ (HRB.out.below Hz12.out HRB.out.lt)) (fun hHeld => ?_))
                clear hKq Kq
                try simp only [Act.put, List.setIfInBounds_toArray, List.set_cons_zero, List.set_cons_succ]
                refine wpAnyH_ready (rs := [9]) (by kernel_rfl) (by simp) ?_
                refine heldCons (i := 9) rfl (fun Kq hKq => ?_) AllReadyH.nil
                go_simp
                go_at_call 70
                refine (values_make (some ⟨pb, 0, none⟩) 2 2 _).mono ?_
                rintro _ z13 ⟨rfl, hb1, hlq, hsq⟩
                have HVD := hide (show ValD _ (some ⟨pb, 0, none⟩) 2 2 [P, R] z13 from ⟨hb1, ⟨rfl, fun _ => ⟨_, rfl, (HI8.out.below hlq HI8.out.lt).lt, fun j v hj => blk_at (HI8.out.below hlq HI8.out.lt) j v hj⟩⟩⟩)
                have HI8 := hide (HI8.out.below hlq HI8.out.lt)
                have Hz13 := hide (Hz12.out.trans (hlq.mono Hz12.out.size))
                have HAB := hide (HAB.out.below hlq HAB.out.lt)
                clear hlq hb1 hsq
                first | (refine hKq.out _ _ (HRS.out _ (HRB.out.below Hz13.out HRB.out.lt)) (fun hHeld => ?_)) | (go_wp2_with fail; refine hKq.out _ _ (HRS.out _ (HRB.out.below Hz13.out HRB.out.lt)) (fun hHeld => ?_))
                clear hKq Kq
                try simp only [Act.put, List.setIfInBounds_toArray, List.set_cons_zero, List.set_cons_succ]
                refine wpAnyH_ready (rs := [10]) (by kernel_rfl) (by simp) ?_
                refine heldCons (i := 10) rfl (fun Kq hKq => ?_) AllReadyH.nil
                go_simp
                go_at_call 62
                refine (sgather_any (values_seq (L := [P, R]) (by decide)) (show (2 : Nat) ≤ 1000 by decide) _ HVD.out (HBK.out.later (HZ.out.trans (Hz13.out.mono HZ.out.size)))).mono ?_
                rw [HT1.out]
                rintro _ z14 ⟨rfl, hlq⟩
                have HI8 := hide (HI8.out.below hlq HI8.out.lt)
                have HVD := hide (HVD.out.kept (Turn.of_below (F := fun _ => False) hlq) (fun _ h => h.elim))
                have Hz14 := hide (Hz13.out.trans (hlq.mono Hz13.out.size))
                have HAB := hide (HAB.out.below hlq HAB.out.lt)
                clear hlq
                first | (refine hKq.out _ _ (HRS.out _ (HRB.out.below Hz14.out HRB.out.lt)) (fun hHeld => ?_)) | (go_wp2_with fail; refine hKq.out _ _ (HRS.out _ (HRB.out.below Hz14.out HRB.out.lt)) (fun hHeld => ?_))
                clear hKq Kq
                try simp only [Act.put, List.setIfInBounds_toArray, List.set_cons_zero, List.set_cons_succ]
                refine heldTake (i := 11) (v := ?_) rfl (by kernel_rfl) (by kernel_rfl) (by kernel_rfl) (fun _ _ _ h => h) (Or.inl ⟨by rfl, ?_⟩) (by assumption) ?_
                rotate_left
                · intro w hSw; (try dsimp only at hSw); go_simp <;> (with_reducible rfl)
                try simp only [Act.put, List.setIfInBounds_toArray, List.set_cons_zero, List.set_cons_succ]
                refine heldTake (i := 12) (v := ?_) rfl (by kernel_rfl) (by kernel_rfl) (by kernel_rfl) (fun _ _ _ h => h) (Or.inl ⟨by rfl, ?_⟩) (by assumption) ?_
                rotate_left
                · intro w hSw; (try dsimp only at hSw); go_simp <;> (with_reducible rfl)
                try simp only [Act.put, List.setIfInBounds_toArray, List.set_cons_zero, List.set_cons_succ]
                refine heldTake (i := 13) (v := ?_) rfl (by kernel_rfl) (by kernel_rfl) (by kernel_rfl) (fun _ _ _ h => h) (Or.inl ⟨by rfl, ?_⟩) (by assumption) ?_
                rotate_left
                · intro w hSw; (try dsimp only at hSw); go_simp <;> (with_reducible rfl)
                try simp only [Act.put, List.setIfInBounds_toArray, List.set_cons_zero, List.set_cons_succ]
                refine wpAnyH_ready (rs := [15]) (by kernel_rfl) (by simp) ?_
                refine heldCons (i := 15) rfl (fun Kq hKq => ?_) AllReadyH.nil
                refine step_store_blk rfl 43 (.tmp 13) (.tmp 37) rfl sb 0 43 _ HAB.out rfl (secL g1) rfl (by rw [HG12.out]; exact psec_info) (by rw [HG12.out]; decide) HG11.out ?_
                intro z15 hb7q hg7 hs7
                have HB7 : Hid (Blk z15 sb 43 (secL g1).toArray) := hide (by
                  rw [List.take_zero, List.nil_append, HG12.out, List.drop_of_length_le (by decide), List.append_nil] at hb7q
                  exact hb7q)
                have Hz15 := hide (Hz14.out.grown hg7 Hz14.out.size (fun g e => by injection e with e; subst e; exact HAW.out))
                refine hKq.out _ _ (HRS.out _ (HRB.out.below Hz15.out HRB.out.lt)) (fun hHeld => ?_)
                clear hKq Kq
                try simp only [Act.put]
                refine heldTake (i := 16) (v := ?_) rfl (by kernel_rfl) (by kernel_rfl) (by kernel_rfl) (fun _ _ _ h => h) (Or.inl ⟨by rfl, ?_⟩) (by assumption) ?_
                rotate_left
                · intro w hSw; (try dsimp only at hSw); go_simp <;> (with_reducible rfl)
                try simp only [Act.put, List.setIfInBounds_toArray, List.set_cons_zero, List.set_cons_succ]
                refine wpAnyH_done (by kernel_rfl) ?_ _
                go_wp2_with fail
                go_meet
                exact ⟨sb, rfl, rfl, HB7, Hz15, HAW⟩
            · clear hHeld
              refine step_alloc_blk rfl 43 rfl _ (psec_nought _) ?_
              intro z16 h1 h2 h3
              have HAB : Hid (Blk z16 z3.heap.size 43 (B8 zeroL).toArray) := hide h1
              have Hz16 := hide (Hz3.out.trans (h2.mono Hz3.out.size))
              have HAW := hide (show w4.heap.size ≤ z3.heap.size from Hz3.out.size)
              clear h1 h2 h3
              obtain ⟨sb, hsb⟩ : ∃ sb, sb = z3.heap.size := ⟨_, rfl⟩
              rw [← hsb] at HAB HAW ⊢
              clear hsb
              first | (refine hKq.out _ _ (HRS.out _ (HRB.out.below Hz16.out HRB.out.lt)) (fun hHeld => ?_)) | (go_wp2_with fail; refine hKq.out _ _ (HRS.out _ (HRB.out.below Hz16.out HRB.out.lt)) (fun hHeld => ?_))
              clear hKq Kq
              try simp only [Act.put, List.setIfInBounds_toArray, List.set_cons_zero, List.set_cons_succ]
              refine wpAnyH_ready (rs := [8]) (by kernel_rfl) (by simp) ?_
              refine heldCons (i := 8) rfl (fun Kq hKq => ?_) AllReadyH.nil
              refine step_pls2 rfl (.tmp 29) (.tmp 33) rfl P R rfl rfl ?_
              obtain ⟨z17, hz17⟩ : ∃ v, v = z16.alloc (.cells (plsL [P, R]).toArray 47) := ⟨_, rfl⟩
              have hlq : Below z16.heap.size z16 z17 := by rw [hz17]; exact (Below.refl _ _).alloc (Nat.le_refl _) _
              have HI8 := hide (show Blk z17 z16.heap.size 47 (plsL [P, R]).toArray by rw [hz17]; exact Blk.new _ _ _)
              rw [← hz17]
              clear hz17
              obtain ⟨pb, hpb⟩ : ∃ pb, pb = z16.heap.size := ⟨_, rfl⟩
              rw [← hpb] at HI8 ⊢
              clear hpb
              have Hz17 := hide (Hz16.out.trans (hlq.mono Hz16.out.size))
              have HAB := hide (HAB.out.below hlq HAB.out.lt)
              clear hlq
              first | (refine hKq.out _ _ (HRS.out _ (HRB.out.below Hz17.out HRB.out.lt)) (fun hHeld => ?_)) | (go_wp2_with fail; refine hKq.out _ _ (HRS.out _ (HRB.out.below Hz17.out HRB.out.lt)) (fun hHeld => ?_))
              clear hKq Kq
              try simp only [Act.put, List.setIfInBounds_toArray, List.set_cons_zero, List.set_cons_succ]
              refine wpAnyH_ready (rs := [9]) (by kernel_rfl) (by simp) ?_
              refine heldCons (i := 9) rfl (fun Kq hKq => ?_) AllReadyH.nil
              go_simp
              go_at_call 70
              refine (values_make (some ⟨pb, 0, none⟩) 2 2 _).mono ?_
              rintro _ z18 ⟨rfl, hb1, hlq, hsq⟩
              have HVD := hide (show ValD _ (some ⟨pb, 0, none⟩) 2 2 [P, R] z18 from ⟨hb1, ⟨rfl, fun _ => ⟨_, rfl, (HI8.out.below hlq HI8.out.lt).lt, fun j v hj => blk_at (HI8.out.below hlq HI8.out.lt) j v hj⟩⟩⟩)
              have HI8 := hide (HI8.out.below hlq HI8.out.lt)
              have Hz18 := hide (Hz17.out.trans (hlq.mono Hz17.out.size))
              have HAB := hide (HAB.out.below hlq HAB.out.lt)
              clear hlq hb1 hsq
              first | (refine hKq.out _ _ (HRS.out _ (HRB.out.below Hz18.out HRB.out.lt)) (fun hHeld => ?_)) | (go_wp2_with fail; refine hKq.out _ _ (HRS.out _ (HRB.out.below Hz18.out HRB.out.lt)) (fun hHeld => ?_))
              clear hKq Kq
              try simp only [Act.put, List.setIfInBounds_toArray, List.set_cons_zero, List.set_cons_succ]
              refine wpAnyH_ready (rs := [10]) (by kernel_rfl) (by simp) ?_
              refine heldCons (i := 10) rfl (fun Kq hKq => ?_) AllReadyH.nil
              go_simp
              go_at_call 62
              refine (sgather_any (values_seq (L := [P, R]) (by decide)) (show (2 : Nat) ≤ 1000 by decide) _ HVD.out (HBK.out.later (HZ.out.trans (Hz18.out.mono HZ.out.size)))).mono ?_
              rw [HT1.out]
              rintro _ z19 ⟨rfl, hlq⟩
              have HI8 := hide (HI8.out.below hlq HI8.out.lt)
              have HVD := hide (HVD.out.kept (Turn.of_below (F := fun _ => False) hlq) (fun _ h => h.elim))
              have Hz19 := hide (Hz18.out.trans (hlq.mono Hz18.out.size))
              have HAB := hide (HAB.out.below hlq HAB.out.lt)
              clear hlq
              first | (refine hKq.out _ _ (HRS.out _ (HRB.out.below Hz19.out HRB.out.lt)) (fun hHeld => ?_)) | (go_wp2_with fail; refine hKq.out _ _ (HRS.out _ (HRB.out.below Hz19.out HRB.out.lt)) (fun hHeld => ?_))
              clear hKq Kq
              try simp only [Act.put, List.setIfInBounds_toArray, List.set_cons_zero, List.set_cons_succ]
              refine heldTake (i := 11) (v := ?_) rfl (by kernel_rfl) (by kernel_rfl) (by kernel_rfl) (fun _ _ _ h => h) (Or.inl ⟨by rfl, ?_⟩) (by assumption) ?_
              rotate_left
              · intro w hSw; (try dsimp only at hSw); go_simp <;> (with_reducible rfl)
              try simp only [Act.put, List.setIfInBounds_toArray, List.set_cons_zero, List.set_cons_succ]
              refine heldTake (i := 12) (v := ?_) rfl (by kernel_rfl) (by kernel_rfl) (by kernel_rfl) (fun _ _ _ h => h) (Or.inl ⟨by rfl, ?_⟩) (by assumption) ?_
              rotate_left
              · intro w hSw; (try dsimp only at hSw); go_simp <;> (with_reducible rfl)
              try simp only [Act.put, List.setIfInBounds_toArray, List.set_cons_zero, List.set_cons_succ]
              refine heldTake (i := 13) (v := ?_) rfl (by kernel_rfl) (by kernel_rfl) (by kernel_rfl) (fun _ _ _ h => h) (Or.inl ⟨by rfl, ?_⟩) (by assumption) ?_
              rotate_left
              · intro w hSw; (try dsimp only at hSw); go_simp <;> (with_reducible rfl)
              try simp only [Act.put, List.setIfInBounds_toArray, List.set_cons_zero, List.set_cons_succ]
              refine wpAnyH_ready (rs := [15]) (by kernel_rfl) (by simp) ?_
              refine heldCons (i := 15) rfl (fun Kq hKq => ?_) AllReadyH.nil
              refine step_store_blk rfl 43 (.tmp 13) (.tmp 37) rfl sb 0 43 _ HAB.out rfl (secL g1) rfl (by rw [HG12.out]; exact psec_info) (by rw [HG12.out]; decide) HG11.out ?_
              intro z20 hb7q hg7 hs7
              have HB7 : Hid (Blk z20 sb 43 (secL g1).toArray) := hide (by
                rw [List.take_zero, List.nil_append, HG12.out, List.drop_of_length_le (by decide), List.append_nil] at hb7q
                exact hb7q)
              have Hz20 := hide (Hz19.out.grown hg7 Hz19.out.size (fun g e => by injection e with e; subst e; exact HAW.out))
              refine hKq.out _ _ (HRS.out _ (HRB.out.below Hz20.out HRB.out.lt)) (fun hHeld => ?_)
              clear hKq Kq
              try simp only [Act.put]
              refine heldTake (i := 16) (v := ?_) rfl (by kernel_rfl) (by kernel_rfl) (by kernel_rfl) (fun _ _ _ h => h) (Or.inl ⟨by rfl, ?_⟩) (by assumption) ?_
              rotate_left
              · intro w hSw; (try dsimp only at hSw); go_simp <;> (with_reducible rfl)
              try simp only [Act.put, List.setIfInBounds_toArray, List.set_cons_zero, List.set_cons_succ]
              refine wpAnyH_done (by kernel_rfl) ?_ _
              go_wp2_with fail
              go_meet
              exact ⟨sb, rfl, rfl, HB7, Hz20, HAW⟩
          · clear hHeld
            refine step_alloc_blk rfl 43 rfl _ (psec_nought _) ?_
            intro z21 h1 h2 h3
            have HAB : Hid (Blk z21 z2.heap.size 43 (B8 zeroL).toArray) := hide h1
            have Hz21 := hide (Hz2.out.trans (h2.mono Hz2.out.size))
            have HAW := hide (show w4.heap.size ≤ z2.heap.size from Hz2.out.size)
            clear h1 h2 h3
            obtain ⟨sb, hsb⟩ : ∃ sb, sb = z2.heap.size := ⟨_, rfl⟩
            rw [← hsb] at HAB HAW ⊢
            clear hsb
            first | (refine hKq.out _ _ (HRS.out _ (HRB.out.below Hz21.out HRB.out.lt)) (fun hHeld => ?_)) | (go_wp2_with fail; refine hKq.out _ _ (HRS.out _ (HRB.out.below Hz21.out HRB.out.lt)) (fun hHeld => ?_))
            clear hKq Kq
            try simp only [Act.put, List.setIfInBounds_toArray, List.set_cons_zero, List.set_cons_succ]
            refine wpAnyH_ready (rs := [7]) (by kernel_rfl) (by simp) ?_
            refine heldCons (i := 7) rfl (fun Kq hKq => ?_) AllReadyH.nil
            go_simp
            go_at_call 51
            refine (HO2.out _ (HZ.out.trans (Hz21.out.mono HZ.out.size))).mono ?_
            rintro _ z22 ⟨rfl, hlq⟩
            have Hz22 := hide (Hz21.out.trans (hlq.mono Hz21.out.size))
            have HAB := hide (HAB.out.below hlq HAB.out.lt)
            clear hlq
            first | (refine hKq.out _ _ (HRS.out _ (HRB.out.below Hz22.out HRB.out.lt)) (fun hHeld => ?_)) | (go_wp2_with fail; refine hKq.out _ _ (HRS.out _ (HRB.out.below Hz22.out HRB.out.lt)) (fun hHeld => ?_))
            clear hKq Kq
            try simp only [Act.put, List.setIfInBounds_toArray, List.set_cons_zero, List.set_cons_succ]
            refine wpAnyH_ready (rs := [8]) (by kernel_rfl) (by simp) ?_
            refine heldCons (i := 8) rfl (fun Kq hKq => ?_) AllReadyH.nil
            refine step_pls2 rfl (.tmp 29) (.tmp 33) rfl P R rfl rfl ?_
            obtain ⟨z23, hz23⟩ : ∃ v, v = z22.alloc (.cells (plsL [P, R]).toArray 47) := ⟨_, rfl⟩
            have hlq : Below z22.heap.size z22 z23 := by rw [hz23]; exact (Below.refl _ _).alloc (Nat.le_refl _) _
            have HI8 := hide (show Blk z23 z22.heap.size 47 (plsL [P, R]).toArray by rw [hz23]; exact Blk.new _ _ _)
            rw [← hz23]
            clear hz23
            obtain ⟨pb, hpb⟩ : ∃ pb, pb = z22.heap.size := ⟨_, rfl⟩
            rw [← hpb] at HI8 ⊢
            clear hpb
            have Hz23 := hide (Hz22.out.trans (hlq.mono Hz22.out.size))
            have HAB := hide (HAB.out.below hlq HAB.out.lt)
            clear hlq
            first | (refine hKq.out _ _ (HRS.out _ (HRB.out.below Hz23.out HRB.out.lt)) (fun hHeld => ?_)) | (go_wp2_with fail; refine hKq.out _ _ (HRS.out _ (HRB.out.below Hz23.out HRB.out.lt)) (fun hHeld => ?_))
            clear hKq Kq
            try simp only [Act.put, List.setIfInBounds_toArray, List.set_cons_zero, List.set_cons_succ]
            refine wpAnyH_ready (rs := [9]) (by kernel_rfl) (by simp) ?_
            refine heldCons (i := 9) rfl (fun Kq hKq => ?_) AllReadyH.nil
            go_simp
            go_at_call 70
            refine (values_make (some ⟨pb, 0, none⟩) 2 2 _).mono ?_
            rintro _ z24 ⟨rfl, hb1, hlq, hsq⟩
            have HVD := hide (show ValD _ (some ⟨pb, 0, none⟩) 2 2 [P, R] z24 from ⟨hb1, ⟨rfl, fun _ => ⟨_, rfl, (HI8.out.below hlq HI8.out.lt).lt, fun j v hj => blk_at (HI8.out.below hlq HI8.out.lt) j v hj⟩⟩⟩)
            have HI8 := hide (HI8.out.below hlq HI8.out.lt)
            have Hz24 := hide (Hz23.out.trans (hlq.mono Hz23.out.size))
            have HAB := hide (HAB.out.below hlq HAB.out.lt)
            clear hlq hb1 hsq
            first | (refine hKq.out _ _ (HRS.out _ (HRB.out.below Hz24.out HRB.out.lt)) (fun hHeld => ?_)) | (go_wp2_with fail; refine hKq.out _ _ (HRS.out _ (HRB.out.below Hz24.out HRB.out.lt)) (fun hHeld => ?_))
            clear hKq Kq
            try simp only [Act.put, List.setIfInBounds_toArray, List.set_cons_zero, List.set_cons_succ]
            refine wpAnyH_ready (rs := [10]) (by kernel_rfl) (by simp) ?_
            refine heldCons (i := 10) rfl (fun Kq hKq => ?_) AllReadyH.nil
            go_simp
            go_at_call 62
            refine (sgather_any (values_seq (L := [P, R]) (by decide)) (show (2 : Nat) ≤ 1000 by decide) _ HVD.out (HBK.out.later (HZ.out.trans (Hz24.out.mono HZ.out.size)))).mono ?_
            rw [HT1.out]
            rintro _ z25 ⟨rfl, hlq⟩
            have HI8 := hide (HI8.out.below hlq HI8.out.lt)
            have HVD := hide (HVD.out.kept (Turn.of_below (F := fun _ => False) hlq) (fun _ h => h.elim))
            have Hz25 := hide (Hz24.out.trans (hlq.mono Hz24.out.size))
            have HAB := hide (HAB.out.below hlq HAB.out.lt)
            clear hlq
            first | (refine hKq.out _ _ (HRS.out _ (HRB.out.below Hz25.out HRB.out.lt)) (fun hHeld => ?_)) | (go_wp2_with fail; refine hKq.out _ _ (HRS.out _ (HRB.out.below Hz25.out HRB.out.lt)) (fun hHeld => ?_))
            clear hKq Kq
            try simp only [Act.put, List.setIfInBounds_toArray, List.set_cons_zero, List.set_cons_succ]
            refine heldTake (i := 11) (v := ?_) rfl (by kernel_rfl) (by kernel_rfl) (by kernel_rfl) (fun _ _ _ h => h) (Or.inl ⟨by rfl, ?_⟩) (by assumption) ?_
            rotate_left
            · intro w hSw; (try dsimp only at hSw); go_simp <;> (with_reducible rfl)
            try simp only [Act.put, List.setIfInBounds_toArray, List.set_cons_zero, List.set_cons_succ]
            refine heldTake (i := 12) (v := ?_) rfl (by kernel_rfl) (by kernel_rfl) (by kernel_rfl) (fun _ _ _ h => h) (Or.inl ⟨by rfl, ?_⟩) (by assumption) ?_
            rotate_left
            · intro w hSw; (try dsimp only at hSw); go_simp <;> (with_reducible rfl)
            try simp only [Act.put, List.setIfInBounds_toArray, List.set_cons_zero, List.set_cons_succ]
            refine heldTake (i := 13) (v := ?_) rfl (by kernel_rfl) (by kernel_rfl) (by kernel_rfl) (fun _ _ _ h => h) (Or.inl ⟨by rfl, ?_⟩) (by assumption) ?_
            rotate_left
            · intro w hSw; (try dsimp only at hSw); go_simp <;> (with_reducible rfl)
            try simp only [Act.put, List.setIfInBounds_toArray, List.set_cons_zero, List.set_cons_succ]
            refine wpAnyH_ready (rs := [15]) (by kernel_rfl) (by simp) ?_
            refine heldCons (i := 15) rfl (fun Kq hKq => ?_) AllReadyH.nil
            refine step_store_blk rfl 43 (.tmp 13) (.tmp 37) rfl sb 0 43 _ HAB.out rfl (secL g1) rfl (by rw [HG12.out]; exact psec_info) (by rw [HG12.out]; decide) HG11.out ?_
            intro z26 hb7q hg7 hs7
            have HB7 : Hid (Blk z26 sb 43 (secL g1).toArray) := hide (by
              rw [List.take_zero, List.nil_append, HG12.out, List.drop_of_length_le (by decide), List.append_nil] at hb7q
              exact hb7q)
            have Hz26 := hide (Hz25.out.grown hg7 Hz25.out.size (fun g e => by injection e with e; subst e; exact HAW.out))
            refine hKq.out _ _ (HRS.out _ (HRB.out.below Hz26.out HRB.out.lt)) (fun hHeld => ?_)
            clear hKq Kq
            try simp only [Act.put]
            refine heldTake (i := 16) (v := ?_) rfl (by kernel_rfl) (by kernel_rfl) (by kernel_rfl) (fun _ _ _ h => h) (Or.inl ⟨by rfl, ?_⟩) (by assumption) ?_
            rotate_left
            · intro w hSw; (try dsimp only at hSw); go_simp <;> (with_reducible rfl)
            try simp only [Act.put, List.setIfInBounds_toArray, List.set_cons_zero, List.set_cons_succ]
            refine wpAnyH_done (by kernel_rfl) ?_ _
            go_wp2_with fail
            go_meet
            exact ⟨sb, rfl, rfl, HB7, Hz26, HAW⟩
        · clear hHeld
          refine step_alloc_blk rfl 43 rfl _ (psec_nought _) ?_
          intro z27 h1 h2 h3
          have HAB : Hid (Blk z27 z1.heap.size 43 (B8 zeroL).toArray) := hide h1
          have Hz27 := hide (Hz1.out.trans (h2.mono Hz1.out.size))
          have HAW := hide (show w4.heap.size ≤ z1.heap.size from Hz1.out.size)
          clear h1 h2 h3
          obtain ⟨sb, hsb⟩ : ∃ sb, sb = z1.heap.size := ⟨_, rfl⟩
          rw [← hsb] at HAB HAW ⊢
          clear hsb
          first | (refine hKq.out _ _ (HRS.out _ (HRB.out.below Hz27.out HRB.out.lt)) (fun hHeld => ?_)) | (go_wp2_with fail; refine hKq.out _ _ (HRS.out _ (HRB.out.below Hz27.out HRB.out.lt)) (fun hHeld => ?_))
          clear hKq Kq
          try simp only [Act.put, List.setIfInBounds_toArray, List.set_cons_zero, List.set_cons_succ]
          refine wpAnyH_ready (rs := [6]) (by kernel_rfl) (by simp) ?_
          refine heldCons (i := 6) rfl (fun Kq hKq => ?_) AllReadyH.nil
          go_simp
          go_at_call 52
          refine (HP.out _).mono ?_
          rintro _ z28 ⟨rfl, hlq⟩
          have Hz28 := hide (Hz27.out.trans (hlq.mono Hz27.out.size))
          have HAB := hide (HAB.out.below hlq HAB.out.lt)
          clear hlq
          first | (refine hKq.out _ _ (HRS.out _ (HRB.out.below Hz28.out HRB.out.lt)) (fun hHeld => ?_)) | (go_wp2_with fail; refine hKq.out _ _ (HRS.out _ (HRB.out.below Hz28.out HRB.out.lt)) (fun hHeld => ?_))
          clear hKq Kq
          try simp only [Act.put, List.setIfInBounds_toArray, List.set_cons_zero, List.set_cons_succ]
          refine wpAnyH_ready (rs := [7]) (by kernel_rfl) (by simp) ?_
          refine heldCons (i := 7) rfl (fun Kq hKq => ?_) AllReadyH.nil
          go_simp
          go_at_call 51
          refine (HO2.out _ (HZ.out.trans (Hz28.out.mono HZ.out.size))).mono ?_
          rintro _ z29 ⟨rfl, hlq⟩
          have Hz29 := hide (Hz28.out.trans (hlq.mono Hz28.out.size))
          have HAB := hide (HAB.out.below hlq HAB.out.lt)
          clear hlq
          first | (refine hKq.out _ _ (HRS.out _ (HRB.out.below Hz29.out HRB.out.lt)) (fun hHeld => ?_)) | (go_wp2_with fail; refine hKq.out _ _ (HRS.out _ (HRB.out.below Hz29.out HRB.out.lt)) (fun hHeld => ?_))
          clear hKq Kq
          try simp only [Act.put, List.setIfInBounds_toArray, List.set_cons_zero, List.set_cons_succ]
          refine wpAnyH_ready (rs := [8]) (by kernel_rfl) (by simp) ?_
          refine heldCons (i := 8) rfl (fun Kq hKq => ?_) AllReadyH.nil
          refine step_pls2 rfl (.tmp 29) (.tmp 33) rfl P R rfl rfl ?_
          obtain ⟨z30, hz30⟩ : ∃ v, v = z29.alloc (.cells (plsL [P, R]).toArray 47) := ⟨_, rfl⟩
          have hlq : Below z29.heap.size z29 z30 := by rw [hz30]; exact (Below.refl _ _).alloc (Nat.le_refl _) _
          have HI8 := hide (show Blk z30 z29.heap.size 47 (plsL [P, R]).toArray by rw [hz30]; exact Blk.new _ _ _)
          rw [← hz30]
          clear hz30
          obtain ⟨pb, hpb⟩ : ∃ pb, pb = z29.heap.size := ⟨_, rfl⟩
          rw [← hpb] at HI8 ⊢
          clear hpb
          have Hz30 := hide (Hz29.out.trans (hlq.mono Hz29.out.size))
          have HAB := hide (HAB.out.below hlq HAB.out.lt)
          clear hlq
          first | (refine hKq.out _ _ (HRS.out _ (HRB.out.below Hz30.out HRB.out.lt)) (fun hHeld => ?_)) | (go_wp2_with fail; refine hKq.out _ _ (HRS.out _ (HRB.out.below Hz30.out HRB.out.lt)) (fun hHeld => ?_))
          clear hKq Kq
          try simp only [Act.put, List.setIfInBounds_toArray, List.set_cons_zero, List.set_cons_succ]
          refine wpAnyH_ready (rs := [9]) (by kernel_rfl) (by simp) ?_
          refine heldCons (i := 9) rfl (fun Kq hKq => ?_) AllReadyH.nil
          go_simp
          go_at_call 70
          refine (values_make (some ⟨pb, 0, none⟩) 2 2 _).mono ?_
          rintro _ z31 ⟨rfl, hb1, hlq, hsq⟩
          have HVD := hide (show ValD _ (some ⟨pb, 0, none⟩) 2 2 [P, R] z31 from ⟨hb1, ⟨rfl, fun _ => ⟨_, rfl, (HI8.out.below hlq HI8.out.lt).lt, fun j v hj => blk_at (HI8.out.below hlq HI8.out.lt) j v hj⟩⟩⟩)
          have HI8 := hide (HI8.out.below hlq HI8.out.lt)
          have Hz31 := hide (Hz30.out.trans (hlq.mono Hz30.out.size))
          have HAB := hide (HAB.out.below hlq HAB.out.lt)
          clear hlq hb1 hsq
          first | (refine hKq.out _ _ (HRS.out _ (HRB.out.below Hz31.out HRB.out.lt)) (fun hHeld => ?_)) | (go_wp2_with fail; refine hKq.out _ _ (HRS.out _ (HRB.out.below Hz31.out HRB.out.lt)) (fun hHeld => ?_))
          clear hKq Kq
          try simp only [Act.put, List.setIfInBounds_toArray, List.set_cons_zero, List.set_cons_succ]
          refine wpAnyH_ready (rs := [10]) (by kernel_rfl) (by simp) ?_
          refine heldCons (i := 10) rfl (fun Kq hKq => ?_) AllReadyH.nil
          go_simp
          go_at_call 62
          refine (sgather_any (values_seq (L := [P, R]) (by decide)) (show (2 : Nat) ≤ 1000 by decide) _ HVD.out (HBK.out.later (HZ.out.trans (Hz31.out.mono HZ.out.size)))).mono ?_
          rw [HT1.out]
          rintro _ z32 ⟨rfl, hlq⟩
          have HI8 := hide (HI8.out.below hlq HI8.out.lt)
          have HVD := hide (HVD.out.kept (Turn.of_below (F := fun _ => False) hlq) (fun _ h => h.elim))
          have Hz32 := hide (Hz31.out.trans (hlq.mono Hz31.out.size))
          have HAB := hide (HAB.out.below hlq HAB.out.lt)
          clear hlq
          first | (refine hKq.out _ _ (HRS.out _ (HRB.out.below Hz32.out HRB.out.lt)) (fun hHeld => ?_)) | (go_wp2_with fail; refine hKq.out _ _ (HRS.out _ (HRB.out.below Hz32.out HRB.out.lt)) (fun hHeld => ?_))
          clear hKq Kq
          try simp only [Act.put, List.setIfInBounds_toArray, List.set_cons_zero, List.set_cons_succ]
          refine heldTake (i := 11) (v := ?_) rfl (by kernel_rfl) (by kernel_rfl) (by kernel_rfl) (fun _ _ _ h => h) (Or.inl ⟨by rfl, ?_⟩) (by assumption) ?_
          rotate_left
          · intro w hSw; (try dsimp only at hSw); go_simp <;> (with_reducible rfl)
          try simp only [Act.put, List.setIfInBounds_toArray, List.set_cons_zero, List.set_cons_succ]
          refine heldTake (i := 12) (v := ?_) rfl (by kernel_rfl) (by kernel_rfl) (by kernel_rfl) (fun _ _ _ h => h) (Or.inl ⟨by rfl, ?_⟩) (by assumption) ?_
          rotate_left
          · intro w hSw; (try dsimp only at hSw); go_simp <;> (with_reducible rfl)
          try simp only [Act.put, List.setIfInBounds_toArray, List.set_cons_zero, List.set_cons_succ]
          refine heldTake (i := 13) (v := ?_) rfl (by kernel_rfl) (by kernel_rfl) (by kernel_rfl) (fun _ _ _ h => h) (Or.inl ⟨by rfl, ?_⟩) (by assumption) ?_
          rotate_left
          · intro w hSw; (try dsimp only at hSw); go_simp <;> (with_reducible rfl)
          try simp only [Act.put, List.setIfInBounds_toArray, List.set_cons_zero, List.set_cons_succ]
          refine wpAnyH_ready (rs := [15]) (by kernel_rfl) (by simp) ?_
          refine heldCons (i := 15) rfl (fun Kq hKq => ?_) AllReadyH.nil
          refine step_store_blk rfl 43 (.tmp 13) (.tmp 37) rfl sb 0 43 _ HAB.out rfl (secL g1) rfl (by rw [HG12.out]; exact psec_info) (by rw [HG12.out]; decide) HG11.out ?_
          intro z33 hb7q hg7 hs7
          have HB7 : Hid (Blk z33 sb 43 (secL g1).toArray) := hide (by
            rw [List.take_zero, List.nil_append, HG12.out, List.drop_of_length_le (by decide), List.append_nil] at hb7q
            exact hb7q)
          have Hz33 := hide (Hz32.out.grown hg7 Hz32.out.size (fun g e => by injection e with e; subst e; exact HAW.out))
          refine hKq.out _ _ (HRS.out _ (HRB.out.below Hz33.out HRB.out.lt)) (fun hHeld => ?_)
          clear hKq Kq
          try simp only [Act.put]
          refine heldTake (i := 16) (v := ?_) rfl (by kernel_rfl) (by kernel_rfl) (by kernel_rfl) (fun _ _ _ h => h) (Or.inl ⟨by rfl, ?_⟩) (by assumption) ?_
          rotate_left
          · intro w hSw; (try dsimp only at hSw); go_simp <;> (with_reducible rfl)
          try simp only [Act.put, List.setIfInBounds_toArray, List.set_cons_zero, List.set_cons_succ]
          refine wpAnyH_done (by kernel_rfl) ?_ _
          go_wp2_with fail
          go_meet
          exact ⟨sb, rfl, rfl, HB7, Hz33, HAW⟩
      · clear hHeld
        refine step_alloc_blk rfl 43 rfl _ (psec_nought _) ?_
        intro z34 h1 h2 h3
        have HAB : Hid (Blk z34 w4.drew.heap.size 43 (B8 zeroL).toArray) := hide h1
        have Hz34 := hide (Hz0.out.trans (h2.mono Hz0.out.size))
        have HAW := hide (show w4.heap.size ≤ w4.drew.heap.size from Hz0.out.size)
        clear h1 h2 h3
        obtain ⟨sb, hsb⟩ : ∃ sb, sb = w4.drew.heap.size := ⟨_, rfl⟩
        rw [← hsb] at HAB HAW ⊢
        clear hsb
        first | (refine hKq.out _ _ (HRS.out _ (HRB.out.below Hz34.out HRB.out.lt)) (fun hHeld => ?_)) | (go_wp2_with fail; refine hKq.out _ _ (HRS.out _ (HRB.out.below Hz34.out HRB.out.lt)) (fun hHeld => ?_))
        clear hKq Kq
        try simp only [Act.put, List.setIfInBounds_toArray, List.set_cons_zero, List.set_cons_succ]
        refine wpAnyH_ready (rs := [3]) (by kernel_rfl) (by simp) ?_
        refine heldCons (i := 3) rfl (fun Kq hKq => ?_) AllReadyH.nil
        go_simp
        go_at_call 51
        refine (HO1.out _ (HZ.out.trans (Hz34.out.mono HZ.out.size))).mono ?_
        rintro _ z35 ⟨rfl, hlq⟩
        have Hz35 := hide (Hz34.out.trans (hlq.mono Hz34.out.size))
        have HAB := hide (HAB.out.below hlq HAB.out.lt)
        clear hlq
        first | (refine hKq.out _ _ (HRS.out _ (HRB.out.below Hz35.out HRB.out.lt)) (fun hHeld => ?_)) | (go_wp2_with fail; refine hKq.out _ _ (HRS.out _ (HRB.out.below Hz35.out HRB.out.lt)) (fun hHeld => ?_))
        clear hKq Kq
        try simp only [Act.put, List.setIfInBounds_toArray, List.set_cons_zero, List.set_cons_succ]
        refine wpAnyH_ready (rs := [6]) (by kernel_rfl) (by simp) ?_
        refine heldCons (i := 6) rfl (fun Kq hKq => ?_) AllReadyH.nil
        go_simp
        go_at_call 52
        refine (HP.out _).mono ?_
        rintro _ z36 ⟨rfl, hlq⟩
        have Hz36 := hide (Hz35.out.trans (hlq.mono Hz35.out.size))
        have HAB := hide (HAB.out.below hlq HAB.out.lt)
        clear hlq
        first | (refine hKq.out _ _ (HRS.out _ (HRB.out.below Hz36.out HRB.out.lt)) (fun hHeld => ?_)) | (go_wp2_with fail; refine hKq.out _ _ (HRS.out _ (HRB.out.below Hz36.out HRB.out.lt)) (fun hHeld => ?_))
        clear hKq Kq
        try simp only [Act.put, List.setIfInBounds_toArray, List.set_cons_zero, List.set_cons_succ]
        refine wpAnyH_ready (rs := [7]) (by kernel_rfl) (by simp) ?_
        refine heldCons (i := 7) rfl (fun Kq hKq => ?_) AllReadyH.nil
        go_simp
        go_at_call 51
        refine (HO2.out _ (HZ.out.trans (Hz36.out.mono HZ.out.size))).mono ?_
        rintro _ z37 ⟨rfl, hlq⟩
        have Hz37 := hide (Hz36.out.trans (hlq.mono Hz36.out.size))
        have HAB := hide (HAB.out.below hlq HAB.out.lt)
        clear hlq
        first | (refine hKq.out _ _ (HRS.out _ (HRB.out.below Hz37.out HRB.out.lt)) (fun hHeld => ?_)) | (go_wp2_with fail; refine hKq.out _ _ (HRS.out _ (HRB.out.below Hz37.out HRB.out.lt)) (fun hHeld => ?_))
        clear hKq Kq
        try simp only [Act.put, List.setIfInBounds_toArray, List.set_cons_zero, List.set_cons_succ]
        refine wpAnyH_ready (rs := [8]) (by kernel_rfl) (by simp) ?_
        refine heldCons (i := 8) rfl (fun Kq hKq => ?_) AllReadyH.nil
        refine step_pls2 rfl (.tmp 29) (.tmp 33) rfl P R rfl rfl ?_
        obtain ⟨z38, hz38⟩ : ∃ v, v = z37.alloc (.cells (plsL [P, R]).toArray 47) := ⟨_, rfl⟩
        have hlq : Below z37.heap.size z37 z38 := by rw [hz38]; exact (Below.refl _ _).alloc (Nat.le_refl _) _
        have HI8 := hide (show Blk z38 z37.heap.size 47 (plsL [P, R]).toArray by rw [hz38]; exact Blk.new _ _ _)
        rw [← hz38]
        clear hz38
        obtain ⟨pb, hpb⟩ : ∃ pb, pb = z37.heap.size := ⟨_, rfl⟩
        rw [← hpb] at HI8 ⊢
        clear hpb
        have Hz38 := hide (Hz37.out.trans (hlq.mono Hz37.out.size))
        have HAB := hide (HAB.out.below hlq HAB.out.lt)
        clear hlq
        first | (refine hKq.out _ _ (HRS.out _ (HRB.out.below Hz38.out HRB.out.lt)) (fun hHeld => ?_)) | (go_wp2_with fail; refine hKq.out _ _ (HRS.out _ (HRB.out.below Hz38.out HRB.out.lt)) (fun hHeld => ?_))
        clear hKq Kq
        try simp only [Act.put, List.setIfInBounds_toArray, List.set_cons_zero, List.set_cons_succ]
        refine wpAnyH_ready (rs := [9]) (by kernel_rfl) (by simp) ?_
        refine heldCons (i := 9) rfl (fun Kq hKq => ?_) AllReadyH.nil
        go_simp
        go_at_call 70
        refine (values_make (some ⟨pb, 0, none⟩) 2 2 _).mono ?_
        rintro _ z39 ⟨rfl, hb1, hlq, hsq⟩
        have HVD := hide (show ValD _ (some ⟨pb, 0, none⟩) 2 2 [P, R] z39 from ⟨hb1, ⟨rfl, fun _ => ⟨_, rfl, (HI8.out.below hlq HI8.out.lt).lt, fun j v hj => blk_at (HI8.out.below hlq HI8.out.lt) j v hj⟩⟩⟩)
        have HI8 := hide (HI8.out.below hlq HI8.out.lt)
        have Hz39 := hide (Hz38.out.trans (hlq.mono Hz38.out.size))
        have HAB := hide (HAB.out.below hlq HAB.out.lt)
        clear hlq hb1 hsq
        first | (refine hKq.out _ _ (HRS.out _ (HRB.out.below Hz39.out HRB.out.lt)) (fun hHeld => ?_)) | (go_wp2_with fail; refine hKq.out _ _ (HRS.out _ (HRB.out.below Hz39.out HRB.out.lt)) (fun hHeld => ?_))
        clear hKq Kq
        try simp only [Act.put, List.setIfInBounds_toArray, List.set_cons_zero, List.set_cons_succ]
        refine wpAnyH_ready (rs := [10]) (by kernel_rfl) (by simp) ?_
        refine heldCons (i := 10) rfl (fun Kq hKq => ?_) AllReadyH.nil
        go_simp
        go_at_call 62
        refine (sgather_any (values_seq (L := [P, R]) (by decide)) (show (2 : Nat) ≤ 1000 by decide) _ HVD.out (HBK.out.later (HZ.out.trans (Hz39.out.mono HZ.out.size)))).mono ?_
        rw [HT1.out]
        rintro _ z40 ⟨rfl, hlq⟩
        have HI8 := hide (HI8.out.below hlq HI8.out.lt)
        have HVD := hide (HVD.out.kept (Turn.of_below (F := fun _ => False) hlq) (fun _ h => h.elim))
        have Hz40 := hide (Hz39.out.trans (hlq.mono Hz39.out.size))
        have HAB := hide (HAB.out.below hlq HAB.out.lt)
        clear hlq
        first | (refine hKq.out _ _ (HRS.out _ (HRB.out.below Hz40.out HRB.out.lt)) (fun hHeld => ?_)) | (go_wp2_with fail; refine hKq.out _ _ (HRS.out _ (HRB.out.below Hz40.out HRB.out.lt)) (fun hHeld => ?_))
        clear hKq Kq
        try simp only [Act.put, List.setIfInBounds_toArray, List.set_cons_zero, List.set_cons_succ]
        refine heldTake (i := 11) (v := ?_) rfl (by kernel_rfl) (by kernel_rfl) (by kernel_rfl) (fun _ _ _ h => h) (Or.inl ⟨by rfl, ?_⟩) (by assumption) ?_
        rotate_left
        · intro w hSw; (try dsimp only at hSw); go_simp <;> (with_reducible rfl)
        try simp only [Act.put, List.setIfInBounds_toArray, List.set_cons_zero, List.set_cons_succ]
        refine heldTake (i := 12) (v := ?_) rfl (by kernel_rfl) (by kernel_rfl) (by kernel_rfl) (fun _ _ _ h => h) (Or.inl ⟨by rfl, ?_⟩) (by assumption) ?_
        rotate_left
        · intro w hSw; (try dsimp only at hSw); go_simp <;> (with_reducible rfl)
        try simp only [Act.put, List.setIfInBounds_toArray, List.set_cons_zero, List.set_cons_succ]
        refine heldTake (i := 13) (v := ?_) rfl (by kernel_rfl) (by kernel_rfl) (by kernel_rfl) (fun _ _ _ h => h) (Or.inl ⟨by rfl, ?_⟩) (by assumption) ?_
        rotate_left
        · intro w hSw; (try dsimp only at hSw); go_simp <;> (with_reducible rfl)
        try simp only [Act.put, List.setIfInBounds_toArray, List.set_cons_zero, List.set_cons_succ]
        refine wpAnyH_ready (rs := [15]) (by kernel_rfl) (by simp) ?_
        refine heldCons (i := 15) rfl (fun Kq hKq => ?_) AllReadyH.nil
        refine step_store_blk rfl 43 (.tmp 13) (.tmp 37) rfl sb 0 43 _ HAB.out rfl (secL g1) rfl (by rw [HG12.out]; exact psec_info) (by rw [HG12.out]; decide) HG11.out ?_
        intro z41 hb7q hg7 hs7
        have HB7 : Hid (Blk z41 sb 43 (secL g1).toArray) := hide (by
          rw [List.take_zero, List.nil_append, HG12.out, List.drop_of_length_le (by decide), List.append_nil] at hb7q
          exact hb7q)
        have Hz41 := hide (Hz40.out.grown hg7 Hz40.out.size (fun g e => by injection e with e; subst e; exact HAW.out))
        refine hKq.out _ _ (HRS.out _ (HRB.out.below Hz41.out HRB.out.lt)) (fun hHeld => ?_)
        clear hKq Kq
        try simp only [Act.put]
        refine heldTake (i := 16) (v := ?_) rfl (by kernel_rfl) (by kernel_rfl) (by kernel_rfl) (fun _ _ _ h => h) (Or.inl ⟨by rfl, ?_⟩) (by assumption) ?_
        rotate_left
        · intro w hSw; (try dsimp only at hSw); go_simp <;> (with_reducible rfl)
        try simp only [Act.put, List.setIfInBounds_toArray, List.set_cons_zero, List.set_cons_succ]
        refine wpAnyH_done (by kernel_rfl) ?_ _
        go_wp2_with fail
        go_meet
        exact ⟨sb, rfl, rfl, HB7, Hz41, HAW⟩
    case rest =>
      obtain ⟨sb, rfl, rfl, HSB, HZ5, HSW⟩ := hcut
      have HRB5 := hide (HRB.out.below HZ5.out HRB.out.lt)
      have HRX := hide (show rb < w4.heap.size from HRB.out.lt)
      by_cases h5 : E1 = 5
      · have hE5 : (E1 : Int) = 5 := by omega
        rw [hE5]
        have HRA := hide (show res = if E2 = 0 then (xorS g2 s0, 0) else (zeroSec, E2) by rw [HRES.out, if_pos h5])
        have HY0 := hide (show Below wc.heap.size wc wc.drew from (Below.refl _ _).drew)
        have HW5 := hide (HZ.out.trans (HZ5.out.mono HZ.out.size))
        clear h5 hE5
        go_upto_region 6 with fail
        refine wp_region_held_drew (S := (fun W => W.cell? ⟨rb, 0, none⟩ = some (.slice A n c) ∧ W.cell? ⟨rb, 1, none⟩ = some (.int .i64 (t : Int)))) (by kernel_rfl) ?_ (fun hHeld => ?_)
        · exact (HRS.out _ (HRB5.out.below HY0.out HRB5.out.lt))
        refine heldTake (i := 0) (v := ?_) rfl (by kernel_rfl) (by kernel_rfl) (by kernel_rfl) (fun _ _ _ h => h) (Or.inl ⟨by rfl, ?_⟩) (by assumption) ?_
        rotate_left
        · intro w hSw; (try dsimp only at hSw); go_simp <;> (with_reducible rfl)
        try simp only [Act.put, List.setIfInBounds_toArray, List.set_cons_zero, List.set_cons_succ]
        refine heldTake (i := 1) (v := .agg (rowL A n c t).toArray) rfl (by kernel_rfl) (by kernel_rfl) (by kernel_rfl) (fun _ _ _ h => h) (Or.inl ⟨by rfl, fun V hV => ?_⟩) (by assumption) ?_
        · obtain ⟨e0, e1⟩ := hV
          go_simp
          try rfl
        try simp only [Act.put, List.setIfInBounds_toArray, List.set_cons_zero, List.set_cons_succ]
        refine heldTake (i := 2) (v := ?_) rfl (by kernel_rfl) (by kernel_rfl) (by kernel_rfl) (fun _ _ _ h => h) (Or.inl ⟨by rfl, ?_⟩) (by assumption) ?_
        rotate_left
        · intro w hSw; (try dsimp only at hSw); go_simp <;> (with_reducible rfl)
        try simp only [Act.put, List.setIfInBounds_toArray, List.set_cons_zero, List.set_cons_succ]
        refine heldTake (i := 3) (v := .agg (rowL A n c t).toArray) rfl (by kernel_rfl) (by kernel_rfl) (by kernel_rfl) (fun _ _ _ h => h) (Or.inl ⟨by rfl, fun V hV => ?_⟩) (by assumption) ?_
        · obtain ⟨e0, e1⟩ := hV
          go_simp
          try rfl
        try simp only [Act.put, List.setIfInBounds_toArray, List.set_cons_zero, List.set_cons_succ]
        refine wpAnyH_ready (rs := [4]) (by kernel_rfl) (by simp) ?_
        refine heldCons (i := 4) rfl (fun Kq hKq => ?_) AllReadyH.nil
        go_simp
        go_at_call 52
        refine (HP.out _).mono ?_
        rintro _ y1 ⟨rfl, hlq⟩
        have HY1 := hide (HY0.out.trans (hlq.mono HY0.out.size))
        clear hlq
        first | (refine hKq.out _ _ (HRS.out _ (HRB5.out.below HY1.out HRB5.out.lt)) (fun hHeld => ?_)) | (go_wp2_with fail; refine hKq.out _ _ (HRS.out _ (HRB5.out.below HY1.out HRB5.out.lt)) (fun hHeld => ?_))
        clear hKq Kq
        try simp only [Act.put, List.setIfInBounds_toArray, List.set_cons_zero, List.set_cons_succ]
        refine wpAnyH_ready (rs := [5]) (by kernel_rfl) (by simp) ?_
        refine heldCons (i := 5) rfl (fun Kq hKq => ?_) AllReadyH.nil
        refine step_ints2 rfl (.tmp 44) (.tmp 46) rfl (k : Int) (h : Int) rfl rfl ?_
        have HY2 := hide (HY1.out.trans (((Below.refl _ y1).alloc (Nat.le_refl _) (.cells #[.int .i64 (k : Int), .int .i64 (h : Int)] 3)).mono HY1.out.size))
        have HI2 := hide (Blk.new y1 3 #[.int .i64 (k : Int), .int .i64 (h : Int)])
        refine hKq.out _ _ (HRS.out _ (HRB5.out.below HY2.out HRB5.out.lt)) (fun hHeld => ?_)
        clear hKq Kq
        try simp only [Act.put, List.setIfInBounds_toArray, List.set_cons_zero, List.set_cons_succ]
        refine wpAnyH_ready (rs := [6]) (by kernel_rfl) (by simp) ?_
        refine heldCons (i := 6) rfl (fun Kq hKq => ?_) AllReadyH.nil
        go_simp
        go_at_call 56
        refine (but_make A n c t (some ⟨y1.heap.size, 0, none⟩) 2 2 _).mono ?_
        rintro _ y3 ⟨rfl, hb1, hb2, hl4, hs4⟩
        rw [World.size_alloc] at hb1 hb2
        have HY3 := hide (HY2.out.trans (hl4.mono HY2.out.size))
        have HBD := hide (show ButD (y1.heap.size + 1) (y1.heap.size + 1 + 1) A n c t X (some ⟨y1.heap.size, 0, none⟩) 2 2 [(k : Int), (h : Int)] y3 from
          ⟨hb1, hb2, (HXR.out.later (HW5.out.trans (HY3.out.mono HW5.out.size))), ⟨rfl, fun _ => ⟨_, rfl, (HI2.out.below hl4 HI2.out.lt).lt, fun j v hj => blk_at (cs := [.int .i64 (k : Int), .int .i64 (h : Int)]) (HI2.out.below hl4 HI2.out.lt) j v hj⟩⟩⟩)
        clear hb1 hb2 hl4 hs4
        first | (refine hKq.out _ _ (HRS.out _ (HRB5.out.below HY3.out HRB5.out.lt)) (fun hHeld => ?_)) | (go_wp2_with fail; refine hKq.out _ _ (HRS.out _ (HRB5.out.below HY3.out HRB5.out.lt)) (fun hHeld => ?_))
        clear hKq Kq
        try simp only [Act.put, List.setIfInBounds_toArray, List.set_cons_zero, List.set_cons_succ]
        refine wpAnyH_ready (rs := [7]) (by kernel_rfl) (by simp) ?_
        refine heldCons (i := 7) rfl (fun Kq hKq => ?_) AllReadyH.nil
        go_simp
        go_at_call 62
        refine (sgather_any (HSQ.out _ _ _) HLE.out _ HBD.out (HBK.out.later (HW5.out.trans (HY3.out.mono HW5.out.size)))).mono ?_
        rw [HT2.out]
        rintro _ y4 ⟨rfl, hlq⟩
        have HY4 := hide (HY3.out.trans (hlq.mono HY3.out.size))
        clear hlq
        first | (refine hKq.out _ _ (HRS.out _ (HRB5.out.below HY4.out HRB5.out.lt)) (fun hHeld => ?_)) | (go_wp2_with fail; refine hKq.out _ _ (HRS.out _ (HRB5.out.below HY4.out HRB5.out.lt)) (fun hHeld => ?_))
        clear hKq Kq
        try simp only [Act.put, List.setIfInBounds_toArray, List.set_cons_zero, List.set_cons_succ]
        refine heldTake (i := 8) (v := ?_) rfl (by kernel_rfl) (by kernel_rfl) (by kernel_rfl) (fun _ _ _ h => h) (Or.inl ⟨by rfl, ?_⟩) (by assumption) ?_
        rotate_left
        · intro w hSw; (try dsimp only at hSw); go_simp <;> (with_reducible rfl)
        try simp only [Act.put, List.setIfInBounds_toArray, List.set_cons_zero, List.set_cons_succ]
        refine heldTake (i := 9) (v := ?_) rfl (by kernel_rfl) (by kernel_rfl) (by kernel_rfl) (fun _ _ _ h => h) (Or.inl ⟨by rfl, ?_⟩) (by assumption) ?_
        rotate_left
        · intro w hSw; (try dsimp only at hSw); go_simp <;> (with_reducible rfl)
        try simp only [Act.put, List.setIfInBounds_toArray, List.set_cons_zero, List.set_cons_succ]
        refine heldTake (i := 10) (v := ?_) rfl (by kernel_rfl) (by kernel_rfl) (by kernel_rfl) (fun _ _ _ h => h) (Or.inl ⟨by rfl, ?_⟩) (by assumption) ?_
        rotate_left
        · intro w hSw; (try dsimp only at hSw); go_simp <;> (with_reducible rfl)
        try simp only [Act.put, List.setIfInBounds_toArray, List.set_cons_zero, List.set_cons_succ]
        refine wpAnyH_ready (rs := [11]) (by kernel_rfl) (by simp) ?_
        refine heldCons (i := 11) rfl (fun Kq hKq => ?_) AllReadyH.nil
        refine step_store_blk rfl 43 (.tmp 13) (.tmp 50) rfl sb 0 43 _ (HSB.out.below HY4.out HSB.out.lt) rfl (secL g2) rfl (by rw [HG22.out]; exact psec_info) (by rw [HG22.out, List.size_toArray, HG12.out]; decide) HG21.out ?_
        intro y5 hb7q hg7 hs7
        have HSB2 : Hid (Blk y5 sb 43 (secL g2).toArray) := hide (by
          rw [List.take_zero, List.nil_append, HG22.out, List.drop_of_length_le (by rw [Array.length_toList, List.size_toArray, HG12.out]; decide), List.append_nil] at hb7q
          exact hb7q)
        have hw5 : Below w4.heap.size w4 y5 := by
          have h0 := HZ5.out.trans (HY4.out.mono HZ5.out.size)
          exact h0.grown hg7 h0.size (fun g e => by injection e with e; subst e; exact HSW.out)
        have HW6 := hide hw5
        clear hw5
        refine hKq.out _ _ (HRS.out _ (HRB.out.below HW6.out HRB.out.lt)) (fun hHeld => ?_)
        clear hKq Kq hg7 hs7 hb7q
        try simp only [Act.put]
        refine heldTake (i := 12) (v := ?_) rfl (by kernel_rfl) (by kernel_rfl) (by kernel_rfl) (fun _ _ _ h => h) (Or.inl ⟨by rfl, ?_⟩) (by assumption) ?_
        rotate_left
        · intro w hSw; (try dsimp only at hSw); go_simp <;> (with_reducible rfl)
        try simp only [Act.put, List.setIfInBounds_toArray, List.set_cons_zero, List.set_cons_succ]
        refine wpAnyH_done (by kernel_rfl) ?_ _
        clear HY0 HY1 HY2 HY3 HY4 HRB5 HSB HI2 HBD HZ5 HW5 hHeld
        by_cases h0 : E2 = 0
        · have hE0 : (E2 : Int) = 0 := by omega
          rw [hE0]
          have HRR := hide (show res = (xorS g2 s0, 0) by rw [HRA.out, if_pos h0])
          clear h0 hE0
          have HXO := hide (fun w => pxor_any w g2.1 s0.1 g2.2 s0.2)
          have HXL := hide (secL_one (xorS g2 s0))
          have HXM := hide (secL_length (xorS g2 s0))
          go_wp2_with (first
            | ((with_reducible refine at_slot 56 ?_); refine wpList_load_blk rfl 43 (.tmp 13) rfl sb 0 43 _ HSB2.out rfl (secL g2) _ (fun j v hj => by rw [Nat.zero_add]; simpa using hj) Tryz.underlying43 rfl (by rw [HG22.out]; exact psec_info) ?_)
            | ((with_reducible refine at_slot 57 ?_); refine wpList_load_blk rfl 43 (.tmp 7) rfl w.heap.size 0 43 _ (HQ0.out.below HW6.out HQ0.out.lt) rfl (secL s0) _ (fun j v hj => by rw [Nat.zero_add]; simpa using hj) Tryz.underlying43 rfl (by rw [HV2.out]; exact psec_info) ?_)
            | (go_at_call 71; refine (HXO.out _).mono ?_; rintro _ y7 ⟨rfl, hlq⟩; have HW7 := hide (HW6.out.trans (hlq.mono HW6.out.size)); clear hlq)
            | ((with_reducible refine at_store 8 ?_); refine wpList_store_all rfl 43 (.tmp 8) (.tmp 58) rfl ob 43 _ (HQ1.out.below HW7.out HQ1.out.lt) rfl (secL (xorS g2 s0)) rfl (by rw [HXM.out]; exact psec_info) (by rw [HXM.out]; decide) HXL.out ?_; intro y8 h1 h2 h3; have HB6 := hide h1; have HG6 := hide h2; clear h1 h2 h3))
          refine ret_cell_tmp rfl ob 43 (secL (xorS g2 s0)) _ HB6.out rfl Tryz.underlying43 rfl (by rw [HXM.out]; exact psec_info) (.int .i64 0) rfl rfl ⟨by rw [HRR.out]; rfl, ?_⟩
          have hz := HZ.out.trans (HW7.out.mono HZ.out.size)
          exact hz.grown HG6.out hz.size (fun g e => by injection e with e; have := HRW.out; omega)
        · obtain ⟨hn1, hn2⟩ := notNil h0
          have HRR := hide (show res = (zeroSec, E2) by rw [HRA.out, if_neg h0])
          clear h0
          go_wp2_with (first
            | ((with_reducible refine at_slot 54 ?_); refine wpList_build_is rfl 43 #[] rfl [] (by simp) _ psec_built ?_)
            | ((with_reducible refine at_store 8 ?_); refine wpList_store_all rfl 43 (.tmp 8) (.tmp 54) rfl ob 43 _ (HQ1.out.below HW6.out HQ1.out.lt) rfl (B8 zeroL) rfl psec_info rfl (B8_one _) ?_; intro y8 h1 h2 h3; have HB6 := hide h1; have HG6 := hide h2; clear h1 h2 h3))
          refine ret_cell_tmp rfl ob 43 (B8 zeroL) _ HB6.out rfl Tryz.underlying43 rfl psec_info (.int .i64 (E2 : Int)) rfl rfl ⟨by rw [HRR.out]; rfl, ?_⟩
          have hz := HZ.out.trans (HW6.out.mono HZ.out.size)
          exact hz.grown HG6.out hz.size (fun g e => by injection e with e; have := HRW.out; omega)
      · have h5a : ((E1 : Int) == 5) = false := by simp; omega
        have h5b : ¬ ((E1 : Int) = 5) := by omega
        have HRA := hide (show res = if E1 = 0 then (xorS g1 s0, 0) else (zeroSec, E1) by rw [HRES.out, if_neg h5])
        clear h5
        by_cases h0 : E1 = 0
        · have hE0 : (E1 : Int) = 0 := by omega
          rw [hE0]
          have HRR := hide (show res = (xorS g1 s0, 0) by rw [HRA.out, if_pos h0])
          clear h0 hE0
          have HXO := hide (fun w => pxor_any w g1.1 s0.1 g1.2 s0.2)
          have HXL := hide (secL_one (xorS g1 s0))
          have HXM := hide (secL_length (xorS g1 s0))
          go_wp2_with (first
            | ((with_reducible refine at_slot 56 ?_); refine wpList_load_blk rfl 43 (.tmp 13) rfl sb 0 43 _ HSB.out rfl (secL g1) _ (fun j v hj => by rw [Nat.zero_add]; simpa using hj) Tryz.underlying43 rfl (by rw [HG12.out]; exact psec_info) ?_)
            | ((with_reducible refine at_slot 57 ?_); refine wpList_load_blk rfl 43 (.tmp 7) rfl w.heap.size 0 43 _ (HQ0.out.below HZ5.out HQ0.out.lt) rfl (secL s0) _ (fun j v hj => by rw [Nat.zero_add]; simpa using hj) Tryz.underlying43 rfl (by rw [HV2.out]; exact psec_info) ?_)
            | (go_at_call 71; refine (HXO.out _).mono ?_; rintro _ y7 ⟨rfl, hlq⟩; have HW7 := hide (HZ5.out.trans (hlq.mono HZ5.out.size)); clear hlq)
            | ((with_reducible refine at_store 8 ?_); refine wpList_store_all rfl 43 (.tmp 8) (.tmp 58) rfl ob 43 _ (HQ1.out.below HW7.out HQ1.out.lt) rfl (secL (xorS g1 s0)) rfl (by rw [HXM.out]; exact psec_info) (by rw [HXM.out]; decide) HXL.out ?_; intro y8 h1 h2 h3; have HB6 := hide h1; have HG6 := hide h2; clear h1 h2 h3))
          refine ret_cell_tmp rfl ob 43 (secL (xorS g1 s0)) _ HB6.out rfl Tryz.underlying43 rfl (by rw [HXM.out]; exact psec_info) (.int .i64 0) rfl rfl ⟨by rw [HRR.out]; rfl, ?_⟩
          have hz := HZ.out.trans (HW7.out.mono HZ.out.size)
          exact hz.grown HG6.out hz.size (fun g e => by injection e with e; have := HRW.out; omega)
        · obtain ⟨hn1, hn2⟩ := notNil h0
          have HRR := hide (show res = (zeroSec, E1) by rw [HRA.out, if_neg h0])
          clear h0
          go_wp2_with (first
            | ((with_reducible refine at_slot 54 ?_); refine wpList_build_is rfl 43 #[] rfl [] (by simp) _ psec_built ?_)
            | ((with_reducible refine at_store 8 ?_); refine wpList_store_all rfl 43 (.tmp 8) (.tmp 54) rfl ob 43 _ (HQ1.out.below HZ5.out HQ1.out.lt) rfl (B8 zeroL) rfl psec_info rfl (B8_one _) ?_; intro y8 h1 h2 h3; have HB6 := hide h1; have HG6 := hide h2; clear h1 h2 h3))
          refine ret_cell_tmp rfl ob 43 (B8 zeroL) _ HB6.out rfl Tryz.underlying43 rfl psec_info (.int .i64 (E1 : Int)) rfl rfl ⟨by rw [HRR.out]; rfl, ?_⟩
          have hz := HZ.out.trans (HZ5.out.mono HZ.out.size)
          exact hz.grown HG6.out hz.size (fun g e => by injection e with e; have := HRW.out; omega)
  · obtain ⟨E, hE⟩ : ∃ E, homeE n slot = E := ⟨_, rfl⟩
    have hE0 : E ≠ 0 := by rw [← hE]; exact he
    have HR := hide (fun w => rowSlot_bad (A := A) (c := c) hn hE hE0 hsl w)
    have hs : S.splug X slot s0 = (zeroSec, E) := by unfold Bank.splug; rw [hXn, hE, if_neg hE0]
    obtain ⟨hn1, hn2⟩ := notNil hE0
    rw [hs]
    clear he hE hE0 hs hx hXn hB
    go_enter Tryz.func30, Tryz.ntmps30
    go_wp2_with (first
      | ((with_reducible refine at_slot 7 ?_); refine wpList_box_blk rfl 43 _ rfl (secV s0) rfl ?_; intro w0 h1 h2 h3; have HB0 : Hid (Blk w0 w.heap.size 43 (secL s0).toArray) := hide h1; have HL0 := hide h2; clear h1 h2 h3)
      | ((with_reducible refine at_slot 8 ?_); refine wpList_alloc_blk rfl 43 rfl _ (psec_nought _) ?_; intro w1 h1 h2 h3; have HB1 : Hid (Blk w1 w0.heap.size 43 (B8 zeroL).toArray) := hide h1; have HL1 := hide h2; clear h1 h2 h3)
      | (go_at_call 53; refine (HR.out _).mono ?_; rintro _ w2 ⟨rfl, hl2q⟩; have HL2 := hide hl2q; clear hl2q)
      | ((with_reducible refine at_slot 10 ?_); refine wpList_alloc_blk rfl 90 rfl _ (row_zero _) ?_; intro w3 h1 h2 h3; have HB3 := hide h1; have HL3 := hide h2; clear h1 h2 h3)
      | ((with_reducible refine at_store 10 ?_); refine wpList_store_all rfl 90 (.tmp 10) (.tmp 18) rfl w2.heap.size 90 _ HB3.out rfl [.slice none 0 0, .int .i64 0] rfl row_info rfl rowZ_one ?_; intro w4 h1 h2 h3; have HRB := hide h1; have HLR := hide (show Below w2.heap.size w2 w4 from HL3.out.grown h2 HL3.out.size (fun g e => by injection e with e; subst e; exact Nat.le_refl _)); clear h1 h2 h3)
      | ((with_reducible refine at_slot 23 ?_); refine wpList_build_is rfl 43 #[] rfl [] (by simp) _ psec_built ?_)
      | ((with_reducible refine at_store 8 ?_); refine wpList_store_all rfl 43 (.tmp 8) (.tmp 23) rfl w0.heap.size 43 _ ((HB1.out.below (HL2.out.trans (HLR.out.mono HL2.out.size)) HB1.out.lt)) rfl (B8 zeroL) rfl psec_info rfl (B8_one _) ?_; intro w6 h1 h2 h3; have HB6 := hide h1; have HG6 := hide h2; clear h1 h2 h3))
    refine ret_cell_tmp rfl w0.heap.size 43 (B8 zeroL) _ HB6.out rfl Tryz.underlying43 rfl psec_info (.int .i64 (E : Int)) rfl rfl ⟨rfl, ?_⟩
    have hz := (HL0.out.trans ((HL1.out.trans ((HL2.out.trans (HLR.out.mono HL2.out.size)).mono HL1.out.size)).mono HL0.out.size))
    exact hz.grown HG6.out hz.size (fun g e => by injection e with e; have := HL0.out.size; omega)
end
end Go.Proofs.YtmjjnbabfldbcaaGreat
namespace Go.Proofs.YtmjjnbabfldbcaaGreat
open Go.RowKit
set_option linter.unusedVariables false
/-! ### By definition alone -/
theorem zcrash_writes (S : Bank) (m : Nat) : (S.crash m).writes = S.writes := by unfold Bank.crash; split <;> rfl
theorem ztick_writes (S : Bank) : ∀ i, (S.tick i).writes = S.writes
  | 0 => rfl
  | i + 1 => by
    have ih := ztick_writes S i
    unfold Bank.tick
    simp only
    split
    · exact ih
    · split
      · exact ih
      · exact ih
theorem zcount_writes (S : Bank) : S.count.2.writes ≤ S.writes + 1 := by
  have h : S.ticked.writes = S.writes + 1 := ztick_writes S.wrote S.n
  unfold Bank.count
  split
  · exact Nat.le_succ _
  · simp only
    split
    · exact Nat.le_of_eq h
    · split
      · rw [zcrash_writes]
        exact Nat.le_of_eq h
      · exact Nat.le_of_eq h
theorem zwrite_writes (S : Bank) (d k : Nat) (s : Sec) : (S.write d k s).2.writes ≤ S.writes + 1 := by
  have h := zcount_writes S
  unfold Bank.write
  simp only
  split
  · exact h
  · split
    · exact h
    · exact h
/-- What has been written when the first of them are through. -/
structure WallTo (S : Bank) (l : List (PlI × Sec)) (i q : Nat) (T : Bank) : Prop where
  all : S.wallP (l.take i) = (0, q, T)
  few : q ≤ i
  low : T.writes ≤ S.writes + i
theorem WallTo.none (S : Bank) (l : List (PlI × Sec)) : WallTo S l 0 0 S := ⟨by rw [List.take_zero]; rfl, Nat.le_refl _, Nat.le_refl _⟩
section
variable {S T : Bank} {l : List (PlI × Sec)} {i q : Nat} {p : PlI} {s : Sec}
theorem WallTo.next (h : WallTo S l i q T) (hi : l[i]? = some (p, s)) (hw : (T.writeP p s).1 = 0 ∨ lostB (T.writeP p s).1 = true) : WallTo S l (i + 1) (q + if (T.writeP p s).1 = 0 then 0 else 1) (T.writeP p s).2 := by
  refine ⟨?_, ?_, ?_⟩
  · rw [take_more hi, wall_snoc _ S (by rw [h.all]), h.all]
    exact if_pos hw
  · have := h.few
    split <;> omega
  · have h1 := h.low
    have h2 : (T.writeP p s).2.writes ≤ T.writes + 1 := zwrite_writes T _ _ s
    omega
theorem WallTo.ends (h : WallTo S l i q T) (hi : l[i]? = some (p, s)) (hw : ¬ ((T.writeP p s).1 = 0 ∨ lostB (T.writeP p s).1 = true)) : S.wallP l = ((T.writeP p s).1, q, (T.writeP p s).2) := by
  have h1 : S.wallP (l.take (i + 1)) = ((T.writeP p s).1, q, (T.writeP p s).2) := by
    rw [take_more hi, wall_snoc _ S (by rw [h.all]), h.all]
    exact if_neg hw
  have h2 := wall_more (l.drop (i + 1)) (l.take (i + 1)) S (by rw [h1]; exact fun h => hw (.inl h))
  rw [List.take_append_drop] at h2
  rw [h2, h1]
theorem WallTo.whole (h : WallTo S l i q T) (hi : l.length ≤ i) : S.wallP l = (0, q, T) := by
  have := h.all
  rwa [List.take_of_length_le hi] at this
end
theorem full_at {X : List PlI} {t i : Nat} {L : List Sec} {p : PlI} {s : Sec} (hl : (strD X t).length = L.length) (hp : (strD X t ++ [strP X t])[i]? = some p) (hs : (L ++ [parS L])[i]? = some s) : (fullL X t L)[i]? = some (p, s) := by
  unfold fullL
  rcases Nat.lt_or_ge i L.length with h | h
  · rw [List.getElem?_append_left (by rw [hl]; exact h)] at hp
    rw [List.getElem?_append_left h] at hs
    rw [List.getElem?_append_left (by rw [List.length_zip, hl, Nat.min_self]; exact h)]
    rw [List.getElem?_zip_eq_some]
    exact ⟨hp, hs⟩
  · rw [List.getElem?_append_right (by rw [hl]; exact h), hl] at hp
    rw [List.getElem?_append_right h] at hs
    rw [List.getElem?_append_right (by rw [List.length_zip, hl, Nat.min_self]; exact h), List.length_zip, hl, Nat.min_self]
    have h0 : i - L.length = 0 := by
      rcases Nat.eq_zero_or_pos (i - L.length) with h1 | h1
      · exact h1
      · rw [List.getElem?_eq_none (by simp only [List.length_cons, List.length_nil]; omega)] at hp
        cases hp
    rw [h0] at hp hs ⊢
    simp only [List.getElem?_cons_zero, Option.some.injEq] at hp hs ⊢
    rw [hp, hs]
theorem zfull_length {X : List PlI} {t : Nat} {L : List Sec} (hl : (strD X t).length = L.length) : (fullL X t L).length = L.length + 1 := by
  unfold fullL
  rw [List.length_append, List.length_zip, hl, Nat.min_self]
  rfl
theorem own_lower2 {w : World} {b b2 : Nat} {e : TypeId} {size : Nat} {v : Value} {n : Nat} {xs : List Value} (h : w.ownsRow b e size v n xs) (hb : b2 ≤ b) : w.ownsRow b2 e size v n xs := by
  refine ⟨h.1, ?_⟩
  rcases h.2 with h2 | ⟨g, cap, cur, hv, h1, h2⟩
  · exact .inl h2
  · exact .inr ⟨g, cap, cur, hv, Nat.le_trans hb h1, h2⟩
theorem full_end {S : Bank} {X : List PlI} {t : Int} {L : List Sec} {W : List (PlI × Sec)} {e q : Nat} {T : Bank} (hs : S.sfull X t L = (if (S.wallP W).1 = 0 then (if 1 < (S.wallP W).2.1 then 5 else 0) else (S.wallP W).1, (S.wallP W).2.2)) (hw : S.wallP W = (e, q, T)) :
    S.sfull X t L = (if e = 0 then (if 1 < q then 5 else 0) else e, T) := by rw [hs, hw]
theorem flat_at : ∀ {l : List Sec} {i : Nat} {s : Sec}, l[i]? = some s → ∀ (j : Nat) v, (secL s)[j]? = some v → (B8 (rawS l).flatten)[i * 64 + j]? = some v
  | [], i, s, h, _, _, _ => by simp at h
  | x :: l, 0, s, h, j, v, hj => by
    have e : x = s := by simpa using h
    subst e
    show (B8 (x.1 ++ (rawS l).flatten))[0 * 64 + j]? = some v
    rw [Nat.zero_mul, Nat.zero_add, B8_append]
    have hlt : j < (B8 x.1).length := (List.getElem?_eq_some_iff.1 hj).1
    rw [List.getElem?_append_left hlt]
    exact hj
  | x :: l, i + 1, s, h, j, v, hj => by
    have ih := flat_at (l := l) (i := i) (s := s) (by simpa using h) j v hj
    show (B8 (x.1 ++ (rawS l).flatten))[(i + 1) * 64 + j]? = some v
    have hx : (B8 x.1).length = 64 := by rw [B8_length, x.2]
    rw [B8_append, List.getElem?_append_right (by rw [hx]; omega), hx, show (i + 1) * 64 + j - 64 = i * 64 + j by omega]
    exact ih
/-! ### The calls -/
theorem zwpList_none {ops : Array Oper} {rest : List Oper} {o : Oper} {ac : Act} {w : World} {Q : Exit → Act → World → Prop} (hgd : o.guard = none) (ho : o.op = .buildSlice 56 0 #[])
    (h : wpList Tryz.prog ops Q rest (ac.put o.dst (.slice (some ⟨w.heap.size, 0, none⟩) 0 0)) (w.alloc (.cells #[] 43))) : wpList Tryz.prog ops Q (o :: rest) ac w :=
  wpList_plain hgd fun _ hK => by
    have hrun : (Instr.buildSlice 56 0 #[]).run Tryz.prog w = .ok (.slice (some ⟨w.heap.size, 0, none⟩) 0 0) (w.alloc (.cells #[] 43)) := by kernel_rfl
    unfold Oper.wp
    simp [execOp, ho, hrun, Result.andThen]
    exact hK _ _ h
set_option maxRecDepth 100000 in
theorem zclone_any {w : World} {A : Option Addr} {n c : Nat} {bs : List UInt8} (hr : Reads w w.heap.size 64 A n (B8 bs)) (h0 : 0 < n) (hn : n ≤ 1000) :
    Calls Tryz.prog 57 #[.slice A n c] w fun e w' => ∃ v, e = .returned v ∧ w'.ownsRow w.heap.size 43 64 v n (B8 bs) ∧ Below w.heap.size w w' := by
  obtain ⟨i0, hi0, hz0, hz1, hz2⟩ := info_parts rsec_parts
  obtain ⟨ad, rfl, hb, _⟩ := hr.2 h0
  have HR := hide hr
  have hnil : (binOp .eql 56 (.slice (some ad) n c) (.slice none 0 0)).run Tryz.prog w = .ok (.bool false) w := by kernel_rfl
  clear hr hb
  go_enter Tryz.func57, Tryz.ntmps57
  go_wp2_with (first
    | ((with_reducible refine at_slot 5 ?_); refine zwpList_none rfl rfl ?_)
    | ((with_reducible refine at_slot 7 ?_); refine wpList_append_any _ rfl _ _ 56 rfl w.heap.size 43 i0 _ 64 64 Tryz.underlying56 hi0 hz0 hz1 hz2 rfl (by decide) _ 0 [] rfl (World.ownsRow_made w #[] 0 (Nat.le_refl _) (Nat.zero_le _) rfl) w.heap.size _ n c (B8 bs) rfl (HR.out.below ((Below.refl _ w).alloc (Nat.le_refl _) _)) (B8_one bs) (by simp only [maxLen]; omega) (by omega) (le_alloc (Nat.le_refl _) _) ?_; intro v' w2 ho hl; have HO := hide ho; have HL := hide (((Below.refl _ w).alloc (Nat.le_refl _) _).trans hl); clear ho hl))
  go_ret
  exact ⟨v', rfl, by have := HO.out; rwa [Nat.zero_add, List.nil_append] at this, HL.out⟩
theorem step_pl1 {ops : Array Oper} {o : Oper} {a : Act} {w : World} {K : Act → World → Prop} {Q : Exit → Act → World → Prop} {E : Prop} (hg : o.guard = none) (x : Operand) (ho : o.op = .buildSlice 39 1 #[(0, x)]) (p : PlI) (hx : a.eval x = .agg (plC p).toArray)
    (hK : K (a.put o.dst (.slice (some ⟨w.heap.size, 0, none⟩) 1 1)) (w.alloc (.cells (plC p).toArray 47))) : if Region.wanted o (yielded ops a.tmps) = true then Oper.wp Tryz.prog o a w K Q else E := by
  have hw : Region.wanted o (yielded ops a.tmps) = true := by simp [Region.wanted, hg]
  rw [if_pos hw]
  obtain ⟨i0, hi0, hz0, hz1, hz2⟩ := info_parts pl_parts
  have hrun := run_build_agg (P := Tryz.prog) w 39 47 i0 _ 2 Tryz.underlying39 hi0 (pl_zero _) hz1 (by decide) (by decide) (plC p).toArray rfl
  unfold Oper.wp
  simp [execOp, ho, hx, hrun, Result.andThen]
  exact hK
/-- What WriteFull hands back and leaves. -/
def FullAns (F : Nat → Prop) (b : Nat) (w : World) (r : Nat × Bank) (e : Ending) (w' : World) : Prop := e = .returned (.int .i64 (r.1 : Int)) ∧ BankOn w' b F r.2 ∧ Turn F w w'
section
variable {A A2 : Option Addr} {n c m c2 : Nat} {X : List PlI} {b : Nat} {F : Nat → Prop} {S : Bank} {L : List Sec}
set_option maxRecDepth 100000 in
set_option maxHeartbeats 8000000 in
theorem zfull_any (w : World) (hB : BankOn w b F S) (hwr : S.writes < 4611686018427387000) (hx : XtIn w A n c X) (hXF : Off F A n) (t0 : Int) (htl : I64In t0)
    (hr2 : Reads w w.heap.size 64 A2 m (B8 (rawS L).flatten)) (hLm : L.length = m) (hm : m ≤ 1000) (hmc : m ≤ c2) (hc2 : c2 ≤ 9223372036854775807) (hLF : Off F A2 m) :
    Calls Tryz.prog 19 #[.pointer (some ⟨b, 0, none⟩), .slice A n c, .int .i64 t0, .slice A2 m c2] w (FullAns F b w (S.sfull X t0 L)) := by
  have hXn := hx.length
  have hn : n ≤ 1000000 := by have := hx.few; omega
  have hwn : IntKind.i64.wrap ((n : Int) - 1) = (n : Int) - 1 := IntWalk.i64_in _ (by omega)
  by_cases hmn : (m : Int) = (n : Int) - 1
  · have hfe : fullE X.length L.length t0 = strE n t0 := by
      unfold fullE strE
      rw [hXn, hLm]
      by_cases h2 : n < 2
      · rw [if_pos (.inl h2), if_pos h2]
      · rw [if_neg (by omega), if_neg h2]
    have hmn1 : ((m : Int) != (n : Int) - 1) = false := by simp [hmn]
    by_cases he : strE n t0 = 0
    · obtain ⟨h2, h0, h8⟩ := strE_ok he
      obtain ⟨t, rfl⟩ : ∃ t : Nat, t0 = (t : Int) := ⟨t0.toNat, by omega⟩
      have ht8 : t < 8 := by omega
      have HR := hide (fun w => rowOf_ok (A := A) (c := c) hn he w)
      have hDl : (strD X t).length = L.length := by rw [strD_length (by omega), hXn, hLm]; omega
      have hD := zD_at (X := X) (t := t) (by omega)
      have hPp : strP X t = plAt (strM X t) (strH n t) := by rw [← hXn]; rfl
      rw [hXn] at hD
      obtain ⟨h, hh⟩ : ∃ h, h = strH n t := ⟨_, rfl⟩
      have hhn : h < n := by rw [hh]; exact strH_lt (by omega)
      have HP := hide (fun w => rpar_any (A := A) (c := c) t (show 0 < n by omega) hn ht8 w)
      rw [← hh] at hD hPp HP
      have HLE := hide (show (butTo (strM X t) [(h : Int)] n).length ≤ 1000 from Nat.le_trans (butTo_len _ _ n) (by have := hx.few; omega))
      have HSQ := hide (fun (br bt : Nat) (a2 : Option Addr) => but_seq (Br := br) (Bt := bt) (A := A) (c := c) (A2 := a2) (m := 1) (c2 := 1) (L := [(h : Int)]) hXn hn (by decide) hx.small ht8)
      rw [← hD] at HLE HSQ
      obtain ⟨p, hpx⟩ : ∃ p, X[h]? = some p := ⟨X[h]'(by rw [hXn]; exact hhn), List.getElem?_eq_getElem _⟩
      have hpa : plAt (strM X t) h = (p.1, p.2 + (t : Int)) := by unfold plAt; rw [strM_at hpx]; rfl
      have HO := hide (fun (w' : World) (hb : Below w.heap.size w w') => on_any (w := w') (c := c) ((hx.reads.later hb)) hpx hx.small hn ht8)
      rw [← hpa, ← hPp] at HO
      have hsf : S.sfull X (t : Int) L = (if (S.wallP (fullL X t L)).1 = 0 then (if 1 < (S.wallP (fullL X t L)).2.1 then 5 else 0) else (S.wallP (fullL X t L)).1, (S.wallP (fullL X t L)).2.2) := by
        unfold Bank.sfull
        rw [hfe, he]
        rfl
      have HSF := hide hsf
      have HFA := hide (fun (i : Nat) (p : PlI) (s : Sec) => full_at (X := X) (t := t) (i := i) (L := L) (p := p) (s := s) hDl)
      have HFL := hide (show (fullL X t L).length = n by rw [zfull_length hDl, hLm]; omega)
      obtain ⟨D, hDD⟩ : ∃ D, D = strD X t := ⟨_, rfl⟩
      obtain ⟨P, hPP⟩ : ∃ P, P = strP X t := ⟨_, rfl⟩
      obtain ⟨W, hWW⟩ : ∃ W, W = fullL X t L := ⟨_, rfl⟩
      rw [← hDD] at HLE HSQ hDl HFA
      rw [← hPP] at HO HFA
      rw [← hWW] at HSF HFA HFL
      have HDL := hide (show D.length = m by rw [hDl, hLm])
      have HXR := hide hx.reads
      have HBK := hide hB
      have HR1 := hide (rowL_one A n c t)
      have HRS2 := hide hr2
      have HLM := hide hLm
      have HFB := hide (show ∀ x, F x → x < w.heap.size from fun x hx => hB.1 x hx)
      have h1m : 0 < m := by omega
      have hn12 : n ≤ 12 := hx.few
      have hmn2 : m + 1 = n := by omega
      have HPB := hide (fun (w' : World) (hb : Below w.heap.size w w') => pbuild_any w' A2 m c2 (rawS L) (rawS_secs _) (by rw [rawS_length, hLm]) (hr2.later hb) (by omega))
      have HCL := hide (fun (w' : World) (hb : Below w.heap.size w w') => zclone_any (c := c2) (hr2.later hb) h1m hm)
      clear hsf hfe hDD hPP hWW hDl hD hPp hpx hpa ht8 hh he h0 h8 hXn hx hB hr2 hLm hXF hLF hhn
      go_enter Tryz.func19, Tryz.ntmps19
      go_upto_region 6 with (first
        | (go_at_call 50; refine (HR.out _).mono ?_; rintro _ w2 ⟨rfl, hl2q⟩; have HL2 := hide hl2q; clear hl2q)
        | ((with_reducible refine at_slot 9 ?_); refine wpList_alloc_blk rfl 90 rfl _ (row_zero _) ?_; intro w3 h1 h2 h3; have HB3 := hide h1; have HL3 := hide h2; clear h1 h2 h3)
        | ((with_reducible refine at_store 9 ?_); refine wpList_store_all rfl 90 (.tmp 9) (.tmp 26) rfl w2.heap.size 90 _ HB3.out rfl (rowL A n c t) rfl row_info rfl HR1.out ?_; intro w4 h1 h2 h3; have HRB := hide h1; have HLR := hide (show Below w2.heap.size w2 w4 from HL3.out.grown h2 HL3.out.size (fun g e => by injection e with e; subst e; exact Nat.le_refl _)); clear h1 h2 h3))
      obtain ⟨rb, hrb⟩ : ∃ rb, rb = w2.heap.size := ⟨_, rfl⟩
      rw [← hrb] at HRB ⊢
      have HZ := hide (show Below w.heap.size w w4 from HL2.out.trans (HLR.out.mono HL2.out.size))
      have HRS := hide (fun (W : World) (h : Blk W rb 90 (rowL A n c t).toArray) => show W.cell? ⟨rb, 0, none⟩ = some (.slice A n c) ∧ W.cell? ⟨rb, 1, none⟩ = some (.int .i64 (t : Int)) from ⟨(h.cell 0).trans rfl, (h.cell 1).trans rfl⟩)
      have Hz0 := hide (show Below w4.heap.size w4 w4.drew from (Below.refl _ _).drew)
      clear hrb HL2 HL3 HB3 HLR

      refine wp_region_held_drew (S := (fun W => W.cell? ⟨rb, 0, none⟩ = some (.slice A n c) ∧ W.cell? ⟨rb, 1, none⟩ = some (.int .i64 (t : Int)))) (by kernel_rfl) ?_ (fun hHeld => ?_)
      · exact (HRS.out _ (HRB.out.below Hz0.out HRB.out.lt))
      refine heldTake (i := 0) (v := .agg (rowL A n c t).toArray) rfl (by kernel_rfl) (by kernel_rfl) (by kernel_rfl) (fun _ _ _ h => h) (Or.inl ⟨by rfl, fun V hV => ?_⟩) (by assumption) ?_
      · obtain ⟨e0, e1⟩ := hV
        go_simp
        try rfl
      try simp only [Act.put, List.setIfInBounds_toArray, List.set_cons_zero, List.set_cons_succ]
      refine heldTake (i := 1) (v := .agg (rowL A n c t).toArray) rfl (by kernel_rfl) (by kernel_rfl) (by kernel_rfl) (fun _ _ _ h => h) (Or.inl ⟨by rfl, fun V hV => ?_⟩) (by assumption) ?_
      · obtain ⟨e0, e1⟩ := hV
        go_simp
        try rfl
      try simp only [Act.put, List.setIfInBounds_toArray, List.set_cons_zero, List.set_cons_succ]
      refine heldTake (i := 6) (v := .agg (rowL A n c t).toArray) rfl (by kernel_rfl) (by kernel_rfl) (by kernel_rfl) (fun _ _ _ h => h) (Or.inl ⟨by rfl, fun V hV => ?_⟩) (by assumption) ?_
      · obtain ⟨e0, e1⟩ := hV
        go_simp
        try rfl
      try simp only [Act.put, List.setIfInBounds_toArray, List.set_cons_zero, List.set_cons_succ]
      refine heldTake (i := 7) (v := .agg (rowL A n c t).toArray) rfl (by kernel_rfl) (by kernel_rfl) (by kernel_rfl) (fun _ _ _ h => h) (Or.inl ⟨by rfl, fun V hV => ?_⟩) (by assumption) ?_
      · obtain ⟨e0, e1⟩ := hV
        go_simp
        try rfl
      try simp only [Act.put, List.setIfInBounds_toArray, List.set_cons_zero, List.set_cons_succ]
      refine wpAnyH_ready (rs := [2]) (by kernel_rfl) (by simp) ?_
      refine heldCons (i := 2) rfl (fun Kq hKq => ?_) AllReadyH.nil
      go_simp
      go_at_call 52
      refine (HP.out _).mono ?_
      rintro _ z1 ⟨rfl, hlq⟩
      have Hz1 := hide (Hz0.out.trans (hlq.mono Hz0.out.size))
      clear hlq
      first | (refine hKq.out _ _ (HRS.out _ (HRB.out.below Hz1.out HRB.out.lt)) (fun hHeld => ?_)) | (go_wp2_with fail; refine hKq.out _ _ (HRS.out _ (HRB.out.below Hz1.out HRB.out.lt)) (fun hHeld => ?_))
      clear hKq Kq
      try simp only [Act.put, List.setIfInBounds_toArray, List.set_cons_zero, List.set_cons_succ]
      refine wpAnyH_ready (rs := [3]) (by kernel_rfl) (by simp) ?_
      refine heldCons (i := 3) rfl (fun Kq hKq => ?_) AllReadyH.nil
      refine step_ints1 rfl (.tmp 33) rfl (h : Int) rfl ?_
      have Hz2 := hide (Hz1.out.trans (((Below.refl _ z1).alloc (Nat.le_refl _) (.cells #[.int .i64 (h : Int)] 3)).mono Hz1.out.size))
      have HI2 := hide (Blk.new z1 3 #[.int .i64 (h : Int)])
      refine hKq.out _ _ (HRS.out _ (HRB.out.below Hz2.out HRB.out.lt)) (fun hHeld => ?_)
      clear hKq Kq
      try simp only [Act.put, List.setIfInBounds_toArray, List.set_cons_zero, List.set_cons_succ]
      refine wpAnyH_ready (rs := [4]) (by kernel_rfl) (by simp) ?_
      refine heldCons (i := 4) rfl (fun Kq hKq => ?_) AllReadyH.nil
      go_simp
      go_at_call 56
      refine (but_make A n c t (some ⟨z1.heap.size, 0, none⟩) 1 1 _).mono ?_
      rintro _ z3 ⟨rfl, hb1, hb2, hl4, hs4⟩
      rw [World.size_alloc] at hb1 hb2
      have Hz3 := hide (Hz2.out.trans (hl4.mono Hz2.out.size))
      have HBD := hide (show ButD (z1.heap.size + 1) (z1.heap.size + 1 + 1) A n c t X (some ⟨z1.heap.size, 0, none⟩) 1 1 [(h : Int)] z3 from
        ⟨hb1, hb2, (HXR.out.later (HZ.out.trans (Hz3.out.mono HZ.out.size))), ⟨rfl, fun _ => ⟨_, rfl, (HI2.out.below hl4 HI2.out.lt).lt, fun j v hj => blk_at (cs := [.int .i64 (h : Int)]) (HI2.out.below hl4 HI2.out.lt) j v hj⟩⟩⟩)
      clear hb1 hb2 hl4 hs4
      first | (refine hKq.out _ _ (HRS.out _ (HRB.out.below Hz3.out HRB.out.lt)) (fun hHeld => ?_)) | (go_wp2_with fail; refine hKq.out _ _ (HRS.out _ (HRB.out.below Hz3.out HRB.out.lt)) (fun hHeld => ?_))
      clear hKq Kq
      try simp only [Act.put, List.setIfInBounds_toArray, List.set_cons_zero, List.set_cons_succ]
      refine wpAnyH_ready (rs := [5]) (by kernel_rfl) (by simp) ?_
      refine heldCons (i := 5) rfl (fun Kq hKq => ?_) AllReadyH.nil
      go_simp
      go_at_call 54
      refine (collect_any (HSQ.out _ _ _) HLE.out _ HBD.out).mono ?_
      rintro _ z4 ⟨v4, rfl, hov, hl5⟩
      have Hz4 := hide (Hz3.out.trans (hl5.mono Hz3.out.size))
      have HOV := hide (show z4.ownsRow w4.heap.size 47 2 v4 m (plsL D) by have := own_lower2 hov Hz3.out.size; rwa [HDL.out] at this)
      clear hov hl5
      first | (refine hKq.out _ _ (HRS.out _ (HRB.out.below Hz4.out HRB.out.lt)) (fun hHeld => ?_)) | (go_wp2_with fail; refine hKq.out _ _ (HRS.out _ (HRB.out.below Hz4.out HRB.out.lt)) (fun hHeld => ?_))
      clear hKq Kq
      try simp only [Act.put, List.setIfInBounds_toArray, List.set_cons_zero, List.set_cons_succ]
      refine wpAnyH_ready (rs := [8]) (by kernel_rfl) (by simp) ?_
      refine heldCons (i := 8) rfl (fun Kq hKq => ?_) AllReadyH.nil
      go_simp
      go_at_call 52
      refine (HP.out _).mono ?_
      rintro _ z5 ⟨rfl, hlq⟩
      have Hz5 := hide (Hz4.out.trans (hlq.mono Hz4.out.size))
      have HOV := hide (own_later HOV.out hlq)
      clear hlq
      first | (refine hKq.out _ _ (HRS.out _ (HRB.out.below Hz5.out HRB.out.lt)) (fun hHeld => ?_)) | (go_wp2_with fail; refine hKq.out _ _ (HRS.out _ (HRB.out.below Hz5.out HRB.out.lt)) (fun hHeld => ?_))
      clear hKq Kq
      try simp only [Act.put, List.setIfInBounds_toArray, List.set_cons_zero, List.set_cons_succ]
      refine wpAnyH_ready (rs := [9]) (by kernel_rfl) (by simp) ?_
      refine heldCons (i := 9) rfl (fun Kq hKq => ?_) AllReadyH.nil
      go_simp
      go_at_call 51
      refine (HO.out _ (HZ.out.trans (Hz5.out.mono HZ.out.size))).mono ?_
      rintro _ z6 ⟨rfl, hlq⟩
      have Hz6 := hide (Hz5.out.trans (hlq.mono Hz5.out.size))
      have HOV := hide (own_later HOV.out hlq)
      clear hlq
      first | (refine hKq.out _ _ (HRS.out _ (HRB.out.below Hz6.out HRB.out.lt)) (fun hHeld => ?_)) | (go_wp2_with fail; refine hKq.out _ _ (HRS.out _ (HRB.out.below Hz6.out HRB.out.lt)) (fun hHeld => ?_))
      clear hKq Kq
      try simp only [Act.put, List.setIfInBounds_toArray, List.set_cons_zero, List.set_cons_succ]
      refine wpAnyH_ready (rs := [10]) (by kernel_rfl) (by simp) ?_
      refine heldCons (i := 10) rfl (fun Kq hKq => ?_) AllReadyH.nil
      refine step_pl1 rfl (.tmp 40) rfl P rfl ?_
      have hlq := (Below.refl z6.heap.size z6).alloc (Nat.le_refl _) (.cells (plC P).toArray 47)
      have Hz7 := hide (Hz6.out.trans (hlq.mono Hz6.out.size))
      have HOV := hide (own_later HOV.out hlq)
      refine hKq.out _ _ (HRS.out _ (HRB.out.below Hz7.out HRB.out.lt)) (fun hHeld => ?_)
      clear hKq Kq hlq
      try simp only [Act.put, List.setIfInBounds_toArray, List.set_cons_zero, List.set_cons_succ]
      refine wpAnyH_ready (rs := [11]) (by kernel_rfl) (by simp) ?_
      refine heldCons (i := 11) rfl (fun Kq hKq => ?_) AllReadyH.nil
      obtain ⟨i1, hi1, hy0, hy1, hy2⟩ := info_parts pl_parts
      obtain ⟨v8, z8, hrun, ho8, hg8, hor8⟩ := run_append_any (P := Tryz.prog) (z6.alloc (.cells (plC P).toArray 47)) w4.heap.size 39 39 47 i1 _ 2 16 Tryz.underlying39 hi1 hy0 hy1 hy2 rfl (by decide) v4 m (plsL D) HOV.out (z6.heap.size + 1) _ 1 1 (plC P) (Reads.lump _ (plC P) _ _ 2 (by omega) rfl) (plC_one P) (by simp only [maxLen]; omega) (by omega) (Nat.le_trans Hz6.out.size (by rw [World.size_alloc]; omega))
      refine step_known rfl _ _ 39 rfl _ _ rfl rfl v8 z8 hrun ?_
      have Hz8 := hide (show Below w4.heap.size w4 z8 from Hz7.out.grown hg8 Hz7.out.size (fun g e => (HOV.out.lt g e).1))
      have HPL := hide (show z8.ownsRow w4.heap.size 47 2 v8 n (plsL (D ++ [P])) by rw [plsL_append, ← hmn2]; exact ho8)
      refine hKq.out _ _ (HRS.out _ (HRB.out.below Hz8.out HRB.out.lt)) (fun hHeld => ?_)
      clear hKq Kq hrun ho8 hg8 hor8
      try simp only [Act.put]
      refine heldTake (i := 12) (v := ?_) rfl (by kernel_rfl) (by kernel_rfl) (by kernel_rfl) (fun _ _ _ h => h) (Or.inl ⟨by rfl, ?_⟩) (by assumption) ?_
      rotate_left
      · intro w hSw; (try dsimp only at hSw); go_simp <;> (with_reducible rfl)
      try simp only [Act.put, List.setIfInBounds_toArray, List.set_cons_zero, List.set_cons_succ]
      refine wpAnyH_done (by kernel_rfl) ?_ _
      clear HOV HBD HI2 hHeld Hz0 Hz1 Hz2 Hz3 Hz4 Hz5 Hz6 Hz7 hi1 hy0 hy1 hy2
      obtain ⟨PA, pc, rfl, hpc1, hpc2⟩ := own_shape HPL.out
      have HW8 := hide (HZ.out.trans (Hz8.out.mono HZ.out.size))
      obtain ⟨i0, hi0, hz0, hz1, hz2⟩ := info_parts rsec_parts
      obtain ⟨pb, hpb⟩ : ∃ pb, pb = B8 (parS L).1 := ⟨_, rfl⟩
      have HPV := hide hpb
      have HPB2 := hide (fun (w' : World) (hb : Below w.heap.size w w') => show Calls Tryz.prog 58 #[.slice A2 m c2] w' fun e w'' => e = .returned (.agg pb.toArray) ∧ Below w'.heap.size w' w'' by rw [hpb]; exact HPB.out w' hb)
      have HPN := hide (show pb.length = 64 by rw [hpb, B8_length]; exact (parS L).2)
      have HPO := hide (show ∀ v ∈ pb, v.oneCell' = true by rw [hpb]; exact B8_one _)
      clear hpb HPB

      go_wp2_with (first
        | (go_at_call 57; refine (HCL.out _ HW8.out).mono ?_; rintro _ z9 ⟨v9, rfl, ho9, hl9⟩; obtain ⟨CA, cc, rfl, _, _⟩ := own_shape ho9; have HL9 := hide hl9; have HO9 := hide ho9; clear ho9 hl9)
        | (go_at_call 58; refine (HPB2.out _ (HW8.out.trans (HL9.out.mono HW8.out.size))).mono ?_; rintro _ z10 ⟨rfl, hl10⟩; have HO10 := hide (own_later HO9.out hl10); have HL10 := hide (HL9.out.trans (hl10.mono HL9.out.size)); clear hl10)
        | ((with_reducible refine at_slot 47 ?_); refine wpList_build_agg _ rfl (.tmp 46) 56 rfl 43 i0 _ 64 Tryz.underlying56 hi0 (psec_zero _) hz1 (by decide) (by decide) pb.toArray rfl (by rw [List.size_toArray]; exact HPN.out) ?_)
        | ((with_reducible refine at_slot 48 ?_); refine wpList_append_any _ rfl _ _ 56 rfl z8.heap.size 43 i0 _ 64 64 Tryz.underlying56 hi0 hz0 hz1 hz2 rfl (by decide) _ m (B8 (rawS L).flatten) rfl (own_later HO10.out ((Below.refl _ _).alloc (Nat.le_refl _) _)) (z10.heap.size + 1) _ 1 1 pb rfl (Reads.lump _ pb _ _ 64 (by omega) HPN.out) HPO.out (by simp only [maxLen]; omega) (by omega) (le_alloc HL10.out.size _) ?_; intro v11 z11 ho11 hl11; obtain ⟨SA, sc, rfl, hs1, hs2⟩ := own_shape ho11; have HO11 := hide ho11; have HL11 := hide (show Below z8.heap.size z8 z11 from HL10.out.trans (((Below.refl z10.heap.size z10).alloc (Nat.le_refl _) _).mono HL10.out.size |>.trans hl11)); clear ho11 hl11))
      rw [hmn2] at HO11 hs1
      have HSS0 := hide (show z11.ownsRow z8.heap.size 43 64 (.slice SA n sc) n (B8 (rawS (L ++ [parS L])).flatten) by
        have h1 := HO11.out
        rw [rawS_append, List.flatten_append, B8_append]
        have h2 : B8 (rawS [parS L]).flatten = pb := by rw [HPV.out]; simp [rawS]
        rw [h2]
        exact h1)
      have HPP := hide (own_later HPL.out HL11.out)
      have HW11 := hide (HW8.out.trans (HL11.out.mono HW8.out.size))
      have HB11 := hide (HBK.out.later HW11.out)
      have HWB := hide (show w.heap.size ≤ w4.heap.size ∧ w.heap.size ≤ z8.heap.size from ⟨HZ.out.size, HW8.out.size⟩)
      obtain ⟨pa, hpa, _⟩ : ∃ pa, PA = some pa ∧ True := by
        obtain ⟨ad, e, _⟩ := (Reads.of_own HPP.out).2 (by omega)
        exact ⟨ad, e, trivial⟩
      obtain ⟨sa, hsa, _⟩ : ∃ sa, SA = some sa ∧ True := by
        obtain ⟨ad, e, _⟩ := (Reads.of_own HSS0.out).2 (by omega)
        exact ⟨ad, e, trivial⟩
      subst hpa hsa
      have HPG := hide (show w.heap.size ≤ pa.block by
        obtain ⟨g, cap, hv, hb, _⟩ := HPP.out.form (by omega)
        injection hv with e1
        injection e1 with e1
        rw [e1]
        exact Nat.le_trans HWB.out.1 hb)
      clear HL9 HO9 HO10 HL10 HO11 HL11 HPL HPB2 HCL HPN HPO HPV hi0 hz0 hz1 hz2 hs1 hs2
      go_loopw [12, 50] (fun s12 s50 wr => ∃ (i q : Nat) (T : Bank), s12 = .int .i64 (q : Int) ∧ s50 = .int .i64 (i : Int) ∧ i ≤ n ∧ q ≤ 12 ∧ Hid (WallTo S W i q T) ∧ Hid (BankOn wr b F T) ∧ Hid (Turn F w wr) ∧ Hid (wr.ownsRow w4.heap.size 47 2 (.slice (some pa) n pc) n (plsL (D ++ [P]))) ∧ Hid (wr.ownsRow z8.heap.size 43 64 (.slice (some sa) n sc) n (B8 (rawS (L ++ [parS L])).flatten))) (fun _ s50 _ => n - (intOf s50).toNat)
      case atStart => exact ⟨0, 0, S, rfl, rfl, Nat.zero_le _, Nat.zero_le _, hide (WallTo.none S W), HB11, hide (Turn.of_below HW11.out), HPP, HSS0⟩
      case round =>
        obtain ⟨i, q, T, rfl, rfl, hi, hq, HWT, HBX, HTX, HPX, HSX⟩ := hrel
        by_cases hin : i < n
        · have hii : (i : Int) < (n : Int) := by omega
          have hwi : IntKind.i64.wrap ((i : Int) + 1) = (i : Int) + 1 := IntWalk.i64_in _ (by omega)
          have hwq : IntKind.i64.wrap ((q : Int) + 1) = (q : Int) + 1 := IntWalk.i64_in _ (by omega)
          obtain ⟨p, hp⟩ : ∃ p, (D ++ [P])[i]? = some p := ⟨(D ++ [P])[i]'(by rw [List.length_append, HDL.out]; simp only [List.length_cons, List.length_nil]; omega), List.getElem?_eq_getElem _⟩
          obtain ⟨s, hs⟩ : ∃ s, (L ++ [parS L])[i]? = some s := ⟨(L ++ [parS L])[i]'(by rw [List.length_append, HLM.out]; simp only [List.length_cons, List.length_nil]; omega), List.getElem?_eq_getElem _⟩
          have HWI := hide (HFA.out i p s hp hs)
          have HPI := hide hp
          have HSN := hide (secL_length s)
          have HSO := hide (secL_one s)
          have HSE := hide (show ∀ (j : Nat) v, (secL s)[j]? = some v → wr.cell? ((sa.add (i * 64)).add j) = some v from fun j v hj => by
            obtain ⟨sa2, e, _, hc⟩ := (Reads.of_own HSX.out).2 (by omega)
            injection e with e
            subst e
            rw [add_of_add]
            exact hc _ _ (flat_at hs j v hj))
          obtain ⟨E, hE⟩ : ∃ E, E = (T.writeP p s).1 := ⟨_, rfl⟩
          obtain ⟨T2, hT2⟩ : ∃ T2, T2 = (T.writeP p s).2 := ⟨_, rfl⟩
          have HWR := hide (fun (V : World) (hB : BankOn V b F T) => show Calls Tryz.prog 34 #[.pointer (some ⟨b, 0, none⟩), .agg (plC p).toArray, .agg (secL s).toArray] V fun e w' => e = .returned (.int .i64 (E : Int)) ∧ BankOn w' b F T2 ∧ Turn F V w' by rw [hE, hT2]; exact onI_write hB (by have := HWT.out.low; omega) p.1 p.2 s)
          have HLO := hide (fun w => slost_any E w)
          have HEE := hide hE
          have HTT := hide hT2
          clear hp hs hE hT2
          by_cases hle : lostB E = true
          · have hE0 : E ≠ 0 := by intro h; rw [h] at hle; exact absurd hle (by decide)
            have HN := hide (show WallTo S W (i + 1) (q + 1) T2 by have := HWT.out.next HWI.out (by rw [← HEE.out]; exact .inr hle); rwa [← HEE.out, if_neg hE0, ← HTT.out] at this)
            have hq1 : q + 1 ≤ 12 := by have := HN.out.few; omega
            rw [hle] at HLO
            clear hle hE0

            go_upto_region 11 with (first
              | ((with_reducible refine at_slot 54 ?_); refine wpList_load_at rfl 43 (.tmp 53) rfl (sa.add (i * 64)) rfl (secL s) _ (fun j v hj => HSE.out j v hj) Tryz.underlying43 rfl (by rw [HSN.out]; exact psec_info) ?_)
              | ((with_reducible refine at_slot 14 ?_); refine wpList_alloc_blk rfl 43 rfl _ (psec_nought _) ?_; intro x1 h1 h2 h3; have HA1 : Hid (Blk x1 wr.heap.size 43 (B8 zeroL).toArray) := hide h1; have HL1 := hide h2; clear h1 h2 h3)
              | ((with_reducible refine at_store 14 ?_); refine wpList_store_all rfl 43 (.tmp 14) (.tmp 54) rfl wr.heap.size 43 _ HA1.out rfl (secL s) rfl (by rw [HSN.out]; exact psec_info) (by rw [HSN.out]; decide) HSO.out ?_; intro x2 h1 h2 h3; have HA2 := hide h1; have HX2 := hide (show Below wr.heap.size wr x2 from HL1.out.grown h2 HL1.out.size (fun g e => by injection e with e; subst e; exact Nat.le_refl _)); clear h1 h2 h3))
            obtain ⟨sb, hsb⟩ : ∃ sb, sb = wr.heap.size := ⟨_, rfl⟩
            rw [← hsb] at HA2 ⊢
            have HSW := hide (show w.heap.size ≤ sb by rw [hsb]; exact HTX.out.size)
            have HBX2 := hide (HBX.out.later HX2.out)
            have HTX2 := hide (HTX.out.more HX2.out)
            have HPX2 := hide (own_later HPX.out HX2.out)
            have HSX2 := hide (own_later HSX.out HX2.out)
            clear hsb HA1 HL1 HX2 HBX HTX HPX HSX
            obtain ⟨pa2, hpa2, hpb2, d0, d1⟩ := (Reads.of_own HPX2.out).pl_at HPI.out
            obtain rfl : pa = pa2 := by injection hpa2
            have HSS := hide (fun (V : World) (hT : Turn F x2 V) => show V.cell? (pa.add (i * 2)) = some (.int .i64 p.1) ∧ V.cell? ⟨(pa.add (i * 2)).block, (pa.add (i * 2)).off + 1, none⟩ = some (.int .i64 p.2) ∧ V.rangeAt sb 0 (secL s) from
              ⟨(hT.cell (p := pa.add (i * 2)) (by rw [block_of_add]; exact hpb2) (by rw [block_of_add]; exact fun hf => by have := HFB.out _ hf; have := HPG.out; omega)).trans d0,
               (hT.cell (p := (pa.add (i * 2)).add 1) (by rw [block_of_add, block_of_add]; exact hpb2) (by rw [block_of_add, block_of_add]; exact fun hf => by have := HFB.out _ hf; have := HPG.out; omega)).trans d1,
               fun j v hj => by rw [Nat.zero_add, show V.cell? ⟨sb, j, none⟩ = x2.cell? ⟨sb, j, none⟩ from hT.cell HA2.out.lt (fun hf => by have h1 : sb < w.heap.size := HFB.out _ hf; have := HSW.out; omega), HA2.out.cell j]; simpa using hj⟩)
            clear hpa2 hpb2 d0 d1
            refine wp_region_held_drew (S := (fun V => V.cell? (pa.add (i * 2)) = some (.int .i64 p.1) ∧ V.cell? ⟨(pa.add (i * 2)).block, (pa.add (i * 2)).off + 1, none⟩ = some (.int .i64 p.2) ∧ V.rangeAt sb 0 (secL s))) (by kernel_rfl) ?_ (fun hHeld => ?_)
            · exact HSS.out _ (Turn.refl F x2).drew
            refine heldTake (i := 0) (v := ?_) rfl (by kernel_rfl) (by kernel_rfl) (by kernel_rfl) (fun _ _ _ h => h) (Or.inl ⟨by rfl, ?_⟩) (by assumption) ?_
            rotate_left
            · intro w hSw; (try dsimp only at hSw); go_simp <;> (with_reducible rfl)
            try simp only [Act.put, List.setIfInBounds_toArray, List.set_cons_zero, List.set_cons_succ]
            refine heldTake (i := 1) (v := ?_) rfl (by kernel_rfl) (by kernel_rfl) (by kernel_rfl) (fun _ _ _ h => h) (Or.inl ⟨by rfl, ?_⟩) (by assumption) ?_
            rotate_left
            · intro w hSw; (try dsimp only at hSw); go_simp <;> (with_reducible rfl)
            try simp only [Act.put, List.setIfInBounds_toArray, List.set_cons_zero, List.set_cons_succ]
            refine heldTake (i := 2) (v := ?_) rfl (by kernel_rfl) (by kernel_rfl) (by kernel_rfl) (fun _ _ _ h => h) (Or.inl ⟨by rfl, ?_⟩) (by assumption) ?_
            rotate_left
            · intro w hSw; (try dsimp only at hSw); go_simp <;> (with_reducible rfl)
            try simp only [Act.put, List.setIfInBounds_toArray, List.set_cons_zero, List.set_cons_succ]
            refine heldTake (i := 3) (v := ?_) rfl (by kernel_rfl) (by kernel_rfl) (by kernel_rfl) (fun _ _ _ h => h) (Or.inl ⟨by rfl, ?_⟩) (by assumption) ?_
            rotate_left
            · intro w hSw; (try dsimp only at hSw); go_simp <;> (with_reducible rfl)
            try simp only [Act.put, List.setIfInBounds_toArray, List.set_cons_zero, List.set_cons_succ]
            refine heldTake (i := 4) (v := .agg (plC p).toArray) rfl (by kernel_rfl) (by kernel_rfl) (by kernel_rfl) (fun _ _ _ h => h) (Or.inl ⟨by rfl, fun V hV => ?_⟩) (by assumption) ?_
            · obtain ⟨e0, e1, _⟩ := hV
              go_simp
              try rfl
            try simp only [Act.put, List.setIfInBounds_toArray, List.set_cons_zero, List.set_cons_succ]
            refine heldTake (i := 5) (v := .agg (secL s).toArray) rfl (by kernel_rfl) (by kernel_rfl) (by kernel_rfl) (fun _ _ _ h => h) (yieldsIf_load_mid (by rfl) _ _ rfl _ _ rfl (secL s) _ (fun V hV => hV.2.2) Tryz.underlying43 rfl (by rw [HSN.out]; exact psec_info)) (by assumption) ?_
            try simp only [Act.put, List.setIfInBounds_toArray, List.set_cons_zero, List.set_cons_succ]
            refine wpAnyH_ready (rs := [6]) (by kernel_rfl) (by simp) ?_
            refine heldCons (i := 6) rfl (fun Kq hKq => ?_) AllReadyH.nil
            go_simp
            go_at_call 34
            refine (HWR.out _ HBX2.out.drew).mono ?_
            rintro _ x3 ⟨rfl, hB3, hT3⟩
            have hT3' : Turn F x2 x3 := ((Turn.refl F x2).drew).trans hT3
            have HBX := hide hB3
            have HT3 := hide hT3'
            clear hB3 hT3 hT3'
            first | (refine hKq.out _ _ (HSS.out _ HT3.out) (fun hHeld => ?_)) | (go_wp2_with fail; refine hKq.out _ _ (HSS.out _ HT3.out) (fun hHeld => ?_))
            clear hKq Kq
            try simp only [Act.put, List.setIfInBounds_toArray, List.set_cons_zero, List.set_cons_succ]
            refine heldTake (i := 7) (v := ?_) rfl (by kernel_rfl) (by kernel_rfl) (by kernel_rfl) (fun _ _ _ h => h) (Or.inl ⟨by rfl, ?_⟩) (by assumption) ?_
            rotate_left
            · intro w hSw; (try dsimp only at hSw); go_simp <;> (with_reducible rfl)
            try simp only [Act.put, List.setIfInBounds_toArray, List.set_cons_zero, List.set_cons_succ]
            refine wpAnyH_done (by kernel_rfl) ?_ _
            have HTX := hide (HTX2.out.trans HT3.out)
            have HPX := hide (own_keep HPX2.out (fun g hg => HT3.out.block g (HPX2.out.lt g hg).2 (fun hf => by have := HFB.out _ hf; have := (HPX2.out.lt g hg).1; have := HWB.out.1; omega)))
            have HSX := hide (own_keep HSX2.out (fun g hg => HT3.out.block g (HSX2.out.lt g hg).2 (fun hf => by have := HFB.out _ hf; have := (HSX2.out.lt g hg).1; have := HWB.out.2; omega)))
            clear HSS HBX2 HTX2 HPX2 HSX2 HA2 hHeld
            go_wp2_with (first
              | (go_at_call 59; (with_reducible refine (HLO.out _).mono ?_); rintro _ _ ⟨rfl, rfl⟩))
            go_roundw
            case rel => exact ⟨i + 1, q + 1, T2, by simp, by simp, by omega, hq1, HN, HBX, HTX, HPX, HSX⟩
            case measure => simp [intOf]; omega
          · rw [Bool.not_eq_true] at hle
            rw [hle] at HLO
            by_cases hE0 : E = 0
            · have HN := hide (show WallTo S W (i + 1) q T2 by have := HWT.out.next HWI.out (by rw [← HEE.out]; exact .inl hE0); rwa [← HEE.out, if_pos hE0, Nat.add_zero, ← HTT.out] at this)
              have HWR0 := hide (show ∀ (V : World), BankOn V b F T → Calls Tryz.prog 34 #[.pointer (some ⟨b, 0, none⟩), .agg (plC p).toArray, .agg (secL s).toArray] V fun e w' => e = .returned (.int .i64 0) ∧ BankOn w' b F T2 ∧ Turn F V w' by have := HWR.out; rw [hE0] at this; exact this)
              have HLO0 := hide (show ∀ w, Calls Tryz.prog 59 #[.int .i64 0] w fun r w' => r = .returned (.bool false) ∧ w = w' by have := HLO.out; rw [hE0] at this; exact this)
              clear hE0 hle HWR HLO
              go_upto_region 11 with (first
                | ((with_reducible refine at_slot 54 ?_); refine wpList_load_at rfl 43 (.tmp 53) rfl (sa.add (i * 64)) rfl (secL s) _ (fun j v hj => HSE.out j v hj) Tryz.underlying43 rfl (by rw [HSN.out]; exact psec_info) ?_)
                | ((with_reducible refine at_slot 14 ?_); refine wpList_alloc_blk rfl 43 rfl _ (psec_nought _) ?_; intro x1 h1 h2 h3; have HA1 : Hid (Blk x1 wr.heap.size 43 (B8 zeroL).toArray) := hide h1; have HL1 := hide h2; clear h1 h2 h3)
                | ((with_reducible refine at_store 14 ?_); refine wpList_store_all rfl 43 (.tmp 14) (.tmp 54) rfl wr.heap.size 43 _ HA1.out rfl (secL s) rfl (by rw [HSN.out]; exact psec_info) (by rw [HSN.out]; decide) HSO.out ?_; intro x2 h1 h2 h3; have HA2 := hide h1; have HX2 := hide (show Below wr.heap.size wr x2 from HL1.out.grown h2 HL1.out.size (fun g e => by injection e with e; subst e; exact Nat.le_refl _)); clear h1 h2 h3))
              obtain ⟨sb, hsb⟩ : ∃ sb, sb = wr.heap.size := ⟨_, rfl⟩
              rw [← hsb] at HA2 ⊢
              have HSW := hide (show w.heap.size ≤ sb by rw [hsb]; exact HTX.out.size)
              have HBX2 := hide (HBX.out.later HX2.out)
              have HTX2 := hide (HTX.out.more HX2.out)
              have HPX2 := hide (own_later HPX.out HX2.out)
              have HSX2 := hide (own_later HSX.out HX2.out)
              clear hsb HA1 HL1 HX2 HBX HTX HPX HSX
              obtain ⟨pa2, hpa2, hpb2, d0, d1⟩ := (Reads.of_own HPX2.out).pl_at HPI.out
              obtain rfl : pa = pa2 := by injection hpa2
              have HSS := hide (fun (V : World) (hT : Turn F x2 V) => show V.cell? (pa.add (i * 2)) = some (.int .i64 p.1) ∧ V.cell? ⟨(pa.add (i * 2)).block, (pa.add (i * 2)).off + 1, none⟩ = some (.int .i64 p.2) ∧ V.rangeAt sb 0 (secL s) from
                ⟨(hT.cell (p := pa.add (i * 2)) (by rw [block_of_add]; exact hpb2) (by rw [block_of_add]; exact fun hf => by have := HFB.out _ hf; have := HPG.out; omega)).trans d0,
                 (hT.cell (p := (pa.add (i * 2)).add 1) (by rw [block_of_add, block_of_add]; exact hpb2) (by rw [block_of_add, block_of_add]; exact fun hf => by have := HFB.out _ hf; have := HPG.out; omega)).trans d1,
                 fun j v hj => by rw [Nat.zero_add, show V.cell? ⟨sb, j, none⟩ = x2.cell? ⟨sb, j, none⟩ from hT.cell HA2.out.lt (fun hf => by have h1 : sb < w.heap.size := HFB.out _ hf; have := HSW.out; omega), HA2.out.cell j]; simpa using hj⟩)
              clear hpa2 hpb2 d0 d1
              refine wp_region_held_drew (S := (fun V => V.cell? (pa.add (i * 2)) = some (.int .i64 p.1) ∧ V.cell? ⟨(pa.add (i * 2)).block, (pa.add (i * 2)).off + 1, none⟩ = some (.int .i64 p.2) ∧ V.rangeAt sb 0 (secL s))) (by kernel_rfl) ?_ (fun hHeld => ?_)
              · exact HSS.out _ (Turn.refl F x2).drew
              refine heldTake (i := 0) (v := ?_) rfl (by kernel_rfl) (by kernel_rfl) (by kernel_rfl) (fun _ _ _ h => h) (Or.inl ⟨by rfl, ?_⟩) (by assumption) ?_
              rotate_left
              · intro w hSw; (try dsimp only at hSw); go_simp <;> (with_reducible rfl)
              try simp only [Act.put, List.setIfInBounds_toArray, List.set_cons_zero, List.set_cons_succ]
              refine heldTake (i := 1) (v := ?_) rfl (by kernel_rfl) (by kernel_rfl) (by kernel_rfl) (fun _ _ _ h => h) (Or.inl ⟨by rfl, ?_⟩) (by assumption) ?_
              rotate_left
              · intro w hSw; (try dsimp only at hSw); go_simp <;> (with_reducible rfl)
              try simp only [Act.put, List.setIfInBounds_toArray, List.set_cons_zero, List.set_cons_succ]
              refine heldTake (i := 2) (v := ?_) rfl (by kernel_rfl) (by kernel_rfl) (by kernel_rfl) (fun _ _ _ h => h) (Or.inl ⟨by rfl, ?_⟩) (by assumption) ?_
              rotate_left
              · intro w hSw; (try dsimp only at hSw); go_simp <;> (with_reducible rfl)
              try simp only [Act.put, List.setIfInBounds_toArray, List.set_cons_zero, List.set_cons_succ]
              refine heldTake (i := 3) (v := ?_) rfl (by kernel_rfl) (by kernel_rfl) (by kernel_rfl) (fun _ _ _ h => h) (Or.inl ⟨by rfl, ?_⟩) (by assumption) ?_
              rotate_left
              · intro w hSw; (try dsimp only at hSw); go_simp <;> (with_reducible rfl)
              try simp only [Act.put, List.setIfInBounds_toArray, List.set_cons_zero, List.set_cons_succ]
              refine heldTake (i := 4) (v := .agg (plC p).toArray) rfl (by kernel_rfl) (by kernel_rfl) (by kernel_rfl) (fun _ _ _ h => h) (Or.inl ⟨by rfl, fun V hV => ?_⟩) (by assumption) ?_
              · obtain ⟨e0, e1, _⟩ := hV
                go_simp
                try rfl
              try simp only [Act.put, List.setIfInBounds_toArray, List.set_cons_zero, List.set_cons_succ]
              refine heldTake (i := 5) (v := .agg (secL s).toArray) rfl (by kernel_rfl) (by kernel_rfl) (by kernel_rfl) (fun _ _ _ h => h) (yieldsIf_load_mid (by rfl) _ _ rfl _ _ rfl (secL s) _ (fun V hV => hV.2.2) Tryz.underlying43 rfl (by rw [HSN.out]; exact psec_info)) (by assumption) ?_
              try simp only [Act.put, List.setIfInBounds_toArray, List.set_cons_zero, List.set_cons_succ]
              refine wpAnyH_ready (rs := [6]) (by kernel_rfl) (by simp) ?_
              refine heldCons (i := 6) rfl (fun Kq hKq => ?_) AllReadyH.nil
              go_simp
              go_at_call 34
              refine (HWR0.out _ HBX2.out.drew).mono ?_
              rintro _ x3 ⟨rfl, hB3, hT3⟩
              have hT3' : Turn F x2 x3 := ((Turn.refl F x2).drew).trans hT3
              have HBX := hide hB3
              have HT3 := hide hT3'
              clear hB3 hT3 hT3'
              first | (refine hKq.out _ _ (HSS.out _ HT3.out) (fun hHeld => ?_)) | (go_wp2_with fail; refine hKq.out _ _ (HSS.out _ HT3.out) (fun hHeld => ?_))
              clear hKq Kq
              try simp only [Act.put, List.setIfInBounds_toArray, List.set_cons_zero, List.set_cons_succ]
              refine heldTake (i := 7) (v := ?_) rfl (by kernel_rfl) (by kernel_rfl) (by kernel_rfl) (fun _ _ _ h => h) (Or.inl ⟨by rfl, ?_⟩) (by assumption) ?_
              rotate_left
              · intro w hSw; (try dsimp only at hSw); go_simp <;> (with_reducible rfl)
              try simp only [Act.put, List.setIfInBounds_toArray, List.set_cons_zero, List.set_cons_succ]
              refine wpAnyH_done (by kernel_rfl) ?_ _
              have HTX := hide (HTX2.out.trans HT3.out)
              have HPX := hide (own_keep HPX2.out (fun g hg => HT3.out.block g (HPX2.out.lt g hg).2 (fun hf => by have := HFB.out _ hf; have := (HPX2.out.lt g hg).1; have := HWB.out.1; omega)))
              have HSX := hide (own_keep HSX2.out (fun g hg => HT3.out.block g (HSX2.out.lt g hg).2 (fun hf => by have := HFB.out _ hf; have := (HSX2.out.lt g hg).1; have := HWB.out.2; omega)))
              clear HSS HBX2 HTX2 HPX2 HSX2 HA2 hHeld
              go_wp2_with (first
                | (go_at_call 59; (with_reducible refine (HLO0.out _).mono ?_); rintro _ _ ⟨rfl, rfl⟩))
              go_roundw
              case rel => exact ⟨i + 1, q, T2, by simp, by simp, by omega, hq, HN, HBX, HTX, HPX, HSX⟩
              case measure => simp [intOf]; omega
            · have HN := hide (show S.wallP W = (E, q, T2) by have := HWT.out.ends HWI.out (by rw [← HEE.out]; rintro (h | h); exact hE0 h; rw [hle] at h; cases h); rwa [← HEE.out, ← HTT.out] at this)
              have HRE := hide (show S.sfull X (t : Int) L = (E, T2) by have := full_end HSF.out HN.out; rwa [if_neg hE0] at this)
              obtain ⟨hn1, hn2⟩ := notNil hE0
              clear hE0 hle
              go_upto_region 11 with (first
                | ((with_reducible refine at_slot 54 ?_); refine wpList_load_at rfl 43 (.tmp 53) rfl (sa.add (i * 64)) rfl (secL s) _ (fun j v hj => HSE.out j v hj) Tryz.underlying43 rfl (by rw [HSN.out]; exact psec_info) ?_)
                | ((with_reducible refine at_slot 14 ?_); refine wpList_alloc_blk rfl 43 rfl _ (psec_nought _) ?_; intro x1 h1 h2 h3; have HA1 : Hid (Blk x1 wr.heap.size 43 (B8 zeroL).toArray) := hide h1; have HL1 := hide h2; clear h1 h2 h3)
                | ((with_reducible refine at_store 14 ?_); refine wpList_store_all rfl 43 (.tmp 14) (.tmp 54) rfl wr.heap.size 43 _ HA1.out rfl (secL s) rfl (by rw [HSN.out]; exact psec_info) (by rw [HSN.out]; decide) HSO.out ?_; intro x2 h1 h2 h3; have HA2 := hide h1; have HX2 := hide (show Below wr.heap.size wr x2 from HL1.out.grown h2 HL1.out.size (fun g e => by injection e with e; subst e; exact Nat.le_refl _)); clear h1 h2 h3))
              obtain ⟨sb, hsb⟩ : ∃ sb, sb = wr.heap.size := ⟨_, rfl⟩
              rw [← hsb] at HA2 ⊢
              have HSW := hide (show w.heap.size ≤ sb by rw [hsb]; exact HTX.out.size)
              have HBX2 := hide (HBX.out.later HX2.out)
              have HTX2 := hide (HTX.out.more HX2.out)
              have HPX2 := hide (own_later HPX.out HX2.out)
              have HSX2 := hide (own_later HSX.out HX2.out)
              clear hsb HA1 HL1 HX2 HBX HTX HPX HSX
              obtain ⟨pa2, hpa2, hpb2, d0, d1⟩ := (Reads.of_own HPX2.out).pl_at HPI.out
              obtain rfl : pa = pa2 := by injection hpa2
              have HSS := hide (fun (V : World) (hT : Turn F x2 V) => show V.cell? (pa.add (i * 2)) = some (.int .i64 p.1) ∧ V.cell? ⟨(pa.add (i * 2)).block, (pa.add (i * 2)).off + 1, none⟩ = some (.int .i64 p.2) ∧ V.rangeAt sb 0 (secL s) from
                ⟨(hT.cell (p := pa.add (i * 2)) (by rw [block_of_add]; exact hpb2) (by rw [block_of_add]; exact fun hf => by have := HFB.out _ hf; have := HPG.out; omega)).trans d0,
                 (hT.cell (p := (pa.add (i * 2)).add 1) (by rw [block_of_add, block_of_add]; exact hpb2) (by rw [block_of_add, block_of_add]; exact fun hf => by have := HFB.out _ hf; have := HPG.out; omega)).trans d1,
                 fun j v hj => by rw [Nat.zero_add, show V.cell? ⟨sb, j, none⟩ = x2.cell? ⟨sb, j, none⟩ from hT.cell HA2.out.lt (fun hf => by have h1 : sb < w.heap.size := HFB.out _ hf; have := HSW.out; omega), HA2.out.cell j]; simpa using hj⟩)
              clear hpa2 hpb2 d0 d1
              refine wp_region_held_drew (S := (fun V => V.cell? (pa.add (i * 2)) = some (.int .i64 p.1) ∧ V.cell? ⟨(pa.add (i * 2)).block, (pa.add (i * 2)).off + 1, none⟩ = some (.int .i64 p.2) ∧ V.rangeAt sb 0 (secL s))) (by kernel_rfl) ?_ (fun hHeld => ?_)
              · exact HSS.out _ (Turn.refl F x2).drew
              refine heldTake (i := 0) (v := ?_) rfl (by kernel_rfl) (by kernel_rfl) (by kernel_rfl) (fun _ _ _ h => h) (Or.inl ⟨by rfl, ?_⟩) (by assumption) ?_
              rotate_left
              · intro w hSw; (try dsimp only at hSw); go_simp <;> (with_reducible rfl)
              try simp only [Act.put, List.setIfInBounds_toArray, List.set_cons_zero, List.set_cons_succ]
              refine heldTake (i := 1) (v := ?_) rfl (by kernel_rfl) (by kernel_rfl) (by kernel_rfl) (fun _ _ _ h => h) (Or.inl ⟨by rfl, ?_⟩) (by assumption) ?_
              rotate_left
              · intro w hSw; (try dsimp only at hSw); go_simp <;> (with_reducible rfl)
              try simp only [Act.put, List.setIfInBounds_toArray, List.set_cons_zero, List.set_cons_succ]
              refine heldTake (i := 2) (v := ?_) rfl (by kernel_rfl) (by kernel_rfl) (by kernel_rfl) (fun _ _ _ h => h) (Or.inl ⟨by rfl, ?_⟩) (by assumption) ?_
              rotate_left
              · intro w hSw; (try dsimp only at hSw); go_simp <;> (with_reducible rfl)
              try simp only [Act.put, List.setIfInBounds_toArray, List.set_cons_zero, List.set_cons_succ]
              refine heldTake (i := 3) (v := ?_) rfl (by kernel_rfl) (by kernel_rfl) (by kernel_rfl) (fun _ _ _ h => h) (Or.inl ⟨by rfl, ?_⟩) (by assumption) ?_
              rotate_left
              · intro w hSw; (try dsimp only at hSw); go_simp <;> (with_reducible rfl)
              try simp only [Act.put, List.setIfInBounds_toArray, List.set_cons_zero, List.set_cons_succ]
              refine heldTake (i := 4) (v := .agg (plC p).toArray) rfl (by kernel_rfl) (by kernel_rfl) (by kernel_rfl) (fun _ _ _ h => h) (Or.inl ⟨by rfl, fun V hV => ?_⟩) (by assumption) ?_
              · obtain ⟨e0, e1, _⟩ := hV
                go_simp
                try rfl
              try simp only [Act.put, List.setIfInBounds_toArray, List.set_cons_zero, List.set_cons_succ]
              refine heldTake (i := 5) (v := .agg (secL s).toArray) rfl (by kernel_rfl) (by kernel_rfl) (by kernel_rfl) (fun _ _ _ h => h) (yieldsIf_load_mid (by rfl) _ _ rfl _ _ rfl (secL s) _ (fun V hV => hV.2.2) Tryz.underlying43 rfl (by rw [HSN.out]; exact psec_info)) (by assumption) ?_
              try simp only [Act.put, List.setIfInBounds_toArray, List.set_cons_zero, List.set_cons_succ]
              refine wpAnyH_ready (rs := [6]) (by kernel_rfl) (by simp) ?_
              refine heldCons (i := 6) rfl (fun Kq hKq => ?_) AllReadyH.nil
              go_simp
              go_at_call 34
              refine (HWR.out _ HBX2.out.drew).mono ?_
              rintro _ x3 ⟨rfl, hB3, hT3⟩
              have hT3' : Turn F x2 x3 := ((Turn.refl F x2).drew).trans hT3
              have HBX := hide hB3
              have HT3 := hide hT3'
              clear hB3 hT3 hT3'
              first | (refine hKq.out _ _ (HSS.out _ HT3.out) (fun hHeld => ?_)) | (go_wp2_with fail; refine hKq.out _ _ (HSS.out _ HT3.out) (fun hHeld => ?_))
              clear hKq Kq
              try simp only [Act.put, List.setIfInBounds_toArray, List.set_cons_zero, List.set_cons_succ]
              refine heldTake (i := 7) (v := ?_) rfl (by kernel_rfl) (by kernel_rfl) (by kernel_rfl) (fun _ _ _ h => h) (Or.inl ⟨by rfl, ?_⟩) (by assumption) ?_
              rotate_left
              · intro w hSw; (try dsimp only at hSw); go_simp <;> (with_reducible rfl)
              try simp only [Act.put, List.setIfInBounds_toArray, List.set_cons_zero, List.set_cons_succ]
              refine wpAnyH_done (by kernel_rfl) ?_ _
              have HTX := hide (HTX2.out.trans HT3.out)
              have HPX := hide (own_keep HPX2.out (fun g hg => HT3.out.block g (HPX2.out.lt g hg).2 (fun hf => by have := HFB.out _ hf; have := (HPX2.out.lt g hg).1; have := HWB.out.1; omega)))
              have HSX := hide (own_keep HSX2.out (fun g hg => HT3.out.block g (HSX2.out.lt g hg).2 (fun hf => by have := HFB.out _ hf; have := (HSX2.out.lt g hg).1; have := HWB.out.2; omega)))
              clear HSS HBX2 HTX2 HPX2 HSX2 HA2 hHeld
              go_wp2_with (first
                | (go_at_call 59; (with_reducible refine (HLO.out _).mono ?_); rintro _ _ ⟨rfl, rfl⟩))
              go_ret
              exact ⟨by rw [HRE.out]; rfl, by rw [HRE.out]; exact HBX.out, HTX.out⟩
        · obtain rfl : i = n := by omega
          have HN := hide (HWT.out.whole (Nat.le_of_eq HFL.out))
          by_cases hq1 : 1 < q
          · have HRE := hide (show S.sfull X (t : Int) L = (5, T) by have := full_end HSF.out HN.out; rwa [if_pos rfl, if_pos hq1] at this)
            have hqi : (q : Int) > 1 := by omega
            have hqj : 1 < (q : Int) := by omega
            clear hin
            go_wp2
            go_ret
            exact ⟨by rw [HRE.out]; rfl, by rw [HRE.out]; exact HBX.out, HTX.out⟩
          · have HRE := hide (show S.sfull X (t : Int) L = (0, T) by have := full_end HSF.out HN.out; rwa [if_pos rfl, if_neg hq1] at this)
            have hqi : ¬ (q : Int) > 1 := by omega
            have hqj : ¬ 1 < (q : Int) := by omega
            clear hin
            go_wp2
            go_ret
            exact ⟨by rw [HRE.out]; rfl, by rw [HRE.out]; exact HBX.out, HTX.out⟩
    · obtain ⟨E, hE⟩ : ∃ E, strE n t0 = E := ⟨_, rfl⟩
      have hE0 : E ≠ 0 := by rw [← hE]; exact he
      have HR := hide (fun w => rowOf_bad (A := A) (c := c) hn hE hE0 w)
      have HRE := hide (show S.sfull X t0 L = (E, S) by unfold Bank.sfull; rw [hfe, hE, if_neg hE0])
      obtain ⟨hn1, hn2⟩ := notNil hE0
      have HBK := hide hB
      clear he hE hE0 hx hXn hB hfe hr2 hLF hXF
      go_enter Tryz.func19, Tryz.ntmps19
      go_wp2_with (first
        | (go_at_call 50; refine (HR.out _).mono ?_; rintro _ w2 ⟨rfl, hl2q⟩; have HL2 := hide hl2q; clear hl2q)
        | ((with_reducible refine at_slot 9 ?_); refine wpList_alloc_blk rfl 90 rfl _ (row_zero _) ?_; intro w3 h1 h2 h3; have HB3 := hide h1; have HL3 := hide h2; clear h1 h2 h3)
        | ((with_reducible refine at_store 9 ?_); refine wpList_store_all rfl 90 (.tmp 9) (.tmp 26) rfl w2.heap.size 90 _ HB3.out rfl [.slice none 0 0, .int .i64 0] rfl row_info rfl rowZ_one ?_; intro w4 h1 h2 h3; have HRB := hide h1; have HLR := hide (show Below w2.heap.size w2 w4 from HL3.out.grown h2 HL3.out.size (fun g e => by injection e with e; subst e; exact Nat.le_refl _)); clear h1 h2 h3))
      go_ret
      exact ⟨by rw [HRE.out]; rfl, by rw [HRE.out]; exact HBK.out.later (HL2.out.trans (HLR.out.mono HL2.out.size)), Turn.of_below (HL2.out.trans (HLR.out.mono HL2.out.size))⟩
  · have hmn1 : ((m : Int) != (n : Int) - 1) = true := by simp [hmn]
    have HRE := hide (show S.sfull X t0 L = (1, S) by
      have h1 : fullE X.length L.length t0 = 1 := by
        unfold fullE
        rw [hXn, hLm]
        exact if_pos (by omega)
      unfold Bank.sfull
      rw [h1]
      rfl)
    have HBK := hide hB
    clear hx hXn hB hr2 hLF hXF
    go_enter Tryz.func19, Tryz.ntmps19
    go_wp2
    go_ret
    exact ⟨by rw [HRE.out]; rfl, by rw [HRE.out]; exact HBK.out, Turn.refl _ _⟩
end
end Go.Proofs.YtmjjnbabfldbcaaGreat
namespace Go.Proofs.YtmjjnbabfldbcaaGreat
open Go.RowKit
set_option linter.unusedVariables false
theorem strK : StrK where
  slots_any w v h1 h2 := (slots_any v h1 h2 w).mono fun _ _ ⟨he, hw⟩ => ⟨he, hw ▸ Below.refl _ _⟩
  home_any w A n c X hx slot hs := home_any w hx slot hs
  par_any w A n c X hx t ht := par_any w hx t ht
  mates_any w A n c X hx slot hs := zmates_any w hx slot hs
  read_any w b F S hB A n c X hx slot hs := zread_any w hB hx slot hs
  rebuilt_any w b F S hB A n c X hx k t hk ht := zrebuilt_any w hB hx k t hk ht
  full_any w b F S hB hw A n c X hx hF t ht A2 m c2 L hr hL hm hmc hc hF2 := zfull_any w hB hw hx hF t ht hr hL hm hmc hc hF2
  plug_any w b F S hB A n c X hx slot hs s := zplug_any w hB hx slot hs s
end Go.Proofs.YtmjjnbabfldbcaaGreat
