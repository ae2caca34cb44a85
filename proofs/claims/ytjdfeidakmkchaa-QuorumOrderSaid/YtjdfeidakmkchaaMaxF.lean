/- The first label of the greatest generation: cmp.Compare, the closure of Choose, slices.MaxFunc. -/
import Derived.Test.YtjdfeidakmkchaaLbs
import Derived.Test.YtjdfeidakmkchaaStill
namespace Go.Proofs.Ytjdfeidakmkchaa
open Go.RowKit

def maxV : LabV → List LabV → LabV
  | b, [] => b
  | b, x :: l => maxV (if b.1.gen < x.1.gen then x else b) l
theorem maxV_lab : ∀ (l : List LabV) (b : LabV), (maxV b l).1 = maxL b.1 (l.map (fun x => x.1))
  | [], b => rfl
  | x :: l, b => by
    rw [maxV, maxV_lab l, List.map_cons, maxL]
    split <;> rfl
theorem maxV_mem : ∀ (l : List LabV) (b : LabV), maxV b l ∈ b :: l
  | [], b => by simp [maxV]
  | x :: l, b => by
    rw [maxV]
    rcases List.mem_cons.1 (maxV_mem l (if b.1.gen < x.1.gen then x else b)) with h | h
    · rw [h]
      split <;> simp
    · exact List.mem_cons_of_mem _ (List.mem_cons_of_mem _ h)
def cmpI (a b : Int) : Int := if a < b then -1 else if b < a then 1 else 0
theorem isNaN_any (a : Int) (w : World) : Calls Try.prog 34 #[.int .i64 a] w fun e w' => e = .returned (.bool false) ∧ w = w' := by
  have h : (a != a) = false := by simp
  go_enter Try.func34, Try.ntmps34
  go_wp2
  go_ret
  exact ⟨rfl, rfl⟩
theorem compare_any (a b : Int) (w : World) : Calls Try.prog 26 #[.int .i64 a, .int .i64 b] w fun e w' => e = .returned (.int .i64 (cmpI a b)) ∧ w = w' := by
  cases h1 : decide (a < b) with
  | true =>
    have H := hide (show cmpI a b = -1 by rw [cmpI, if_pos (of_decide_eq_true h1)])
    rw [H.out]
    go_enter Try.func26, Try.ntmps26
    go_wp2_with (go_at_call 34; refine (isNaN_any _ _).mono ?_; rintro _ w' ⟨rfl, rfl⟩)
    go_ret
    exact ⟨rfl, rfl⟩
  | false =>
    cases h2 : decide (b < a) with
    | true =>
      have H := hide (show cmpI a b = 1 by rw [cmpI, if_neg (of_decide_eq_false h1), if_pos (of_decide_eq_true h2)])
      rw [H.out]
      go_enter Try.func26, Try.ntmps26
      go_wp2_with (go_at_call 34; refine (isNaN_any _ _).mono ?_; rintro _ w' ⟨rfl, rfl⟩)
      go_ret
      exact ⟨rfl, rfl⟩
    | false =>
      have H := hide (show cmpI a b = 0 by rw [cmpI, if_neg (of_decide_eq_false h1), if_neg (of_decide_eq_false h2)])
      rw [H.out]
      go_enter Try.func26, Try.ntmps26
      go_wp2_with (go_at_call 34; refine (isNaN_any _ _).mono ?_; rintro _ w' ⟨rfl, rfl⟩)
      go_ret
      exact ⟨rfl, rfl⟩
set_option maxRecDepth 100000 in
set_option maxHeartbeats 1000000 in
theorem cmpGen_any (x y : LabV) (w : World) :
    Calls Try.prog 25 #[.agg (lvC x).toArray, .agg (lvC y).toArray] w fun e w' => e = .returned (.int .i64 (cmpI x.1.gen y.1.gen)) ∧ Below w.heap.size w w' := by
  obtain ⟨a, A, n, c⟩ := x
  obtain ⟨b, C, m, d⟩ := y
  show Calls Try.prog 25 #[labV a A n c, labV b C m d] w fun e w' => e = .returned (.int .i64 (cmpI a.gen b.gen)) ∧ Below w.heap.size w w'
  go_enter Try.func25, Try.ntmps25
  go_wp2_with (first
    | (refine wpList_box_blk rfl 24 (.tmp 0) rfl (.agg (labC a A n c).toArray) rfl ?_; intro w1 hb1q hl1 hs1; clear hs1; have hb1 : Blk w1 w.heap.size 24 (labC a A n c).toArray := hb1q; clear hb1q)
    | (refine wpList_box_blk rfl 24 (.tmp 1) rfl (.agg (labC b C m d).toArray) rfl ?_; intro w2 hb2q hl2 hs2; clear hs2; have hb2 : Blk w2 w1.heap.size 24 (labC b C m d).toArray := hb2q; clear hb2q; have hz1 := hb1.lt; have hb12 := hb1.below hl2 hz1; have x1 := lab_c1 hb12; have y1 := lab_c1 hb2)
    | (go_at_call 26; refine (compare_any _ _ _).mono ?_; rintro _ w' ⟨rfl, rfl⟩))
  go_ret
  exact ⟨rfl, hl1.trans (hl2.mono (by omega))⟩
set_option maxRecDepth 100000 in
set_option maxHeartbeats 2000000 in
theorem maxFunc_any (A : Option Addr) (n c : Nat) (x0 : LabV) (L : List LabV) (B0 : Nat) (w : World) (hr : LbIn w B0 A n c (x0 :: L)) (hB0 : B0 ≤ w.heap.size) :
    Calls Try.prog 24 #[.slice A n c, .func (.func 25) #[] #[]] w fun e w' => e = .returned (lvV (maxV x0 L)) ∧ Below w.heap.size w w' := by
  have hn := hr.le
  have hn2 := hr.cap
  have hlen := hr.len
  rw [List.length_cons] at hlen
  have hn1 : 1 ≤ n := by omega
  have HL := hide hlen
  obtain ⟨ad, x, rfl, hab, hx, _, hcs⟩ := hr.at_ (k := 0) (by omega)
  obtain rfl : x0 = x := by simpa using hx
  have HS0 := hide hcs
  clear hcs hx hlen
  go_enter Try.func24, Try.ntmps24
  go_wp2_with (first
    | (refine wpList_alloc_blk (o := ⟨some 4, _, _, _, _, _⟩) rfl 24 rfl _ (lab_zero _) ?_; intro w1 hb1 hl1 hs1; clear hs1)
    | (refine wpList_load_at rfl 24 (.tmp 12) rfl (ad.add (0 * 5)) rfl (lvC x0) _ (fun j v hj => (hl1.cell (p := (ad.add (0 * 5)).add j) (by rw [block_of_add, block_of_add]; omega)).trans (HS0.out j v hj)) Try.underlying24 rfl lab_info ?_)
    | (refine wpList_alloc_blk (o := ⟨some 5, _, _, _, _, _⟩) rfl 24 rfl _ (lab_zero _) ?_; intro w2 hb2 hl2 hs2; clear hs2)
    | (refine wpList_store_all rfl 24 (.tmp 5) (.tmp 13) rfl w1.heap.size 24 _ hb2 rfl (lvC x0) rfl lab_info rfl (lvC_cell _) ?_; intro w3 hb3 hg3 hs3; clear hs3))
  have hz1 := hb1.lt
  have hl03 : Below w.heap.size w w3 := (hl1.trans (hl2.mono (by omega))).grown hg3 (by have := hl2.size; omega) (fun g e => by injection e with e; omega)
  have hb13 : Blk w3 w.heap.size 24 (labC Lab.none_ none 0 0).toArray := (hb1.below hl2 hz1).grown hg3 (fun e => by injection e with e; omega)
  have HB13 := hide hb13
  have HB3 := hide hb3
  have HL3 := hide hl03
  clear hb1 hl1 hb2 hl2 hg3 hb3 hb13 hl03 HS0
  go_loopw [6] (fun i wr => ∃ (k : Nat) (cur : LabV), 1 ≤ k ∧ k ≤ n ∧ i = .int .i64 k ∧ Hid (maxV x0 L = maxV cur (L.drop (k - 1))) ∧ Hid (Blk wr w.heap.size 24 (labC Lab.none_ none 0 0).toArray) ∧ Hid (Blk wr w1.heap.size 24 (lvC cur).toArray) ∧ Below w.heap.size w wr) (fun i _ => n - (intOf i).toNat)
  case atStart => exact ⟨1, x0, Nat.le_refl _, hn1, rfl, hide rfl, HB13, HB3, HL3.out⟩
  case round =>
    obtain ⟨k, cur, hk1, hkn, rfl, HM, HR, HC, hbel⟩ := hrel
    by_cases hlt : k < n
    · obtain ⟨ad2, x, he, _, hx, _, hcs⟩ := (hr.below (hbel.mono hB0)).at_ hlt
      obtain rfl : ad = ad2 := by injection he
      have hx2 : L[k - 1]? = some x := by
        rw [show k = (k - 1) + 1 by omega, List.getElem?_cons_succ] at hx
        exact hx
      have hdrop : L.drop (k - 1) = x :: L.drop k := by
        obtain ⟨h1, h2⟩ := List.getElem?_eq_some_iff.1 hx2
        rw [List.drop_eq_getElem_cons h1, h2, show k - 1 + 1 = k by omega]
      have hm2 : maxV x0 L = maxV (if cur.1.gen < x.1.gen then x else cur) (L.drop k) := by rw [HM.out, hdrop, maxV]
      have HS := hide hcs
      obtain ⟨r, hrr⟩ : ∃ r, r = cmpI x.1.gen cur.1.gen := ⟨_, rfl⟩
      have hG := cmpGen_any x cur wr.drew
      rw [← hrr] at hG
      have HG := hide hG
      clear he hx hx2 hdrop hcs hG
      cases hq : decide (cur.1.gen < x.1.gen) with
      | true =>
        have hq1 := of_decide_eq_true hq
        rw [if_pos hq1] at hm2
        have HM2 := hide hm2
        have hr0 : 0 < r := by rw [hrr, cmpI, if_neg (by omega), if_pos hq1]; decide
        clear hm2 hrr hq hq1
        go_wp2_with fail
        refine wp_region_still_tail 6 (by kernel_rfl) (by kernel_rfl) ?_
        change wpStill _ _ wr.drew _ _ _
        simp only [List.take_succ_cons, List.take_zero, List.drop_succ_cons, List.drop_zero]
        iterate 4 still_step
        refine still_load_at rfl 24 (.tmp 23) rfl (ad.add (k * 5)) rfl (lvC x) _ HS.out Try.underlying24 rfl lab_info ?_
        refine still_load_at rfl 24 (.tmp 5) rfl ⟨w1.heap.size, 0, none⟩ rfl (lvC cur) _ (blk_at HC.out.drew) Try.underlying24 rfl lab_info ?_
        refine wpStill_nil ?_
        simp only [Act.put, List.setIfInBounds_toArray, List.set_cons_succ, List.set_cons_zero]
        change wpList _ _ _ _ _ wr.drew
        go_wp2_with fail
        refine HG.out.mono ?_
        rintro _ w5 ⟨rfl, hl5⟩
        have HS5 := hide (fun (j : Nat) v (hj : (lvC x)[j]? = some v) => (hl5.cell (p := (ad.add (k * 5)).add j) (by rw [block_of_add, block_of_add]; exact Nat.lt_of_lt_of_le hab (Nat.le_trans hB0 hbel.size))).trans (HS.out j v hj))
        have hgl := HC.out.lt
        have HC5 := hide (HC.out.drew.below hl5 hgl)
        have hgl2 := HR.out.lt
        have HR5 := hide (HR.out.drew.below hl5 hgl2)
        go_wp2_with (first
          | (refine wpList_load_at rfl 24 (.tmp 30) rfl (ad.add (k * 5)) rfl (lvC x) _ HS5.out Try.underlying24 rfl lab_info ?_)
          | (refine wpList_store_all rfl 24 (.tmp 5) (.tmp 31) rfl w1.heap.size 24 _ HC5.out rfl (lvC x) rfl lab_info rfl (lvC_cell _) ?_; intro w6 hb6 hg6 hs6; clear hs6))
        have hl06 : Below w.heap.size w w6 := (hbel.drew.trans (hl5.mono hbel.size)).grown hg6 (by have := hl5.size; have := hbel.size; show w.heap.size ≤ w5.heap.size; exact Nat.le_trans hbel.size hl5.size) (fun g e => by injection e with e; omega)
        have HR6 := hide (HR5.out.grown hg6 (fun e => by injection e with e; omega))
        have HC6 := hide hb6
        go_roundw
        case rel => exact ⟨k + 1, x, by omega, by omega, by go_num, HM2, HR6, HC6, hl06⟩
        case measure => simp [intOf]; omega
      | false =>
        have hq1 := of_decide_eq_false hq
        rw [if_neg hq1] at hm2
        have HM2 := hide hm2
        have hr0 : ¬ 0 < r := by
          rw [hrr, cmpI, if_neg hq1]
          split <;> decide
        clear hm2 hrr hq hq1
        go_wp2_with fail
        refine wp_region_still_tail 6 (by kernel_rfl) (by kernel_rfl) ?_
        change wpStill _ _ wr.drew _ _ _
        simp only [List.take_succ_cons, List.take_zero, List.drop_succ_cons, List.drop_zero]
        iterate 4 still_step
        refine still_load_at rfl 24 (.tmp 23) rfl (ad.add (k * 5)) rfl (lvC x) _ HS.out Try.underlying24 rfl lab_info ?_
        refine still_load_at rfl 24 (.tmp 5) rfl ⟨w1.heap.size, 0, none⟩ rfl (lvC cur) _ (blk_at HC.out.drew) Try.underlying24 rfl lab_info ?_
        refine wpStill_nil ?_
        simp only [Act.put, List.setIfInBounds_toArray, List.set_cons_succ, List.set_cons_zero]
        change wpList _ _ _ _ _ wr.drew
        go_wp2_with fail
        refine HG.out.mono ?_
        rintro _ w5 ⟨rfl, hl5⟩
        have hgl := HC.out.lt
        have HC5 := hide (HC.out.drew.below hl5 hgl)
        have hgl2 := HR.out.lt
        have HR5 := hide (HR.out.drew.below hl5 hgl2)
        have hl05 : Below w.heap.size w w5 := hbel.drew.trans (hl5.mono hbel.size)
        go_wp2
        go_roundw
        case rel => exact ⟨k + 1, cur, by omega, by omega, by go_num, HM2, HR5, HC5, hl05⟩
        case measure => simp [intOf]; omega
    · obtain rfl : k = n := by omega
      have hfin : maxV x0 L = cur := by
        rw [HM.out, List.drop_eq_nil_of_le (by have := HL.out; omega)]
        rfl
      have HF := hide hfin
      clear hfin
      go_wp2_with (first
        | (refine wpList_load_blk rfl 24 (.tmp 5) rfl w1.heap.size 0 24 _ HC.out rfl (lvC cur) _ (fun j v hj => by rw [Nat.zero_add]; simpa using hj) Try.underlying24 rfl lab_info ?_)
        | (refine wpList_store_all rfl 24 (.tmp 4) (.tmp 32) rfl w.heap.size 24 _ HR.out rfl (lvC cur) rfl lab_info rfl (lvC_cell _) ?_; intro w6 hb6 hg6 hs6; clear hs6))
      exact ret_cell rfl w.heap.size 24 (lvC cur) _ hb6 rfl Try.underlying24 rfl lab_info rfl ⟨by rw [HF.out]; rfl, hbel.grown hg6 hbel.size (fun g e => by injection e with e; omega)⟩
#print axioms maxFunc_any
end Go.Proofs.Ytjdfeidakmkchaa
