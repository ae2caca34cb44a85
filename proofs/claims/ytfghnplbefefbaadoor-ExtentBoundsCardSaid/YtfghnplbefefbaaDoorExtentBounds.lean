/- ExtentBounds holds: for every number that a member's size is made of and every sector: an extent can be taken just if one of the member's extents begins there; then it can be freed again, once; else both are ErrArg; of another member ErrNone. No condition besides the card's own: math/bits.deBruijn64tab is as its initialiser lays it. -/
import Derived.Test.YtfghnplbefefbaaDoorLaidT
import Derived.Test.YtfghnplbefefbaaDoorCards
import Derived.Test.YtfghnplbefefbaaDoorTie
import Derived.Test.YtfghnplbefefbaaDoorExtL
namespace Go.Proofs.YtfghnplbefefbaaDoor.ExtentBounds
open Go.ChangeShapes Go.WideShapes Go.ChangeAt Go.RowKit
set_option linter.unusedVariables false
set_option maxRecDepth 100000 in
set_option maxHeartbeats 8000000 in
theorem walk (n p : Int) (w : World) (hT : Tab w) (_ : -9223372036854775808 ≤ n) (_ : n ≤ 9223372036854775807) (hp1 : -9223372036854775808 ≤ p) (hp2 : p ≤ 9223372036854775807) :
    Calls Tryd.prog 7 #[.int .i64 n, .int .i64 p] w fun e w' => e = .returned (.bool true) ∧ Below w.heap.size w w' := by
  obtain ⟨M, N, hmask, hrem, hrem2, hN, hM⟩ := mask6 n
  have hpos := hT.pos
  go_enter Tryd.func7, Tryd.ntmps7
  go_wp2_with fail
  refine (shown6_any w hT).mono ?_
  rintro _ w1 ⟨rfl, hb1⟩
  have hT1 := hT.later hb1
  clear hT
  have hz1 := hb1.size
  go_wp2_with fail
  refine (on_new w1 (by omega)).mono ?_
  rintro _ w2 ⟨rfl, ho2, hl2, hs2⟩
  obtain ⟨b, hb⟩ : ∃ b, b = w1.heap.size + 1 := ⟨_, rfl⟩
  rw [← hb] at ho2 ⊢
  clear hb
  obtain ⟨ha1, ha2⟩ := add_more (S := Ext.none_) (d := 2) (s := (N : Int)) (by omega) (by omega) (by simp [Ext.none_])
  have HA1 := hide ha1
  have HA2 := hide ha2
  have HO2 := hide ho2
  clear hmask hrem hrem2 ha1 ha2 ho2
  go_wp2_with fail
  refine (on_add HO2.out (by decide) 2 (N : Int) (by decide) (by decide)).mono ?_
  rw [show addE Ext.none_ 2 (N : Int) = 0 from HA1.out, show Ext.none_.more 2 (N : Int) = Ext.none_.add 2 (countZ (N : Int)) from HA2.out]
  rintro _ w3 ⟨rfl, ho, ht⟩
  have hlt : ∀ k : Nat, k < countZ (N : Int) ↔ 114 + 8 * ((k : Int) + 1) ≤ (N : Int) := fun k => countZ_lt
  have hcle := countZ_le (s := (N : Int)) (by omega)
  obtain ⟨q, hq⟩ : ∃ q, q = countZ (N : Int) := ⟨_, rfl⟩
  rw [← hq] at hlt hcle ho
  have HQ := hide hq.symm
  have HLT := hide hlt
  clear hq hlt
  have hks := add_ks Ext.none_ 2 q
  have hn := add_n Ext.none_ 2 q
  have htt := add_t Ext.none_ 2 q
  have hke : (Ext.none_.add 2 q).ks = [2] := rfl
  have hF : ∀ y, Grew (fun y => w1.heap.size ≤ y ∧ y < w1.heap.size + 2) w2 w3 y → w.heap.size ≤ y := fun y hy => by rcases hy with hy | hy <;> omega
  have hfl : ∀ y, Grew (fun y => w1.heap.size ≤ y ∧ y < w1.heap.size + 2) w2 w3 y → y < w3.heap.size := fun y hy => by have := ht.size; rcases hy with hy | hy <;> omega
  have hwb : Below w.heap.size w w3 := (hb1.trans (hl2.mono hb1.size)).trans (ht.below_ (by omega) (fun y hy => by omega))
  have htb : Tab w3 := (hT1.later hl2).turned ht (fun h => by omega)
  generalize Ext.none_.add 2 q = S at ho hks hn htt hke
  generalize Grew (fun y => w1.heap.size ≤ y ∧ y < w1.heap.size + 2) w2 w3 = F at ho hF hfl
  have HO := hide ho
  have HF := hide hF
  have HFL := hide hfl
  have HW := hide hwb
  have HT := hide htb
  have HK := hide hks
  have HN := hide hn
  have HTT := hide htt
  have HE := hide hke
  clear ho hF hfl hwb htb hks hn htt hke hb1 hT1 hl2 ht HO2 HA1 HA2
  go_wp2_with fail
  go_loop [7, 8] (fun v a => ∃ (k : Nat) (c : Bool), k ≤ q ∧ a = .int .i64 (k : Int) ∧ v = .bool c ∧ Hid (c = true ↔ ∃ i : Nat, i < k ∧ p = 114 + 8 * (i : Int))) (fun _ a => q - (intOf a).toNat)
  case atStart => exact ⟨0, false, Nat.zero_le _, rfl, rfl, hide ⟨(fun h => by cases h), (fun ⟨i, hi, _⟩ => by omega)⟩⟩
  case round =>
    obtain ⟨k, c, hk, rfl, rfl, HC⟩ := hrel
    by_cases hkq : k < q
    · have hh := (HLT.out k).1 hkq
      have hkk : (k : Int) < (q : Int) := by omega
      obtain ⟨c2, hc2⟩ : ∃ c2, c2 = decide (p = 114 + 8 * (k : Int)) := ⟨_, rfl⟩
      have HC3 : Hid ((c || c2) = true ↔ ∃ i : Nat, i < k + 1 ∧ p = 114 + 8 * (i : Int)) := by
        refine hide ?_
        rw [Bool.or_eq_true, HC.out, hc2, decide_eq_true_eq]
        constructor
        · rintro (⟨i, hi, e⟩ | e)
          · exact ⟨i, by omega, e⟩
          · exact ⟨k, by omega, e⟩
        · rintro ⟨i, hi, e⟩
          by_cases hik : i = k
          · subst hik; exact .inr e
          · exact .inl ⟨i, by omega, e⟩
      have hc2' : (p == (114 + 8 * (k : Int))) = c2 := by rw [hc2]; by_cases e : p = 114 + 8 * (k : Int) <;> simp [e]
      clear hc2
      cases c
      · go_wp2_with (first
          | (go_at_call 10; refine (extCount_any (N : Int) (by omega) (by omega)).mono ?_; rw [HQ.out]; rintro _ _ ⟨rfl, rfl⟩)
          | (go_at_call 13; refine (extPlace_any (k : Int) (by omega) (by omega)).mono ?_; rintro _ _ ⟨rfl, rfl⟩))
        go_round
        case rel => exact ⟨k + 1, _, by omega, by go_num, rfl, HC3⟩
        case measure => simp [intOf]; omega
      · go_wp2_with (first
          | (go_at_call 10; refine (extCount_any (N : Int) (by omega) (by omega)).mono ?_; rw [HQ.out]; rintro _ _ ⟨rfl, rfl⟩)
          | (go_at_call 13; refine (extPlace_any (k : Int) (by omega) (by omega)).mono ?_; rintro _ _ ⟨rfl, rfl⟩))
        go_round
        case rel => exact ⟨k + 1, _, by omega, by go_num, rfl, HC3⟩
        case measure => simp [intOf]; omega
    · have hkk : ¬ ((k : Int) < (q : Int)) := by omega
      obtain rfl : k = q := by omega
      have ho : oneB (S.n 2) p = c := by
        rw [HN.out]
        rw [Bool.eq_iff_iff, HC.out]
        exact oneB_iff
      have HON := hide ho
      clear ho HC
      cases c
      · go_wp2_with (first
          | (go_at_call 10; refine (extCount_any (N : Int) (by omega) (by omega)).mono ?_; rw [HQ.out]; rintro _ _ ⟨rfl, rfl⟩)
          | ((with_reducible refine at_slot 38 ?_); refine when_build rfl 45 #[(0, .const (.int .i64 2)), (1, .tmp 37)] rfl [(0, .int .i64 2), (1, .int .i64 p)] (by simp only [List.map_toArray, List.map_cons, List.map_nil]; rfl) _ (ext2_built _ _) ?_)
          | ((with_reducible refine at_slot 9 ?_); refine wpList_alloc_blk rfl 45 rfl _ (Tryd.zeroValue45 _) ?_; intro wa hba hla hsa; clear hsa)
          | ((with_reducible refine at_store 9 ?_); refine wpList_store_all rfl 45 (.tmp 9) (.tmp 38) rfl w3.heap.size 45 _ hba rfl [.int .i64 2, .int .i64 p] rfl ext2_info rfl (ext2_one _ _) ?_; intro wb hbb hgb hsb; clear hsb)
          | ((with_reducible refine at_slot 40 ?_); refine when_build rfl 45 #[(0, .const (.int .i64 3)), (1, .tmp 39)] rfl [(0, .int .i64 3), (1, .int .i64 p)] (by simp only [List.map_toArray, List.map_cons, List.map_nil]; rfl) _ (ext2_built _ _) ?_)
          | ((with_reducible refine at_slot 10 ?_); refine wpList_alloc_blk rfl 45 rfl _ (Tryd.zeroValue45 _) ?_; intro wc hbc hlc hsc; clear hsc)
          | ((with_reducible refine at_store 10 ?_); refine wpList_store_all rfl 45 (.tmp 10) (.tmp 40) rfl wb.heap.size 45 _ hbc rfl [.int .i64 3, .int .i64 p] rfl ext2_info rfl (ext2_one _ _) ?_; intro wd hbd hgd hsd; clear hsd; have hlb : Below w3.heap.size w3 wb := hla.grown hgb hla.size (fun g e => by injection e with e; omega); have hld : Below wb.heap.size wb wd := hlc.grown hgd hlc.size (fun g e => by injection e with e; omega); have hxd := hbb.below hld hbb.lt; have hxl := hbb.lt)
          | ((with_reducible refine at_slot 42 ?_); refine when_load rfl 45 (.tmp 9) rfl w3.heap.size 0 45 _ hxd rfl [.int .i64 2, .int .i64 p] _ (fun j v hj => by rw [Nat.zero_add]; simpa [Value.cells] using hj) Tryd.underlying45 rfl ext2_info ?_))
        have hz3 := hlb.size
        have hl3d : Below w3.heap.size w3 wd := hlb.trans (hld.mono hz3)
        have HOa := hide (HO.out.later hl3d)
        have HTa := hide (HT.out.later hl3d)
        have HWa := hide (HW.out.trans (hl3d.mono HW.out.size))
        have HX := hide hxd
        have HY := hide hbd
        have hgx2 : w3.heap.size ≤ wb.heap.size := hz3
        clear HO HW HT hba hla hbb hgb hbc hlc hbd hgd hlb hld hxd hxl hl3d hz3
        have HO := HOa
        have HW := HWa
        have HT := HTa
        clear HOa HWa HTa
        have H3 := hide (show inE S 3 = false by unfold inE; rw [HE.out]; decide)
        have hF1 : ∀ v, findE S (2 : Int) p v = 1 := fun v => findE_notOne (m := 2) HK.out HON.out
        have HF1 := hide hF1
        have HH1 : Hid (decide (findE S 2 p true = 0) = false) := hide (by rw [hF1]; decide)
        have HU : Hid (usedE S 2 = 0) := hide (by rw [show usedE S 2 = cnt (S.t 2) (S.n 2) from usedE_in HK.out, HTT.out]; exact cnt_zero fun _ _ => rfl)
        clear hF1
        refine (on_has HO.out 2 p (by omega) (by omega) (by decide) (by decide)).mono ?_
        rw [HH1.out]
        rintro _ w4 ⟨rfl, ho, ht⟩
        have HW4 := hide (HW.out.trans (ht.below_ HW.out.size HF.out))
        have HT4 := hide (HT.out.turned ht (fun h => by have := HF.out _ h; omega))
        have HX4 := hide (HX.out.turned ht (fun h => by have := HFL.out _ h; omega))
        have HY4 := hide (HY.out.turned ht (fun h => by have := HFL.out _ h; omega))
        have HO4 := hide ho
        clear HO HW HT HX HY ho ht
        have HO := HO4
        have HW := HW4
        have HT := HT4
        have HX := HX4
        have HY := HY4
        clear HO4 HW4 HT4 HX4 HY4
        go_wp2_with (first
          | ((with_reducible refine at_slot 46 ?_); refine when_load rfl 45 (.tmp 10) rfl wb.heap.size 0 45 _ HY.out rfl [.int .i64 3, .int .i64 p] _ (fun j v hj => by rw [Nat.zero_add]; simpa [Value.cells] using hj) Tryd.underlying45 rfl ext2_info ?_))
        refine (on_has HO.out 3 p (by omega) (by omega) (by decide) (by decide)).mono ?_
        rw [show decide (findE S 3 p true = 0) = false from by rw [findE_out H3.out]; decide]
        rintro _ w5 ⟨rfl, ho, ht⟩
        have HW5 := hide (HW.out.trans (ht.below_ HW.out.size HF.out))
        have HT5 := hide (HT.out.turned ht (fun h => by have := HF.out _ h; omega))
        have HX5 := hide (HX.out.turned ht (fun h => by have := HFL.out _ h; omega))
        have HY5 := hide (HY.out.turned ht (fun h => by have := HFL.out _ h; omega))
        have HO5 := hide ho
        clear HO HW HT HX HY ho ht
        have HO := HO5
        have HW := HW5
        have HT := HT5
        have HX := HX5
        have HY := HY5
        clear HO5 HW5 HT5 HX5 HY5
        go_wp2_with (first
          | ((with_reducible refine at_slot 51 ?_); refine when_load rfl 45 (.tmp 10) rfl wb.heap.size 0 45 _ HY.out rfl [.int .i64 3, .int .i64 p] _ (fun j v hj => by rw [Nat.zero_add]; simpa [Value.cells] using hj) Tryd.underlying45 rfl ext2_info ?_))
        refine (on_takeAt HO.out 3 p (by omega) (by omega) (by decide) (by decide)).mono ?_
        rw [show findE S 3 p false = 8 from findE_out H3.out, show S.poke 3 p true = S from poke_no (by rw [findE_out H3.out]; decide)]
        rintro _ w6 ⟨rfl, ho, ht⟩
        have HW6 := hide (HW.out.trans (ht.below_ HW.out.size HF.out))
        have HT6 := hide (HT.out.turned ht (fun h => by have := HF.out _ h; omega))
        have HX6 := hide (HX.out.turned ht (fun h => by have := HFL.out _ h; omega))
        have HY6 := hide (HY.out.turned ht (fun h => by have := HFL.out _ h; omega))
        have HO6 := hide ho
        clear HO HW HT HX HY ho ht
        have HO := HO6
        have HW := HW6
        have HT := HT6
        have HX := HX6
        have HY := HY6
        clear HO6 HW6 HT6 HX6 HY6
        go_wp2_with (first
          | ((with_reducible refine at_slot 57 ?_); refine when_load rfl 45 (.tmp 10) rfl wb.heap.size 0 45 _ HY.out rfl [.int .i64 3, .int .i64 p] _ (fun j v hj => by rw [Nat.zero_add]; simpa [Value.cells] using hj) Tryd.underlying45 rfl ext2_info ?_))
        refine (on_free HO.out 3 p (by omega) (by omega) (by decide) (by decide)).mono ?_
        rw [show findE S 3 p true = 8 from findE_out H3.out, show S.poke 3 p false = S from poke_no (by rw [findE_out H3.out]; decide)]
        rintro _ w7 ⟨rfl, ho, ht⟩
        have HW7 := hide (HW.out.trans (ht.below_ HW.out.size HF.out))
        have HT7 := hide (HT.out.turned ht (fun h => by have := HF.out _ h; omega))
        have HX7 := hide (HX.out.turned ht (fun h => by have := HFL.out _ h; omega))
        have HY7 := hide (HY.out.turned ht (fun h => by have := HFL.out _ h; omega))
        have HO7 := hide ho
        clear HO HW HT HX HY ho ht
        have HO := HO7
        have HW := HW7
        have HT := HT7
        have HX := HX7
        have HY := HY7
        clear HO7 HW7 HT7 HX7 HY7
        go_wp2_with (first
          | ((with_reducible refine at_slot 66 ?_); refine when_load rfl 45 (.tmp 9) rfl w3.heap.size 0 45 _ HX.out rfl [.int .i64 2, .int .i64 p] _ (fun j v hj => by rw [Nat.zero_add]; simpa [Value.cells] using hj) Tryd.underlying45 rfl ext2_info ?_))
        refine (on_takeAt HO.out 2 p (by omega) (by omega) (by decide) (by decide)).mono ?_
        rw [HF1.out, show S.poke 2 p true = S from poke_no (by rw [HF1.out]; decide)]
        rintro _ w8 ⟨rfl, ho, ht⟩
        have HW8 := hide (HW.out.trans (ht.below_ HW.out.size HF.out))
        have HT8 := hide (HT.out.turned ht (fun h => by have := HF.out _ h; omega))
        have HX8 := hide (HX.out.turned ht (fun h => by have := HFL.out _ h; omega))
        have HY8 := hide (HY.out.turned ht (fun h => by have := HFL.out _ h; omega))
        have HO8 := hide ho
        clear HO HW HT HX HY ho ht
        have HO := HO8
        have HW := HW8
        have HT := HT8
        have HX := HX8
        have HY := HY8
        clear HO8 HW8 HT8 HX8 HY8
        go_wp2_with (first
          | ((with_reducible refine at_slot 72 ?_); refine when_load rfl 45 (.tmp 9) rfl w3.heap.size 0 45 _ HX.out rfl [.int .i64 2, .int .i64 p] _ (fun j v hj => by rw [Nat.zero_add]; simpa [Value.cells] using hj) Tryd.underlying45 rfl ext2_info ?_))
        refine (on_free HO.out 2 p (by omega) (by omega) (by decide) (by decide)).mono ?_
        rw [HF1.out, show S.poke 2 p false = S from poke_no (by rw [HF1.out]; decide)]
        rintro _ w9 ⟨rfl, ho, ht⟩
        have HW9 := hide (HW.out.trans (ht.below_ HW.out.size HF.out))
        have HT9 := hide (HT.out.turned ht (fun h => by have := HF.out _ h; omega))
        have HX9 := hide (HX.out.turned ht (fun h => by have := HFL.out _ h; omega))
        have HY9 := hide (HY.out.turned ht (fun h => by have := HFL.out _ h; omega))
        have HO9 := hide ho
        clear HO HW HT HX HY ho ht
        have HO := HO9
        have HW := HW9
        have HT := HT9
        have HX := HX9
        have HY := HY9
        clear HO9 HW9 HT9 HX9 HY9
        go_wp2_with fail
        refine (on_used' HO.out 2 (by decide) (by decide)).mono ?_
        rw [HU.out]
        rintro _ w10 ⟨rfl, ho, ht⟩
        have HW10 := hide (HW.out.trans (ht.below_ HW.out.size HF.out))
        have HT10 := hide (HT.out.turned ht (fun h => by have := HF.out _ h; omega))
        have HX10 := hide (HX.out.turned ht (fun h => by have := HFL.out _ h; omega))
        have HY10 := hide (HY.out.turned ht (fun h => by have := HFL.out _ h; omega))
        have HO10 := hide ho
        clear HO HW HT HX HY ho ht
        have HO := HO10
        have HW := HW10
        have HT := HT10
        have HX := HX10
        have HY := HY10
        clear HO10 HW10 HT10 HX10 HY10
        go_wp2_with fail
        go_ret
        exact ⟨rfl, HW.out⟩
      · go_wp2_with (first
          | (go_at_call 10; refine (extCount_any (N : Int) (by omega) (by omega)).mono ?_; rw [HQ.out]; rintro _ _ ⟨rfl, rfl⟩)
          | ((with_reducible refine at_slot 38 ?_); refine when_build rfl 45 #[(0, .const (.int .i64 2)), (1, .tmp 37)] rfl [(0, .int .i64 2), (1, .int .i64 p)] (by simp only [List.map_toArray, List.map_cons, List.map_nil]; rfl) _ (ext2_built _ _) ?_)
          | ((with_reducible refine at_slot 9 ?_); refine wpList_alloc_blk rfl 45 rfl _ (Tryd.zeroValue45 _) ?_; intro wa hba hla hsa; clear hsa)
          | ((with_reducible refine at_store 9 ?_); refine wpList_store_all rfl 45 (.tmp 9) (.tmp 38) rfl w3.heap.size 45 _ hba rfl [.int .i64 2, .int .i64 p] rfl ext2_info rfl (ext2_one _ _) ?_; intro wb hbb hgb hsb; clear hsb)
          | ((with_reducible refine at_slot 40 ?_); refine when_build rfl 45 #[(0, .const (.int .i64 3)), (1, .tmp 39)] rfl [(0, .int .i64 3), (1, .int .i64 p)] (by simp only [List.map_toArray, List.map_cons, List.map_nil]; rfl) _ (ext2_built _ _) ?_)
          | ((with_reducible refine at_slot 10 ?_); refine wpList_alloc_blk rfl 45 rfl _ (Tryd.zeroValue45 _) ?_; intro wc hbc hlc hsc; clear hsc)
          | ((with_reducible refine at_store 10 ?_); refine wpList_store_all rfl 45 (.tmp 10) (.tmp 40) rfl wb.heap.size 45 _ hbc rfl [.int .i64 3, .int .i64 p] rfl ext2_info rfl (ext2_one _ _) ?_; intro wd hbd hgd hsd; clear hsd; have hlb : Below w3.heap.size w3 wb := hla.grown hgb hla.size (fun g e => by injection e with e; omega); have hld : Below wb.heap.size wb wd := hlc.grown hgd hlc.size (fun g e => by injection e with e; omega); have hxd := hbb.below hld hbb.lt; have hxl := hbb.lt)
          | ((with_reducible refine at_slot 42 ?_); refine when_load rfl 45 (.tmp 9) rfl w3.heap.size 0 45 _ hxd rfl [.int .i64 2, .int .i64 p] _ (fun j v hj => by rw [Nat.zero_add]; simpa [Value.cells] using hj) Tryd.underlying45 rfl ext2_info ?_))
        have hz3 := hlb.size
        have hl3d : Below w3.heap.size w3 wd := hlb.trans (hld.mono hz3)
        have HOa := hide (HO.out.later hl3d)
        have HTa := hide (HT.out.later hl3d)
        have HWa := hide (HW.out.trans (hl3d.mono HW.out.size))
        have HX := hide hxd
        have HY := hide hbd
        have hgx2 : w3.heap.size ≤ wb.heap.size := hz3
        clear HO HW HT hba hla hbb hgb hbc hlc hbd hgd hlb hld hxd hxl hl3d hz3
        have HO := HOa
        have HW := HWa
        have HT := HTa
        clear HOa HWa HTa
        have H3 := hide (show inE S 3 = false by unfold inE; rw [HE.out]; decide)
        have hid : S.t 2 (idxI p) = false := by rw [HTT.out]
        have HI := hide hid
        have HH1 : Hid (decide (findE S 2 p true = 0) = false) := hide (by rw [show findE S (2 : Int) p true = 9 from findE_not (m := 2) HK.out HON.out hid]; decide)
        clear hid
        refine (on_has HO.out 2 p (by omega) (by omega) (by decide) (by decide)).mono ?_
        rw [HH1.out]
        rintro _ w4 ⟨rfl, ho, ht⟩
        have HW4 := hide (HW.out.trans (ht.below_ HW.out.size HF.out))
        have HT4 := hide (HT.out.turned ht (fun h => by have := HF.out _ h; omega))
        have HX4 := hide (HX.out.turned ht (fun h => by have := HFL.out _ h; omega))
        have HY4 := hide (HY.out.turned ht (fun h => by have := HFL.out _ h; omega))
        have HO4 := hide ho
        clear HO HW HT HX HY ho ht
        have HO := HO4
        have HW := HW4
        have HT := HT4
        have HX := HX4
        have HY := HY4
        clear HO4 HW4 HT4 HX4 HY4
        go_wp2_with (first
          | ((with_reducible refine at_slot 46 ?_); refine when_load rfl 45 (.tmp 10) rfl wb.heap.size 0 45 _ HY.out rfl [.int .i64 3, .int .i64 p] _ (fun j v hj => by rw [Nat.zero_add]; simpa [Value.cells] using hj) Tryd.underlying45 rfl ext2_info ?_))
        refine (on_has HO.out 3 p (by omega) (by omega) (by decide) (by decide)).mono ?_
        rw [show decide (findE S 3 p true = 0) = false from by rw [findE_out H3.out]; decide]
        rintro _ w5 ⟨rfl, ho, ht⟩
        have HW5 := hide (HW.out.trans (ht.below_ HW.out.size HF.out))
        have HT5 := hide (HT.out.turned ht (fun h => by have := HF.out _ h; omega))
        have HX5 := hide (HX.out.turned ht (fun h => by have := HFL.out _ h; omega))
        have HY5 := hide (HY.out.turned ht (fun h => by have := HFL.out _ h; omega))
        have HO5 := hide ho
        clear HO HW HT HX HY ho ht
        have HO := HO5
        have HW := HW5
        have HT := HT5
        have HX := HX5
        have HY := HY5
        clear HO5 HW5 HT5 HX5 HY5
        go_wp2_with (first
          | ((with_reducible refine at_slot 51 ?_); refine when_load rfl 45 (.tmp 10) rfl wb.heap.size 0 45 _ HY.out rfl [.int .i64 3, .int .i64 p] _ (fun j v hj => by rw [Nat.zero_add]; simpa [Value.cells] using hj) Tryd.underlying45 rfl ext2_info ?_))
        refine (on_takeAt HO.out 3 p (by omega) (by omega) (by decide) (by decide)).mono ?_
        rw [show findE S 3 p false = 8 from findE_out H3.out, show S.poke 3 p true = S from poke_no (by rw [findE_out H3.out]; decide)]
        rintro _ w6 ⟨rfl, ho, ht⟩
        have HW6 := hide (HW.out.trans (ht.below_ HW.out.size HF.out))
        have HT6 := hide (HT.out.turned ht (fun h => by have := HF.out _ h; omega))
        have HX6 := hide (HX.out.turned ht (fun h => by have := HFL.out _ h; omega))
        have HY6 := hide (HY.out.turned ht (fun h => by have := HFL.out _ h; omega))
        have HO6 := hide ho
        clear HO HW HT HX HY ho ht
        have HO := HO6
        have HW := HW6
        have HT := HT6
        have HX := HX6
        have HY := HY6
        clear HO6 HW6 HT6 HX6 HY6
        go_wp2_with (first
          | ((with_reducible refine at_slot 57 ?_); refine when_load rfl 45 (.tmp 10) rfl wb.heap.size 0 45 _ HY.out rfl [.int .i64 3, .int .i64 p] _ (fun j v hj => by rw [Nat.zero_add]; simpa [Value.cells] using hj) Tryd.underlying45 rfl ext2_info ?_))
        refine (on_free HO.out 3 p (by omega) (by omega) (by decide) (by decide)).mono ?_
        rw [show findE S 3 p true = 8 from findE_out H3.out, show S.poke 3 p false = S from poke_no (by rw [findE_out H3.out]; decide)]
        rintro _ w7 ⟨rfl, ho, ht⟩
        have HW7 := hide (HW.out.trans (ht.below_ HW.out.size HF.out))
        have HT7 := hide (HT.out.turned ht (fun h => by have := HF.out _ h; omega))
        have HX7 := hide (HX.out.turned ht (fun h => by have := HFL.out _ h; omega))
        have HY7 := hide (HY.out.turned ht (fun h => by have := HFL.out _ h; omega))
        have HO7 := hide ho
        clear HO HW HT HX HY ho ht
        have HO := HO7
        have HW := HW7
        have HT := HT7
        have HX := HX7
        have HY := HY7
        clear HO7 HW7 HT7 HX7 HY7
        go_wp2_with (first
          | ((with_reducible refine at_slot 84 ?_); refine when_load rfl 45 (.tmp 9) rfl w3.heap.size 0 45 _ HX.out rfl [.int .i64 2, .int .i64 p] _ (fun j v hj => by rw [Nat.zero_add]; simpa [Value.cells] using hj) Tryd.underlying45 rfl ext2_info ?_))
        refine (on_free HO.out 2 p (by omega) (by omega) (by decide) (by decide)).mono ?_
        rw [show findE S (2 : Int) p true = 9 from findE_not (m := 2) HK.out HON.out HI.out, show S.poke 2 p false = S from poke_no (by rw [show findE S (2 : Int) p (!false) = 9 from findE_not (m := 2) HK.out HON.out HI.out]; decide)]
        rintro _ w8 ⟨rfl, ho, ht⟩
        have HW8 := hide (HW.out.trans (ht.below_ HW.out.size HF.out))
        have HT8 := hide (HT.out.turned ht (fun h => by have := HF.out _ h; omega))
        have HX8 := hide (HX.out.turned ht (fun h => by have := HFL.out _ h; omega))
        have HY8 := hide (HY.out.turned ht (fun h => by have := HFL.out _ h; omega))
        have HO8 := hide ho
        clear HO HW HT HX HY ho ht
        have HO := HO8
        have HW := HW8
        have HT := HT8
        have HX := HX8
        have HY := HY8
        clear HO8 HW8 HT8 HX8 HY8
        go_wp2_with (first
          | ((with_reducible refine at_slot 90 ?_); refine when_load rfl 45 (.tmp 9) rfl w3.heap.size 0 45 _ HX.out rfl [.int .i64 2, .int .i64 p] _ (fun j v hj => by rw [Nat.zero_add]; simpa [Value.cells] using hj) Tryd.underlying45 rfl ext2_info ?_))
        refine (on_takeAt HO.out 2 p (by omega) (by omega) (by decide) (by decide)).mono ?_
        rw [show findE S (2 : Int) p false = 0 from findE_ok (m := 2) HK.out HON.out HI.out, show S.poke 2 p true = S.setT 2 (put (S.t 2) (idxI p) true) from poke_yes (m := 2) HK.out HON.out HI.out]
        rintro _ w9 ⟨rfl, ho, ht⟩
        have HW9 := hide (HW.out.trans (ht.below_ HW.out.size HF.out))
        have HT9 := hide (HT.out.turned ht (fun h => by have := HF.out _ h; omega))
        have HX9 := hide (HX.out.turned ht (fun h => by have := HFL.out _ h; omega))
        have HY9 := hide (HY.out.turned ht (fun h => by have := HFL.out _ h; omega))
        have HO9 := hide ho
        clear HO HW HT HX HY ho ht
        have HO := HO9
        have HW := HW9
        have HT := HT9
        have HX := HX9
        have HY := HY9
        clear HO9 HW9 HT9 HX9 HY9
        obtain ⟨S1, hS1⟩ : ∃ S1, S1 = S.setT 2 (put (S.t 2) (idxI p) true) := ⟨_, rfl⟩
        have HK1 : Hid (2 ∈ S1.ks) := hide (by rw [hS1]; exact HK.out)
        have HON1 : Hid (oneB (S1.n 2) p = true) := hide (by rw [hS1]; exact HON.out)
        have HI1 : Hid (S1.t 2 (idxI p) = true) := hide (by rw [hS1, setT_t, put_self])
        have HU1 : Hid (usedE S1 2 = 1) := hide (by rw [show usedE S1 2 = cnt (S1.t 2) (S1.n 2) from usedE_in HK1.out, hS1, setT_t]; show cnt (put (S.t 2) (idxI p) true) (S.n 2) = 1; rw [cnt_more (oneB_parts HON.out).2 HI.out, HTT.out, cnt_zero fun _ _ => rfl])
        rw [← hS1] at HO
        have HS1 := hide hS1
        clear hS1
        go_wp2_with (first
          | ((with_reducible refine at_slot 96 ?_); refine when_load rfl 45 (.tmp 9) rfl w3.heap.size 0 45 _ HX.out rfl [.int .i64 2, .int .i64 p] _ (fun j v hj => by rw [Nat.zero_add]; simpa [Value.cells] using hj) Tryd.underlying45 rfl ext2_info ?_))
        refine (on_has HO.out 2 p (by omega) (by omega) (by decide) (by decide)).mono ?_
        rw [show decide (findE S1 2 p true = 0) = true from by rw [show findE S1 (2 : Int) p true = 0 from findE_ok (m := 2) HK1.out HON1.out HI1.out]; decide]
        rintro _ w10 ⟨rfl, ho, ht⟩
        have HW10 := hide (HW.out.trans (ht.below_ HW.out.size HF.out))
        have HT10 := hide (HT.out.turned ht (fun h => by have := HF.out _ h; omega))
        have HX10 := hide (HX.out.turned ht (fun h => by have := HFL.out _ h; omega))
        have HY10 := hide (HY.out.turned ht (fun h => by have := HFL.out _ h; omega))
        have HO10 := hide ho
        clear HO HW HT HX HY ho ht
        have HO := HO10
        have HW := HW10
        have HT := HT10
        have HX := HX10
        have HY := HY10
        clear HO10 HW10 HT10 HX10 HY10
        go_wp2_with fail
        refine (on_used' HO.out 2 (by decide) (by decide)).mono ?_
        rw [HU1.out]
        rintro _ w11 ⟨rfl, ho, ht⟩
        have HW11 := hide (HW.out.trans (ht.below_ HW.out.size HF.out))
        have HT11 := hide (HT.out.turned ht (fun h => by have := HF.out _ h; omega))
        have HX11 := hide (HX.out.turned ht (fun h => by have := HFL.out _ h; omega))
        have HY11 := hide (HY.out.turned ht (fun h => by have := HFL.out _ h; omega))
        have HO11 := hide ho
        clear HO HW HT HX HY ho ht
        have HO := HO11
        have HW := HW11
        have HT := HT11
        have HX := HX11
        have HY := HY11
        clear HO11 HW11 HT11 HX11 HY11
        go_wp2_with (first
          | ((with_reducible refine at_slot 106 ?_); refine when_load rfl 45 (.tmp 9) rfl w3.heap.size 0 45 _ HX.out rfl [.int .i64 2, .int .i64 p] _ (fun j v hj => by rw [Nat.zero_add]; simpa [Value.cells] using hj) Tryd.underlying45 rfl ext2_info ?_))
        refine (on_free HO.out 2 p (by omega) (by omega) (by decide) (by decide)).mono ?_
        rw [show findE S1 (2 : Int) p true = 0 from findE_ok (m := 2) HK1.out HON1.out HI1.out, show S1.poke 2 p false = S1.setT 2 (put (S1.t 2) (idxI p) false) from poke_yes (m := 2) HK1.out HON1.out HI1.out]
        rintro _ w12 ⟨rfl, ho, ht⟩
        have HW12 := hide (HW.out.trans (ht.below_ HW.out.size HF.out))
        have HT12 := hide (HT.out.turned ht (fun h => by have := HF.out _ h; omega))
        have HX12 := hide (HX.out.turned ht (fun h => by have := HFL.out _ h; omega))
        have HY12 := hide (HY.out.turned ht (fun h => by have := HFL.out _ h; omega))
        have HO12 := hide ho
        clear HO HW HT HX HY ho ht
        have HO := HO12
        have HW := HW12
        have HT := HT12
        have HX := HX12
        have HY := HY12
        clear HO12 HW12 HT12 HX12 HY12
        obtain ⟨S2, hS2⟩ : ∃ S2, S2 = S1.setT 2 (put (S1.t 2) (idxI p) false) := ⟨_, rfl⟩
        have HK2 : Hid (2 ∈ S2.ks) := hide (by rw [hS2]; exact HK1.out)
        have HON2 : Hid (oneB (S2.n 2) p = true) := hide (by rw [hS2]; exact HON1.out)
        have HI2 : Hid (S2.t 2 (idxI p) = false) := hide (by rw [hS2, setT_t, put_self])
        rw [← hS2] at HO
        clear hS2
        go_wp2_with (first
          | ((with_reducible refine at_slot 112 ?_); refine when_load rfl 45 (.tmp 9) rfl w3.heap.size 0 45 _ HX.out rfl [.int .i64 2, .int .i64 p] _ (fun j v hj => by rw [Nat.zero_add]; simpa [Value.cells] using hj) Tryd.underlying45 rfl ext2_info ?_))
        refine (on_free HO.out 2 p (by omega) (by omega) (by decide) (by decide)).mono ?_
        rw [show findE S2 (2 : Int) p true = 9 from findE_not (m := 2) HK2.out HON2.out HI2.out, show S2.poke 2 p false = S2 from poke_no (by rw [show findE S2 (2 : Int) p (!false) = 9 from findE_not (m := 2) HK2.out HON2.out HI2.out]; decide)]
        rintro _ w13 ⟨rfl, ho, ht⟩
        have HW13 := hide (HW.out.trans (ht.below_ HW.out.size HF.out))
        have HT13 := hide (HT.out.turned ht (fun h => by have := HF.out _ h; omega))
        have HX13 := hide (HX.out.turned ht (fun h => by have := HFL.out _ h; omega))
        have HY13 := hide (HY.out.turned ht (fun h => by have := HFL.out _ h; omega))
        have HO13 := hide ho
        clear HO HW HT HX HY ho ht
        have HO := HO13
        have HW := HW13
        have HT := HT13
        have HX := HX13
        have HY := HY13
        clear HO13 HW13 HT13 HX13 HY13
        go_wp2_with (first
          | ((with_reducible refine at_slot 118 ?_); refine when_load rfl 45 (.tmp 9) rfl w3.heap.size 0 45 _ HX.out rfl [.int .i64 2, .int .i64 p] _ (fun j v hj => by rw [Nat.zero_add]; simpa [Value.cells] using hj) Tryd.underlying45 rfl ext2_info ?_))
        refine (on_has HO.out 2 p (by omega) (by omega) (by decide) (by decide)).mono ?_
        rw [show decide (findE S2 2 p true = 0) = false from by rw [show findE S2 (2 : Int) p true = 9 from findE_not (m := 2) HK2.out HON2.out HI2.out]; decide]
        rintro _ w14 ⟨rfl, ho, ht⟩
        have HW14 := hide (HW.out.trans (ht.below_ HW.out.size HF.out))
        have HT14 := hide (HT.out.turned ht (fun h => by have := HF.out _ h; omega))
        have HX14 := hide (HX.out.turned ht (fun h => by have := HFL.out _ h; omega))
        have HY14 := hide (HY.out.turned ht (fun h => by have := HFL.out _ h; omega))
        have HO14 := hide ho
        clear HO HW HT HX HY ho ht
        have HO := HO14
        have HW := HW14
        have HT := HT14
        have HX := HX14
        have HY := HY14
        clear HO14 HW14 HT14 HX14 HY14
        go_wp2_with fail
        go_ret
        exact ⟨rfl, HW.out⟩

/-! The row's frame, by program: how the walk above proves the statement. -/
set_option maxRecDepth 100000 in
theorem lifted (os : Os) (started : os.Started) (H : Type) (enc : TypeId × Value → H) :
    ReturnsInHanded {} Tryd.checked os 7 .any (fun w args => (Rows.extentBoundsSpec.pre enc Tryd.prog Tryd.f7 Rows.extentBoundsRow.domain false w args ∧ laidMetH Tryd.prog tabL w) ∧ sizedMet enc Tryd.prog Tryd.f7 (OpenSpec.ofChange Rows.extentBoundsSpec) false w args) (Rows.extentBoundsSpec.post enc Tryd.prog Tryd.f7 false true false false) := by
  refine returnsInHanded_of_change_and (C := Tryd.checked) (X := fun w _ => laidMetH Tryd.prog tabL w) (fun _ _ _ hh h => h.of_heap hh) own started (by kernel_rfl) Tryd.func7
    (ChangeSpec.witness_shaped (enc := enc) (C := Tryd.checked) (os := os) (X := fun w _ => laidMetH Tryd.prog tabL w) false (World.doorLaid Tryd.prog 400 os) #[.int .i64 0, .int .i64 0] 8 rfl (World.shaped_of_RefB (by kernel_rfl) (by kernel_rfl)) (by kernel_rfl) (by kernel_rfl) (by kernel_rfl) (door_met os _)) ?_
  intro W base args ds gs before hval0 hW _ _ hL _
  have hval : ∀ (j : Nat) t v, Tryd.f7.params[j]? = some t → args[j]? = some v → Value.okWide Tryd.prog W .any base t v := hval0
  have hW' := hW
  obtain ⟨p, q, hA0, hV, rfl, hfz, hnd⟩ := hW
  have hA : DataW.TrodAll enc Tryd.prog W 0 (fun _ => true) true Tryd.f7.params.toList args.toList ds p := hA0
  rw [Tryd.params7] at hA hval
  obtain ⟨v0, vs0, d0, ds0, p0, q0, hargs, rfl, rfl, h0, r0⟩ := trodAll_cons hA
  obtain ⟨v1, vs1, d1, ds1, p1, q1, rfl, rfl, rfl, h1, r1⟩ := trodAll_cons r0
  obtain ⟨rfl, rfl, rfl⟩ := trodAll_nil r1
  obtain rfl : args = #[v0, v1] := by cases args; simp_all
  obtain ⟨rfl, rfl⟩ := trodVars_none hV
  obtain ⟨a0, rfl, rfl, rfl, w0⟩ := open_int Tryd.underlying3 (hval 0 3 v0 rfl rfl) h0
  have b0 := bounds_i64 w0
  obtain ⟨a1, rfl, rfl, rfl, w1⟩ := open_int Tryd.underlying3 (hval 1 3 v1 rfl rfl) h1
  have b1 := bounds_i64 w1
  clear hA0 hval0
  refine (walk a0 a1 W (of_laid hL) b0.1 b0.2 b1.1 b1.2).mono fun e W' ⟨he, bel⟩ => ?_
  subst he
  exact ⟨_, rfl, _, _, _, [], _, [], hW', trodAll_mk1 (shut_bool Tryd.underlying4 _), (trodAll_cons_mk (shut_int Tryd.underlying3 w0) (trodAll_cons_mk (shut_int Tryd.underlying3 w1) trodAll_mk0)), rfl, bel.frame _, fun h => by cases h⟩

theorem over : Rows.extentBoundsRow.holds Tryd.pinned (OpenSpec.ofChange Rows.extentBoundsSpec) :=
  OpenClaim.holds_of_wide 7 Tryd.f7 rfl rfl rfl rfl rfl rfl rfl ⟨rfl, rfl, rfl, rfl, rfl⟩ rfl rfl rfl rfl rfl (by kernel_rfl) Tryd.func7 (by kernel_rfl)
    (of_decide_eq_true (by kernel_rfl)) (by unfold Func.isWrapper; first | (rw [if_pos (by decide +kernel)]; kernel_rfl) | (rw [if_neg (by decide +kernel)]; exact ⟨rfl, rfl⟩))
    (fun os started H enc _ => lifted os started H enc)

/-- The statement: the tied card. -/
theorem proved : Rows.ExtentBoundsCardSaid :=
  Claim7.holds_tied_plain_at .later [] [.data] true Rows.extentBoundsCard.stood.harness Rows.extentBoundsCard.stood.looks
    over (fun _ h => by cases h) (by kernel_rfl) (fun _ h => by cases h) extentBounds_row_tie rfl ⟨rfl, rfl⟩ (by kernel_rfl) rfl
    (fun f fn hf hfn => by
      obtain rfl : f = 7 := Option.some.inj ((show Tryd.prog.funcNamed "braidwork/braidworklaw06.ExtentBounds" = some 7 by kernel_rfl).symm.trans hf) |>.symm
      obtain rfl : fn = Tryd.f7 := (Option.some.inj (Tryd.func7.symm.trans hfn)).symm
      exact ⟨by kernel_rfl, fun j t ht => by
        rw [Tryd.params7] at ht
        have hm : t ∈ [3, 3] := by simpa using Array.mem_of_getElem? ht
        have hall : ([3, 3].all fun u => !Tryd.prog.wantsStandIn u) = true := by kernel_rfl
        exact (show Tryd.prog.wantsStandIn t = false by simpa using List.all_eq_true.1 hall t hm)⟩)
    (by kernel_rfl)
#print axioms proved
end Go.Proofs.YtfghnplbefefbaaDoor.ExtentBounds
