/- What metalog.find tells, asked by either of partsOf's questions. -/
import Derived.Test.YtmjdndhpnckeeaaMjA
import Derived.Test.YtmjdndhpnckeeaaWhen
namespace Go.Proofs.Ytmjdndhpnckeeaa
open Go.RowKit
set_option maxRecDepth 100000 in
set_option maxHeartbeats 4000000 in
theorem findB_any (A : Option Addr) (n c : Nat) (live : List Nat) (b at_ : Nat) (S : Bank) (q : Tg → Bool) (g gm gi gt : Nat) (w : World) (hRd : AsksB w b S) (hr : Reads w w.heap.size 1 A n (I64 (live.map Int.ofNat))) (hv : Askable S live) (hat : at_ < 48) (hn63 : n ≤ 9223372036854775807)
    (hQ : ∀ w1, Below w.heap.size w w1 → ∀ t, Calls Try.prog 64 #[tagV t, .pointer (some ⟨g, 0, none⟩), .pointer (some ⟨gm, 0, none⟩), .pointer (some ⟨gi, 0, none⟩), .pointer (some ⟨gt, 0, none⟩)] w1 fun e w2 => e = .returned (.bool (q t)) ∧ Below w1.heap.size w1 w2) :
    Calls Try.prog 61 #[.pointer (some ⟨b, 0, none⟩), .slice A n c, .int .i64 (at_ : Int), .func (.func 64) #[] #[.pointer (some ⟨g, 0, none⟩), .pointer (some ⟨gm, 0, none⟩), .pointer (some ⟨gi, 0, none⟩), .pointer (some ⟨gt, 0, none⟩)]] w fun e w' => e = .returned (.tuple #[.agg (B8 (findS (viewsOf S live) (fun s => partB s && q (tagT s)) at_)).toArray, .int .i64 ((findE (viewsOf S live) (fun s => partB s && q (tagT s)) at_ : Nat) : Int)]) ∧ Below w.heap.size w w' := by
  have hlen : live.length = n := by have := hr.1; rw [I64_length, List.length_map] at this; omega
  obtain ⟨pp, hp⟩ : ∃ pp : List UInt8 → Bool, pp = fun s => partB s && q (tagT s) := ⟨_, rfl⟩
  rw [← hp]
  have HP : Hid (∀ s, pp s = (partB s && q (tagT s))) := hide (fun s => congrFun hp s)
  have HQ := hide hQ
  have HASK := hide hRd
  have HRW := hide hr
  have HAV := hide hv
  have HLEN := hide hlen
  clear hp hQ hRd hr hv hlen
  go_enter Try.func61, Try.ntmps61
  go_wp2_with ((with_reducible refine at_slot 8 ?_); refine wpList_alloc_blk rfl 51 rfl _ (sec_zero w) ?_; intro w1 hb1 hl1 hs1; clear hs1)
  have HB1 : Hid (Blk w1 w.heap.size 51 (secL zeroSec).toArray) := hide hb1
  have HL1 := hide hl1
  clear hb1 hl1
  go_loopw [10, 19] (fun s10 s19 wr => ∃ k : Nat, s19 = .int .i64 (k : Int) ∧ k ≤ n ∧ s10 = .int .i64 ((if viewsOf S (live.take k) = [] then 5 else 8 : Nat) : Int) ∧ Hid (hit (viewsOf S (live.take k)) pp at_ = none) ∧ Hid (Blk wr w.heap.size 51 (secL zeroSec).toArray) ∧ Hid (Below w.heap.size w wr)) (fun _ s19 _ => n - (intOf s19).toNat)
  case atStart => exact ⟨0, rfl, Nat.zero_le _, rfl, hide rfl, HB1, HL1⟩
  case round =>
    obtain ⟨k, rfl, hk, rfl, hno, hR, hl⟩ := hrel
    obtain ⟨wo, rfl⟩ : ∃ wo, wo = wr := ⟨_, rfl⟩
    by_cases hkn : k < n
    · have hkw : (k : Int) < (n : Int) := by omega
      obtain ⟨ad, rfl, hab, hcs⟩ := HRW.out.2 (by omega)
      obtain ⟨d, hd⟩ : ∃ d, live[k]? = some d := ⟨live[k]'(by have := HLEN.out; omega), List.getElem?_eq_getElem _⟩
      have hdm : d ∈ live := List.mem_of_getElem? hd
      have hce : wo.cell? (ad.add k) = some (.int .i64 (d : Int)) := (hl.out.cell (p := ad.add k) (by rw [block_of_add]; exact hab)).trans (hcs k _ (by unfold I64; rw [List.getElem?_map, List.getElem?_map, hd]; rfl))
      clear hcs
      have HD := hide hd
      have HDM := hide hdm
      clear hd hdm
      obtain ⟨none_, hnone⟩ : ∃ v : Int, v = ((if viewsOf S (live.take k) = [] then 5 else 8 : Nat) : Int) := ⟨_, rfl⟩
      have HNONE := hide hnone
      rw [← hnone]
      clear hnone
      cases hx : S.dead d with
      | true =>
        have HRd := (asks_dead HASK.out HAV.out HDM.out hat hx)
        rw [show ((2 + at_ : Nat) : Int) = 2 + (at_ : Int) by omega] at HRd
        have HRd := hide HRd
        have HV := hide (views_dead HD.out hx)
        clear hx
        obtain ⟨U, hU⟩ : ∃ U, U = secL zeroSec := ⟨_, rfl⟩
        have HUl := hide (show U.length = 64 by rw [hU, secL_length])
        have HUO := hide (show ∀ v ∈ U, v.oneCell' = true by rw [hU]; exact secL_one _)
        have HIU := hide (show (Try.prog.info? 51).map (·.size) = some U.length by rw [HUl.out]; exact sec_info)
        rw [← hU] at HRd
        clear hU
        have HLO : Hid (∀ w, Calls Try.prog 55 #[.int .i64 7] w fun r w' => r = .returned (.bool true) ∧ w = w') := hide fun w => slost_any 7 w
        go_wp2_with (first
          | ((with_reducible refine at_slot 28 ?_); refine wpList_build_is rfl 49 _ rfl _ rfl _ (sbuilt_place _ _) ?_)
          | (go_at_call 71; refine (HRd.out wo hl.out).mono ?_; rintro _ w3 ⟨rfl, hl3⟩; have HL3 := hide (hl.out.trans (hl3.mono hl.out.size)); have HR3 := hide (hR.out.below hl3 hR.out.lt); clear hl3)
          | ((with_reducible refine at_slot 13 ?_); refine wpList_alloc_blk rfl 51 rfl _ (sec_zero _) ?_; intro w4 hb4 hl4 hs4; clear hs4)
          | ((with_reducible refine at_store 13 ?_); refine wpList_store_all rfl 51 (.tmp 13) (.tmp 30) rfl w3.heap.size 51 _ hb4 rfl U rfl HIU.out (HUl.out.trans (secL_length zeroSec).symm) HUO.out ?_; intro w5 hb5 hg5 hs5; have hs5 := hs5; have hz4 := hb4.lt; have hl35 : Below w3.heap.size w3 w5 := hl4.grown hg5 (by omega) (fun g e => by injection e with e; omega); have HL5 := hide (HL3.out.trans (hl35.mono HL3.out.size)); have HR5 := hide (HR3.out.below hl35 HR3.out.lt); have HB5 := hide hb5; have hz5 := hb5.lt; clear hs5 hl35 hb4 hl4 hg5)
          | (go_at_call 55; refine (HLO.out w5).mono ?_; rintro _ _ ⟨rfl, rfl⟩))
        go_roundw
        case rel => exact ⟨k + 1, by simp, by omega, by rw [HV.out, HNONE.out], by rw [HV.out]; exact hno, HR5, HL5⟩
        case measure => simp [intOf]; omega
      | false =>
        have HRd := (asks_live HASK.out HAV.out HDM.out hat hx)
        rw [show ((2 + at_ : Nat) : Int) = 2 + (at_ : Int) by omega] at HRd
        have HRd := hide HRd
        have HV := hide (views_live HD.out hx)
        have HX := hide hx
        clear hx
        obtain ⟨U, hU⟩ : ∃ U, U = B8 (S.newest d (2 + at_)).1 := ⟨_, rfl⟩
        have HUl := hide (show U.length = 64 by rw [hU, B8_length, (S.newest d (2 + at_)).2])
        have HUO := hide (show ∀ v ∈ U, v.oneCell' = true by rw [hU]; exact B8_one _)
        have HIU := hide (show (Try.prog.info? 51).map (·.size) = some U.length by rw [HUl.out]; exact sec_info)
        have HTag := hide (fun w => tagOf_any (S.newest d (2 + at_)).1 (S.newest d (2 + at_)).2 w)
        rw [← hU] at HRd HTag
        have HU := hide hU
        have HPS := hide (HP.out (S.newest d (2 + at_)).1)
        have HVN : Hid ((viewsOf S (live.take (k + 1)) = []) = False) := hide (by rw [HV.out]; simp)
        have HNO : Hid (pp (S.newest d (2 + at_)).1 = false → hit (viewsOf S (live.take (k + 1))) pp at_ = none) := hide (fun h => by rw [HV.out]; exact hit_snoc hno.out h)
        have HYES : Hid (pp (S.newest d (2 + at_)).1 = true → findE (viewsOf S live) pp at_ = 0 ∧ findS (viewsOf S live) pp at_ = (S.newest d (2 + at_)).1) := hide (fun h => find_yes HD.out HX.out hno.out h)
        clear hU
        obtain ⟨sx, hsx⟩ : ∃ sx, sx = (S.newest d (2 + at_)).1 := ⟨_, rfl⟩
        rw [← hsx] at HPS HNO HYES HTag HU
        clear hsx
        have HLO : Hid (∀ w, Calls Try.prog 55 #[.int .i64 0] w fun r w' => r = .returned (.bool false) ∧ w = w') := hide fun w => slost_any 0 w
        cases hpb : partB sx with
        | false =>
          have HPF := hide (show pp sx = false by rw [HPS.out, hpb]; rfl)
          rw [hpb] at HTag
          clear hpb
          go_wp2_with (first
            | ((with_reducible refine at_slot 28 ?_); refine wpList_build_is rfl 49 _ rfl _ rfl _ (sbuilt_place _ _) ?_)
            | (go_at_call 71; refine (HRd.out wo hl.out).mono ?_; rintro _ w3 ⟨rfl, hl3⟩; have HL3 := hide (hl.out.trans (hl3.mono hl.out.size)); have HR3 := hide (hR.out.below hl3 hR.out.lt); clear hl3)
            | ((with_reducible refine at_slot 13 ?_); refine wpList_alloc_blk rfl 51 rfl _ (sec_zero _) ?_; intro w4 hb4 hl4 hs4; clear hs4)
            | ((with_reducible refine at_store 13 ?_); refine wpList_store_all rfl 51 (.tmp 13) (.tmp 30) rfl w3.heap.size 51 _ hb4 rfl U rfl HIU.out (HUl.out.trans (secL_length zeroSec).symm) HUO.out ?_; intro w5 hb5 hg5 hs5; have hs5 := hs5; have hz4 := hb4.lt; have hl35 : Below w3.heap.size w3 w5 := hl4.grown hg5 (by omega) (fun g e => by injection e with e; omega); have HL5 := hide (HL3.out.trans (hl35.mono HL3.out.size)); have HR5 := hide (HR3.out.below hl35 HR3.out.lt); have HB5 := hide hb5; have hz5 := hb5.lt; clear hs5 hl35 hb4 hl4 hg5)
            | (go_at_call 55; refine (HLO.out w5).mono ?_; rintro _ _ ⟨rfl, rfl⟩)
            | ((with_reducible refine at_slot 39 ?_); refine wpList_load_blk rfl 51 (.tmp 13) rfl w3.heap.size 0 51 _ HB5.out rfl U _ (fun j v hj => by rw [Nat.zero_add]; simpa using hj) Try.underlying51 rfl HIU.out ?_)
            | (go_at_call 63; refine (HTag.out w5).mono ?_; rintro _ w6 ⟨rfl, hl6⟩; have HL6 := hide (HL5.out.trans (hl6.mono HL5.out.size)); have HR6 := hide (HR5.out.below hl6 HR5.out.lt); have HB6 := hide (HB5.out.below hl6 hz5); clear hl6)
            | ((with_reducible refine at_slot 15 ?_); refine wpList_alloc_blk rfl 105 rfl _ (tag_nought _) ?_; intro w7 hb7 hl7 hs7; clear hs7)
            | ((with_reducible refine at_store 15 ?_); refine wpList_store_all rfl 105 (.tmp 15) (.tmp 41) rfl w6.heap.size 105 _ hb7 rfl (tagC (tagT sx)) rfl tag_info rfl (tagC_one _) ?_; intro w8 hb8 hg8 hs8; have hs8 := hs8; have hz7 := hb7.lt; have hl68 : Below w6.heap.size w6 w8 := hl7.grown hg8 (by omega) (fun g e => by injection e with e; omega); have HL8 := hide (HL6.out.trans (hl68.mono HL6.out.size)); have HR8 := hide (HR6.out.below hl68 HR6.out.lt); have HB8 := hide (HB6.out.below hl68 HB6.out.lt); have HT8 := hide hb8; clear hs8 hl68 hb7 hl7 hg8 hb8))
          go_roundw
          case rel => exact ⟨k + 1, by simp, by omega, by rw [if_neg (by rw [HVN.out]; exact id)]; rfl, hide (HNO.out HPF.out), HR8, HL8⟩
          case measure => simp [intOf]; omega
        | true =>
          rw [hpb] at HTag
          cases hq : q (tagT sx) with
          | false =>
            have HPF := hide (show pp sx = false by rw [HPS.out, hpb, hq]; rfl)
            clear hpb
            go_wp2_with (first
              | ((with_reducible refine at_slot 28 ?_); refine wpList_build_is rfl 49 _ rfl _ rfl _ (sbuilt_place _ _) ?_)
              | (go_at_call 71; refine (HRd.out wo hl.out).mono ?_; rintro _ w3 ⟨rfl, hl3⟩; have HL3 := hide (hl.out.trans (hl3.mono hl.out.size)); have HR3 := hide (hR.out.below hl3 hR.out.lt); clear hl3)
              | ((with_reducible refine at_slot 13 ?_); refine wpList_alloc_blk rfl 51 rfl _ (sec_zero _) ?_; intro w4 hb4 hl4 hs4; clear hs4)
              | ((with_reducible refine at_store 13 ?_); refine wpList_store_all rfl 51 (.tmp 13) (.tmp 30) rfl w3.heap.size 51 _ hb4 rfl U rfl HIU.out (HUl.out.trans (secL_length zeroSec).symm) HUO.out ?_; intro w5 hb5 hg5 hs5; have hs5 := hs5; have hz4 := hb4.lt; have hl35 : Below w3.heap.size w3 w5 := hl4.grown hg5 (by omega) (fun g e => by injection e with e; omega); have HL5 := hide (HL3.out.trans (hl35.mono HL3.out.size)); have HR5 := hide (HR3.out.below hl35 HR3.out.lt); have HB5 := hide hb5; have hz5 := hb5.lt; clear hs5 hl35 hb4 hl4 hg5)
              | (go_at_call 55; refine (HLO.out w5).mono ?_; rintro _ _ ⟨rfl, rfl⟩)
              | ((with_reducible refine at_slot 39 ?_); refine wpList_load_blk rfl 51 (.tmp 13) rfl w3.heap.size 0 51 _ HB5.out rfl U _ (fun j v hj => by rw [Nat.zero_add]; simpa using hj) Try.underlying51 rfl HIU.out ?_)
              | (go_at_call 63; refine (HTag.out w5).mono ?_; rintro _ w6 ⟨rfl, hl6⟩; have HL6 := hide (HL5.out.trans (hl6.mono HL5.out.size)); have HR6 := hide (HR5.out.below hl6 HR5.out.lt); have HB6 := hide (HB5.out.below hl6 hz5); clear hl6)
              | ((with_reducible refine at_slot 15 ?_); refine wpList_alloc_blk rfl 105 rfl _ (tag_nought _) ?_; intro w7 hb7 hl7 hs7; clear hs7)
              | ((with_reducible refine at_store 15 ?_); refine wpList_store_all rfl 105 (.tmp 15) (.tmp 41) rfl w6.heap.size 105 _ hb7 rfl (tagC (tagT sx)) rfl tag_info rfl (tagC_one _) ?_; intro w8 hb8 hg8 hs8; have hs8 := hs8; have hz7 := hb7.lt; have hl68 : Below w6.heap.size w6 w8 := hl7.grown hg8 (by omega) (fun g e => by injection e with e; omega); have HL8 := hide (HL6.out.trans (hl68.mono HL6.out.size)); have HR8 := hide (HR6.out.below hl68 HR6.out.lt); have HB8 := hide (HB6.out.below hl68 HB6.out.lt); have HT8 := hide hb8; clear hs8 hl68 hb7 hl7 hg8 hb8)
              | ((with_reducible refine at_slot 46 ?_); refine when_load rfl 105 (.tmp 15) rfl w6.heap.size 0 105 _ HT8.out rfl (tagC (tagT sx)) _ (fun j v hj => by rw [Nat.zero_add]; simpa using hj) Try.underlying105 rfl tag_info ?_)
              | (go_at_call 64; refine (HQ.out w8 HL8.out (tagT sx)).mono ?_; rintro _ w9 ⟨rfl, hl9⟩; have HL9 := hide (HL8.out.trans (hl9.mono HL8.out.size)); have HR9 := hide (HR8.out.below hl9 HR8.out.lt); have HB9 := hide (HB8.out.below hl9 HB8.out.lt); clear hl9; rw [hq]))
            go_roundw
            case rel => exact ⟨k + 1, by simp, by omega, by rw [if_neg (by rw [HVN.out]; exact id)]; rfl, hide (HNO.out HPF.out), HR9, HL9⟩
            case measure => simp [intOf]; omega
          | true =>
            have HPT := hide (HYES.out (show pp sx = true by rw [HPS.out, hpb, hq]; rfl))
            clear hpb
            go_wp2_with (first
              | ((with_reducible refine at_slot 28 ?_); refine wpList_build_is rfl 49 _ rfl _ rfl _ (sbuilt_place _ _) ?_)
              | (go_at_call 71; refine (HRd.out wo hl.out).mono ?_; rintro _ w3 ⟨rfl, hl3⟩; have HL3 := hide (hl.out.trans (hl3.mono hl.out.size)); have HR3 := hide (hR.out.below hl3 hR.out.lt); clear hl3)
              | ((with_reducible refine at_slot 13 ?_); refine wpList_alloc_blk rfl 51 rfl _ (sec_zero _) ?_; intro w4 hb4 hl4 hs4; clear hs4)
              | ((with_reducible refine at_store 13 ?_); refine wpList_store_all rfl 51 (.tmp 13) (.tmp 30) rfl w3.heap.size 51 _ hb4 rfl U rfl HIU.out (HUl.out.trans (secL_length zeroSec).symm) HUO.out ?_; intro w5 hb5 hg5 hs5; have hs5 := hs5; have hz4 := hb4.lt; have hl35 : Below w3.heap.size w3 w5 := hl4.grown hg5 (by omega) (fun g e => by injection e with e; omega); have HL5 := hide (HL3.out.trans (hl35.mono HL3.out.size)); have HR5 := hide (HR3.out.below hl35 HR3.out.lt); have HB5 := hide hb5; have hz5 := hb5.lt; clear hs5 hl35 hb4 hl4 hg5)
              | (go_at_call 55; refine (HLO.out w5).mono ?_; rintro _ _ ⟨rfl, rfl⟩)
              | ((with_reducible refine at_slot 39 ?_); refine wpList_load_blk rfl 51 (.tmp 13) rfl w3.heap.size 0 51 _ HB5.out rfl U _ (fun j v hj => by rw [Nat.zero_add]; simpa using hj) Try.underlying51 rfl HIU.out ?_)
              | (go_at_call 63; refine (HTag.out w5).mono ?_; rintro _ w6 ⟨rfl, hl6⟩; have HL6 := hide (HL5.out.trans (hl6.mono HL5.out.size)); have HR6 := hide (HR5.out.below hl6 HR5.out.lt); have HB6 := hide (HB5.out.below hl6 hz5); clear hl6)
              | ((with_reducible refine at_slot 15 ?_); refine wpList_alloc_blk rfl 105 rfl _ (tag_nought _) ?_; intro w7 hb7 hl7 hs7; clear hs7)
              | ((with_reducible refine at_store 15 ?_); refine wpList_store_all rfl 105 (.tmp 15) (.tmp 41) rfl w6.heap.size 105 _ hb7 rfl (tagC (tagT sx)) rfl tag_info rfl (tagC_one _) ?_; intro w8 hb8 hg8 hs8; have hs8 := hs8; have hz7 := hb7.lt; have hl68 : Below w6.heap.size w6 w8 := hl7.grown hg8 (by omega) (fun g e => by injection e with e; omega); have HL8 := hide (HL6.out.trans (hl68.mono HL6.out.size)); have HR8 := hide (HR6.out.below hl68 HR6.out.lt); have HB8 := hide (HB6.out.below hl68 HB6.out.lt); have HT8 := hide hb8; clear hs8 hl68 hb7 hl7 hg8 hb8)
              | ((with_reducible refine at_slot 46 ?_); refine when_load rfl 105 (.tmp 15) rfl w6.heap.size 0 105 _ HT8.out rfl (tagC (tagT sx)) _ (fun j v hj => by rw [Nat.zero_add]; simpa using hj) Try.underlying105 rfl tag_info ?_)
              | (go_at_call 64; refine (HQ.out w8 HL8.out (tagT sx)).mono ?_; rintro _ w9 ⟨rfl, hl9⟩; have HL9 := hide (HL8.out.trans (hl9.mono HL8.out.size)); have HR9 := hide (HR8.out.below hl9 HR8.out.lt); have HB9 := hide (HB8.out.below hl9 HB8.out.lt); clear hl9; rw [hq])
              | ((with_reducible refine at_slot 49 ?_); refine wpList_load_blk rfl 51 (.tmp 13) rfl w3.heap.size 0 51 _ HB9.out rfl U _ (fun j v hj => by rw [Nat.zero_add]; simpa using hj) Try.underlying51 rfl HIU.out ?_)
              | ((with_reducible refine at_store 8 ?_); refine wpList_store_all rfl 51 (.tmp 8) (.tmp 49) rfl w.heap.size 51 _ HR9.out rfl U rfl HIU.out (HUl.out.trans (secL_length zeroSec).symm) HUO.out ?_; intro w10 hb10 hg10 hs10; clear hs10))
            exact ret_cell_tmp rfl w.heap.size 51 U _ hb10 rfl Try.underlying51 rfl HIU.out (.int .i64 0) rfl rfl ⟨by rw [HPT.out.1, HPT.out.2, ← HU.out]; rfl, HL9.out.grown hg10 HL9.out.size (fun g e => by injection e with e; omega)⟩
    · obtain rfl : k = n := by omega
      have hno2 := hno.out
      rw [List.take_of_length_le (by have := HLEN.out; omega)] at hno2
      obtain ⟨e1, e2⟩ := find_none hno2
      have hvt : live.take k = live := List.take_of_length_le (by have := HLEN.out; omega)
      rw [hvt]
      clear hvt
      have HE1 := hide e1
      have HE2 := hide e2
      clear e1 e2 hno2 hno
      obtain ⟨U, hU⟩ : ∃ U, U = B8 zeroSec.1 := ⟨_, rfl⟩
      have HUl := hide (show U.length = 64 by rw [hU, B8_length, zeroSec.2])
      have HUO := hide (show ∀ v ∈ U, v.oneCell' = true by rw [hU]; exact B8_one _)
      have HIU := hide (show (Try.prog.info? 51).map (·.size) = some U.length by rw [HUl.out]; exact sec_info)
      have HBZ := hide (show Try.prog.built 51 [] = some U.toArray by rw [hU]; exact built_zero)
      have HU := hide hU
      clear hU
      obtain ⟨none_, hnone⟩ : ∃ v : Int, v = ((if viewsOf S live = [] then 5 else 8 : Nat) : Int) := ⟨_, rfl⟩
      rw [← hnone]
      have HNONE := hide hnone
      clear hnone
      go_wp2_with (first
        | ((with_reducible refine at_slot 51 ?_); refine wpList_build_is rfl 51 #[] rfl [] (by simp) U.toArray HBZ.out ?_)
        | ((with_reducible refine at_store 8 ?_); refine wpList_store_all rfl 51 (.tmp 8) (.tmp 51) rfl w.heap.size 51 _ hR.out rfl U rfl HIU.out (HUl.out.trans (secL_length zeroSec).symm) HUO.out ?_; intro w10 hb10 hg10 hs10; clear hs10))
      exact ret_cell_tmp rfl w.heap.size 51 U _ hb10 rfl Try.underlying51 rfl HIU.out (.int .i64 none_) rfl rfl ⟨by rw [HE1.out, HE2.out, ← HU.out, ← HNONE.out], hl.out.grown hg10 hl.out.size (fun g e => by injection e with e; omega)⟩
#print axioms findB_any
end Go.Proofs.Ytmjdndhpnckeeaa
