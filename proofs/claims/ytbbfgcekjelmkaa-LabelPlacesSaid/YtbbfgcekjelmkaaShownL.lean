/- The small case that each law of label begins with: it works. -/
import Derived.Test.YtbbfgcekjelmkaaSameL
namespace Go.Proofs.Ytbbfgcekjelmkaa
open Go.RowKit

theorem plain_right : rightB (plainL 1 1) = true := by decide +kernel
theorem plain_take : (labS (plainL 1 1)).1.take 2 = [66, 87] := by decide +kernel
theorem zero_of : ofB zeroSec = false := by decide +kernel

set_option maxRecDepth 100000 in
set_option maxHeartbeats 4000000 in
theorem shownL_any (w : World) : Calls Try.prog 10 #[] w fun e w' => e = .returned (.bool true) ∧ Below w.heap.size w w' := by
  obtain ⟨L, hL⟩ : ∃ L, L = plainL 1 1 := ⟨_, rfl⟩
  have hR : rightB L = true := by rw [hL]; exact plain_right
  have hgen : L.gen = 1 := by rw [hL]; rfl
  have hmem : L.members[2]? = some (2, 160, 2) := by rw [hL]; rfl
  have hlen : L.members.length = 3 := by rw [hL]; rfl
  obtain ⟨S, hS⟩ : ∃ S, S = labS L := ⟨_, rfl⟩
  have hput : putS L = S := by rw [putS, hR, hS]; rfl
  have hputE : putE L = 0 := by rw [putE, hR]; rfl
  have hof : ofL S = L ∧ ofE S = 0 := by rw [hS]; exact (of_put hR).2
  have htake : S.1.take 2 = [66, 87] := by rw [hS, hL]; exact plain_take
  have hzL : ofL zeroSec = Lab.none_ := by rw [ofL, zero_of]; rfl
  have hzE : ofE zeroSec = 2 := by rw [ofE, zero_of]; rfl
  have HP := hide (plain_any 1 1)
  rw [← hL] at HP
  have HPut := hide (fun A n c B0 w => lput_any L A n c B0 w)
  rw [hput, hputE] at HPut
  have HOf := hide (fun w => of_any S w)
  rw [hof.1, hof.2] at HOf
  have HOz := hide (fun w => of_any zeroSec w)
  rw [hzL, hzE] at HOz
  have HRt := hide (fun A n c B0 w => right_any L A n c B0 w)
  rw [hR] at HRt
  obtain ⟨U, hU⟩ : ∃ U, U = secL S := ⟨_, rfl⟩
  have hUl : U.length = 64 := by rw [hU, secL_length]
  have hUo : ∀ v ∈ U, v.oneCell' = true := by rw [hU]; exact secL_one _
  have hiU : (Try.prog.info? 26).map (·.size) = some U.length := by rw [hUl]; exact sec_info
  have hsU : secV S = .agg U.toArray := by rw [hU]; rfl
  rw [hsU] at HPut HOf
  have hsZ : secV zeroSec = .agg (secL zeroSec).toArray := rfl
  rw [hsZ] at HOz
  have HUl := hide hUl
  have HUO := hide hUo
  have HIU := hide hiU
  have HUE := hide hU
  have HT := hide htake
  have HG := hide hgen
  have HM := hide hmem
  have HLN := hide hlen
  clear hR hgen hmem hlen hput hputE hof htake hzL hzE hUl hUo hiU hsU hsZ hU hS hL
  go_enter Try.func10, Try.ntmps10
  go_wp2_with fail
  refine (HP.out w).mono ?_
  rintro _ w1 ⟨⟨A, n, c, rfl, hG1, hn3⟩, hl1⟩
  have HN3 := hide hn3
  clear hn3
  have hz1 := hl1.size
  go_wp2_with fail
  refine (HPut.out A n c w1.heap.size w1 hG1.1 (Nat.le_refl _)).mono ?_
  rintro _ w2 ⟨rfl, hl2⟩
  have hz2 := hl2.size
  go_wp2_with (first
    | (refine wpList_alloc_blk rfl 26 rfl _ (sec_zero _) ?_; intro w3 hb3 hl3 hs3; clear hs3)
    | (refine wpList_store_all rfl 26 (.tmp 1) (.tmp 10) rfl w2.heap.size 26 _ hb3 rfl U rfl HIU.out (HUl.out.trans (secL_length zeroSec).symm) HUO.out ?_; intro w4 hb4 hg4 hs4; clear hs4)
    | (refine wpList_load_blk rfl 26 (.tmp 1) rfl w2.heap.size 0 26 _ hb4 rfl U _ (fun j v hj => by rw [Nat.zero_add]; simpa using hj) Try.underlying26 rfl HIU.out ?_))
  have hz3 := hb3.lt
  have hz4 := hg4.size
  have HL4 := hide ((hl1.trans (hl2.mono hz1)).trans ((hl3.grown hg4 (by have := hl3.size; omega) (fun g e => by injection e with e; omega)).mono (by omega)))
  have HB4 := hide hb4
  clear hG1 hl1 hl2 hb3 hl3 hb4 hg4
  refine (HOf.out w4).mono ?_
  rintro _ w5 ⟨⟨A5, n5, c5, rfl, hG5⟩, hl5⟩
  have hz5 := hl5.size
  go_wp2_with (first
    | (refine wpList_alloc_blk rfl 24 rfl _ (lab_zero _) ?_; intro w6 hb6 hl6 hs6; clear hs6)
    | (refine wpList_store_all rfl 24 (.tmp 3) (.tmp 15) rfl w5.heap.size 24 _ hb6 rfl (labC L A5 n5 c5) rfl lab_info rfl (labC_one _ _ _ _) ?_; intro w7 hb7 hg7 hs7; clear hs7)
    | (refine wpList_build_is rfl 26 #[] rfl [] (by simp) (secL zeroSec).toArray sec_none ?_))
  have hz6 := hb6.lt
  have hz7 := hg7.size
  have hl57 : Below w5.heap.size w5 w7 := hl6.grown hg7 (by have := hl6.size; omega) (fun g e => by injection e with e; omega)
  have HL7 := hide ((HL4.out.trans (hl5.mono (by omega))).trans (hl57.mono (by omega)))
  have HB7 := hide ((HB4.out.below hl5 (by omega)).below hl57 (by omega))
  have HX7 := hide hb7
  have HG7 := hide (hG5.later hl57)
  clear HL4 HB4 hG5 hl5 hb6 hl6 hb7 hg7 hl57
  refine (HOz.out w7).mono ?_
  rintro _ w8 ⟨⟨A8, n8, c8, rfl, hG8⟩, hl8⟩
  have hz8 := hl8.size
  clear hG8
  go_wp2_with (first
    | (refine wpList_alloc_blk rfl 24 rfl _ (lab_zero _) ?_; intro w9 hb9 hl9 hs9; clear hs9)
    | (refine wpList_store_all rfl 24 (.tmp 5) (.tmp 20) rfl w8.heap.size 24 _ hb9 rfl (labC Lab.none_ A8 n8 c8) rfl lab_info rfl (labC_one _ _ _ _) ?_; intro w10 hb10 hg10 hs10; clear hs10
       have hz9 := hb9.lt
       have hz10 := hg10.size
       have hl810 : Below w8.heap.size w8 w10 := hl9.grown hg10 (by have := hl9.size; omega) (fun g e => by injection e with e; omega)
       have HL10 := hide ((HL7.out.trans (hl8.mono (by omega))).trans (hl810.mono (by omega)))
       have HB10 := hide ((HB7.out.below hl8 (by omega)).below hl810 (by omega))
       have HX10 := hide ((HX7.out.below hl8 (by omega)).below hl810 (by omega))
       have HG10 := hide ((HG7.out.later hl8).later hl810)
       obtain rfl : n5 = 3 := by have := HG10.out.1.len; have := HLN.out; omega
       obtain ⟨ad, m, rfl, hab, hm, hcs⟩ := HG10.out.1.at_ (k := 2) (by omega)
       obtain rfl : m = (2, 160, 2) := by have := hm.symm.trans HM.out; injection this
       have y6 : w10.cell? ⟨ad.block, ad.off + 6 + 1, none⟩ = some (.int .i64 160) := hcs 1 _ rfl
       have y7 : w10.cell? ⟨ad.block, ad.off + 7, none⟩ = some (.int .i64 160) := hcs 1 _ rfl
       have x1 := lab_c1 HX10.out
       rw [HG.out] at x1
       have x4 := lab_c4 HX10.out
       have hrd : Reads w10 w10.heap.size 1 (some ⟨w2.heap.size, 0, none⟩) 2 (B8 [66, 87]) := by
         have hb := HB10.out
         rw [HUE.out] at hb
         have h := (hb.reads (B := w10.heap.size) (off := 0) (n := 64) (xs := S.1) (by omega) (by rw [S.2])).head (k := 2) (by omega)
         rw [List.drop_zero, Nat.mul_one, B8_take, HT.out] at h
         exact h
       have hkc := run_conv_reads (P := Try.prog) w10 64 5 9 Try.underlying64 Try.underlying5 Try.underlying9 w10.heap.size (some ⟨w2.heap.size, 0, none⟩) 2 64 [66, 87] hrd
       clear hm hcs hrd hb9 hl9 hb10 hg10 hl810)
    | (refine when_load rfl 24 (.tmp 3) rfl w5.heap.size 0 24 _ HX10.out rfl (labC L (some ad) 3 c5) _ (fun j v hj => by rw [Nat.zero_add]; simpa using hj) Try.underlying24 rfl lab_info ?_)
    | (go_at_call 17; refine (HRt.out (some ad) 3 c5 w10.heap.size w10 HG10.out.1 (Nat.le_refl _)).mono ?_; rintro _ w11 ⟨rfl, hl11⟩))
  go_ret
  exact ⟨rfl, HL10.out.trans (hl11.mono HL10.out.size)⟩
#print axioms shownL_any
end Go.Proofs.Ytbbfgcekjelmkaa
