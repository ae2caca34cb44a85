/- LabelSaves: Save and Load answer as the document's do, on three disks with any sectors and labels, any label, a disk that fails, power that fails; no condition. -/
import Derived.Test.YtbbfgcekjelmkaaSameL
import Derived.Test.YtbbfgcekjelmkaaBankG
import Derived.Test.YtbbfgcekjelmkaaRSL
import Derived.Deep.RegionWith
namespace Go.Proofs.Ytbbfgcekjelmkaa
open Go.RowKit

theorem plain_right : rightB (plainL 1 1) = true := by decide +kernel
theorem plain_take : (labS (plainL 1 1)).1.take 2 = [66, 87] := by decide +kernel
theorem zero_of : ofB zeroSec = false := by decide +kernel

set_option maxRecDepth 100000 in
set_option maxHeartbeats 4000000 in
theorem shownL_any (w : World) : Calls Try.prog 10 #[] w fun e w' => e = .returned (.bool true) ∧ Below w.heap.size w w' := by
  obtain ⟨L, hL⟩ : ∃ L, L = plainL 1 1 := ⟨_, rfl⟩
  have hR : rightB L = true := by rw [hL]; exact plain_right
  have hgen : L.gen = 1 := by rw [hL]; rfl
  have hmem : L.members[2]? = some (2, 160, 2) := by rw [hL]; rfl
  have hlen : L.members.length = 3 := by rw [hL]; rfl
  obtain ⟨S, hS⟩ : ∃ S, S = labS L := ⟨_, rfl⟩
  have hput : putS L = S := by rw [putS, hR, hS]; rfl
  have hputE : putE L = 0 := by rw [putE, hR]; rfl
  have hof : ofL S = L ∧ ofE S = 0 := by rw [hS]; exact (of_put hR).2
  have htake : S.1.take 2 = [66, 87] := by rw [hS, hL]; exact plain_take
  have hzL : ofL zeroSec = Lab.none_ := by rw [ofL, zero_of]; rfl
  have hzE : ofE zeroSec = 2 := by rw [ofE, zero_of]; rfl
  have HP := hide (plain_any 1 1)
  rw [← hL] at HP
  have HPut := hide (fun A n c B0 w => lput_any L A n c B0 w)
  rw [hput, hputE] at HPut
  have HOf := hide (fun w => of_any S w)
  rw [hof.1, hof.2] at HOf
  have HOz := hide (fun w => of_any zeroSec w)
  rw [hzL, hzE] at HOz
  have HRt := hide (fun A n c B0 w => right_any L A n c B0 w)
  rw [hR] at HRt
  obtain ⟨U, hU⟩ : ∃ U, U = secL S := ⟨_, rfl⟩
  have hUl : U.length = 64 := by rw [hU, secL_length]
  have hUo : ∀ v ∈ U, v.oneCell' = true := by rw [hU]; exact secL_one _
  have hiU : (Try.prog.info? 26).map (·.size) = some U.length := by rw [hUl]; exact sec_info
  have hsU : secV S = .agg U.toArray := by rw [hU]; rfl
  rw [hsU] at HPut HOf
  have hsZ : secV zeroSec = .agg (secL zeroSec).toArray := rfl
  rw [hsZ] at HOz
  have HUl := hide hUl
  have HUO := hide hUo
  have HIU := hide hiU
  have HUE := hide hU
  have HT := hide htake
  have HG := hide hgen
  have HM := hide hmem
  have HLN := hide hlen
  clear hR hgen hmem hlen hput hputE hof htake hzL hzE hUl hUo hiU hsU hsZ hU hS hL
  go_enter Try.func10, Try.ntmps10
  go_wp2_with fail
  refine (HP.out w).mono ?_
  rintro _ w1 ⟨⟨A, n, c, rfl, hG1, hn3⟩, hl1⟩
  have HN3 := hide hn3
  clear hn3
  have hz1 := hl1.size
  go_wp2_with fail
  refine (HPut.out A n c w1.heap.size w1 hG1.1 (Nat.le_refl _)).mono ?_
  rintro _ w2 ⟨rfl, hl2⟩
  have hz2 := hl2.size
  go_wp2_with (first
    | (refine wpList_alloc_blk rfl 26 rfl _ (sec_zero _) ?_; intro w3 hb3 hl3 hs3; clear hs3)
    | (refine wpList_store_all rfl 26 (.tmp 1) (.tmp 10) rfl w2.heap.size 26 _ hb3 rfl U rfl HIU.out (HUl.out.trans (secL_length zeroSec).symm) HUO.out ?_; intro w4 hb4 hg4 hs4; clear hs4)
    | (refine wpList_load_blk rfl 26 (.tmp 1) rfl w2.heap.size 0 26 _ hb4 rfl U _ (fun j v hj => by rw [Nat.zero_add]; simpa using hj) Try.underlying26 rfl HIU.out ?_))
  have hz3 := hb3.lt
  have hz4 := hg4.size
  have HL4 := hide ((hl1.trans (hl2.mono hz1)).trans ((hl3.grown hg4 (by have := hl3.size; omega) (fun g e => by injection e with e; omega)).mono (by omega)))
  have HB4 := hide hb4
  clear hG1 hl1 hl2 hb3 hl3 hb4 hg4
  refine (HOf.out w4).mono ?_
  rintro _ w5 ⟨⟨A5, n5, c5, rfl, hG5⟩, hl5⟩
  have hz5 := hl5.size
  go_wp2_with (first
    | (refine wpList_alloc_blk rfl 24 rfl _ (lab_zero _) ?_; intro w6 hb6 hl6 hs6; clear hs6)
    | (refine wpList_store_all rfl 24 (.tmp 3) (.tmp 15) rfl w5.heap.size 24 _ hb6 rfl (labC L A5 n5 c5) rfl lab_info rfl (labC_one _ _ _ _) ?_; intro w7 hb7 hg7 hs7; clear hs7)
    | (refine wpList_build_is rfl 26 #[] rfl [] (by simp) (secL zeroSec).toArray sec_none ?_))
  have hz6 := hb6.lt
  have hz7 := hg7.size
  have hl57 : Below w5.heap.size w5 w7 := hl6.grown hg7 (by have := hl6.size; omega) (fun g e => by injection e with e; omega)
  have HL7 := hide ((HL4.out.trans (hl5.mono (by omega))).trans (hl57.mono (by omega)))
  have HB7 := hide ((HB4.out.below hl5 (by omega)).below hl57 (by omega))
  have HX7 := hide hb7
  have HG7 := hide (hG5.later hl57)
  clear HL4 HB4 hG5 hl5 hb6 hl6 hb7 hg7 hl57
  refine (HOz.out w7).mono ?_
  rintro _ w8 ⟨⟨A8, n8, c8, rfl, hG8⟩, hl8⟩
  have hz8 := hl8.size
  clear hG8
  go_wp2_with (first
    | (refine wpList_alloc_blk rfl 24 rfl _ (lab_zero _) ?_; intro w9 hb9 hl9 hs9; clear hs9)
    | (refine wpList_store_all rfl 24 (.tmp 5) (.tmp 20) rfl w8.heap.size 24 _ hb9 rfl (labC Lab.none_ A8 n8 c8) rfl lab_info rfl (labC_one _ _ _ _) ?_; intro w10 hb10 hg10 hs10; clear hs10
       have hz9 := hb9.lt
       have hz10 := hg10.size
       have hl810 : Below w8.heap.size w8 w10 := hl9.grown hg10 (by have := hl9.size; omega) (fun g e => by injection e with e; omega)
       have HL10 := hide ((HL7.out.trans (hl8.mono (by omega))).trans (hl810.mono (by omega)))
       have HB10 := hide ((HB7.out.below hl8 (by omega)).below hl810 (by omega))
       have HX10 := hide ((HX7.out.below hl8 (by omega)).below hl810 (by omega))
       have HG10 := hide ((HG7.out.later hl8).later hl810)
       obtain rfl : n5 = 3 := by have := HG10.out.1.len; have := HLN.out; omega
       obtain ⟨ad, m, rfl, hab, hm, hcs⟩ := HG10.out.1.at_ (k := 2) (by omega)
       obtain rfl : m = (2, 160, 2) := by have := hm.symm.trans HM.out; injection this
       have y6 : w10.cell? ⟨ad.block, ad.off + 6 + 1, none⟩ = some (.int .i64 160) := hcs 1 _ rfl
       have y7 : w10.cell? ⟨ad.block, ad.off + 7, none⟩ = some (.int .i64 160) := hcs 1 _ rfl
       have x1 := lab_c1 HX10.out
       rw [HG.out] at x1
       have x4 := lab_c4 HX10.out
       have hrd : Reads w10 w10.heap.size 1 (some ⟨w2.heap.size, 0, none⟩) 2 (B8 [66, 87]) := by
         have hb := HB10.out
         rw [HUE.out] at hb
         have h := (hb.reads (B := w10.heap.size) (off := 0) (n := 64) (xs := S.1) (by omega) (by rw [S.2])).head (k := 2) (by omega)
         rw [List.drop_zero, Nat.mul_one, B8_take, HT.out] at h
         exact h
       have hkc := run_conv_reads (P := Try.prog) w10 64 5 9 Try.underlying64 Try.underlying5 Try.underlying9 w10.heap.size (some ⟨w2.heap.size, 0, none⟩) 2 64 [66, 87] hrd
       clear hm hcs hrd hb9 hl9 hb10 hg10 hl810)
    | (refine when_load rfl 24 (.tmp 3) rfl w5.heap.size 0 24 _ HX10.out rfl (labC L (some ad) 3 c5) _ (fun j v hj => by rw [Nat.zero_add]; simpa using hj) Try.underlying24 rfl lab_info ?_)
    | (go_at_call 17; refine (HRt.out (some ad) 3 c5 w10.heap.size w10 HG10.out.1 (Nat.le_refl _)).mono ?_; rintro _ w11 ⟨rfl, hl11⟩))
  go_ret
  exact ⟨rfl, HL10.out.trans (hl11.mono HL10.out.size)⟩
#print axioms shownL_any
end Go.Proofs.Ytbbfgcekjelmkaa
namespace Go.Proofs.Ytbbfgcekjelmkaa.LabelSaves
open Go.ChangeShapes Go.WideShapes Go.ChangeAt Go.RowKit Go.Proofs.Ytbbfgcekjelmkaa
set_option linter.unusedVariables false

/-- First the reference's bank turns, then the code's. -/
theorem both_rev {w0 w1 w2 : World} {b r : Nat} {T : Bank} {F G : Nat → Prop} {wa : World} (h3 : ∀ x, F x → ¬ G x) (h4 : ∀ x, F x ∨ G x → w0.heap.size ≤ x) (hF : ∀ x, F x → x < wa.heap.size) (hR : RefOn w1 r (More G wa w1) T) (hB : BankOn w2 b F T) (hT : Turn F w1 w2) (h5 : Below w0.heap.size w0 w1) (hs : w0.heap.size ≤ wa.heap.size) : Both w0 w2 b r T := by
  have hd : ∀ x, F x → ¬ More G wa w1 x := fun x hx hg => hg.elim (h3 x hx) (fun h => by have := hF x hx; omega)
  refine ⟨⟨F, More G wa w1, hB, hR.kept hT (fun x hx hf => hd x hf hx), hd, fun x hx => ?_⟩, h5.trans (hT.below_ h5.size (fun x hx => h4 x (.inl hx)))⟩
  rcases hx with hx | hx | hx
  · exact h4 x (.inl hx)
  · exact h4 x (.inr hx)
  · omega
/-- The loads of both sides tell the same. -/
theorem loads_alike (S : Bank) (d : Int) (hd : -1 ≤ d) : ∃ (Q : Lab) (k : Nat), (∀ (w : World) (b : Nat) (F : Nat → Prop), BankOn w b F S → Calls Try.prog 26 #[.pointer (some ⟨b, 0, none⟩), .int .i64 d] w fun e w' => (∃ A n c, e = .returned (.tuple #[labV Q A n c, .int .i64 (k : Int)]) ∧ Gave Q w w' A n c) ∧ Below w.heap.size w w') ∧
    (∀ (w : World) (r : Nat) (G : Nat → Prop), RefOn w r G S → Calls Try.prog 27 #[.pointer (some ⟨r, 0, none⟩), .int .i64 d] w fun e w' => (∃ A n c, e = .returned (.tuple #[labV Q A n c, .int .i64 (k : Int)]) ∧ Gave Q w w' A n c) ∧ Below w.heap.size w w') := by
  by_cases h : d = -1
  · subst h
    exact ⟨Lab.none_, 8, fun w b F _ => lload_neg b w, fun w r G _ => rload_neg r w⟩
  · obtain ⟨k, rfl⟩ : ∃ k : Nat, d = (k : Int) := ⟨d.toNat, by omega⟩
    exact ⟨(S.loadL k).1, (S.loadL k).2, fun w b F h => lload_on h k, fun w r G h => rload_on h k⟩
set_option maxRecDepth 100000 in
set_option maxHeartbeats 16000000 in
theorem walk (A0 : Option Addr) (n0 c0 : Nat) (f0 : Nat → LabV) (C : Option Addr) (n c : Nat) (gs : Nat → Sec) (l : Lab) (A2 : Option Addr) (n2 c2 : Nat) (a3 a4 a5 : Int) (w : World) (hf : LabsIn w w.heap.size A0 n0 c0 f0) (hx : SecsIn w w.heap.size C n gs) (hnc : n ≤ c) (hc63 : c ≤ 9223372036854775807) (hm : MbIn w w.heap.size A2 n2 c2 l.members) (_ : -9223372036854775808 ≤ a3) (_ : a3 ≤ 9223372036854775807) (_ : -9223372036854775808 ≤ a4) (hb4 : a4 ≤ 9223372036854775807) (h50 : 0 ≤ a5) (h51 : a5 ≤ 18446744073709551615) :
    Calls Try.prog 5 #[.slice A0 n0 c0, .slice C n c, labV l A2 n2 c2, .int .i64 a3, .int .i64 a4, .int .u64 a5] w fun e w' => e = .returned (.bool true) ∧ Below w.heap.size w w' := by
  obtain ⟨M, rfl⟩ : ∃ M : Nat, a5 = (M : Int) := ⟨a5.toNat, by omega⟩
  have hM : M < 18446744073709551616 := by omega
  obtain ⟨K, hK⟩ : ∃ K, K = cutL l := ⟨_, rfl⟩
  obtain ⟨S, hS⟩ : ∃ S, S = lawB f0 n0 gs n := ⟨_, rfl⟩
  obtain ⟨hq, hwr⟩ := lawB_quiet f0 n0 gs n
  rw [← hS] at hq hwr
  obtain ⟨a, ha⟩ : ∃ a : Nat, a = (if 0 < a4 then a4 else 0).toNat := ⟨_, rfl⟩
  have haI : (a : Int) = if 0 < a4 then a4 else 0 := by rw [ha]; split <;> omega
  have ha2 : a < 9223372036854775808 := by rw [ha]; split <;> omega
  have HShown := hide shownL_any
  have HBank := hide (fun (w1 : World) (hl : Below w.heap.size w w1) => bank_any A0 n0 c0 f0 C n c gs w1 ⟨(hf.below hl).1, (hf.below hl).2.1, fun h0 => by
    obtain ⟨ad, e1, e2, e3⟩ := (hf.below hl).2.2 h0
    exact ⟨ad, e1, Nat.lt_of_lt_of_le e2 hl.size, fun i hi => ⟨(e3 i hi).1, (e3 i hi).2.more hl.size⟩⟩⟩ (fun h0 => by obtain ⟨ad, e1, e2, e3⟩ := (hx.below hl) h0; exact ⟨ad, e1, Nat.lt_of_lt_of_le e2 hl.size, e3⟩) hnc hc63)
  rw [← hS] at HBank
  have HMX := hide hm
  have HCut := hide (fun A n c B0 w => cut_any l A n c B0 w)
  rw [← hK] at HCut
  have HQ := hide (And.intro hq hwr)
  have HAr := hide (And.intro haI ha2)
  have HMm := hide hM
  have HL_w := hide (Below.refl w.heap.size w)
  clear hK hS hq hwr ha haI ha2 hf hx hm hM
  go_enter Try.func5, Try.ntmps5
  go_wp2_with (first
    | (refine wpList_box_blk rfl 24 (.tmp 2) rfl (.agg (labC l A2 n2 c2).toArray) rfl ?_; intro wx hb1q hl1 hs1; clear hs1; have hb1 : Blk wx w.heap.size 24 (labC l A2 n2 c2).toArray := hb1q; clear hb1q; have HX_wx := hide hb1; have HL_wx := hide hl1; have hzx := hb1.lt; clear hb1 hl1))
  refine (HShown.out wx).mono ?_
  rintro _ w1 ⟨rfl, hl1⟩
  have HX_w1 := hide (HX_wx.out.below hl1 HX_wx.out.lt)
  have HL_w1 := hide (HL_wx.out.trans (hl1.mono HL_wx.out.size))
  have hz1 : w.heap.size < w1.heap.size := HX_w1.out.lt
  clear hl1
  go_wp2_with fail
  refine (HBank.out w1 HL_w1.out).mono ?_
  rintro _ w2 ⟨⟨b, r, rfl, hBo⟩, hl2⟩
  have HBo_w2 := hide hBo
  have HX_w2 := hide (HX_w1.out.below hl2 hz1)
  clear hl2 hBo HX_wx HX_w1 HL_wx
  rcases (show (a3 < 0) ∨ (3 ≤ a3) ∨ (0 ≤ a3 ∧ a3 < 3) by omega) with hc | hc | hc
  focus
    have hd1 : ¬ ((0 : Int) ≤ a3) := by omega
    go_wp2_with fail
    obtain ⟨S0, hS0⟩ : ∃ T, T = S := ⟨_, rfl⟩
    obtain ⟨w3, hw3⟩ : ∃ w3, w3 = w2 := ⟨_, rfl⟩
    have hw0 : S0.writes ≤ 12 := by rw [hS0]; exact HQ.out.2
    rw [← hS0, ← hw3] at HBo_w2
    rw [← hw3] at HX_w2 ⊢
    have HBo_w3 := HBo_w2
    have HX_w3 := HX_w2
    clear HBo_w2 HX_w2 hS0 hw3 hc hd1 HQ
  rotate_left
  focus
    have hd1 : (0 : Int) ≤ a3 := by omega
    have hd2 : ¬ (a3 < 3) := by omega
    go_wp2_with fail
    obtain ⟨S0, hS0⟩ : ∃ T, T = S := ⟨_, rfl⟩
    obtain ⟨w3, hw3⟩ : ∃ w3, w3 = w2 := ⟨_, rfl⟩
    have hw0 : S0.writes ≤ 12 := by rw [hS0]; exact HQ.out.2
    rw [← hS0, ← hw3] at HBo_w2
    rw [← hw3] at HX_w2 ⊢
    have HBo_w3 := HBo_w2
    have HX_w3 := HX_w2
    clear HBo_w2 HX_w2 hS0 hw3 hc hd1 hd2 HQ
  rotate_left
  focus
    obtain ⟨δ, rfl⟩ : ∃ δ : Nat, a3 = (δ : Int) := ⟨a3.toNat, by omega⟩
    have hδ : δ < 3 := by omega
    obtain ⟨S0, hS0⟩ : ∃ T, T = S.fail δ := ⟨_, rfl⟩
    have hw0 : S0.writes ≤ 12 := by rw [hS0]; exact HQ.out.2
    have HF1 := hide (fun (w1 : World) (b : Nat) (F : Nat → Prop) (h : BankOn w1 b F S) => on_fail h δ (by rw [HQ.out.1.n]; exact hδ))
    have HF2 := hide (fun (w1 : World) (b : Nat) (F : Nat → Prop) (h : RefOn w1 b F S) => rOn_fail h δ (by rw [HQ.out.1.n]; exact hδ))
    rw [← hS0] at HF1 HF2
    have hd1 : (0 : Int) ≤ (δ : Int) := by omega
    have hd2 : (δ : Int) < 3 := by omega
    clear hS0 hc HQ
    go_wp2_with fail
    obtain ⟨F, G, hBt, hRt, hdt, hlot⟩ := HBo_w2.out.ex
    have hlowt := HBo_w2.out.low
    have HBt := hide hBt
    have HRt := hide hRt
    have HDt := hide hdt
    have HLOt := hide hlot
    have HLt := hide hlowt
    clear hBt hRt hdt hlot hlowt HBo_w2
    refine (HF1.out w2 b F HBt.out).mono ?_
    rintro _ w3a ⟨rfl, hBq, hTq⟩
    have HRq := hide (HRt.out.kept hTq (fun x hx hf => HDt.out x hf hx))
    have HLq : Hid (Below w1.heap.size w1 w3a) := HLt.out.trans (hTq.below_ HLt.out.size (fun x hx => HLOt.out x (.inl hx)))
    have HBq := hide hBq
    have HX_w3a := hide (HX_w2.out.turned hTq (fun hf => by have := HBt.out.1 _ hf; have := HLOt.out _ (.inl hf); omega))
    clear hBq hTq
    go_wp2_with fail
    refine (HF2.out w3a r G HRq.out).mono ?_
    rintro _ w3 ⟨rfl, hRq, hTq⟩
    have HBo_w3 : Hid (Both w1 w3 b r S0) := both_next HDt.out HLOt.out HBq.out hRq hTq HLq.out
    have HX_w3 := hide (HX_w3a.out.turned hTq (fun hf => by have := HRq.out.1 _ hf; have := HLOt.out _ (.inr hf); omega))
    clear hRq hTq HBt HRt HDt HLOt HLt HRq HLq HBq
    go_wp2_with fail
    clear HF1 HF2 HX_w2 HX_w3a hδ hd1 hd2
  rotate_left
  all_goals
    obtain ⟨S1, hS1⟩ : ∃ T, T = S0.arm a M := ⟨_, rfl⟩
    have hw1 : S1.writes ≤ 12 := by rw [hS1]; exact hw0
    have HA1 := hide (fun (w1 : World) (b : Nat) (F : Nat → Prop) (h : BankOn w1 b F S0) => on_arm h a4 a M HAr.out.1 HAr.out.2 HMm.out)
    have HA2 := hide (fun (w1 : World) (b : Nat) (F : Nat → Prop) (h : RefOn w1 b F S0) => rOn_arm h a4 a M HAr.out.1 HAr.out.2 HMm.out)
    rw [← hS1] at HA1 HA2
    have HSb := hide (fun (w1 : World) (b : Nat) (F : Nat → Prop) A n c (h : BankOn w1 b F S1) hm => lsave_on h (by omega) K A n c hm)
    have HSr := hide (fun (w1 : World) (b : Nat) (F : Nat → Prop) A n c (h : RefOn w1 b F S1) hm => rsave_on h (by omega) K A n c hm)
    unfold labV at HSb HSr
    clear hS1 hw1 hw0
    obtain ⟨F, G, hBt, hRt, hdt, hlot⟩ := HBo_w3.out.ex
    have hlowt := HBo_w3.out.low
    have HBt := hide hBt
    have HRt := hide hRt
    have HDt := hide hdt
    have HLOt := hide hlot
    have HLt := hide hlowt
    clear hBt hRt hdt hlot hlowt HBo_w3
    refine (HA1.out w3 b F HBt.out).mono ?_
    rintro _ w4a ⟨rfl, hBq, hTq⟩
    have HRq := hide (HRt.out.kept hTq (fun x hx hf => HDt.out x hf hx))
    have HLq : Hid (Below w1.heap.size w1 w4a) := HLt.out.trans (hTq.below_ HLt.out.size (fun x hx => HLOt.out x (.inl hx)))
    have HBq := hide hBq
    have HX_w4a := hide (HX_w3.out.turned hTq (fun hf => by have := HBt.out.1 _ hf; have := HLOt.out _ (.inl hf); omega))
    clear hBq hTq
    go_wp2_with fail
    refine (HA2.out w4a r G HRq.out).mono ?_
    rintro _ w4 ⟨rfl, hRq, hTq⟩
    have HBo_w4 : Hid (Both w1 w4 b r S1) := both_next HDt.out HLOt.out HBq.out hRq hTq HLq.out
    have HX_w4 := hide (HX_w4a.out.turned hTq (fun hf => by have := HRq.out.1 _ hf; have := HLOt.out _ (.inr hf); omega))
    clear hRq hTq HBt HRt HDt HLOt HLt HRq HLq HBq
    have hl04 : Below w.heap.size w w4 := HL_w1.out.trans (HBo_w4.out.low.mono (by omega))
    have HL4 := hide hl04
    clear hl04 HX_w3 HX_w4a HA1 HA2
    go_wp2_with (first
      | (refine wpList_load_blk rfl 24 (.tmp 8) rfl w.heap.size 0 24 _ HX_w4.out rfl (labC l A2 n2 c2) _ (fun j v hj => by rw [Nat.zero_add]; simpa using hj) Try.underlying24 rfl lab_info ?_))
    obtain ⟨F, G, hBt, hRt, hdt, hlot⟩ := HBo_w4.out.ex
    have hz4 := HBo_w4.out.low.size
    have HBt := hide hBt
    have HRt := hide hRt
    have HD := hide hdt
    have HLO := hide hlot
    have HF4 := hide hBt.1
    have HG4 := hide hRt.1
    clear hBt hRt hdt hlot HBo_w4
    refine (HCut.out A2 n2 c2 w.heap.size w4 (HMX.out.below HL4.out) HL4.out.size).mono ?_
    rintro _ w5 ⟨⟨A5, n5, c5, rfl, hG5⟩, hl5⟩
    have HX_w5 := hide (HX_w4.out.below hl5 HX_w4.out.lt)
    have HB5 := hide (HBt.out.later hl5)
    have HR5 := hide (HRt.out.later hl5)
    have HL5 := hide (HL4.out.trans (hl5.mono HL4.out.size))
    have HG_w5 := hide hG5
    have hz5 := hl5.size
    clear hl5 hG5 HX_w4 HBt HRt
    go_wp2_with (first
      | (refine wpList_store_all rfl 24 (.tmp 8) (.tmp 57) rfl w.heap.size 24 _ HX_w5.out rfl (labC K A5 n5 c5) rfl lab_info rfl (labC_one _ _ _ _) ?_; intro w6 hc6 hg6 hs6; clear hs6))
    have hz6 := hg6.size
    have hnX : ∀ x, F x ∨ G x → x ≠ w.heap.size := fun x hx e => by have := HLO.out x hx; omega
    have hB0 : BankOn w6.drew b F S1 := (HB5.out.grown hg6 (fun g e hf => by injection e with e; exact hnX g (.inl hf) e.symm)).drew
    have hR0 : RefOn w6.drew r G S1 := (HR5.out.grown hg6 (fun g e hf => by injection e with e; exact hnX g (.inr hf) e.symm)).later ((Below.refl _ _).drew)
    have hM0 : Gave K w4 w6.drew A5 n5 c5 := (HG_w5.out.grown hg6 (fun h0 ad e => by have := HG_w5.out.2 h0 ad e; omega)).later ((Below.refl _ _).drew)
    have hL0 : Below w.heap.size w w6.drew := (HL5.out.grown hg6 (by omega) (fun g e => by injection e with e; omega)).drew
    have hX0 : Blk w6.drew w.heap.size 24 (labC K A5 n5 c5).toArray := hc6.drew
    have HNX := hide hnX
    have HB0 := hide hB0
    have HR0 := hide hR0
    have HM0 := hide hM0
    have HL0 := hide hL0
    have HX0 := hide hX0
    have x0 := lab_c0 hX0
    have x1 := lab_c1 hX0
    have x2 := lab_c2 hX0
    have x3 := lab_c3 hX0
    have x4 := lab_c4 hX0
    have hF0 : ∀ x, w4.heap.size ≤ x → ¬ F x := fun x hx hf => by have := HF4.out x hf; omega
    have hG0 : ∀ x, w4.heap.size ≤ x → ¬ G x := fun x hx hf => by have := HG4.out x hf; omega
    clear hnX hB0 hR0 hM0 hL0 hX0 hc6 hg6 HB5 HR5 HL5 HX_w5 HG_w5
    have hnF : ¬ F w.heap.size := fun hf => HNX.out _ (.inl hf) rfl
    go_region_with (first
      | (go_at_call 24; refine (HSb.out w6.drew b F A5 n5 c5 HB0.out HM0.out.1).mono ?_; rintro _ w7 ⟨rfl, hB7, hT7⟩; have hR7 := HR0.out.kept hT7 (fun x hx hf => HD.out x hf hx); have hM7 := HM0.out.turned hT7 hF0; have hX7 := HX0.out.turned hT7 hnF; have y0 := lab_c0 hX7; have y1 := lab_c1 hX7; have y2 := lab_c2 hX7; have y3 := lab_c3 hX7; have y4 := lab_c4 hX7)
      | (go_at_call 25; refine (HSr.out w7 r G A5 n5 c5 hR7 hM7.1).mono ?_; rintro _ w8 ⟨rfl, hR8, hT8⟩))
    all_goals
      have hL7 : Below w.heap.size w w7 := HL0.out.trans (hT7.below_ HL0.out.size (fun x hx => by have := HLO.out x (.inl hx); omega))
      have HBo_w8 : Hid (Both w w8 b r (S1.saveL K).2) := both_next HD.out (fun x hx => by have := HLO.out x hx; omega) hB7 hR8 hT8 hL7
      obtain ⟨T0, hT0⟩ : ∃ T, T = (S1.saveL K).2 := ⟨_, rfl⟩
      rw [← hT0] at HBo_w8
      clear hT0 hL7 hB7 hR7 hM7 hX7 hT7 hR8 hT8 y0 y1 y2 y3 y4 x0 x1 x2 x3 x4 hF0 hG0 hnF HSb HSr HD HLO HF4 HG4 HNX HB0 HR0 HM0 HL0 HX0 HCut HMX HShown HBank
      have HBo := hide HBo_w8.out
      clear HBo_w8
      go_wp2_with fail
      go_loopw [16, 17, 18, 19, 20, 21, 22] (fun s16 _ _ _ _ _ _ wr => ∃ k : Nat, s16 = .int .i64 (k : Int) ∧ k ≤ 2 ∧ ∃ T, Hid (Both w wr b r T)) (fun s16 _ _ _ _ _ _ _ => 2 - (intOf s16).toNat)
      case atStart => exact ⟨0, rfl, by decide, _, HBo⟩
      case round =>
        obtain ⟨k, rfl, hk2, T, hbk⟩ := hrel
        obtain ⟨wk, rfl⟩ : ∃ wk, wk = wr := ⟨_, rfl⟩
        clear HBo
        by_cases hk : k < 2
        · have hk3 : (k : Int) < 2 := by omega
          go_wp2_with fail
          go_loopw [17, 18, 19, 20, 21, 22] (fun s17 _ _ _ _ _ wr => ∃ i : Nat, s17 = .int .i64 ((i : Int) - 1) ∧ i ≤ 5 ∧ Hid (Both w wr b r T)) (fun s17 _ _ _ _ _ _ => 5 - (intOf s17 + 1).toNat)
          case atStart => exact ⟨0, rfl, by decide, hbk⟩
          case round =>
            obtain ⟨i, rfl, hi5, hbo⟩ := hrel
            obtain ⟨wo, rfl⟩ : ∃ wo, wo = wr := ⟨_, rfl⟩
            clear hbk
            obtain ⟨d, hd⟩ : ∃ d : Int, d = (i : Int) - 1 := ⟨_, rfl⟩
            rw [← hd]
            by_cases hi : i < 5
            · have hd1 : -1 ≤ d := by omega
              have hd4 : d < 4 := by omega
              obtain ⟨Q, kk, h1, h2⟩ := loads_alike T d hd1
              have HLb := hide h1
              have HLr := hide h2
              obtain ⟨F, G, hB, hR, _, _⟩ := hbo.out.ex
              have HB := hide hB
              have HR := hide hR
              have Hd := hide hd
              clear h1 h2 hB hR hd
              go_wp2_with fail
              refine (HLb.out wo b F HB.out).mono ?_
              rintro _ wa ⟨⟨A7, n7, c7, rfl, hG1⟩, hl1⟩
              have HR1 := hide (HR.out.later hl1)
              have HG1 := hide hG1
              have hza := hl1.size
              have HLa := hide hl1
              clear hl1 hG1 HR HB
              go_wp2_with (first
                | (refine wpList_alloc_blk rfl 24 rfl _ (lab_zero wa) ?_; intro wb hb1 hlb hs1; clear hs1; have hzb := hlb.size)
                | (refine wpList_store_all rfl 24 (.tmp 18) (.tmp 77) rfl wa.heap.size 24 _ hb1 rfl (labC Q A7 n7 c7) rfl lab_info rfl (labC_one _ _ _ _) ?_; intro wc hc1 hgc hsc; clear hsc; have hlc : Below wa.heap.size wa wc := hlb.grown hgc hzb (fun g e => by injection e with e; omega); have HX1 := hide hc1; have HR2 := hide (HR1.out.later hlc); have HG2 := hide (HG1.out.later hlc); have HLc := hide (HLa.out.trans (hlc.mono hza)); have hzc := hlc.size; have hv1 := hc1.lt; clear hlc hc1 hgc hb1 hlb))
              refine (HLr.out wc r G HR2.out).mono ?_
              rintro _ wd ⟨⟨A8, n8, c8, rfl, hG2⟩, hl2⟩
              have HX2 := hide (HX1.out.below hl2 hv1)
              have HG3 := hide (HG2.out.later hl2)
              have HH3 := hide hG2
              have hzd := hl2.size
              have HLd := hide (HLc.out.trans (hl2.mono (by omega)))
              have hv2 := HX2.out.lt
              clear hl2 hG2 HR1 HR2 HG1 HG2 HX1 HLa HLc
              go_wp2_with (first
                | (refine wpList_alloc_blk rfl 24 rfl _ (lab_zero wd) ?_; intro we hb2 hle hs2; clear hs2; have hze := hle.size)
                | (refine wpList_store_all rfl 24 (.tmp 20) (.tmp 83) rfl wd.heap.size 24 _ hb2 rfl (labC Q A8 n8 c8) rfl lab_info rfl (labC_one _ _ _ _) ?_; intro wf hc2 hgf hsf; clear hsf; have hlf : Below wd.heap.size wd wf := hle.grown hgf hze (fun g e => by injection e with e; omega); have HY4 := hide hc2; have HX4 := hide (HX2.out.below hlf hv2); have HG4 := hide (HG3.out.later hlf); have HH4 := hide (HH3.out.later hlf); have HLf := hide (HLd.out.trans (hlf.mono (by omega))); have hzf := hlf.size; clear hlf hc2 hgf hb2 hle)
                | (refine wpList_load_blk rfl 24 (.tmp 18) rfl wa.heap.size 0 24 _ HX4.out rfl (labC Q A7 n7 c7) _ (fun j v hj => by rw [Nat.zero_add]; simpa using hj) Try.underlying24 rfl lab_info ?_)
                | (refine wpList_load_blk rfl 24 (.tmp 20) rfl wd.heap.size 0 24 _ HY4.out rfl (labC Q A8 n8 c8) _ (fun j v hj => by rw [Nat.zero_add]; simpa using hj) Try.underlying24 rfl lab_info ?_))
              refine (same_any Q Q A7 A8 n7 c7 n8 c8 wf.heap.size wf.heap.size wf HG4.out.1 HH4.out.1 (Nat.le_refl _) (Nat.le_refl _)).mono ?_
              rw [sameB_self]
              rintro _ wg ⟨rfl, hlg⟩
              have HBg : Hid (Both w wg b r T) := hbo.out.later (HLf.out.trans (hlg.mono (by omega)))
              clear hlg HLf HG4 HH4 HX4 HY4 HX2 HG3 HH3 HLd
              go_wp2_with fail
              go_roundw
              case rel => exact ⟨i + 1, congrArg (Value.int .i64) (by have := Hd.out; omega), by omega, HBg⟩
              case measure => have := Hd.out; simp [intOf]; omega
            · obtain rfl : d = 4 := by omega
              clear hd
              have HC1 := hide (fun (w1 : World) (b : Nat) (F : Nat → Prop) (h : BankOn w1 b F T) => on_crash h M HMm.out)
              have HC2 := hide (fun (w1 : World) (b : Nat) (F : Nat → Prop) (h : RefOn w1 b F T) => rOn_crash h M HMm.out)
              have HS1 := hide (fun (w1 : World) (b : Nat) (F : Nat → Prop) (h : BankOn w1 b F (T.crash M)) => on_start h)
              have HS2 := hide (fun (w1 : World) (b : Nat) (F : Nat → Prop) (h : RefOn w1 b F (T.crash M)) => rOn_start h)
              have HBo_wo := hide hbo.out
              clear hbo
              go_wp2_with fail
              obtain ⟨F, G, hBt, hRt, hdt, hlot⟩ := HBo_wo.out.ex
              have hlowt := HBo_wo.out.low
              have HBt := hide hBt
              have HRt := hide hRt
              have HDt := hide hdt
              have HLOt := hide hlot
              have HLt := hide hlowt
              clear hBt hRt hdt hlot hlowt HBo_wo
              refine (HC1.out wo b F HBt.out).mono ?_
              rintro _ wpa ⟨rfl, hBq, hTq⟩
              have HRq := hide (HRt.out.kept hTq (fun x hx hf => HDt.out x hf hx))
              have HLq : Hid (Below w.heap.size w wpa) := HLt.out.trans (hTq.below_ HLt.out.size (fun x hx => HLOt.out x (.inl hx)))
              have HBq := hide hBq
              clear hBq hTq
              go_wp2_with fail
              refine (HC2.out wpa r G HRq.out).mono ?_
              rintro _ wp ⟨rfl, hRq, hTq⟩
              have HBo_wp : Hid (Both w wp b r (T.crash M)) := both_next HDt.out HLOt.out HBq.out hRq hTq HLq.out
              clear hRq hTq HBt HRt HDt HLOt HLt HRq HLq HBq
              go_wp2_with fail
              obtain ⟨F, G, hBt, hRt, hdt, hlot⟩ := HBo_wp.out.ex
              have hlowt := HBo_wp.out.low
              have HBt := hide hBt
              have HRt := hide hRt
              have HDt := hide hdt
              have HLOt := hide hlot
              have HLt := hide hlowt
              clear hBt hRt hdt hlot hlowt HBo_wp
              refine (HS1.out wp b F HBt.out).mono ?_
              rintro _ wqa ⟨rfl, hBq, hTq⟩
              have HRq := hide (HRt.out.kept hTq (fun x hx hf => HDt.out x hf hx))
              have HLq : Hid (Below w.heap.size w wqa) := HLt.out.trans (hTq.below_ HLt.out.size (fun x hx => HLOt.out x (.inl hx)))
              have HBq := hide hBq
              clear hBq hTq
              go_wp2_with fail
              refine (HS2.out wqa r G HRq.out).mono ?_
              rintro _ wq ⟨rfl, hRq, hTq⟩
              have HBo_wq : Hid (Both w wq b r (T.crash M).start) := both_next HDt.out HLOt.out HBq.out hRq hTq HLq.out
              clear hRq hTq HBt HRt HDt HLOt HLt HRq HLq HBq
              go_wp2_with fail
              go_roundw
              case rel => exact ⟨k + 1, by simp, by omega, _, HBo_wq⟩
              case measure => simp [intOf]; omega
        · obtain rfl : k = 2 := by omega
          rw [show ((2 : Nat) : Int) = 2 from rfl]
          go_wp2_with fail
          go_ret
          exact ⟨rfl, hbk.out.low⟩
#print axioms walk

/-! The row's frame, by program: how the walk above proves the statement. -/
set_option maxRecDepth 100000 in
theorem lifted (os : Os) (started : os.Started) (H : Type) (enc : TypeId × Value → H) :
    ReturnsInHanded {} Try.checked os 5 .any (Rows.labelSavesSpec.pre6 enc Try.prog Try.f5 Rows.labelSavesRow.domain false) (Rows.labelSavesSpec.post enc Try.prog Try.f5 false true false false) := by
  refine returnsInHanded_of_change (C := Try.checked) own started (by kernel_rfl) Try.func5
    (ChangeSpec.witness6 (enc := enc) (C := Try.checked) false ⟨#[], #[.slice none 0 0, .slice none 0 0, labV Lab.none_ none 0 0, .int .i64 0, .int .i64 0, .int .u64 0], []⟩ 8 (by kernel_rfl) (by kernel_rfl) (by kernel_rfl) (by kernel_rfl)) ?_
  intro W base args ds gs before hval0 hW hcnd _
  have hval : ∀ (j : Nat) t v, Try.f5.params[j]? = some t → args[j]? = some v → Value.okWide Try.prog W .any base t v := hval0
  have hW' := hW
  obtain ⟨p, q, hA0, hV, rfl, hfz, hnd⟩ := hW
  have hA : DataW.TrodAll enc Try.prog W 0 (fun _ => true) true Try.f5.params.toList args.toList ds p := hA0
  rw [Try.params5] at hA hval
  obtain ⟨v0, vs0, d0, ds0, p0, q0, hargs, rfl, rfl, h0, r0⟩ := trodAll_cons hA
  obtain ⟨v1, vs1, d1, ds1, p1, q1, rfl, rfl, rfl, h1, r1⟩ := trodAll_cons r0
  obtain ⟨v2, vs2, d2, ds2, p2, q2, rfl, rfl, rfl, h2, r2⟩ := trodAll_cons r1
  obtain ⟨v3, vs3, d3, ds3, p3, q3, rfl, rfl, rfl, h3, r3⟩ := trodAll_cons r2
  obtain ⟨v4, vs4, d4, ds4, p4, q4, rfl, rfl, rfl, h4, r4⟩ := trodAll_cons r3
  obtain ⟨v5, vs5, d5, ds5, p5, q5, rfl, rfl, rfl, h5, r5⟩ := trodAll_cons r4
  obtain ⟨rfl, rfl, rfl⟩ := trodAll_nil r5
  obtain rfl : args = #[v0, v1, v2, v3, v4, v5] := by cases args; simp_all
  obtain ⟨rfl, rfl⟩ := trodVars_none hV
  obtain ⟨A0, n0, c0, rfl⟩ := okWide_slice Try.underlying37 (hval 0 37 v0 rfl rfl)
  have k0 := h0
  have lt0 : ∀ x ∈ p0, x.block < W.heap.size := by obtain ⟨m, hm⟩ := k0; exact DataW.trod_lt m _ _ _ hm
  obtain ⟨l0, x0⟩ := arg_labels h0
  obtain ⟨A1, n1, c1, rfl⟩ := okWide_slice Try.underlying38 (hval 1 38 v1 rfl rfl)
  have k1 := h1
  have lt1 : ∀ x ∈ p1, x.block < W.heap.size := by obtain ⟨m, hm⟩ := k1; exact DataW.trod_lt m _ _ _ hm
  obtain ⟨l1, x1, g1, z1⟩ := arg_secs h1
  have k2 := h2
  have lt2 : ∀ x ∈ p2, x.block < W.heap.size := by obtain ⟨m, hm⟩ := k2; exact DataW.trod_lt m _ _ _ hm
  obtain ⟨l2, A2, n2, c2, rfl, x2⟩ := arg_label (hval 2 24 v2 rfl rfl) h2
  obtain ⟨a3, rfl, rfl, rfl, w3⟩ := open_int Try.underlying3 (hval 3 3 v3 rfl rfl) h3
  have b3 := bounds_i64 w3
  obtain ⟨a4, rfl, rfl, rfl, w4⟩ := open_int Try.underlying3 (hval 4 3 v4 rfl rfl) h4
  have b4 := bounds_i64 w4
  obtain ⟨a5, rfl, rfl, rfl, w5⟩ := open_int Try.underlying39 (hval 5 39 v5 rfl rfl) h5
  have b5 := bounds_u64 w5
  clear hA0 hval0
  refine (walk A0 n0 c0 l0 A1 n1 c1 l1 l2 A2 n2 c2 a3 a4 a5 W x0 x1 g1 z1 x2 b3.1 b3.2 b4.1 b4.2 b5.1 b5.2).mono fun e W' ⟨he, bel⟩ => ?_
  subst he
  exact ⟨_, rfl, _, _, _, [], _, [], hW', trodAll_mk1 (shut_bool Try.underlying4 _), (trodAll_cons_mk (Below.trod laidOut (by kernel_rfl) (of_decide_eq_true (by kernel_rfl)) k0 bel lt0) (trodAll_cons_mk (Below.trod laidOut (by kernel_rfl) (of_decide_eq_true (by kernel_rfl)) k1 bel lt1) (trodAll_cons_mk (Below.trod laidOut (by kernel_rfl) (of_decide_eq_true (by kernel_rfl)) k2 bel lt2) (trodAll_cons_mk (shut_int Try.underlying3 w3) (trodAll_cons_mk (shut_int Try.underlying3 w4) (trodAll_cons_mk (shut_int Try.underlying39 w5) trodAll_mk0)))))), rfl, bel.frame _, fun h => by cases h⟩

theorem over : Rows.labelSavesRow.holds Try.pinned (OpenSpec.ofChange Rows.labelSavesSpec) :=
  OpenClaim.holds_of_wide 5 Try.f5 rfl rfl rfl rfl rfl rfl rfl ⟨rfl, rfl, rfl, rfl, rfl⟩ rfl rfl rfl rfl rfl (by kernel_rfl) Try.func5 (by kernel_rfl)
    (of_decide_eq_true (by kernel_rfl)) (by unfold Func.isWrapper; first | (rw [if_pos (by decide +kernel)]; kernel_rfl) | (rw [if_neg (by decide +kernel)]; exact ⟨rfl, rfl⟩))
    (fun os started H enc _ => lifted os started H enc)

/-- The statement. -/
theorem proved : Rows.LabelSavesSaid := over
#print axioms proved
end Go.Proofs.Ytbbfgcekjelmkaa.LabelSaves
