/- Sectors in memory, and what the document's answer for layer 11 tells: its Xor, Build, Rebuild, Plug. -/
import Derived.Test.YtdebdkagmnccjaaProg
import Derived.Test.YtdebdkagmnccjaaParP
import Derived.Test.YtdebdkagmnccjaaBlk
import Derived.Test.YtdebdkagmnccjaaStill
import Derived.Test.YtdebdkagmnccjaaTwoRows
import Derived.Test.YtdebdkagmnccjaaPoke
import Derived.Test.YtdebdkagmnccjaaWhen
import Derived.Test.YtdebdkagmnccjaaStepB
import Derived.StillTailTactics
namespace Go.Proofs.Ytdebdkagmnccjaa
open Go.RowKit
theorem psec_info : (Try.prog.info? 24).map (·.size) = some 64 := by kernel_rfl
theorem psec_parts : (Try.prog.info? 24).map (fun i => (i.zero, i.size, i.bytes)) = some (some (.agg (Array.replicate 64 (.int .u8 0))), 64, 64) := by kernel_rfl
theorem psec_nought (w : World) : (zeroValue 24).run Try.prog w = .ok (.agg (B8 zeroL).toArray) w := by kernel_rfl
theorem psec_zero (w : World) : (zeroValue 24).run Try.prog w = .ok (.agg (Array.replicate 64 (.int .u8 0))) w := by kernel_rfl
theorem psec_built : Try.prog.built 24 [] = some (B8 zeroL).toArray := by kernel_rfl
theorem bits_xor8 (x y : UInt8) : bits .xor .u8 ((x.toNat : Nat) : Int) ((y.toNat : Nat) : Int) = (((x ^^^ y).toNat : Nat) : Int) := by
  have hx := x.toNat_lt
  have hy := y.toNat_lt
  have h1 : (BitVec.ofInt 8 ((x.toNat : Nat) : Int)).toNat = x.toNat := by
    rw [BitVec.ofInt_natCast, BitVec.toNat_ofNat]; exact Nat.mod_eq_of_lt (by omega)
  have h2 : (BitVec.ofInt 8 ((y.toNat : Nat) : Int)).toNat = y.toNat := by
    rw [BitVec.ofInt_natCast, BitVec.toNat_ofNat]; exact Nat.mod_eq_of_lt (by omega)
  have h3 : x.toNat ^^^ y.toNat < 2 ^ 8 := Nat.xor_lt_two_pow (by omega) (by omega)
  show IntKind.u8.wrap ((BitVec.ofInt 8 ((x.toNat : Nat) : Int) ^^^ BitVec.ofInt 8 ((y.toNat : Nat) : Int)).toNat : Int) = _
  rw [BitVec.toNat_xor, h1, h2, UInt8.toNat_xor]
  simp [IntKind.wrap, IntKind.bits, IntKind.signed]
  omega
theorem u8_info1 : (Try.prog.info? 5).map (·.size) = some 1 := by kernel_rfl
set_option maxRecDepth 100000 in
set_option maxHeartbeats 4000000 in
theorem refXor_any (a b : List UInt8) (w : World) (ha : a.length = 64) (hb : b.length = 64) :
    Calls Try.prog 14 #[.agg (B8 a).toArray, .agg (B8 b).toArray] w fun e w' => e = .returned (.agg (B8 (xorL a b)).toArray) ∧ Below w.heap.size w w' := by
  have HA := hide ha
  have HB := hide hb
  have HVA := hide (show (Value.agg (B8 a).toArray).cells = (B8 a).toArray from rfl)
  have HVB := hide (show (Value.agg (B8 b).toArray).cells = (B8 b).toArray from rfl)
  have HXL := hide (xorL_length ha hb)
  clear ha hb
  go_enter Try.func14, Try.ntmps14
  go_wp2_with (first
    | ((with_reducible refine at_slot 2 ?_); refine wpList_box_blk rfl 24 _ rfl (.agg (B8 a).toArray) rfl ?_; intro w1 hb1 hl1 hs1; rw [HVA.out] at hb1; have HA1 := hide hb1; have HL1 := hide hl1; clear hb1 hl1 hs1)
    | ((with_reducible refine at_slot 3 ?_); refine wpList_box_blk rfl 24 _ rfl (.agg (B8 b).toArray) rfl ?_; intro w2 hb2 hl2 hs2; rw [HVB.out] at hb2; have HB2 := hide hb2; have HA2 := hide (HA1.out.below hl2 HA1.out.lt); have HL2 := hide (HL1.out.trans (hl2.mono HL1.out.size)); clear hb2 hl2 hs2)
    | ((with_reducible refine at_slot 4 ?_); refine wpList_alloc_blk rfl 24 rfl _ (psec_nought _) ?_; intro w3 hb3q hl3 hs3; have HC3 : Hid (Blk w3 w2.heap.size 24 (B8 zeroL).toArray) := hide hb3q; have HB3 := hide (HB2.out.below hl3 HB2.out.lt); have HA3 := hide (HA2.out.below hl3 HA2.out.lt); have HL3 := hide (HL2.out.trans (hl3.mono HL2.out.size)); clear hb3q hl3 hs3)
    | ((with_reducible refine at_slot 7 ?_); refine wpList_build_is rfl 24 #[] rfl [] (by simp) _ psec_built ?_)
    | ((with_reducible refine at_slot 5 ?_); refine wpList_alloc_blk rfl 24 rfl _ (psec_nought _) ?_; intro w4 hb4q hl4 hs4; have hb4 : Blk w4 w3.heap.size 24 (B8 zeroL).toArray := hb4q; clear hb4q hs4)
    | ((with_reducible refine at_store 5 ?_); refine wpList_store_all rfl 24 (.tmp 5) (.tmp 7) rfl w3.heap.size 24 _ hb4 rfl (B8 zeroL) rfl psec_info rfl (B8_one _) ?_; intro w5 hb5 hg5 hs5; have hz4 := hb4.lt; have hl35 : Below w3.heap.size w3 w5 := hl4.grown hg5 (by omega) (fun g e => by injection e with e; omega); have HO5 := hide hb5; have HL35 := hide hl35; clear hs5 hl4 hg5 hb4 hb5 hl35))
  go_loopw [6] (fun s6 wr => ∃ i : Nat, s6 = .int .i64 (i : Int) ∧ i ≤ 64 ∧ Hid (Blk wr w3.heap.size 24 (B8 (mixL (xorL a b) zeroL i)).toArray) ∧ Hid (Below w3.heap.size w3 wr)) (fun s6 _ => 64 - (intOf s6).toNat)
  case atStart => exact ⟨0, rfl, by decide, hide (by rw [mix_zero]; exact HO5.out), HL35⟩
  case round =>
    obtain ⟨i, rfl, hi, hO, hl⟩ := hrel
    obtain ⟨wo, rfl⟩ : ∃ wo, wo = wr := ⟨_, rfl⟩
    by_cases hi64 : i < 64
    · have hiw : (i : Int) < 64 := by omega
      obtain ⟨x, hx⟩ : ∃ x, a[i]? = some x := ⟨a[i]'(by have := HA.out; omega), List.getElem?_eq_getElem _⟩
      obtain ⟨y, hy⟩ : ∃ y, b[i]? = some y := ⟨b[i]'(by have := HB.out; omega), List.getElem?_eq_getElem _⟩
      have ca : wo.drew.cell? ⟨w.heap.size, i, none⟩ = some (.int .u8 ((x.toNat : Nat) : Int)) := by
        show wo.cell? _ = _
        rw [(HA3.out.below hl.out HA3.out.lt).cell i, List.getElem?_toArray]
        unfold B8
        rw [List.getElem?_map, hx]
        rfl
      have cb : wo.drew.cell? ⟨w1.heap.size, i, none⟩ = some (.int .u8 ((y.toNat : Nat) : Int)) := by
        show wo.cell? _ = _
        rw [(HB3.out.below hl.out HB3.out.lt).cell i, List.getElem?_toArray]
        unfold B8
        rw [List.getElem?_map, hy]
        rfl
      go_wp2_with fail
      go_still_tail 9, (by kernel_rfl)
      change wpList _ _ _ _ _ wo.drew
      clear ca cb
      have hdr := (Below.refl w3.heap.size wo).drew
      have HO9 := hide (hO.out.drew)
      have HM := hide (mix_succ HXL.out zeroL_length (xorL_at hx hy))
      have HSZ := hide (show i < (B8 (mixL (xorL a b) zeroL i)).toArray.size by rw [List.size_toArray, B8_length, mix_length HXL.out zeroL_length hi]; exact hi64)
      rw [bits_xor8]
      generalize wo.drew = w9 at *
      clear hx hy
      go_wp2_with ((with_reducible refine at_store 20 ?_); refine wpList_poke rfl 5 (.tmp 20) (.tmp 19) rfl w3.heap.size i 24 _ HO9.out rfl (.int .u8 (((x ^^^ y).toNat : Nat) : Int)) rfl rfl u8_info1 HSZ.out ?_; intro w10 hb10 hg10 hs10; clear hs10)
      go_roundw
      case rel => exact ⟨i + 1, by simp, by omega, hide (by rw [← HM.out, ← List.setIfInBounds_toArray]; exact hb10), hide ((hl.out.trans hdr).grown hg10 (Nat.le_trans hl.out.size hdr.size) (fun g e => by injection e with e; omega))⟩
      case measure => simp [intOf]; omega
    · obtain rfl : i = 64 := by omega
      have HX := hide (mix_all HXL.out zeroL_length)
      rw [HX.out] at hO
      have HC := hide (HC3.out.below hl.out HC3.out.lt)
      have HXI := hide (show (Try.prog.info? 24).map (·.size) = some (B8 (xorL a b)).length by rw [B8_length, HXL.out]; exact psec_info)
      have HXZ := hide (show (B8 (xorL a b)).length = (B8 zeroL).toArray.size by rw [List.size_toArray, B8_length, B8_length, HXL.out, zeroL_length])
      go_wp2_with (first
        | ((with_reducible refine at_slot 21 ?_); refine wpList_load_blk rfl 24 (.tmp 5) rfl w3.heap.size 0 24 _ hO.out rfl (B8 (xorL a b)) _ (fun j v hj => by rw [Nat.zero_add]; simpa using hj) Try.underlying24 rfl HXI.out ?_)
        | ((with_reducible refine at_store 4 ?_); refine wpList_store_all rfl 24 (.tmp 4) (.tmp 21) rfl w2.heap.size 24 _ HC.out rfl (B8 (xorL a b)) rfl HXI.out HXZ.out (B8_one _) ?_; intro w6 hb6 hg6 hs6; clear hs6))
      refine ret_cell rfl w2.heap.size 24 (B8 (xorL a b)) _ hb6 rfl Try.underlying24 rfl HXI.out rfl ⟨rfl, ?_⟩
      exact (HL3.out.trans (hl.out.mono HL3.out.size)).grown hg6 (Nat.le_trans HL3.out.size hl.out.size) (fun g e => by injection e with e; have := HL2.out.size; omega)
#print axioms refXor_any
set_option maxRecDepth 100000 in
set_option maxHeartbeats 4000000 in
theorem refBuild_any (A : Option Addr) (n c : Nat) (bs : List UInt8) (B0 : Nat) (w : World) (hr : Reads w B0 64 A n (B8 bs)) (hB0 : B0 ≤ w.heap.size) (hn : n ≤ 1000000) :
    Calls Try.prog 12 #[.slice A n c] w fun e w' => e = .returned (.agg (B8 (parOf (secsOf bs n))).toArray) ∧ Below w.heap.size w w' := by
  have hlb : bs.length = n * 64 := by have := hr.1; rwa [B8_length] at this
  have HR := hide hr
  have HLB := hide hlb
  have HB0 := hide hB0
  have HSS := hide (fun k (hk : k ≤ n) => (show Secs (secsOf bs k) from by rw [← secsOf_take hk]; exact (secs_of hlb).take k))
  clear hr hlb hB0
  go_enter Try.func12, Try.ntmps12
  go_wp2_with (first
    | ((with_reducible refine at_slot 2 ?_); refine wpList_alloc_blk rfl 24 rfl _ (psec_nought _) ?_; intro w1 hb1q hl1 hs1; have HC1 : Hid (Blk w1 w.heap.size 24 (B8 zeroL).toArray) := hide hb1q; have HL1 := hide hl1; clear hb1q hl1 hs1)
    | ((with_reducible refine at_slot 5 ?_); refine wpList_build_is rfl 24 #[] rfl [] (by simp) _ psec_built ?_)
    | ((with_reducible refine at_slot 3 ?_); refine wpList_alloc_blk rfl 24 rfl _ (psec_nought _) ?_; intro w4 hb4q hl4 hs4; have hb4 : Blk w4 w1.heap.size 24 (B8 zeroL).toArray := hb4q; clear hb4q hs4)
    | ((with_reducible refine at_store 3 ?_); refine wpList_store_all rfl 24 (.tmp 3) (.tmp 5) rfl w1.heap.size 24 _ hb4 rfl (B8 zeroL) rfl psec_info rfl (B8_one _) ?_; intro w5 hb5 hg5 hs5; have hz4 := hb4.lt; have hl15 : Below w1.heap.size w1 w5 := hl4.grown hg5 (by omega) (fun g e => by injection e with e; omega); have HO5 := hide hb5; have HL15 := hide hl15; clear hs5 hl4 hg5 hb4 hb5 hl15))
  go_loopw [4] (fun s4 wr => ∃ k : Nat, s4 = .int .i64 (k : Int) ∧ k ≤ n ∧ Hid (Blk wr w1.heap.size 24 (B8 (parOf (secsOf bs k))).toArray) ∧ Hid (Below w1.heap.size w1 wr)) (fun s4 _ => n - (intOf s4).toNat)
  case atStart => exact ⟨0, rfl, Nat.zero_le _, HO5, HL15⟩
  case round =>
    obtain ⟨k, rfl, hk, hO, hl⟩ := hrel
    obtain ⟨wo, rfl⟩ : ∃ wo, wo = wr := ⟨_, rfl⟩
    have HLo := hide (HL1.out.trans (hl.out.mono HL1.out.size))
    by_cases hkn : k < n
    · have hkw : (k : Int) < (n : Int) := by omega
      obtain ⟨ad, rfl, hab, hca⟩ := (HR.out.below (HLo.out.mono HB0.out)).sec_at hkn
      have hsl := secAt_length HLB.out hkn
      have HNX := hide (show parOf (secsOf bs (k + 1)) = xorL (parOf (secsOf bs k)) (secAt bs k) by rw [secsOf_succ, par_snoc (HSS.out k hk) hsl])
      have hal := par_length (HSS.out k hk)
      obtain ⟨acc, hacc⟩ : ∃ acc, acc = parOf (secsOf bs k) := ⟨_, rfl⟩
      rw [← hacc] at hO HNX hal
      obtain ⟨s, hs⟩ : ∃ s, s = secAt bs k := ⟨_, rfl⟩
      rw [← hs] at hca hsl HNX
      have HX := hide (fun w => refXor_any acc s w hal hsl)
      have HAI := hide (show (Try.prog.info? 24).map (·.size) = some (B8 acc).length by rw [B8_length, hal]; exact psec_info)
      have HSI := hide (show (Try.prog.info? 24).map (·.size) = some (B8 s).length by rw [B8_length, hsl]; exact psec_info)
      have HXI := hide (show (Try.prog.info? 24).map (·.size) = some (B8 (xorL acc s)).length by rw [B8_length, xorL_length hal hsl]; exact psec_info)
      have HXZ := hide (show (B8 (xorL acc s)).length = (B8 acc).toArray.size by rw [List.size_toArray, B8_length, B8_length, xorL_length hal hsl, hal])
      have HCA := hide hca
      have HO0 := hide (fun (j : Nat) (v : Value) (hj : (B8 acc)[j]? = some v) => (show wo.drew.cell? ((⟨w1.heap.size, 0, none⟩ : Addr).add j) = some v from blk_at hO.out j v hj))
      have HC0 := hide (fun (j : Nat) (v : Value) (hj : (B8 s)[j]? = some v) => (show wo.drew.cell? ((ad.add (k * 64)).add j) = some v from HCA.out j v hj))
      have hdr := (Below.refl w1.heap.size wo).drew
      have HO9 := hide (hO.out.drew)
      clear hca hacc hs hal hsl
      go_wp2_with fail
      refine wp_region_still_tail 5 (by kernel_rfl) (by kernel_rfl) ?_
      change wpStill _ _ wo.drew _ _ _
      simp only [List.take_succ_cons, List.take_zero, List.drop_succ_cons, List.drop_zero]
      refine still_load_at rfl 24 (.tmp 3) rfl ⟨w1.heap.size, 0, none⟩ rfl (B8 acc) _ HO0.out Try.underlying24 rfl HAI.out ?_
      iterate 3 still_step
      refine still_load_at rfl 24 (.tmp 15) rfl (ad.add (k * 64)) rfl (B8 s) _ HC0.out Try.underlying24 rfl HSI.out ?_
      refine wpStill_nil ?_
      change wpList _ _ _ _ _ wo.drew
      clear HO0 HC0
      generalize wo.drew = w9 at *
      go_wp2_with (first
        | (go_at_call 14; refine (HX.out w9).mono ?_; rintro _ w10 ⟨rfl, hl10⟩; have HO10 := hide (HO9.out.below hl10 HO9.out.lt))
        | ((with_reducible refine at_store 3 ?_); refine wpList_store_all rfl 24 (.tmp 3) (.tmp 17) rfl w1.heap.size 24 _ HO10.out rfl (B8 (xorL acc s)) rfl HXI.out HXZ.out (B8_one _) ?_; intro w11 hb11 hg11 hs11; clear hs11))
      go_roundw
      case rel => exact ⟨k + 1, by simp, by omega, hide (by rw [HNX.out]; exact hb11), hide (((hl.out.trans hdr).trans (hl10.mono (Nat.le_trans hl.out.size hdr.size))).grown hg11 (Nat.le_trans hl.out.size (Nat.le_trans hdr.size hl10.size)) (fun g e => by injection e with e; omega))⟩
      case measure => simp [intOf]; omega
    · obtain rfl : k = n := by omega
      have HXL := hide (par_length (HSS.out k (Nat.le_refl _)))
      have HC := hide (HC1.out.below hl.out HC1.out.lt)
      have HXI := hide (show (Try.prog.info? 24).map (·.size) = some (B8 (parOf (secsOf bs k))).length by rw [B8_length, HXL.out]; exact psec_info)
      have HXZ := hide (show (B8 (parOf (secsOf bs k))).length = (B8 zeroL).toArray.size by rw [List.size_toArray, B8_length, B8_length, HXL.out, zeroL_length])
      go_wp2_with (first
        | ((with_reducible refine at_slot 18 ?_); refine wpList_load_blk rfl 24 (.tmp 3) rfl w1.heap.size 0 24 _ hO.out rfl (B8 (parOf (secsOf bs k))) _ (fun j v hj => by rw [Nat.zero_add]; simpa using hj) Try.underlying24 rfl HXI.out ?_)
        | ((with_reducible refine at_store 2 ?_); refine wpList_store_all rfl 24 (.tmp 2) (.tmp 18) rfl w.heap.size 24 _ HC.out rfl (B8 (parOf (secsOf bs k))) rfl HXI.out HXZ.out (B8_one _) ?_; intro w6 hb6 hg6 hs6; clear hs6))
      refine ret_cell rfl w.heap.size 24 (B8 (parOf (secsOf bs k))) _ hb6 rfl Try.underlying24 rfl HXI.out rfl ⟨rfl, ?_⟩
      exact HLo.out.grown hg6 HLo.out.size (fun g e => by injection e with e; omega)
#print axioms refBuild_any
set_option maxRecDepth 100000 in
set_option maxHeartbeats 4000000 in
theorem refRebuild_any (A : Option Addr) (n c : Nat) (bs : List UInt8) (i : Int) (B0 : Nat) (w : World) (hr : Reads w B0 64 A n (B8 bs)) (hB0 : B0 ≤ w.heap.size) (hn : n ≤ 1000000) :
    Calls Try.prog 10 #[.slice A n c, .int .i64 i] w fun e w' => e = .returned (.tuple #[.agg (B8 (rebS (secsOf bs n) i)).toArray, .int .i64 (rebE n i : Int)]) ∧ Below w.heap.size w w' := by
  have hlb : bs.length = n * 64 := by have := hr.1; rwa [B8_length] at this
  have HR := hide hr
  have HLB := hide hlb
  have HB0 := hide hB0
  have HSS := hide (fun k (hk : k ≤ n) => (show Secs (secsOf bs k) from by rw [← secsOf_take hk]; exact (secs_of hlb).take k))
  clear hr hlb hB0
  by_cases h0 : i < 0
  · have HE := hide (show rebE n i = 3 from if_neg (fun h => by omega))
    have HS := hide (show rebS (secsOf bs n) i = zeroL from if_neg (fun h => by omega))
    go_enter Try.func10, Try.ntmps10
    go_wp2_with (first
      | ((with_reducible refine at_slot 4 ?_); refine wpList_alloc_blk rfl 24 rfl _ (psec_nought _) ?_; intro w1 hb1q hl1 hs1; have HC1 : Hid (Blk w1 w.heap.size 24 (B8 zeroL).toArray) := hide hb1q; have HL1 := hide hl1; clear hb1q hl1 hs1)
      | ((with_reducible refine at_slot 16 ?_); refine wpList_build_is rfl 24 #[] rfl [] (by simp) _ psec_built ?_)
      | ((with_reducible refine at_store 4 ?_); refine wpList_store_all rfl 24 (.tmp 4) (.tmp 16) rfl w.heap.size 24 _ HC1.out rfl (B8 zeroL) rfl psec_info rfl (B8_one _) ?_; intro w6 hb6 hg6 hs6; clear hs6))
    refine ret_cell_tmp rfl w.heap.size 24 (B8 zeroL) _ hb6 rfl Try.underlying24 rfl psec_info (.int .i64 3) rfl rfl ⟨by rw [HE.out, HS.out]; rfl, ?_⟩
    exact HL1.out.grown hg6 HL1.out.size (fun g e => by injection e with e; omega)
  · by_cases hin : i < n
    · obtain ⟨q, rfl⟩ : ∃ q : Nat, i = (q : Int) := ⟨i.toNat, by omega⟩
      have hqn : q < n := by omega
      have HE := hide (show rebE n (q : Int) = 0 from if_pos ⟨by omega, by omega⟩)
      have HS := hide (show rebS (secsOf bs n) (q : Int) = rebOf (secsOf bs n) q from by
        unfold rebS
        rw [if_pos ⟨by omega, by rw [secsOf_length]; omega⟩, Int.toNat_natCast])
      rw [HE.out, HS.out]
      clear h0 HE HS
      go_enter Try.func10, Try.ntmps10
      go_wp2_with (first
        | ((with_reducible refine at_slot 4 ?_); refine wpList_alloc_blk rfl 24 rfl _ (psec_nought _) ?_; intro w1 hb1q hl1 hs1; have HC1 : Hid (Blk w1 w.heap.size 24 (B8 zeroL).toArray) := hide hb1q; have HL1 := hide hl1; clear hb1q hl1 hs1)
        | ((with_reducible refine at_slot 17 ?_); refine wpList_build_is rfl 24 #[] rfl [] (by simp) _ psec_built ?_)
        | ((with_reducible refine at_slot 6 ?_); refine wpList_alloc_blk rfl 24 rfl _ (psec_nought _) ?_; intro w4 hb4q hl4 hs4; have hb4 : Blk w4 w1.heap.size 24 (B8 zeroL).toArray := hb4q; clear hb4q hs4)
        | ((with_reducible refine at_store 6 ?_); refine wpList_store_all rfl 24 (.tmp 6) (.tmp 17) rfl w1.heap.size 24 _ hb4 rfl (B8 zeroL) rfl psec_info rfl (B8_one _) ?_; intro w5 hb5 hg5 hs5; have hz4 := hb4.lt; have hl15 : Below w1.heap.size w1 w5 := hl4.grown hg5 (by omega) (fun g e => by injection e with e; omega); have HO5 := hide hb5; have HL15 := hide hl15; clear hs5 hl4 hg5 hb4 hb5 hl15))
      go_loopw [7] (fun s7 wr => ∃ k : Nat, s7 = .int .i64 (k : Int) ∧ k ≤ n ∧ Hid (Blk wr w1.heap.size 24 (B8 (rebOf (secsOf bs k) q)).toArray) ∧ Hid (Below w1.heap.size w1 wr)) (fun s7 _ => n - (intOf s7).toNat)
      case atStart => exact ⟨0, rfl, Nat.zero_le _, hide (by
        have e : rebOf (secsOf bs 0) q = zeroL := by simp [rebOf, secsOf, par_nil]
        rw [e]
        exact HO5.out), HL15⟩
      case round =>
        obtain ⟨k, rfl, hk, hO, hl⟩ := hrel
        obtain ⟨wo, rfl⟩ : ∃ wo, wo = wr := ⟨_, rfl⟩
        have HLo := hide (HL1.out.trans (hl.out.mono HL1.out.size))
        by_cases hkn : k < n
        · have hkw : (k : Int) < (n : Int) := by omega
          by_cases hkq : k = q
          · have HSM := hide (show rebOf (secsOf bs (k + 1)) q = rebOf (secsOf bs k) q by rw [secsOf_succ, reb_snoc_eq _ (by rw [secsOf_length, hkq])])
            have hnw : ((k : Int) != (q : Int)) = false := by simp; omega
            clear hkq
            go_wp2
            go_roundw
            case rel => exact ⟨k + 1, by simp, by omega, hide (by rw [HSM.out]; exact hO.out), hl⟩
            case measure => simp [intOf]; omega
          · have hnw : ((k : Int) != (q : Int)) = true := by simp; omega
            obtain ⟨ad, rfl, hab, hca⟩ := (HR.out.below (HLo.out.mono HB0.out)).sec_at hkn
            have hsl := secAt_length HLB.out hkn
            have HNX := hide (show rebOf (secsOf bs (k + 1)) q = xorL (rebOf (secsOf bs k) q) (secAt bs k) by rw [secsOf_succ, reb_snoc_ne (HSS.out k hk) hsl (by rw [secsOf_length]; exact hkq)])
            have hal := reb_length (HSS.out k hk) q
            obtain ⟨acc, hacc⟩ : ∃ acc, acc = rebOf (secsOf bs k) q := ⟨_, rfl⟩
            rw [← hacc] at hO HNX hal
            obtain ⟨s, hs⟩ : ∃ s, s = secAt bs k := ⟨_, rfl⟩
            rw [← hs] at hca hsl HNX
            have HX := hide (fun w => refXor_any acc s w hal hsl)
            have HAI := hide (show (Try.prog.info? 24).map (·.size) = some (B8 acc).length by rw [B8_length, hal]; exact psec_info)
            have HSI := hide (show (Try.prog.info? 24).map (·.size) = some (B8 s).length by rw [B8_length, hsl]; exact psec_info)
            have HXI := hide (show (Try.prog.info? 24).map (·.size) = some (B8 (xorL acc s)).length by rw [B8_length, xorL_length hal hsl]; exact psec_info)
            have HXZ := hide (show (B8 (xorL acc s)).length = (B8 acc).toArray.size by rw [List.size_toArray, B8_length, B8_length, xorL_length hal hsl, hal])
            have HCA := hide hca
            have HO0 := hide (fun (j : Nat) (v : Value) (hj : (B8 acc)[j]? = some v) => (show wo.drew.cell? ((⟨w1.heap.size, 0, none⟩ : Addr).add j) = some v from blk_at hO.out j v hj))
            have HC0 := hide (fun (j : Nat) (v : Value) (hj : (B8 s)[j]? = some v) => (show wo.drew.cell? ((ad.add (k * 64)).add j) = some v from HCA.out j v hj))
            have hdr := (Below.refl w1.heap.size wo).drew
            have HO9 := hide (hO.out.drew)
            clear hca hacc hs hal hsl
            go_wp2_with fail
            refine wp_region_still_tail 5 (by kernel_rfl) (by kernel_rfl) ?_
            change wpStill _ _ wo.drew _ _ _
            simp only [List.take_succ_cons, List.take_zero, List.drop_succ_cons, List.drop_zero]
            refine still_load_at rfl 24 (.tmp 6) rfl ⟨w1.heap.size, 0, none⟩ rfl (B8 acc) _ HO0.out Try.underlying24 rfl HAI.out ?_
            iterate 3 still_step
            refine still_load_at rfl 24 (.tmp 30) rfl (ad.add (k * 64)) rfl (B8 s) _ HC0.out Try.underlying24 rfl HSI.out ?_
            refine wpStill_nil ?_
            change wpList _ _ _ _ _ wo.drew
            clear HO0 HC0
            generalize wo.drew = w9 at *
            go_wp2_with (first
              | (go_at_call 14; refine (HX.out w9).mono ?_; rintro _ w10 ⟨rfl, hl10⟩; have HO10 := hide (HO9.out.below hl10 HO9.out.lt))
              | ((with_reducible refine at_store 6 ?_); refine wpList_store_all rfl 24 (.tmp 6) (.tmp 32) rfl w1.heap.size 24 _ HO10.out rfl (B8 (xorL acc s)) rfl HXI.out HXZ.out (B8_one _) ?_; intro w11 hb11 hg11 hs11; clear hs11))
            go_roundw
            case rel => exact ⟨k + 1, by simp, by omega, hide (by rw [HNX.out]; exact hb11), hide (((hl.out.trans hdr).trans (hl10.mono (Nat.le_trans hl.out.size hdr.size))).grown hg11 (Nat.le_trans hl.out.size (Nat.le_trans hdr.size hl10.size)) (fun g e => by injection e with e; omega))⟩
            case measure => simp [intOf]; omega
        · obtain rfl : k = n := by omega
          have HXL := hide (reb_length (HSS.out k (Nat.le_refl _)) q)
          have HC := hide (HC1.out.below hl.out HC1.out.lt)
          have HXI := hide (show (Try.prog.info? 24).map (·.size) = some (B8 (rebOf (secsOf bs k) q)).length by rw [B8_length, HXL.out]; exact psec_info)
          have HXZ := hide (show (B8 (rebOf (secsOf bs k) q)).length = (B8 zeroL).toArray.size by rw [List.size_toArray, B8_length, B8_length, HXL.out, zeroL_length])
          go_wp2_with (first
            | ((with_reducible refine at_slot 33 ?_); refine wpList_load_blk rfl 24 (.tmp 6) rfl w1.heap.size 0 24 _ hO.out rfl (B8 (rebOf (secsOf bs k) q)) _ (fun j v hj => by rw [Nat.zero_add]; simpa using hj) Try.underlying24 rfl HXI.out ?_)
            | ((with_reducible refine at_store 4 ?_); refine wpList_store_all rfl 24 (.tmp 4) (.tmp 33) rfl w.heap.size 24 _ HC.out rfl (B8 (rebOf (secsOf bs k) q)) rfl HXI.out HXZ.out (B8_one _) ?_; intro w6 hb6 hg6 hs6; clear hs6))
          refine ret_cell_tmp rfl w.heap.size 24 (B8 (rebOf (secsOf bs k) q)) _ hb6 rfl Try.underlying24 rfl HXI.out (.int .i64 0) rfl rfl ⟨rfl, ?_⟩
          exact HLo.out.grown hg6 HLo.out.size (fun g e => by injection e with e; omega)
    · have hiw : (n : Int) ≤ i := by omega
      have HE := hide (show rebE n i = 3 from if_neg (fun h => by omega))
      have HS := hide (show rebS (secsOf bs n) i = zeroL from if_neg (fun h => by rw [secsOf_length] at h; omega))
      go_enter Try.func10, Try.ntmps10
      go_wp2_with (first
        | ((with_reducible refine at_slot 4 ?_); refine wpList_alloc_blk rfl 24 rfl _ (psec_nought _) ?_; intro w1 hb1q hl1 hs1; have HC1 : Hid (Blk w1 w.heap.size 24 (B8 zeroL).toArray) := hide hb1q; have HL1 := hide hl1; clear hb1q hl1 hs1)
        | ((with_reducible refine at_slot 16 ?_); refine wpList_build_is rfl 24 #[] rfl [] (by simp) _ psec_built ?_)
        | ((with_reducible refine at_store 4 ?_); refine wpList_store_all rfl 24 (.tmp 4) (.tmp 16) rfl w.heap.size 24 _ HC1.out rfl (B8 zeroL) rfl psec_info rfl (B8_one _) ?_; intro w6 hb6 hg6 hs6; clear hs6))
      refine ret_cell_tmp rfl w.heap.size 24 (B8 zeroL) _ hb6 rfl Try.underlying24 rfl psec_info (.int .i64 3) rfl rfl ⟨by rw [HE.out, HS.out]; rfl, ?_⟩
      exact HL1.out.grown hg6 HL1.out.size (fun g e => by injection e with e; omega)
#print axioms refRebuild_any
theorem range_of {w : World} {g : Nat} {T : TypeId} {l : List Value} (h : Blk w g T l.toArray) : w.rangeAt g 0 l := fun j v hj => by rw [Nat.zero_add, h.cell j]; simpa using hj
set_option maxRecDepth 100000 in
set_option maxHeartbeats 4000000 in
theorem refPlug_any (a b c : List UInt8) (w : World) (ha : a.length = 64) (hb : b.length = 64) (hc : c.length = 64) :
    Calls Try.prog 16 #[.agg (B8 a).toArray, .agg (B8 b).toArray, .agg (B8 c).toArray] w fun e w' => e = .returned (.agg (B8 (xorL (xorL a b) c)).toArray) ∧ Below w.heap.size w w' := by
  have HVA := hide (show (Value.agg (B8 a).toArray).cells = (B8 a).toArray from rfl)
  have HVB := hide (show (Value.agg (B8 b).toArray).cells = (B8 b).toArray from rfl)
  have HVC := hide (show (Value.agg (B8 c).toArray).cells = (B8 c).toArray from rfl)
  have hxl := xorL_length ha hb
  have HX1 := hide (fun w => refXor_any a b w ha hb)
  have HX2 := hide (fun w => refXor_any (xorL a b) c w hxl hc)
  have HAI := hide (show (Try.prog.info? 24).map (·.size) = some (B8 a).length by rw [B8_length, ha]; exact psec_info)
  have HBI := hide (show (Try.prog.info? 24).map (·.size) = some (B8 b).length by rw [B8_length, hb]; exact psec_info)
  have HCI := hide (show (Try.prog.info? 24).map (·.size) = some (B8 c).length by rw [B8_length, hc]; exact psec_info)
  have HXI := hide (show (Try.prog.info? 24).map (·.size) = some (B8 (xorL (xorL a b) c)).length by rw [B8_length, xorL_length hxl hc]; exact psec_info)
  have HXZ := hide (show 0 + (B8 (xorL (xorL a b) c)).length ≤ (B8 zeroL).toArray.size by rw [List.size_toArray, B8_length, B8_length, xorL_length hxl hc, zeroL_length]; decide)
  have HXY := hide (show (B8 (xorL (xorL a b) c)).length = (B8 zeroL).toArray.size by rw [List.size_toArray, B8_length, B8_length, xorL_length hxl hc, zeroL_length])
  have HUN : Hid (Try.prog.underlying 24 = some (.array 64 5)) := Try.underlying24
  clear ha hb hc hxl
  go_enter Try.func16, Try.ntmps16
  go_wp2_with (first
    | ((with_reducible refine at_slot 3 ?_); refine wpList_box_blk rfl 24 _ rfl (.agg (B8 a).toArray) rfl ?_; intro w1 hb1 hl1 hs1; rw [HVA.out] at hb1; have HA1 := hide hb1; have HL1 := hide hl1; clear hb1 hl1 hs1)
    | ((with_reducible refine at_slot 4 ?_); refine wpList_box_blk rfl 24 _ rfl (.agg (B8 b).toArray) rfl ?_; intro w2 hb2 hl2 hs2; rw [HVB.out] at hb2; have HB2 := hide hb2; have HA2 := hide (HA1.out.below hl2 HA1.out.lt); have HL2 := hide (HL1.out.trans (hl2.mono HL1.out.size)); clear hb2 hl2 hs2)
    | ((with_reducible refine at_slot 5 ?_); refine wpList_box_blk rfl 24 _ rfl (.agg (B8 c).toArray) rfl ?_; intro w3 hb3 hl3 hs3; rw [HVC.out] at hb3; have HC3 := hide hb3; have HB3 := hide (HB2.out.below hl3 HB2.out.lt); have HA3 := hide (HA2.out.below hl3 HA2.out.lt); have HL3 := hide (HL2.out.trans (hl3.mono HL2.out.size)); clear hb3 hl3 hs3)
    | ((with_reducible refine at_slot 6 ?_); refine wpList_alloc_blk rfl 24 rfl _ (psec_nought _) ?_; intro w4 hb4q hl4 hs4; have HD4 : Hid (Blk w4 w3.heap.size 24 (B8 zeroL).toArray) := hide hb4q; have HC4 := hide (HC3.out.below hl4 HC3.out.lt); have HB4 := hide (HB3.out.below hl4 HB3.out.lt); have HA4 := hide (HA3.out.below hl4 HA3.out.lt); have HL34 := hide hl4; clear hb4q hl4 hs4))
  have HZ4 := hide (show w3.heap.size ≤ w4.heap.size from HL34.out.size)
  have hz1 : w.heap.size < w3.heap.size := HA3.out.lt
  have hz2 : w1.heap.size < w3.heap.size := HB3.out.lt
  have hz3 : w2.heap.size < w3.heap.size := HC3.out.lt
  have HF : Hid (∀ W', Below w3.heap.size w4 W' → (W'.rangeAt w.heap.size 0 (B8 a) ∧ W'.rangeAt w1.heap.size 0 (B8 b) ∧ W'.rangeAt w2.heap.size 0 (B8 c) ∧ Below w3.heap.size w4 W')) := hide fun W' h => ⟨range_of (HA4.out.below h hz1), range_of (HB4.out.below h hz2), range_of (HC4.out.below h hz3), h⟩
  clear hz1 hz2 hz3
  refine wp_region_held_drew (S := (fun W => W.rangeAt w.heap.size 0 (B8 a) ∧ W.rangeAt w1.heap.size 0 (B8 b) ∧ W.rangeAt w2.heap.size 0 (B8 c) ∧ Below w3.heap.size w4 W)) (by kernel_rfl) ?_ (fun hHeld => ?_)
  · exact HF.out _ ((Below.refl w3.heap.size w4).drew)
  refine heldTake (i := 0) (v := .agg (B8 a).toArray) rfl (by kernel_rfl) (by kernel_rfl) (by kernel_rfl) (fun _ _ _ h => h) (yieldsIf_load_mid (by rfl) _ _ rfl _ _ rfl (B8 a) _ (fun W hW => hW.1) HUN.out rfl HAI.out) (by assumption) ?_
  try simp only [Act.put, List.setIfInBounds_toArray, List.set_cons_zero, List.set_cons_succ]
  refine heldTake (i := 1) (v := .agg (B8 b).toArray) rfl (by kernel_rfl) (by kernel_rfl) (by kernel_rfl) (fun _ _ _ h => h) (yieldsIf_load_mid (by rfl) _ _ rfl _ _ rfl (B8 b) _ (fun W hW => hW.2.1) HUN.out rfl HBI.out) (by assumption) ?_
  try simp only [Act.put, List.setIfInBounds_toArray, List.set_cons_zero, List.set_cons_succ]
  refine heldTake (i := 3) (v := .agg (B8 c).toArray) rfl (by kernel_rfl) (by kernel_rfl) (by kernel_rfl) (fun _ _ _ h => h) (yieldsIf_load_mid (by rfl) _ _ rfl _ _ rfl (B8 c) _ (fun W hW => hW.2.2.1) HUN.out rfl HCI.out) (by assumption) ?_
  try simp only [Act.put, List.setIfInBounds_toArray, List.set_cons_zero, List.set_cons_succ]
  refine wpAnyH_ready (rs := [2]) (by kernel_rfl) (by simp) ?_
  refine heldCons (i := 2) rfl (fun Kq hKq => ?_) AllReadyH.nil
  go_simp
  go_at_call 14
  refine (HX1.out _).mono ?_
  rintro _ w5 ⟨rfl, hl5⟩
  have hr5 : Below w4.heap.size w4 w5 := ((Below.refl w4.heap.size w4).drew).trans hl5
  clear hl5
  first | (refine hKq.out _ _ (HF.out _ (hr5.mono HZ4.out)) (fun hHeld => ?_)) | (go_wp2_with fail; refine hKq.out _ _ (HF.out _ (hr5.mono HZ4.out)) (fun hHeld => ?_))
  clear hKq Kq
  try simp only [Act.put, List.setIfInBounds_toArray, List.set_cons_zero, List.set_cons_succ]
  refine wpAnyH_ready (rs := [4]) (by kernel_rfl) (by simp) ?_
  refine heldCons (i := 4) rfl (fun Kq hKq => ?_) AllReadyH.nil
  go_simp
  go_at_call 14
  refine (HX2.out _).mono ?_
  rintro _ w6 ⟨rfl, hl6⟩
  have hr6 : Below w4.heap.size w4 w6 := hr5.trans (hl6.mono hr5.size)
  clear hl6
  first | (refine hKq.out _ _ (HF.out _ (hr6.mono HZ4.out)) (fun hHeld => ?_)) | (go_wp2_with fail; refine hKq.out _ _ (HF.out _ (hr6.mono HZ4.out)) (fun hHeld => ?_))
  clear hKq Kq
  try simp only [Act.put, List.setIfInBounds_toArray, List.set_cons_zero, List.set_cons_succ]
  refine wpAnyH_ready (rs := [5]) (by kernel_rfl) (by simp) ?_
  refine heldCons (i := 5) rfl (fun Kq hKq => ?_) AllReadyH.nil
  refine step_store_blk rfl 24 (.tmp 6) (.tmp 11) rfl w3.heap.size 0 24 _ (HD4.out.below hr6 HD4.out.lt) rfl (B8 (xorL (xorL a b) c)) rfl HXI.out HXZ.out (B8_one _) ?_
  intro w7 hb7q hg7 hs7
  have hb7 : Blk w7 w3.heap.size 24 (B8 (xorL (xorL a b) c)).toArray := by
    rw [List.take_zero, List.nil_append, List.drop_of_length_le (by rw [Array.length_toList, ← HXY.out]; omega), List.append_nil] at hb7q
    exact hb7q
  have hq7 : Below w3.heap.size w4 w7 := (hr6.mono HZ4.out).grown hg7 (Nat.le_trans HZ4.out hr6.size) (fun g e => by injection e with e; omega)
  refine hKq.out _ _ (HF.out _ hq7) (fun hHeld => ?_)
  clear hKq Kq
  try simp only [Act.put]
  refine wpAnyH_done (by kernel_rfl) ?_ _
  go_wp2_with fail
  refine ret_cell rfl w3.heap.size 24 (B8 (xorL (xorL a b) c)) _ hb7 rfl Try.underlying24 rfl HXI.out rfl ⟨rfl, (HL3.out.trans (HL34.out.mono HL3.out.size)).trans (hq7.mono HL3.out.size)⟩
#print axioms refPlug_any
end Go.Proofs.Ytdebdkagmnccjaa
