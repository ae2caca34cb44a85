/- The landed code's own way to put sectors together: turn, byte by byte, and together, sector by sector. -/
import Derived.Test.YtdebdkagmnccjaaParR
namespace Go.Proofs.Ytdebdkagmnccjaa
open Go.RowKit
theorem mix_at {x z : List UInt8} {i : Nat} (hx : i ≤ x.length) : (mixL x z i)[i]? = z[i]? := by
  unfold mixL
  rw [List.getElem?_append_right (by rw [List.length_take]; omega), List.length_take, Nat.min_eq_left hx, Nat.sub_self, List.getElem?_drop]
  rfl
set_option maxRecDepth 100000 in
set_option maxHeartbeats 4000000 in
theorem turn_any (O D : Nat) (a b : List UInt8) (w : World) (ha : a.length = 64) (hb : b.length = 64) (hO : Blk w O 24 (B8 a).toArray) (hD : Blk w D 24 (B8 b).toArray) (hne : D ≠ O) :
    Calls Try.prog 19 #[.slice (some ⟨O, 0, none⟩) 64 64, .slice (some ⟨D, 0, none⟩) 64 64] w fun e w' => e = .returned (.tuple #[]) ∧ Blk w' O 24 (B8 (xorL a b)).toArray ∧ w.grownBy w' (some O) := by
  have HA := hide ha
  have HB := hide hb
  have HO := hide hO
  have HD := hide hD
  have HNE := hide (show some D ≠ some O from fun e => hne (Option.some.inj e))
  have HXL := hide (xorL_length ha hb)
  clear ha hb hO hD hne
  go_enter Try.func19, Try.ntmps19
  go_wp2_with fail
  go_loopw [8] (fun s8 wr => ∃ i : Nat, s8 = .int .i64 (i : Int) ∧ i ≤ 64 ∧ Hid (Blk wr O 24 (B8 (mixL (xorL a b) a i)).toArray) ∧ Hid (w.grownBy wr (some O))) (fun s8 _ => 64 - (intOf s8).toNat)
  case atStart => exact ⟨0, rfl, by decide, hide (by rw [mix_zero]; exact HO.out), hide (grown_refl _ _)⟩
  case round =>
    obtain ⟨i, rfl, hi, hO, hl⟩ := hrel
    obtain ⟨wo, rfl⟩ : ∃ wo, wo = wr := ⟨_, rfl⟩
    by_cases hi64 : i < 64
    · have hiw : (i : Int) < 64 := by omega
      obtain ⟨x, hx⟩ : ∃ x, a[i]? = some x := ⟨a[i]'(by have := HA.out; omega), List.getElem?_eq_getElem _⟩
      obtain ⟨y, hy⟩ : ∃ y, b[i]? = some y := ⟨b[i]'(by have := HB.out; omega), List.getElem?_eq_getElem _⟩
      have ca : wo.cell? ⟨O, i, none⟩ = some (.int .u8 ((x.toNat : Nat) : Int)) := by
        rw [hO.out.cell i, List.getElem?_toArray]
        unfold B8
        rw [List.getElem?_map, mix_at (by have := HXL.out; omega), hx]
        rfl
      have cb : wo.cell? ⟨D, i, none⟩ = some (.int .u8 ((y.toNat : Nat) : Int)) := by
        rw [(HD.out.grown hl.out HNE.out).cell i, List.getElem?_toArray]
        unfold B8
        rw [List.getElem?_map, hy]
        rfl
      have HM := hide (mix_succ HXL.out HA.out (xorL_at hx hy))
      have HSZ := hide (show i < (B8 (mixL (xorL a b) a i)).toArray.size by rw [List.size_toArray, B8_length, mix_length HXL.out HA.out hi]; exact hi64)
      have HXY := hide (bits_xor8 x y)
      clear hx hy
      go_wp2_with ((with_reducible refine at_store 19 ?_); rw [HXY.out]; refine wpList_poke rfl 5 (.tmp 19) (.tmp 18) rfl O i 24 _ hO.out rfl (.int .u8 (((x ^^^ y).toNat : Nat) : Int)) rfl rfl u8_info1 HSZ.out ?_; intro w10 hb10 hg10 hs10; clear hs10)
      go_roundw
      case rel => exact ⟨i + 1, by simp, by omega, hide (by rw [← HM.out, ← List.setIfInBounds_toArray]; exact hb10), hide (grown_trans hl.out hg10)⟩
      case measure => simp [intOf]; omega
    · obtain rfl : i = 64 := by omega
      have HX := hide (mix_all HXL.out HA.out)
      rw [HX.out] at hO
      go_wp2_with fail
      go_end0
      exact ⟨rfl, hO.out, hl.out⟩
#print axioms turn_any
set_option maxRecDepth 100000 in
set_option maxHeartbeats 4000000 in
theorem together_raw (A : Option Addr) (n c : Nat) (bs : List UInt8) (B0 : Nat) (w : World) (hr : Reads w B0 64 A n (B8 bs)) (hB0 : B0 ≤ w.heap.size) (hn : n ≤ 1000000) :
    Calls Try.prog 18 #[.slice A n c] w fun e w' => e = .returned (.agg (B8 (parOf (secsOf bs n))).toArray) ∧ Below w.heap.size w w' := by
  have hlb : bs.length = n * 64 := by have := hr.1; rwa [B8_length] at this
  have HR := hide hr
  have HLB := hide hlb
  have HB0 := hide hB0
  have HSS := hide (fun k (hk : k ≤ n) => (show Secs (secsOf bs k) from by rw [← secsOf_take hk]; exact (secs_of hlb).take k))
  clear hr hlb hB0
  go_enter Try.func18, Try.ntmps18
  go_wp2_with (first
    | ((with_reducible refine at_slot 2 ?_); refine wpList_alloc_blk rfl 24 rfl _ (psec_nought _) ?_; intro w1 hb1q hl1 hs1; have HC1 : Hid (Blk w1 w.heap.size 24 (B8 zeroL).toArray) := hide hb1q; have HL1 := hide hl1; clear hb1q hl1 hs1)
    | ((with_reducible refine at_slot 3 ?_); refine wpList_alloc_blk rfl 24 rfl _ (psec_nought _) ?_; intro w5 hb4q hl4 hs4; have HO5 : Hid (Blk w5 w1.heap.size 24 (B8 zeroL).toArray) := hide hb4q; have HL15 := hide hl4; clear hb4q hl4 hs4))
  go_loopw [8] (fun s4 wr => ∃ k : Nat, s4 = .int .i64 (k : Int) ∧ k ≤ n ∧ Hid (Blk wr w1.heap.size 24 (B8 (parOf (secsOf bs k))).toArray) ∧ Hid (Below w1.heap.size w1 wr)) (fun s4 _ => n - (intOf s4).toNat)
  case atStart => exact ⟨0, rfl, Nat.zero_le _, HO5, HL15⟩
  case round =>
    obtain ⟨k, rfl, hk, hO, hl⟩ := hrel
    obtain ⟨wo, rfl⟩ : ∃ wo, wo = wr := ⟨_, rfl⟩
    have HLo := hide (HL1.out.trans (hl.out.mono HL1.out.size))
    by_cases hkn : k < n
    · have hkw : (k : Int) < (n : Int) := by omega
      obtain ⟨ad, rfl, hab, hca⟩ := (HR.out.below (HLo.out.mono HB0.out)).sec_at hkn
      have hsl := secAt_length HLB.out hkn
      have HNX := hide (show parOf (secsOf bs (k + 1)) = xorL (parOf (secsOf bs k)) (secAt bs k) by rw [secsOf_succ, par_snoc (HSS.out k hk) hsl])
      have hal := par_length (HSS.out k hk)
      obtain ⟨acc, hacc⟩ : ∃ acc, acc = parOf (secsOf bs k) := ⟨_, rfl⟩
      rw [← hacc] at hO HNX hal
      obtain ⟨s, hs⟩ : ∃ s, s = secAt bs k := ⟨_, rfl⟩
      rw [← hs] at hca hsl HNX
      have HX := hide (fun (D : Nat) (w : World) (hO : Blk w w1.heap.size 24 (B8 acc).toArray) (hD : Blk w D 24 (B8 s).toArray) (hne : D ≠ w1.heap.size) => turn_any w1.heap.size D acc s w hal hsl hO hD hne)
      have HSI := hide (show (Try.prog.info? 24).map (·.size) = some (B8 s).length by rw [B8_length, hsl]; exact psec_info)
      have HSZ := hide (show (B8 s).length = (B8 zeroL).toArray.size by rw [List.size_toArray, B8_length, B8_length, hsl, zeroL_length])
      have HCA := hide hca
      clear hca hacc hs hal hsl
      go_wp2_with (first
        | ((with_reducible refine at_slot 11 ?_); refine wpList_load_at rfl 24 (.tmp 10) rfl (ad.add (k * 64)) rfl (B8 s) _ HCA.out Try.underlying24 rfl HSI.out ?_)
        | ((with_reducible refine at_slot 5 ?_); refine wpList_alloc_blk rfl 24 rfl _ (psec_nought _) ?_; intro w6 hb6q hl6 hs6; have HD6 : Hid (Blk w6 wo.heap.size 24 (B8 zeroL).toArray) := hide hb6q; have HO6 := hide (hO.out.below hl6 hO.out.lt); have HL6 := hide (hl.out.trans (hl6.mono hl.out.size)); have HZ6 := hide (show wo.heap.size < w6.heap.size from HD6.out.lt); clear hb6q hl6 hs6)
        | ((with_reducible refine at_store 5 ?_); refine wpList_store_all rfl 24 (.tmp 5) (.tmp 11) rfl wo.heap.size 24 _ HD6.out rfl (B8 s) rfl HSI.out HSZ.out (B8_one _) ?_; intro w7 hb7 hg7 hs7; have HO7 := hide (HO6.out.grown hg7 (fun e => by have e2 := Option.some.inj e; have := hO.out.lt; omega)); have HL7 := hide (HL6.out.grown hg7 HL6.out.size (fun g e => by injection e with e; have := hl.out.size; omega)); have HD7 := hide hb7; clear hs7 hg7 hb7))
      refine wp_region_still_tail 2 (by kernel_rfl) (by kernel_rfl) ?_
      change wpStill _ _ w7.drew _ _ _
      simp only [List.take_succ_cons, List.take_zero, List.drop_succ_cons, List.drop_zero]
      iterate 2 still_step
      refine wpStill_nil ?_
      change wpList _ _ _ _ _ w7.drew
      have HO8 := hide (HO7.out.drew)
      have HD8 := hide (HD7.out.drew)
      have HL8 := hide (HL7.out.drew)
      have HNE := hide (show wo.heap.size ≠ w1.heap.size from fun e => by have := hO.out.lt; omega)
      generalize w7.drew = w9 at *
      go_wp2_with (go_at_call 19; refine (HX.out _ _ HO8.out HD8.out HNE.out).mono ?_; rintro _ w10 ⟨rfl, hb10, hg10⟩; have HB10 := hide hb10; have HG10 := hide hg10; clear hb10 hg10)
      go_roundw
      case rel => exact ⟨k + 1, by simp, by omega, hide (by rw [HNX.out]; exact HB10.out), hide (HL8.out.grown HG10.out HL8.out.size (fun g e => by injection e with e; omega))⟩
      case measure => simp [intOf]; omega
    · obtain rfl : k = n := by omega
      have HXL := hide (par_length (HSS.out k (Nat.le_refl _)))
      have HC := hide (HC1.out.below hl.out HC1.out.lt)
      have HXI := hide (show (Try.prog.info? 24).map (·.size) = some (B8 (parOf (secsOf bs k))).length by rw [B8_length, HXL.out]; exact psec_info)
      have HXZ := hide (show (B8 (parOf (secsOf bs k))).length = (B8 zeroL).toArray.size by rw [List.size_toArray, B8_length, B8_length, HXL.out, zeroL_length])
      go_wp2_with (first
        | ((with_reducible refine at_slot 16 ?_); refine wpList_load_blk rfl 24 (.tmp 3) rfl w1.heap.size 0 24 _ hO.out rfl (B8 (parOf (secsOf bs k))) _ (fun j v hj => by rw [Nat.zero_add]; simpa using hj) Try.underlying24 rfl HXI.out ?_)
        | ((with_reducible refine at_store 2 ?_); refine wpList_store_all rfl 24 (.tmp 2) (.tmp 16) rfl w.heap.size 24 _ HC.out rfl (B8 (parOf (secsOf bs k))) rfl HXI.out HXZ.out (B8_one _) ?_; intro w6 hb6 hg6 hs6; clear hs6))
      refine ret_cell rfl w.heap.size 24 (B8 (parOf (secsOf bs k))) _ hb6 rfl Try.underlying24 rfl HXI.out rfl ⟨rfl, ?_⟩
      exact HLo.out.grown hg6 HLo.out.size (fun g e => by injection e with e; omega)
#print axioms together_raw
theorem together_any (w : World) (A : Option Addr) (n c : Nat) (L : List (List UInt8)) (hL : Secs L) (hn : L.length = n) (hr : Reads w w.heap.size 64 A n (B8 L.flatten)) (h5 : n ≤ 1000000) :
    Calls Try.prog 18 #[.slice A n c] w fun e w' => e = .returned (.agg (B8 (parOf L)).toArray) ∧ Below w.heap.size w w' := by
  have h := together_raw A n c L.flatten w.heap.size w hr (Nat.le_refl _) h5
  subst hn
  rwa [secsOf_flat hL] at h
end Go.Proofs.Ytdebdkagmnccjaa
