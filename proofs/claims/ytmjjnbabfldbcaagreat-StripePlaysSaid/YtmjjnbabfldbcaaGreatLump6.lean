/- Texts of the proof laid one behind the other: ParZ ZTog ZCall ZRead. -/
import Derived.Test.YtmjjnbabfldbcaaGreatLump2
import Derived.Test.YtmjjnbabfldbcaaGreatParP
import Derived.Test.YtmjjnbabfldbcaaGreatLump4
import Derived.Test.YtmjjnbabfldbcaaGreatAgg
import Derived.Test.YtmjjnbabfldbcaaGreatPoke
import Derived.Test.YtmjjnbabfldbcaaGreatWhen
import Derived.Test.YtmjjnbabfldbcaaGreatStepB
import Derived.StillTailTactics
import Derived.Test.YtmjjnbabfldbcaaGreatLump5
import Derived.Test.YtmjjnbabfldbcaaGreatLump1
namespace Go.Proofs.YtmjjnbabfldbcaaGreat
open Go.RowKit
set_option linter.unusedVariables false
theorem psec_info : (Tryz.prog.info? 43).map (·.size) = some 64 := by kernel_rfl
theorem psec_parts : (Tryz.prog.info? 43).map (fun i => (i.zero, i.size, i.bytes)) = some (some (.agg (Array.replicate 64 (.int .u8 0))), 64, 64) := by kernel_rfl
theorem psec_nought (w : World) : (zeroValue 43).run Tryz.prog w = .ok (.agg (B8 zeroL).toArray) w := by kernel_rfl
theorem psec_zero (w : World) : (zeroValue 43).run Tryz.prog w = .ok (.agg (Array.replicate 64 (.int .u8 0))) w := by kernel_rfl
theorem psec_built : Tryz.prog.built 43 [] = some (B8 zeroL).toArray := by kernel_rfl
theorem bits_xor8 (x y : UInt8) : bits .xor .u8 ((x.toNat : Nat) : Int) ((y.toNat : Nat) : Int) = (((x ^^^ y).toNat : Nat) : Int) := by
  have hx := x.toNat_lt
  have hy := y.toNat_lt
  have h1 : (BitVec.ofInt 8 ((x.toNat : Nat) : Int)).toNat = x.toNat := by
    rw [BitVec.ofInt_natCast, BitVec.toNat_ofNat]; exact Nat.mod_eq_of_lt (by omega)
  have h2 : (BitVec.ofInt 8 ((y.toNat : Nat) : Int)).toNat = y.toNat := by
    rw [BitVec.ofInt_natCast, BitVec.toNat_ofNat]; exact Nat.mod_eq_of_lt (by omega)
  have h3 : x.toNat ^^^ y.toNat < 2 ^ 8 := Nat.xor_lt_two_pow (by omega) (by omega)
  show IntKind.u8.wrap ((BitVec.ofInt 8 ((x.toNat : Nat) : Int) ^^^ BitVec.ofInt 8 ((y.toNat : Nat) : Int)).toNat : Int) = _
  rw [BitVec.toNat_xor, h1, h2, UInt8.toNat_xor]
  simp [IntKind.wrap, IntKind.bits, IntKind.signed]
  omega
theorem u8_info1 : (Tryz.prog.info? 5).map (·.size) = some 1 := by kernel_rfl
section
variable {ops : Array Oper} {rest : List Oper} {o : Oper} {ac : Act} {w : World} {Q : Exit → Act → World → Prop}
theorem B8_size {a : List UInt8} (ha : a.length = 64) : (B8 a).toArray.size = 64 := by rw [List.size_toArray, B8_length, ha]
theorem when_secs2 (hw : Region.wanted o (yielded ops ac.tmps) = true) (x y : Operand) (ho : o.op = .buildSlice 56 2 #[(0, x), (1, y)]) (a b : List UInt8) (ha : a.length = 64) (hb : b.length = 64) (hx : ac.eval x = .agg (B8 a).toArray) (hy : ac.eval y = .agg (B8 b).toArray)
    (h : wpList Tryz.prog ops Q rest (ac.put o.dst (.slice (some ⟨w.heap.size, 0, none⟩) 2 2)) (w.alloc (.cells (B8 (a ++ b)).toArray 43))) : wpList Tryz.prog ops Q (o :: rest) ac w :=
  wpList_when hw fun K hK => by
    obtain ⟨i0, hi0, hz0, hz1, hz2⟩ := info_parts psec_parts
    have hrun := run_build_aggs (P := Tryz.prog) w 56 43 i0 _ 64 Tryz.underlying56 hi0 (psec_nought _) hz1 (by decide) (by decide) 2 (by decide) (by decide) #[(0, .agg (B8 a).toArray), (1, .agg (B8 b).toArray)] (B8 (a ++ b)).toArray (fun C hC => by rw [B8_append]; exact fill_two 64 _ _ (B8_size ha) (B8_size hb) C hC)
    unfold Oper.wp
    simp [execOp, ho, hx, hy, hrun, Result.andThen]
    exact hK _ _ h
end
theorem mix_at {x z : List UInt8} {i : Nat} (hx : i ≤ x.length) : (mixL x z i)[i]? = z[i]? := by
  unfold mixL
  rw [List.getElem?_append_right (by rw [List.length_take]; omega), List.length_take, Nat.min_eq_left hx, Nat.sub_self, List.getElem?_drop]
  rfl
set_option maxRecDepth 100000 in
set_option maxHeartbeats 4000000 in
theorem turn_any (O D : Nat) (a b : List UInt8) (w : World) (ha : a.length = 64) (hb : b.length = 64) (hO : Blk w O 43 (B8 a).toArray) (hD : Blk w D 43 (B8 b).toArray) (hne : D ≠ O) :
    Calls Tryz.prog 102 #[.slice (some ⟨O, 0, none⟩) 64 64, .slice (some ⟨D, 0, none⟩) 64 64] w fun e w' => e = .returned (.tuple #[]) ∧ Blk w' O 43 (B8 (xorL a b)).toArray ∧ w.grownBy w' (some O) := by
  have HA := hide ha
  have HB := hide hb
  have HO := hide hO
  have HD := hide hD
  have HNE := hide (show some D ≠ some O from fun e => hne (Option.some.inj e))
  have HXL := hide (xorL_length ha hb)
  clear ha hb hO hD hne
  go_enter Tryz.func102, Tryz.ntmps102
  go_wp2_with fail
  go_loopw [8] (fun s8 wr => ∃ i : Nat, s8 = .int .i64 (i : Int) ∧ i ≤ 64 ∧ Hid (Blk wr O 43 (B8 (mixL (xorL a b) a i)).toArray) ∧ Hid (w.grownBy wr (some O))) (fun s8 _ => 64 - (intOf s8).toNat)
  case atStart => exact ⟨0, rfl, by decide, hide (by rw [mix_zero]; exact HO.out), hide (grown_refl _ _)⟩
  case round =>
    obtain ⟨i, rfl, hi, hO, hl⟩ := hrel
    obtain ⟨wo, rfl⟩ : ∃ wo, wo = wr := ⟨_, rfl⟩
    by_cases hi64 : i < 64
    · have hiw : (i : Int) < 64 := by omega
      obtain ⟨x, hx⟩ : ∃ x, a[i]? = some x := ⟨a[i]'(by have := HA.out; omega), List.getElem?_eq_getElem _⟩
      obtain ⟨y, hy⟩ : ∃ y, b[i]? = some y := ⟨b[i]'(by have := HB.out; omega), List.getElem?_eq_getElem _⟩
      have ca : wo.cell? ⟨O, i, none⟩ = some (.int .u8 ((x.toNat : Nat) : Int)) := by
        rw [hO.out.cell i, List.getElem?_toArray]
        unfold B8
        rw [List.getElem?_map, mix_at (by have := HXL.out; omega), hx]
        rfl
      have cb : wo.cell? ⟨D, i, none⟩ = some (.int .u8 ((y.toNat : Nat) : Int)) := by
        rw [(HD.out.grown hl.out HNE.out).cell i, List.getElem?_toArray]
        unfold B8
        rw [List.getElem?_map, hy]
        rfl
      have HM := hide (mix_succ HXL.out HA.out (xorL_at hx hy))
      have HSZ := hide (show i < (B8 (mixL (xorL a b) a i)).toArray.size by rw [List.size_toArray, B8_length, mix_length HXL.out HA.out hi]; exact hi64)
      have HXY := hide (bits_xor8 x y)
      clear hx hy
      go_wp2_with ((with_reducible refine at_store 19 ?_); rw [HXY.out]; refine wpList_poke rfl 5 (.tmp 19) (.tmp 18) rfl O i 43 _ hO.out rfl (.int .u8 (((x ^^^ y).toNat : Nat) : Int)) rfl rfl u8_info1 HSZ.out ?_; intro w10 hb10 hg10 hs10; clear hs10)
      go_roundw
      case rel => exact ⟨i + 1, by simp, by omega, hide (by rw [← HM.out, ← List.setIfInBounds_toArray]; exact hb10), hide (grown_trans hl.out hg10)⟩
      case measure => simp [intOf]; omega
    · obtain rfl : i = 64 := by omega
      have HX := hide (mix_all HXL.out HA.out)
      rw [HX.out] at hO
      go_wp2_with fail
      go_end0
      exact ⟨rfl, hO.out, hl.out⟩
set_option maxRecDepth 100000 in
set_option maxHeartbeats 4000000 in
theorem together_raw (A : Option Addr) (n c : Nat) (bs : List UInt8) (B0 : Nat) (w : World) (hr : Reads w B0 64 A n (B8 bs)) (hB0 : B0 ≤ w.heap.size) (hn : n ≤ 1000000) :
    Calls Tryz.prog 93 #[.slice A n c] w fun e w' => e = .returned (.agg (B8 (parOf (secsOf bs n))).toArray) ∧ Below w.heap.size w w' := by
  have hlb : bs.length = n * 64 := by have := hr.1; rwa [B8_length] at this
  have HR := hide hr
  have HLB := hide hlb
  have HB0 := hide hB0
  have HSS := hide (fun k (hk : k ≤ n) => (show Secs (secsOf bs k) from by rw [← secsOf_take hk]; exact (secs_of hlb).take k))
  clear hr hlb hB0
  go_enter Tryz.func93, Tryz.ntmps93
  go_wp2_with (first
    | ((with_reducible refine at_slot 2 ?_); refine wpList_alloc_blk rfl 43 rfl _ (psec_nought _) ?_; intro w1 hb1q hl1 hs1; have HC1 : Hid (Blk w1 w.heap.size 43 (B8 zeroL).toArray) := hide hb1q; have HL1 := hide hl1; clear hb1q hl1 hs1)
    | ((with_reducible refine at_slot 3 ?_); refine wpList_alloc_blk rfl 43 rfl _ (psec_nought _) ?_; intro w5 hb4q hl4 hs4; have HO5 : Hid (Blk w5 w1.heap.size 43 (B8 zeroL).toArray) := hide hb4q; have HL15 := hide hl4; clear hb4q hl4 hs4))
  go_loopw [8] (fun s4 wr => ∃ k : Nat, s4 = .int .i64 (k : Int) ∧ k ≤ n ∧ Hid (Blk wr w1.heap.size 43 (B8 (parOf (secsOf bs k))).toArray) ∧ Hid (Below w1.heap.size w1 wr)) (fun s4 _ => n - (intOf s4).toNat)
  case atStart => exact ⟨0, rfl, Nat.zero_le _, HO5, HL15⟩
  case round =>
    obtain ⟨k, rfl, hk, hO, hl⟩ := hrel
    obtain ⟨wo, rfl⟩ : ∃ wo, wo = wr := ⟨_, rfl⟩
    have HLo := hide (HL1.out.trans (hl.out.mono HL1.out.size))
    by_cases hkn : k < n
    · have hkw : (k : Int) < (n : Int) := by omega
      obtain ⟨ad, rfl, hab, hca⟩ := (HR.out.below (HLo.out.mono HB0.out)).sec_at hkn
      have hsl := secAt_length HLB.out hkn
      have HNX := hide (show parOf (secsOf bs (k + 1)) = xorL (parOf (secsOf bs k)) (secAt bs k) by rw [secsOf_succ, par_snoc (HSS.out k hk) hsl])
      have hal := par_length (HSS.out k hk)
      obtain ⟨acc, hacc⟩ : ∃ acc, acc = parOf (secsOf bs k) := ⟨_, rfl⟩
      rw [← hacc] at hO HNX hal
      obtain ⟨s, hs⟩ : ∃ s, s = secAt bs k := ⟨_, rfl⟩
      rw [← hs] at hca hsl HNX
      have HX := hide (fun (D : Nat) (w : World) (hO : Blk w w1.heap.size 43 (B8 acc).toArray) (hD : Blk w D 43 (B8 s).toArray) (hne : D ≠ w1.heap.size) => turn_any w1.heap.size D acc s w hal hsl hO hD hne)
      have HSI := hide (show (Tryz.prog.info? 43).map (·.size) = some (B8 s).length by rw [B8_length, hsl]; exact psec_info)
      have HSZ := hide (show (B8 s).length = (B8 zeroL).toArray.size by rw [List.size_toArray, B8_length, B8_length, hsl, zeroL_length])
      have HCA := hide hca
      clear hca hacc hs hal hsl
      go_wp2_with (first
        | ((with_reducible refine at_slot 11 ?_); refine wpList_load_at rfl 43 (.tmp 10) rfl (ad.add (k * 64)) rfl (B8 s) _ HCA.out Tryz.underlying43 rfl HSI.out ?_)
        | ((with_reducible refine at_slot 5 ?_); refine wpList_alloc_blk rfl 43 rfl _ (psec_nought _) ?_; intro w6 hb6q hl6 hs6; have HD6 : Hid (Blk w6 wo.heap.size 43 (B8 zeroL).toArray) := hide hb6q; have HO6 := hide (hO.out.below hl6 hO.out.lt); have HL6 := hide (hl.out.trans (hl6.mono hl.out.size)); have HZ6 := hide (show wo.heap.size < w6.heap.size from HD6.out.lt); clear hb6q hl6 hs6)
        | ((with_reducible refine at_store 5 ?_); refine wpList_store_all rfl 43 (.tmp 5) (.tmp 11) rfl wo.heap.size 43 _ HD6.out rfl (B8 s) rfl HSI.out HSZ.out (B8_one _) ?_; intro w7 hb7 hg7 hs7; have HO7 := hide (HO6.out.grown hg7 (fun e => by have e2 := Option.some.inj e; have := hO.out.lt; omega)); have HL7 := hide (HL6.out.grown hg7 HL6.out.size (fun g e => by injection e with e; have := hl.out.size; omega)); have HD7 := hide hb7; clear hs7 hg7 hb7))
      refine wp_region_still_tail 2 (by kernel_rfl) (by kernel_rfl) ?_
      change wpStill _ _ w7.drew _ _ _
      simp only [List.take_succ_cons, List.take_zero, List.drop_succ_cons, List.drop_zero]
      iterate 2 still_step
      refine wpStill_nil ?_
      change wpList _ _ _ _ _ w7.drew
      have HO8 := hide (HO7.out.drew)
      have HD8 := hide (HD7.out.drew)
      have HL8 := hide (HL7.out.drew)
      have HNE := hide (show wo.heap.size ≠ w1.heap.size from fun e => by have := hO.out.lt; omega)
      generalize w7.drew = w9 at *
      go_wp2_with (go_at_call 102; refine (HX.out _ _ HO8.out HD8.out HNE.out).mono ?_; rintro _ w10 ⟨rfl, hb10, hg10⟩; have HB10 := hide hb10; have HG10 := hide hg10; clear hb10 hg10)
      go_roundw
      case rel => exact ⟨k + 1, by simp, by omega, hide (by rw [HNX.out]; exact HB10.out), hide (HL8.out.grown HG10.out HL8.out.size (fun g e => by injection e with e; omega))⟩
      case measure => simp [intOf]; omega
    · obtain rfl : k = n := by omega
      have HXL := hide (par_length (HSS.out k (Nat.le_refl _)))
      have HC := hide (HC1.out.below hl.out HC1.out.lt)
      have HXI := hide (show (Tryz.prog.info? 43).map (·.size) = some (B8 (parOf (secsOf bs k))).length by rw [B8_length, HXL.out]; exact psec_info)
      have HXZ := hide (show (B8 (parOf (secsOf bs k))).length = (B8 zeroL).toArray.size by rw [List.size_toArray, B8_length, B8_length, HXL.out, zeroL_length])
      go_wp2_with (first
        | ((with_reducible refine at_slot 16 ?_); refine wpList_load_blk rfl 43 (.tmp 3) rfl w1.heap.size 0 43 _ hO.out rfl (B8 (parOf (secsOf bs k))) _ (fun j v hj => by rw [Nat.zero_add]; simpa using hj) Tryz.underlying43 rfl HXI.out ?_)
        | ((with_reducible refine at_store 2 ?_); refine wpList_store_all rfl 43 (.tmp 2) (.tmp 16) rfl w.heap.size 43 _ HC.out rfl (B8 (parOf (secsOf bs k))) rfl HXI.out HXZ.out (B8_one _) ?_; intro w6 hb6 hg6 hs6; clear hs6))
      refine ret_cell rfl w.heap.size 43 (B8 (parOf (secsOf bs k))) _ hb6 rfl Tryz.underlying43 rfl HXI.out rfl ⟨rfl, ?_⟩
      exact HLo.out.grown hg6 HLo.out.size (fun g e => by injection e with e; omega)
theorem together_any (w : World) (A : Option Addr) (n c : Nat) (L : List (List UInt8)) (hL : Secs L) (hn : L.length = n) (hr : Reads w w.heap.size 64 A n (B8 L.flatten)) (h5 : n ≤ 1000000) :
    Calls Tryz.prog 93 #[.slice A n c] w fun e w' => e = .returned (.agg (B8 (parOf L)).toArray) ∧ Below w.heap.size w w' := by
  have h := together_raw A n c L.flatten w.heap.size w hr (Nat.le_refl _) h5
  subst hn
  rwa [secsOf_flat hL] at h
theorem hid_info {a : List UInt8} (h : a.length = 64) : Hid ((Tryz.prog.info? 43).map (·.size) = some (B8 a).length) := hide (by rw [B8_length, h]; exact psec_info)
theorem hid_zero {a : List UInt8} (h : a.length = 64) : Hid ((B8 a).length = (B8 zeroL).toArray.size) := hide (by rw [List.size_toArray, B8_length, B8_length, h, zeroL_length])
theorem together_two (w : World) (t : TypeId) (a b : List UInt8) (ha : a.length = 64) (hb : b.length = 64) :
    Calls Tryz.prog 93 #[.slice (some ⟨w.heap.size, 0, none⟩) 2 2] (w.alloc (.cells (B8 (a ++ b)).toArray t)) fun e w' => e = .returned (.agg (B8 (xorL a b)).toArray) ∧ Below w.heap.size w w' := by
  have hS : Secs [a, b] := fun s hs => by
    rcases List.mem_cons.1 hs with rfl | hs
    · exact ha
    · rw [List.mem_singleton.1 hs]; exact hb
  have hf : [a, b].flatten = a ++ b := by simp
  have hr : Reads (w.alloc (.cells (B8 (a ++ b)).toArray t)) (w.alloc (.cells (B8 (a ++ b)).toArray t)).heap.size 64 (some ⟨w.heap.size, 0, none⟩) 2 (B8 [a, b].flatten) := by
    rw [hf]
    exact Reads.fresh w (B8 (a ++ b)) t _ 64 2 (by rw [World.size_alloc]; omega) (by rw [B8_length, List.length_append, ha, hb])
  refine (together_any _ _ 2 2 [a, b] hS rfl hr (by decide)).mono ?_
  rintro _ w' ⟨rfl, hl⟩
  have e : parOf [a, b] = xorL a b := by rw [par_cons hS, par_one hb]
  rw [e]
  exact ⟨rfl, ((Below.refl _ w).alloc (Nat.le_refl _) _).trans (hl.mono (by rw [World.size_alloc]; omega))⟩
set_option maxRecDepth 100000 in
set_option maxHeartbeats 4000000 in
theorem pxor_any (w : World) (a b : List UInt8) (ha : a.length = 64) (hb : b.length = 64) :
    Calls Tryz.prog 71 #[.agg (B8 a).toArray, .agg (B8 b).toArray] w fun e w' => e = .returned (.agg (B8 (xorL a b)).toArray) ∧ Below w.heap.size w w' := by
  have HVA := hide (show (Value.agg (B8 a).toArray).cells = (B8 a).toArray from rfl)
  have HVB := hide (show (Value.agg (B8 b).toArray).cells = (B8 b).toArray from rfl)
  have HAI := hid_info ha
  have HBI := hid_info hb
  have HXI := hid_info (xorL_length ha hb)
  have HXZ := hid_zero (xorL_length ha hb)
  have LA := hide ha
  have LB := hide hb
  have HT := hide (fun w => together_two w 43 a b ha hb)
  clear ha hb
  go_enter Tryz.func71, Tryz.ntmps71
  go_wp2_with (first
    | ((with_reducible refine at_slot 2 ?_); refine wpList_box_blk rfl 43 _ rfl (.agg (B8 a).toArray) rfl ?_; intro w1 hb1 hl1 hs1; rw [HVA.out] at hb1; have HA1 := hide hb1; have HL1 := hide hl1; clear hb1 hl1 hs1)
    | ((with_reducible refine at_slot 3 ?_); refine wpList_box_blk rfl 43 _ rfl (.agg (B8 b).toArray) rfl ?_; intro w2 hb2 hl2 hs2; rw [HVB.out] at hb2; have HB2 := hide hb2; have HA2 := hide (HA1.out.below hl2 HA1.out.lt); have HL2 := hide (HL1.out.trans (hl2.mono HL1.out.size)); clear hb2 hl2 hs2)
    | ((with_reducible refine at_slot 4 ?_); refine wpList_alloc_blk rfl 43 rfl _ (psec_nought _) ?_; intro w3 hb3q hl3 hs3; have HC3 : Hid (Blk w3 w2.heap.size 43 (B8 zeroL).toArray) := hide hb3q; have HB3 := hide (HB2.out.below hl3 HB2.out.lt); have HA3 := hide (HA2.out.below hl3 HA2.out.lt); have HL3 := hide (HL2.out.trans (hl3.mono HL2.out.size)); clear hb3q hl3 hs3)
    | ((with_reducible refine at_slot 5 ?_); refine wpList_load_blk rfl 43 (.tmp 2) rfl w.heap.size 0 43 _ HA3.out rfl (B8 a) _ (fun j v hj => by rw [Nat.zero_add]; simpa using hj) Tryz.underlying43 rfl HAI.out ?_)
    | ((with_reducible refine at_slot 6 ?_); refine wpList_load_blk rfl 43 (.tmp 3) rfl w1.heap.size 0 43 _ HB3.out rfl (B8 b) _ (fun j v hj => by rw [Nat.zero_add]; simpa using hj) Tryz.underlying43 rfl HBI.out ?_)
    | ((with_reducible refine at_slot 7 ?_); refine when_secs2 rfl (.tmp 5) (.tmp 6) rfl a b LA.out LB.out rfl rfl ?_)
    | (go_at_call 93; refine (HT.out w3).mono ?_; rintro _ w4 ⟨rfl, hl4⟩; have HC4 := hide (HC3.out.below hl4 HC3.out.lt); have HL4 := hide (HL3.out.trans (hl4.mono HL3.out.size)); clear hl4)
    | ((with_reducible refine at_store 4 ?_); refine wpList_store_all rfl 43 (.tmp 4) (.tmp 8) rfl w2.heap.size 43 _ HC4.out rfl (B8 (xorL a b)) rfl HXI.out HXZ.out (B8_one _) ?_; intro w5 hb5 hg5 hs5; clear hs5))
  refine ret_cell rfl w2.heap.size 43 (B8 (xorL a b)) _ hb5 rfl Tryz.underlying43 rfl HXI.out rfl ⟨rfl, ?_⟩
  exact HL4.out.grown hg5 HL4.out.size (fun g e => by injection e with e; have := HL2.out.size; omega)
set_option maxRecDepth 100000 in
set_option maxHeartbeats 4000000 in
theorem pbuild_any (w : World) (A : Option Addr) (n c : Nat) (L : List (List UInt8)) (hL : Secs L) (hn : L.length = n) (hr : Reads w w.heap.size 64 A n (B8 L.flatten)) (h5 : n ≤ 1000000) :
    Calls Tryz.prog 58 #[.slice A n c] w fun e w' => e = .returned (.agg (B8 (parOf L)).toArray) ∧ Below w.heap.size w w' := by
  have HR := hide hr
  have HXI := hid_info (par_length hL)
  have HXZ := hid_zero (par_length hL)
  have HT := hide (fun w hr => together_any w A n c L hL hn hr h5)
  clear hr hL hn
  go_enter Tryz.func58, Tryz.ntmps58
  go_wp2_with (first
    | ((with_reducible refine at_slot 2 ?_); refine wpList_alloc_blk rfl 43 rfl _ (psec_nought _) ?_; intro w1 hb1q hl1 hs1; have HC1 : Hid (Blk w1 w.heap.size 43 (B8 zeroL).toArray) := hide hb1q; have HL1 := hide hl1; have HR1 := hide (HR.out.later hl1); clear hb1q hl1 hs1)
    | (go_at_call 93; refine (HT.out w1 HR1.out).mono ?_; rintro _ w4 ⟨rfl, hl4⟩; have HC4 := hide (HC1.out.below hl4 HC1.out.lt); have HL4 := hide (HL1.out.trans (hl4.mono HL1.out.size)); clear hl4)
    | ((with_reducible refine at_store 2 ?_); refine wpList_store_all rfl 43 (.tmp 2) (.tmp 4) rfl w.heap.size 43 _ HC4.out rfl (B8 (parOf L)) rfl HXI.out HXZ.out (B8_one _) ?_; intro w5 hb5 hg5 hs5; clear hs5))
  refine ret_cell rfl w.heap.size 43 (B8 (parOf L)) _ hb5 rfl Tryz.underlying43 rfl HXI.out rfl ⟨rfl, ?_⟩
  exact HL4.out.grown hg5 HL4.out.size (fun g e => by injection e with e; omega)
end Go.Proofs.YtmjjnbabfldbcaaGreat
namespace Go.Proofs.YtmjjnbabfldbcaaGreat
open Go.RowKit
set_option linter.unusedVariables false
attribute [local go_sem] Oper.semAt_some
def Bank.stog (S : Bank) (l : List PlI) : Sec × Nat := if S.gatherE l = 0 then (parS (l.map S.readP), 0) else (zeroSec, S.gatherE l)
theorem rsec_parts : (Tryz.prog.info? 43).map (fun i => (i.zero, i.size, i.bytes)) = some (some (.agg (Array.replicate 64 (.int .u8 0))), 64, 64) := by kernel_rfl
theorem errno_zero (w : World) : (zeroValue 29).run Tryz.prog w = .ok (.int .i64 0) w := by kernel_rfl
theorem secs_zero (w : World) : (zeroValue 56).run Tryz.prog w = .ok (.slice none 0 0) w := by kernel_rfl
theorem bool_zero (w : World) : (zeroValue 4).run Tryz.prog w = .ok (.bool false) w := by kernel_rfl
theorem bool_info1 : (Tryz.prog.info? 4).map (·.size) = some 1 := by kernel_rfl
theorem errno_info1 : (Tryz.prog.info? 29).map (·.size) = some 1 := by kernel_rfl
theorem secs_info1 : (Tryz.prog.info? 56).map (·.size) = some 1 := by kernel_rfl
theorem run_loadVar_one (w : World) (g : Nat) (v : Value) (h : w.cell? ⟨g, 0, none⟩ = some v) : (loadVar 29 ⟨g, 0, none⟩).run Tryz.prog w = .ok v w := by
  have hu := Tryz.underlying29
  simp [loadVar, isAgg, Sem.run_bind, Result.andThen, run_underlying hu, h, go_sem]
theorem results_cells_raw {fn : Func} {p q : Tmp} {t1 t2 : TypeId} (h : fn.results = #[.cell p t1, .cell q t2]) (tmps : Array Value) (w : World) :
    (results fn tmps).run Tryz.prog w = ((asAddr (tmps.getD p undef)).run Tryz.prog w).andThen fun a w₁ => ((loadVar t1 a).run Tryz.prog w₁).andThen fun x w₂ => ((asAddr (tmps.getD q undef)).run Tryz.prog w₂).andThen fun c w₃ => ((loadVar t2 c).run Tryz.prog w₃).andThen fun y w₄ => .ok (.tuple #[x, y]) w₄ := by
  simp only [results, h]
  simp [Sem.run_bind, Result.andThen]
theorem results_cells {fn : Func} {p q : Tmp} (h : fn.results = #[.cell p 43, .cell q 29]) (tmps : Array Value) (w : World) (g g2 : Nat) (cs : List Value) (hb : Blk w g 43 cs.toArray) (hl : cs.length = 64) (e : Value) (hb2 : Blk w g2 29 #[e])
    (hp : tmps.getD p undef = .pointer (some ⟨g, 0, none⟩)) (hq : tmps.getD q undef = .pointer (some ⟨g2, 0, none⟩)) : (results fn tmps).run Tryz.prog w = .ok (.tuple #[.agg cs.toArray, e]) w := by
  have h1 := run_loadVar_blk (P := Tryz.prog) w g 0 43 43 cs.toArray hb cs _ (fun j v hv => by rw [Nat.zero_add]; simpa using hv) Tryz.underlying43 rfl (by rw [hl]; exact psec_info)
  have h2 := run_loadVar_one w g2 e ((hb2.cell 0).trans rfl)
  rw [results_cells_raw h, hp, hq]
  simp only [asAddr, Sem.run_pure, Result.andThen_ok, h1, h2]
/-- Between two rounds. -/
structure TogI (w0 : World) (b : Nat) (S : Bank) (b4 b5 b6 b7 : Nat) (pre : List PlI) (go : Bool) (H : Nat → Prop) (W : World) : Prop where
  ptr : Blk W w0.heap.size 25 #[.pointer (some ⟨b, 0, none⟩)]
  sec : Blk W b4 43 (B8 zeroL).toArray
  err : Blk W b5 29 #[.int .i64 (if go then 0 else (S.badP pre : Int))]
  all : ∃ v m xs, Blk W b6 56 #[v] ∧ W.ownsRow w0.heap.size 43 64 v m xs ∧ v.ownBlock ≠ some b4 ∧ (go = true → m = pre.length ∧ xs = B8 (rawS (pre.map S.readP)).flatten) ∧ ∀ k, H k ↔ (k = b4 ∨ k = b5 ∨ k = b6 ∨ k = b7 ∨ v.ownBlock = some k)
  lost : ∃ u, Blk W b7 4 #[u] ∧ (go = true → u = .bool (decide (S.goneP pre ≠ 0)))
  bad : go = true ↔ S.badP pre = 0
  low : Below w0.heap.size w0 W
def TogK (w0 : World) (b : Nat) (S : Bank) (b4 b5 b6 b7 : Nat) : Kept := fun pre go H W => TogI w0 b S b4 b5 b6 b7 pre go H W
section
variable {w0 W W' : World} {S : Bank} {b b4 b5 b6 b7 n0 : Nat} {pre : List PlI} {go : Bool} {H : Nat → Prop}
theorem TogI.stays (h : TogI w0 b S b4 b5 b6 b7 pre go H W) (hn : w0.heap.size < n0) (hT : Turn (fun k => ¬ H k ∧ n0 ≤ k) W W') : TogI w0 b S b4 b5 b6 b7 pre go H W' := by
  obtain ⟨v, m, xs, hb, ho, h4, hx, hH⟩ := h.all
  obtain ⟨u, hu, hu2⟩ := h.lost
  refine ⟨(hT.block _ h.ptr.lt (fun q => by have := q.2; omega)).trans h.ptr, (hT.block _ h.sec.lt (fun q => q.1 ((hH _).2 (.inl rfl)))).trans h.sec, (hT.block _ h.err.lt (fun q => q.1 ((hH _).2 (.inr (.inl rfl))))).trans h.err,
    ⟨v, m, xs, (hT.block _ hb.lt (fun q => q.1 ((hH _).2 (.inr (.inr (.inl rfl)))))).trans hb, own_keep ho (fun g hg => hT.block g (ho.lt g hg).2 (fun q => q.1 ((hH g).2 (.inr (.inr (.inr (.inr hg))))))), h4, hx, hH⟩,
    ⟨u, (hT.block _ hu.lt (fun q => q.1 ((hH _).2 (.inr (.inr (.inr (.inl rfl))))))).trans hu, hu2⟩, h.bad, ?_⟩
  exact ⟨hT.os.trans h.low.os, hT.tape.trans h.low.tape, hT.output.trans h.low.output, Nat.le_trans h.low.size hT.size, fun i hi => (hT.block i (Nat.lt_of_lt_of_le hi h.low.size) (fun q => by have := q.2; omega)).trans (h.low.block i hi)⟩
theorem TogI.lt (h : TogI w0 b S b4 b5 b6 b7 pre go H W) (k : Nat) (hk : H k) : k < W.heap.size := by
  obtain ⟨v, m, xs, hb, ho, h4, hx, hH⟩ := h.all
  obtain ⟨u, hu, hu2⟩ := h.lost
  rcases (hH k).1 hk with rfl | rfl | rfl | rfl | hg
  · exact h.sec.lt
  · exact h.err.lt
  · exact hb.lt
  · exact hu.lt
  · exact (ho.lt k hg).2
end
section
variable {gf : Nat} {lb : List Value} {xs : List PlI} {D : World → Prop} {Q : Nat → Prop}
set_option maxRecDepth 100000 in
set_option maxHeartbeats 8000000 in
theorem sgather_any (hs : SeqOf gf lb xs D Q) (hx : xs.length ≤ 1000) (w : World) (hD : D w) {b : Nat} {F : Nat → Prop} {S : Bank} (hB : BankOn w b F S) :
    Calls Tryz.prog 62 #[.pointer (some ⟨b, 0, none⟩), .func (.func gf) #[] lb.toArray] w fun e w' => e = .returned (.tuple #[secV (S.stog xs).1, .int .i64 ((S.stog xs).2 : Int)]) ∧ Below w.heap.size w w' := by
  have HS := hide hs
  have HD := hide hD
  have HB := hide hB
  obtain ⟨sv, hsv⟩ : ∃ sv : Value, sv = .func (.func gf) #[] lb.toArray := ⟨_, rfl⟩
  rw [← hsv]
  have HSV := hide hsv
  obtain ⟨i0, hi0, hz0, hz1, hz2⟩ := info_parts rsec_parts
  clear hs hD hsv hB
  refine (callsIn_wide (n := 5)).1 ?_
  refine callsIn_of_wp_marks Tryz.func62 rfl trivial ?_ rfl
  simp only [Tryz.ntmps62, List.size_toArray, List.length_cons, List.length_nil, Nat.reduceAdd, Nat.reduceSub, Array.replicate_succ, Array.replicate_zero, List.push_toArray, List.append_toArray, List.nil_append, List.cons_append]
  refine wpIn_wide.2 ?_
  go_wp2_with (first
    | ((with_reducible refine at_slot 2 ?_); refine wpList_box_blk rfl 25 _ rfl (.pointer (some ⟨b, 0, none⟩)) rfl ?_; intro y1 h1 h2 h3; have HA2 : Hid (Blk y1 w.heap.size 25 #[.pointer (some ⟨b, 0, none⟩)]) := hide h1; have HL2 := hide h2; clear h1 h2 h3)
    | ((with_reducible refine at_slot 4 ?_); refine wpList_alloc_blk rfl 43 rfl _ (psec_nought _) ?_; intro y2 h1 h2 h3; have HA4 : Hid (Blk y2 y1.heap.size 43 (B8 zeroL).toArray) := hide h1; have HL4 := hide h2; clear h1 h2 h3)
    | ((with_reducible refine at_slot 5 ?_); refine wpList_alloc_blk rfl 29 rfl _ (errno_zero _) ?_; intro y3 h1 h2 h3; have HA5 : Hid (Blk y3 y2.heap.size 29 #[.int .i64 0]) := hide h1; have HL5 := hide h2; clear h1 h2 h3)
    | ((with_reducible refine at_slot 6 ?_); refine wpList_alloc_blk rfl 56 rfl _ (secs_zero _) ?_; intro y4 h1 h2 h3; have HA6 : Hid (Blk y4 y3.heap.size 56 #[.slice none 0 0]) := hide h1; have HL6 := hide h2; clear h1 h2 h3)
    | ((with_reducible refine at_slot 7 ?_); refine wpList_alloc_blk rfl 4 rfl _ (bool_zero _) ?_; intro y5 h1 h2 h3; have HA7 : Hid (Blk y5 y4.heap.size 4 #[.bool false]) := hide h1; have HL7 := hide h2; clear h1 h2 h3)
    | ((with_reducible refine at_store 7 ?_); refine wpList_poke rfl 4 (.tmp 7) _ rfl y4.heap.size 0 4 _ HA7.out rfl (.bool false) rfl rfl bool_info1 (by simp) ?_; intro y6 h1 h2 h3; have HA8 : Hid (Blk y6 y4.heap.size 4 #[.bool false]) := hide (by simpa using h1); have HG8 := hide h2; have HS8 := hide h3; clear h1 h2 h3))
  obtain ⟨b4, hb4⟩ : ∃ k, k = y1.heap.size := ⟨_, rfl⟩
  obtain ⟨b5, hb5⟩ : ∃ k, k = y2.heap.size := ⟨_, rfl⟩
  obtain ⟨b6, hb6⟩ : ∃ k, k = y3.heap.size := ⟨_, rfl⟩
  obtain ⟨b7, hb7⟩ : ∃ k, k = y4.heap.size := ⟨_, rfl⟩
  have h45 : b4 < b5 := by rw [hb4, hb5]; exact HA4.out.lt
  have h56 : b5 < b6 := by rw [hb5, hb6]; exact HA5.out.lt
  have h67 : b6 < b7 := by rw [hb6, hb7]; exact HA6.out.lt
  have hw4 : w.heap.size < b4 := by rw [hb4]; exact HA2.out.lt
  have hg8 : ∀ k, k < b7 → y6.heap[k]? = y5.heap[k]? := fun k hk => by
    rcases Nat.lt_or_ge k y5.heap.size with h | h
    · exact HG8.out.block k h (fun e => by injection e with e; omega)
    · rw [Array.getElem?_eq_none (by rw [HS8.out]; exact h), Array.getElem?_eq_none h]
  have HZ2 := hide (show Blk y6 w.heap.size 25 #[.pointer (some ⟨b, 0, none⟩)] from (hg8 _ (by omega)).trans ((((HA2.out.below HL4.out HA2.out.lt).below HL5.out (Nat.lt_of_lt_of_le HA2.out.lt HL4.out.size)).below HL6.out (Nat.lt_of_lt_of_le HA2.out.lt (Nat.le_trans HL4.out.size HL5.out.size))).below HL7.out (Nat.lt_of_lt_of_le HA2.out.lt (Nat.le_trans HL4.out.size (Nat.le_trans HL5.out.size HL6.out.size)))))
  have HZ4 := hide (show Blk y6 b4 43 (B8 zeroL).toArray from (hg8 _ (by omega)).trans (by rw [hb4]; exact (((HA4.out.below HL5.out HA4.out.lt).below HL6.out (Nat.lt_of_lt_of_le HA4.out.lt HL5.out.size)).below HL7.out (Nat.lt_of_lt_of_le HA4.out.lt (Nat.le_trans HL5.out.size HL6.out.size)))))
  have HZ5 := hide (show Blk y6 b5 29 #[.int .i64 0] from (hg8 _ (by omega)).trans (by rw [hb5]; exact ((HA5.out.below HL6.out HA5.out.lt).below HL7.out (Nat.lt_of_lt_of_le HA5.out.lt HL6.out.size))))
  have HZ6 := hide (show Blk y6 b6 56 #[.slice none 0 0] from (hg8 _ (by omega)).trans (by rw [hb6]; exact (HA6.out.below HL7.out HA6.out.lt)))
  have HZ7 := hide (show Blk y6 b7 4 #[.bool false] by rw [hb7]; exact HA8.out)
  have hl5 : Below w.heap.size w y5 := HL2.out.trans ((HL4.out.trans ((HL5.out.trans ((HL6.out.trans (HL7.out.mono HL6.out.size)).mono HL5.out.size)).mono HL4.out.size)).mono HL2.out.size)
  have HLZ := hide (show Below w.heap.size w y6 from hl5.grown HG8.out hl5.size (fun g e => by injection e with e; omega))
  have HLT := hide (show b7 < y6.heap.size from HZ7.out.lt)
  have h4s := hide (show w.heap.size < b4 ∧ b4 < b5 ∧ b5 < b6 ∧ b6 < b7 from ⟨hw4, h45, h56, h67⟩)
  rw [← hb4, ← hb5, ← hb6, ← hb7]
  clear hg8 hl5 hw4 h45 h56 h67 HA2 HA4 HA5 HA6 HA7 HA8 HL2 HL4 HL5 HL6 HL7 HG8 HS8 hb4 hb5 hb6 hb7
  refine (wpIn_wide (n := 5)).1 ?_
  refine range_law HS.out (show _ = _ from HSV.out) (TogK w b S b4 b5 b6 b7) (fun pre go H W W' h hT => TogI.stays h HZ2.out.lt hT) (fun pre go H W h => TogI.lt h) (fun k => k = b4 ∨ k = b5 ∨ k = b6 ∨ k = b7) ?start ?data ?apart ?body ?done ?stop
  case start => exact ⟨HZ2.out, HZ4.out, HZ5.out, ⟨.slice none 0 0, 0, [], HZ6.out, World.ownsRow_nil _ _ _ _, by simp [Value.ownBlock], fun _ => ⟨rfl, rfl⟩, fun k => ⟨fun h => by rcases h with h | h | h | h <;> simp [h], fun h => by rcases h with h | h | h | h | h <;> first | (simp [Value.ownBlock] at h; done) | simp [h]⟩⟩, ⟨.bool false, HZ7.out, fun _ => rfl⟩, by simp [Bank.badP], HLZ.out⟩
  case data => exact HS.out.stays _ _ HD.out (Turn.of_below HLZ.out)
  case apart => exact fun k hk hq => by have := HS.out.low _ HD.out k hq; have := h4s.out; omega
  case body =>
    intro l pre x H W K hI hl hlo hlt hlen hK
    obtain ⟨xd, xk⟩ := x
    have hI0 : TogI w b S b4 b5 b6 b7 pre true H W := hI
    have HI := hide hI0
    have HK := hide hK
    have HP := hide (show pre.length ≤ 1000 by omega)
    have hF : ∀ f, (Fence.wide.inRound l).fn f := fun _ => trivial
    obtain ⟨E, hE⟩ : ∃ E, E = S.placeP (xd, xk) := ⟨_, rfl⟩
    obtain ⟨s, hsx⟩ : ∃ s, s = S.readP (xd, xk) := ⟨_, rfl⟩
    have HRV := hide (show readV S (nI xd) (nI xk) = .tuple #[.agg (secL s).toArray, .int .i64 (E : Int)] by rw [hE, hsx]; rfl)
    have HE := hide hE
    have HSX := hide hsx
    have HS1 := hide (secL_one s)
    have HS2 := hide (secL_length s)
    have hfR : Fence.wide.fn 13 := trivial
    have hfL : Fence.wide.fn 59 := trivial
    clear hK hI hI0 hlen hE hsx
    simp only [List.setIfInBounds_toArray, List.set_cons_zero, List.set_cons_succ]
    gi_wp2_with (first
      | ((with_reducible refine at_slotIn 8 ?_); refine inList_alloc hF rfl 47 rfl _ (pl_zero _) ?_; intro w1 hb1q hl1q hs1q; have HB5 : Hid (Blk w1 W.heap.size 47 (plC (0, 0)).toArray) := hide hb1q; have HL5 := hide hl1q; have HS5 := hide hs1q; clear hb1q hl1q hs1q)
      | ((with_reducible refine at_storeIn 8 ?_); refine inList_store hF rfl 47 (.tmp 8) (.tmp 12) rfl W.heap.size 47 _ HB5.out rfl (plC (xd, xk)) rfl pl_info rfl (plC_one _) ?_; intro w2 hb2q hg2q hs2q; have HB6 := hide hb2q; have HG6 := hide hg2q; have HS6 := hide hs2q; clear hb2q hg2q hs2q))
    have hT0 : Turn (fun _ => False) W w2 := (Turn.of_below HL5.out).grown HG6.out (fun g e => by injection e with e; subst e; exact .inr (Nat.le_refl _))
    refine HK.out _ _ hT0 (fun W₂ hT2 => ?_)
    have hlz : y6.heap.size ≤ l := hlo
    have hTW : Turn (fun k => ¬ H k ∧ y6.heap.size ≤ k) W W₂ := (hT0.wider (fun _ h => h.elim)).trans (hT2.wider (fun k e => by subst e; exact ⟨hl, hlz⟩))
    have HB7 := hide (show Blk W₂ W.heap.size 47 (plC (xd, xk)).toArray from (hT2.block _ HB6.out.lt (by omega)).trans HB6.out)
    have HI2 := hide (HI.out.stays HZ2.out.lt hTW)
    have HSZ := hide (show W.heap.size ≤ W₂.heap.size from hTW.size)
    have HBW := hide (HB.out.later HI2.out.low)
    have HRD : Hid (Calls Tryz.prog 13 #[.pointer (some ⟨b, 0, none⟩), .agg #[.int .i64 xd, .int .i64 xk]] W₂ fun e w' => e = .returned (.tuple #[.agg (secL s).toArray, .int .i64 (E : Int)]) ∧ Below W₂.heap.size W₂ w') := hide (by rw [← HRV.out]; exact onI_read HBW.out xd xk)
    have cp : W₂.cell? ⟨w.heap.size, 0, none⟩ = some (.pointer (some ⟨b, 0, none⟩)) := (HI2.out.ptr.cell 0).trans rfl
    obtain ⟨v, mm, vs, hv6, hvo, hv4, hvx, hvH⟩ := HI2.out.all
    obtain ⟨u, hu7, hux⟩ := HI2.out.lost
    obtain ⟨rfl, rfl⟩ := hvx rfl
    obtain rfl := hux rfl
    have HV6 := hide hv6
    have HVO := hide hvo
    have HV4 := hide hv4
    have HVH := hide hvH
    have HU7 := hide hu7
    have HN6 := hide (own_unlike hvo hv6 (by decide))
    have HN5 := hide (own_unlike hvo HI2.out.err (by decide))
    have HN7 := hide (own_unlike hvo hu7 (by decide))
    have HNP := hide (own_unlike hvo HI2.out.ptr (by decide))
    have HLO := hide (fun w => slost_any E w)
    have HBD := hide (HI.out.bad.1 rfl)
    clear hv6 hvo hv4 hvx hvH hu7 hux hT0 hT2 hTW hl hlo hlt hlz
    by_cases hle : lostB E = true
    · have hE0 : E ≠ 0 := by intro h; rw [h] at hle; exact absurd hle (by decide)
      rw [hle] at HLO
      have hbd := hide (show S.badP (pre ++ [(xd, xk)]) = 0 by rw [bad_snoc HBD.out, ← HE.out, if_pos (.inr hle)])
      have hgn := hide (show (true : Bool) = decide (S.goneP (pre ++ [(xd, xk)]) ≠ 0) by rw [gone_snoc, ← HE.out, if_neg hE0]; simp)
      clear hle hE0
      gi_wp2_with (first
        | ((with_reducible refine at_slotIn 15 ?_); refine inList_load hF rfl 47 (.tmp 8) rfl W.heap.size 0 47 _ HB7.out rfl (plC (xd, xk)) _ (fun j v hj => by rw [Nat.zero_add]; simpa using hj) Tryz.underlying47 rfl pl_info ?_)
        | (gi_at_call 13; refine (calls_round HRD.out).mono ?_; rintro _ w3 ⟨rfl, hl3q⟩; have HL3 := hide hl3q; clear hl3q)
        | ((with_reducible refine at_slotIn 9 ?_); refine inList_alloc hF rfl 43 rfl _ (psec_nought _) ?_; intro w4 h1 h2 h3; have HA9 : Hid (Blk w4 w3.heap.size 43 (B8 zeroL).toArray) := hide h1; have HL4 := hide h2; clear h1 h2 h3)
        | ((with_reducible refine at_storeIn 9 ?_); refine inList_store hF rfl 43 (.tmp 9) (.tmp 17) rfl w3.heap.size 43 _ HA9.out rfl (secL s) rfl (by rw [HS2.out]; exact psec_info) (by rw [HS2.out]; decide) HS1.out ?_; intro w5 h1 h2 h3; have HB9 := hide h1; have HT5 := hide (show Turn (fun _ => False) W₂ w5 from (Turn.of_below (HL3.out.trans (HL4.out.mono HL3.out.size))).grown h2 (fun g e => by injection e with e; subst e; exact .inr HL3.out.size)); have HD7 := hide (show Blk w5 b7 4 #[_] from (HT5.out.block _ HU7.out.lt (fun h => h)).trans HU7.out); have HD6 := hide (show Blk w5 b6 56 #[_] from (HT5.out.block _ HV6.out.lt (fun h => h)).trans HV6.out); have HDO := hide (own_keep HVO.out (fun g hg => HT5.out.block g (HVO.out.lt g hg).2 (fun h => h))); have HDW := hide (Nat.le_trans HI2.out.low.size HT5.out.size); clear h1 h2 h3)
        | (gi_at_call 59; refine (calls_round (HLO.out _)).mono ?_; rintro _ _ ⟨rfl, rfl⟩)
        | ((with_reducible refine at_storeIn 7 ?_); refine inList_poke hF rfl 4 (.tmp 7) _ rfl b7 4 _ HD7.out rfl (.bool true) rfl rfl bool_info1 ?_; intro w6 h1 h2 h3
           have HC7 := hide h1
           have HT6 := hide (show Turn (fun k => k = b6 ∨ k = b7 ∨ v.ownBlock = some k) W₂ w6 from (HT5.out.wider (fun _ h => h.elim)).grown h2 (fun g e => by injection e with e; exact .inl (.inr (.inl e.symm))))
           have HC9 := hide (show Blk w6 w3.heap.size 43 (secL s).toArray from (h2.block _ HB9.out.lt (fun e => by injection e with e; have := HU7.out.lt; have := HL3.out.size; omega)).trans HB9.out)
           have HC6 := hide (show Blk w6 b6 56 #[v] from (h2.block _ HD6.out.lt (fun e => by injection e with e; have := h4s.out; omega)).trans HD6.out)
           have HCO := hide (own_keep HDO.out (fun g hg => h2.block g (HDO.out.lt g hg).2 (fun e => by injection e with e; subst e; exact HN7.out hg)))
           have HCW := hide (show w.heap.size ≤ w6.heap.size by rw [h3]; exact HDW.out)
           have cv6 : w6.cell? ⟨b6, 0, none⟩ = some v := (HC6.out.cell 0).trans rfl
           clear h1 h2 h3)
        | ((with_reducible refine at_slotIn 26 ?_); refine inList_load hF rfl 43 (.tmp 9) rfl w3.heap.size 0 43 _ HC9.out rfl (secL s) _ (fun j v hj => by rw [Nat.zero_add]; simpa using hj) Tryz.underlying43 rfl (by rw [HS2.out]; exact psec_info) ?_)
        | ((with_reducible refine at_slotIn 27 ?_); refine inList_buildAgg hF rfl (.tmp 26) 56 rfl 43 i0 _ 64 Tryz.underlying56 hi0 (psec_zero _) hz1 (by decide) (by decide) (secL s).toArray rfl (by rw [List.size_toArray]; exact HS2.out) ?_)
        | ((with_reducible refine at_slotIn 28 ?_); refine inList_append hF rfl _ _ 56 rfl w.heap.size 43 i0 _ 64 64 Tryz.underlying56 hi0 hz0 hz1 hz2 rfl (by decide) v pre.length _ rfl (own_later HCO.out ((Below.refl _ _).alloc (Nat.le_refl _) _)) (w6.heap.size + 1) _ 1 1 (secL s) rfl (Reads.lump _ (secL s) _ _ 64 (by omega) HS2.out) HS1.out (by have := HP.out; simp only [maxLen]; omega) (by have := HP.out; omega) (le_alloc HCW.out _) ?_; intro v' w7 ho7 hg7 hor7; obtain ⟨A7, c7, rfl, _, _⟩ := own_shape ho7
           have HO7 := hide ho7
           have HG7 := hide hg7
           have HOR7 := hide hor7
           have HV7 := hide (show Blk w7 b6 56 #[v] from (hg7.block _ (by rw [World.size_alloc]; exact Nat.lt_succ_of_lt HC6.out.lt) (fun e => HN6.out e.symm)).trans ((Below.heap_alloc _ _ _ HC6.out.lt).trans HC6.out))
           clear ho7 hg7 hor7)
        | ((with_reducible refine at_storeIn 6 ?_); refine inList_poke hF rfl 56 (.tmp 6) (.tmp 28) rfl b6 56 _ HV7.out rfl (.slice A7 (pre.length + 1) c7) rfl rfl secs_info1 ?_; intro w8 h1 h2 h3; have HV8 := hide h1; have HG8 := hide h2; have HS8 := hide h3; clear h1 h2 h3))
      have HTX := hide (show Turn (fun k => k = b6 ∨ k = b7 ∨ v.ownBlock = some k) W₂ w8 from (((HT6.out.alloc _).grown HG7.out (fun g e => .inl (.inr (.inr e)))).grown HG8.out (fun g e => by injection e with e; exact .inl (.inl e.symm))))
      have HM7 := hide (show W₂.heap.size ≤ w6.heap.size from HT6.out.size)
      have HCB7 := hide (show Blk w8 b7 4 #[.bool _] from (HG8.out.block _ (by have := HG7.out.size; rw [World.size_alloc] at this; exact Nat.lt_of_lt_of_le (Nat.lt_succ_of_lt HC7.out.lt) this) (fun e => by injection e with e; have := h4s.out; omega)).trans ((HG7.out.block _ (by rw [World.size_alloc]; exact Nat.lt_succ_of_lt HC7.out.lt) (fun e => HN7.out e.symm)).trans ((Below.heap_alloc _ _ _ HC7.out.lt).trans HC7.out)))
      have hO8 : w8.ownsRow w.heap.size 43 64 (.slice A7 (pre.length + 1) c7) (pre.length + 1) _ := own_keep HO7.out (fun g hg => HG8.out.block g (HO7.out.lt g hg).2 (fun e => by injection e with e; subst e; exact own_unlike HO7.out HV7.out (by decide) hg))
      refine ⟨fun k => k = b4 ∨ k = b5 ∨ k = b6 ∨ k = b7 ∨ (Value.slice A7 (pre.length + 1) c7).ownBlock = some k, ⟨?_, ?_, ?_, ⟨_, _, _, HV8.out, hO8, ?_, ?_, fun k => Iff.rfl⟩, ⟨_, HCB7.out, ?_⟩, ?_, ?_⟩, ?_, ?_⟩
      · exact (HTX.out.block _ HI2.out.ptr.lt (fun h => by rcases h with h | h | h <;> first | (have := h4s.out; omega) | exact HNP.out h)).trans HI2.out.ptr
      · exact (HTX.out.block _ HI2.out.sec.lt (fun h => by rcases h with h | h | h <;> first | (have := h4s.out; omega) | exact HV4.out h)).trans HI2.out.sec
      · exact (HTX.out.block _ HI2.out.err.lt (fun h => by rcases h with h | h | h <;> first | (have := h4s.out; omega) | exact HN5.out h)).trans HI2.out.err
      · rcases HOR7.out with h | h
        · rw [h]; exact HV4.out
        · rw [h, World.size_alloc]; intro e; injection e with e; have := HI2.out.sec.lt; have := HM7.out; omega
      · intro _
        refine ⟨by rw [List.length_append]; rfl, ?_⟩
        rw [List.map_append, rawS_append, List.flatten_append, B8_append]
        show _ = _ ++ B8 [(S.readP (xd, xk)).1].flatten
        rw [← HSX.out]
        simp [secL]
      · intro _; exact congrArg Value.bool hgn.out
      · exact ⟨fun _ => hbd.out, fun _ => rfl⟩
      · exact ⟨HTX.out.os.trans HI2.out.low.os, HTX.out.tape.trans HI2.out.low.tape, HTX.out.output.trans HI2.out.low.output, Nat.le_trans HI2.out.low.size HTX.out.size, fun i hi => (HTX.out.block i (Nat.lt_of_lt_of_le hi HI2.out.low.size) (fun h => by rcases h with h | h | h <;> first | (have := h4s.out; omega) | (have := (HVO.out.lt i h).1; omega))).trans (HI2.out.low.block i hi)⟩
      · exact HTX.out.wider (fun k h => (HVH.out k).2 (by rcases h with h | h | h <;> simp [h]))
      · rintro k (h | h | h | h | h)
        · exact .inl ((HVH.out k).2 (.inl h))
        · exact .inl ((HVH.out k).2 (.inr (.inl h)))
        · exact .inl ((HVH.out k).2 (.inr (.inr (.inl h))))
        · exact .inl ((HVH.out k).2 (.inr (.inr (.inr (.inl h)))))
        · rcases HOR7.out with h1 | h1
          · exact .inl ((HVH.out k).2 (.inr (.inr (.inr (.inr (h1 ▸ h))))))
          · rw [h1, Option.some.injEq, World.size_alloc] at h
            exact .inr (by have := HM7.out; have := HSZ.out; omega)
    · rw [Bool.not_eq_true] at hle
      rw [hle] at HLO
      by_cases hE0 : E = 0
      · have hbd := hide (show S.badP (pre ++ [(xd, xk)]) = 0 by rw [bad_snoc HBD.out, ← HE.out, if_pos (.inl hE0)])
        have hgn := hide (show decide (S.goneP pre ≠ 0) = decide (S.goneP (pre ++ [(xd, xk)]) ≠ 0) by rw [gone_snoc, ← HE.out, if_pos hE0, Nat.add_zero])
        have HRD0 := hide (show Calls Tryz.prog 13 #[.pointer (some ⟨b, 0, none⟩), .agg #[.int .i64 xd, .int .i64 xk]] W₂ fun e w' => e = .returned (.tuple #[.agg (secL s).toArray, .int .i64 0]) ∧ Below W₂.heap.size W₂ w' by have := HRD.out; rw [hE0] at this; exact this)
        have HLO0 := hide (show ∀ w, Calls Tryz.prog 59 #[.int .i64 0] w fun r w' => r = .returned (.bool false) ∧ w = w' by have := HLO.out; rw [hE0] at this; exact this)
        clear HRD HLO hle hE0
        gi_wp2_with (first
          | ((with_reducible refine at_slotIn 15 ?_); refine inList_load hF rfl 47 (.tmp 8) rfl W.heap.size 0 47 _ HB7.out rfl (plC (xd, xk)) _ (fun j v hj => by rw [Nat.zero_add]; simpa using hj) Tryz.underlying47 rfl pl_info ?_)
          | (gi_at_call 13; refine (calls_round HRD0.out).mono ?_; rintro _ w3 ⟨rfl, hl3q⟩; have HL3 := hide hl3q; clear hl3q)
          | ((with_reducible refine at_slotIn 9 ?_); refine inList_alloc hF rfl 43 rfl _ (psec_nought _) ?_; intro w4 h1 h2 h3; have HA9 : Hid (Blk w4 w3.heap.size 43 (B8 zeroL).toArray) := hide h1; have HL4 := hide h2; clear h1 h2 h3)
          | ((with_reducible refine at_storeIn 9 ?_); refine inList_store hF rfl 43 (.tmp 9) (.tmp 17) rfl w3.heap.size 43 _ HA9.out rfl (secL s) rfl (by rw [HS2.out]; exact psec_info) (by rw [HS2.out]; decide) HS1.out ?_; intro w5 h1 h2 h3; have HB9 := hide h1; have HT5 := hide (show Turn (fun _ => False) W₂ w5 from (Turn.of_below (HL3.out.trans (HL4.out.mono HL3.out.size))).grown h2 (fun g e => by injection e with e; subst e; exact .inr HL3.out.size)); have HC7 := hide (show Blk w5 b7 4 #[_] from (HT5.out.block _ HU7.out.lt (fun h => h)).trans HU7.out); have HC6 := hide (show Blk w5 b6 56 #[_] from (HT5.out.block _ HV6.out.lt (fun h => h)).trans HV6.out); have HCO := hide (own_keep HVO.out (fun g hg => HT5.out.block g (HVO.out.lt g hg).2 (fun h => h))); have HCW := hide (Nat.le_trans HI2.out.low.size HT5.out.size); obtain ⟨w6, hw6⟩ : ∃ w6, w6 = w5 := ⟨_, rfl⟩; rw [← hw6] at HB9 HT5 HC7 HC6 HCO HCW ⊢; have HC9 := HB9; have HT6 := hide (show Turn (fun k => k = b6 ∨ k = b7 ∨ v.ownBlock = some k) W₂ w6 from HT5.out.wider (fun _ h => h.elim)); have cv6 : w6.cell? ⟨b6, 0, none⟩ = some v := (HC6.out.cell 0).trans rfl; clear h1 h2 h3 hw6)
          | (gi_at_call 59; refine (calls_round (HLO0.out _)).mono ?_; rintro _ _ ⟨rfl, rfl⟩)
          | ((with_reducible refine at_slotIn 26 ?_); refine inList_load hF rfl 43 (.tmp 9) rfl w3.heap.size 0 43 _ HC9.out rfl (secL s) _ (fun j v hj => by rw [Nat.zero_add]; simpa using hj) Tryz.underlying43 rfl (by rw [HS2.out]; exact psec_info) ?_)
          | ((with_reducible refine at_slotIn 27 ?_); refine inList_buildAgg hF rfl (.tmp 26) 56 rfl 43 i0 _ 64 Tryz.underlying56 hi0 (psec_zero _) hz1 (by decide) (by decide) (secL s).toArray rfl (by rw [List.size_toArray]; exact HS2.out) ?_)
          | ((with_reducible refine at_slotIn 28 ?_); refine inList_append hF rfl _ _ 56 rfl w.heap.size 43 i0 _ 64 64 Tryz.underlying56 hi0 hz0 hz1 hz2 rfl (by decide) v pre.length _ rfl (own_later HCO.out ((Below.refl _ _).alloc (Nat.le_refl _) _)) (w6.heap.size + 1) _ 1 1 (secL s) rfl (Reads.lump _ (secL s) _ _ 64 (by omega) HS2.out) HS1.out (by have := HP.out; simp only [maxLen]; omega) (by have := HP.out; omega) (le_alloc HCW.out _) ?_; intro v' w7 ho7 hg7 hor7; obtain ⟨A7, c7, rfl, _, _⟩ := own_shape ho7
             have HO7 := hide ho7
             have HG7 := hide hg7
             have HOR7 := hide hor7
             have HV7 := hide (show Blk w7 b6 56 #[v] from (hg7.block _ (by rw [World.size_alloc]; exact Nat.lt_succ_of_lt HC6.out.lt) (fun e => HN6.out e.symm)).trans ((Below.heap_alloc _ _ _ HC6.out.lt).trans HC6.out))
             clear ho7 hg7 hor7)
          | ((with_reducible refine at_storeIn 6 ?_); refine inList_poke hF rfl 56 (.tmp 6) (.tmp 28) rfl b6 56 _ HV7.out rfl (.slice A7 (pre.length + 1) c7) rfl rfl secs_info1 ?_; intro w8 h1 h2 h3; have HV8 := hide h1; have HG8 := hide h2; have HS8 := hide h3; clear h1 h2 h3))
        have HTX := hide (show Turn (fun k => k = b6 ∨ k = b7 ∨ v.ownBlock = some k) W₂ w8 from (((HT6.out.alloc _).grown HG7.out (fun g e => .inl (.inr (.inr e)))).grown HG8.out (fun g e => by injection e with e; exact .inl (.inl e.symm))))
        have HM7 := hide (show W₂.heap.size ≤ w6.heap.size from HT6.out.size)
        have HCB7 := hide (show Blk w8 b7 4 #[.bool _] from (HG8.out.block _ (by have := HG7.out.size; rw [World.size_alloc] at this; exact Nat.lt_of_lt_of_le (Nat.lt_succ_of_lt HC7.out.lt) this) (fun e => by injection e with e; have := h4s.out; omega)).trans ((HG7.out.block _ (by rw [World.size_alloc]; exact Nat.lt_succ_of_lt HC7.out.lt) (fun e => HN7.out e.symm)).trans ((Below.heap_alloc _ _ _ HC7.out.lt).trans HC7.out)))
        have hO8 : w8.ownsRow w.heap.size 43 64 (.slice A7 (pre.length + 1) c7) (pre.length + 1) _ := own_keep HO7.out (fun g hg => HG8.out.block g (HO7.out.lt g hg).2 (fun e => by injection e with e; subst e; exact own_unlike HO7.out HV7.out (by decide) hg))
        refine ⟨fun k => k = b4 ∨ k = b5 ∨ k = b6 ∨ k = b7 ∨ (Value.slice A7 (pre.length + 1) c7).ownBlock = some k, ⟨?_, ?_, ?_, ⟨_, _, _, HV8.out, hO8, ?_, ?_, fun k => Iff.rfl⟩, ⟨_, HCB7.out, ?_⟩, ?_, ?_⟩, ?_, ?_⟩
        · exact (HTX.out.block _ HI2.out.ptr.lt (fun h => by rcases h with h | h | h <;> first | (have := h4s.out; omega) | exact HNP.out h)).trans HI2.out.ptr
        · exact (HTX.out.block _ HI2.out.sec.lt (fun h => by rcases h with h | h | h <;> first | (have := h4s.out; omega) | exact HV4.out h)).trans HI2.out.sec
        · exact (HTX.out.block _ HI2.out.err.lt (fun h => by rcases h with h | h | h <;> first | (have := h4s.out; omega) | exact HN5.out h)).trans HI2.out.err
        · rcases HOR7.out with h | h
          · rw [h]; exact HV4.out
          · rw [h, World.size_alloc]; intro e; injection e with e; have := HI2.out.sec.lt; have := HM7.out; omega
        · intro _
          refine ⟨by rw [List.length_append]; rfl, ?_⟩
          rw [List.map_append, rawS_append, List.flatten_append, B8_append]
          show _ = _ ++ B8 [(S.readP (xd, xk)).1].flatten
          rw [← HSX.out]
          simp [secL]
        · intro _; exact congrArg Value.bool hgn.out
        · exact ⟨fun _ => hbd.out, fun _ => rfl⟩
        · exact ⟨HTX.out.os.trans HI2.out.low.os, HTX.out.tape.trans HI2.out.low.tape, HTX.out.output.trans HI2.out.low.output, Nat.le_trans HI2.out.low.size HTX.out.size, fun i hi => (HTX.out.block i (Nat.lt_of_lt_of_le hi HI2.out.low.size) (fun h => by rcases h with h | h | h <;> first | (have := h4s.out; omega) | (have := (HVO.out.lt i h).1; omega))).trans (HI2.out.low.block i hi)⟩
        · exact HTX.out.wider (fun k h => (HVH.out k).2 (by rcases h with h | h | h <;> simp [h]))
        · rintro k (h | h | h | h | h)
          · exact .inl ((HVH.out k).2 (.inl h))
          · exact .inl ((HVH.out k).2 (.inr (.inl h)))
          · exact .inl ((HVH.out k).2 (.inr (.inr (.inl h))))
          · exact .inl ((HVH.out k).2 (.inr (.inr (.inr (.inl h)))))
          · rcases HOR7.out with h1 | h1
            · exact .inl ((HVH.out k).2 (.inr (.inr (.inr (.inr (h1 ▸ h))))))
            · rw [h1, Option.some.injEq, World.size_alloc] at h
              exact .inr (by have := HM7.out; have := HSZ.out; omega)

      · have hne1 : ((E : Int) != 0) = true := by simp [hE0]
        have hne2 : ¬ ((E : Int) = 0) := by omega
        have hbd := hide (show S.badP (pre ++ [(xd, xk)]) = E by rw [bad_snoc HBD.out, ← HE.out, if_neg (by rw [hle]; rintro (h | h); exact hE0 h; cases h)])
        have HE0 := hide hE0
        clear hle hE0
        gi_wp2_with (first
          | ((with_reducible refine at_slotIn 15 ?_); refine inList_load hF rfl 47 (.tmp 8) rfl W.heap.size 0 47 _ HB7.out rfl (plC (xd, xk)) _ (fun j v hj => by rw [Nat.zero_add]; simpa using hj) Tryz.underlying47 rfl pl_info ?_)
          | (gi_at_call 13; refine (calls_round HRD.out).mono ?_; rintro _ w3 ⟨rfl, hl3q⟩; have HL3 := hide hl3q; clear hl3q)
          | ((with_reducible refine at_slotIn 9 ?_); refine inList_alloc hF rfl 43 rfl _ (psec_nought _) ?_; intro w4 h1 h2 h3; have HA9 : Hid (Blk w4 w3.heap.size 43 (B8 zeroL).toArray) := hide h1; have HL4 := hide h2; clear h1 h2 h3)
          | ((with_reducible refine at_storeIn 9 ?_); refine inList_store hF rfl 43 (.tmp 9) (.tmp 17) rfl w3.heap.size 43 _ HA9.out rfl (secL s) rfl (by rw [HS2.out]; exact psec_info) (by rw [HS2.out]; decide) HS1.out ?_; intro w5 h1 h2 h3; have HB9 := hide h1; have HT5 := hide (show Turn (fun _ => False) W₂ w5 from (Turn.of_below (HL3.out.trans (HL4.out.mono HL3.out.size))).grown h2 (fun g e => by injection e with e; subst e; exact .inr HL3.out.size)); have HD4 := hide (show Blk w5 b4 43 _ from (HT5.out.block _ HI2.out.sec.lt (fun h => h)).trans HI2.out.sec); have HD5 := hide (show Blk w5 b5 29 #[_] from (HT5.out.block _ HI2.out.err.lt (fun h => h)).trans HI2.out.err); clear h1 h2 h3)
          | (gi_at_call 59; refine (calls_round (HLO.out _)).mono ?_; rintro _ _ ⟨rfl, rfl⟩)
          | ((with_reducible refine at_slotIn 23 ?_); refine inList_build hF rfl 43 #[] rfl [] (by simp) _ psec_built ?_)
          | ((with_reducible refine at_storeIn 4 ?_); refine inList_store hF rfl 43 (.tmp 4) (.tmp 23) rfl b4 43 _ HD4.out rfl (B8 zeroL) rfl psec_info rfl (B8_one _) ?_; intro w6 h1 h2 h3; have HC4 := hide h1; have HG6x := hide h2; have HC5 := hide (show Blk w6 b5 29 #[_] from (h2.block _ HD5.out.lt (fun e => by injection e with e; have := h4s.out; omega)).trans HD5.out); clear h1 h2 h3)
          | ((with_reducible refine at_storeIn 5 ?_); refine inList_poke hF rfl 29 (.tmp 5) (.tmp 24) rfl b5 29 _ HC5.out rfl (.int .i64 (E : Int)) rfl rfl errno_info1 ?_; intro w7 h1 h2 h3; have HC5b := hide h1; have HG7x := hide h2; clear h1 h2 h3))
        have HTX := hide (show Turn (fun k => k = b4 ∨ k = b5) W₂ w7 from ((HT5.out.wider (fun _ h => h.elim)).grown HG6x.out (fun g e => by injection e with e; exact .inl (.inl e.symm))).grown HG7x.out (fun g e => by injection e with e; exact .inl (.inr e.symm)))
        refine ⟨H, ⟨?_, ?_, ?_, ⟨v, pre.length, B8 (rawS (pre.map S.readP)).flatten, ?_, ?_, HV4.out, (fun h => by cases h), HVH.out⟩, ⟨.bool (decide (S.goneP pre ≠ 0)), ?_, (fun h => by cases h)⟩, ?_, ?_⟩, ?_, fun k h => .inl h⟩
        · exact (HTX.out.block _ HI2.out.ptr.lt (fun h => by have := h4s.out; omega)).trans HI2.out.ptr
        · exact (HG7x.out.block _ HC4.out.lt (fun e => by injection e with e; have := h4s.out; omega)).trans HC4.out
        · rw [hbd.out]; exact HC5b.out
        · exact (HTX.out.block _ HV6.out.lt (fun h => by have := h4s.out; omega)).trans HV6.out
        · exact own_keep HVO.out (fun g hg => HTX.out.block g (HVO.out.lt g hg).2 (fun h => by rcases h with h | h <;> subst h; exact HV4.out hg; exact HN5.out hg))
        · exact (HTX.out.block _ HU7.out.lt (fun h => by have := h4s.out; omega)).trans HU7.out
        · exact ⟨(fun h => by cases h), fun h => absurd (hbd.out.symm.trans h) HE0.out⟩
        · exact ⟨HTX.out.os.trans HI2.out.low.os, HTX.out.tape.trans HI2.out.low.tape, HTX.out.output.trans HI2.out.low.output, Nat.le_trans HI2.out.low.size HTX.out.size, fun i hi => (HTX.out.block i (Nat.lt_of_lt_of_le hi HI2.out.low.size) (fun h => by have := h4s.out; omega)).trans (HI2.out.low.block i hi)⟩
        · exact HTX.out.wider (fun k h => (HVH.out k).2 (by rcases h with h | h <;> simp [h]))
  case done =>
    intro B H W hI hT _ hB hHB hK
    have hI0 : TogI w b S b4 b5 b6 b7 xs true H W := hI
    obtain ⟨v, mm, vs, hv6, hvo, hv4, hvx, hvH⟩ := hI0.all
    obtain ⟨u, hu7, hux⟩ := hI0.lost
    obtain ⟨rfl, rfl⟩ := hvx rfl
    obtain rfl := hux rfl
    obtain ⟨A, c, rfl, hc1, hc2⟩ := own_shape hvo
    have HI := hide hI0
    have HV6 := hide hv6
    have HVO := hide hvo
    have HBD := hide (hI0.bad.1 rfl)
    have hbl := hide (show B ≠ b4 ∧ B ≠ b5 from ⟨fun e => hHB ((hvH B).2 (.inl e)), fun e => hHB ((hvH B).2 (.inr (.inl e)))⟩)
    have HK := hide hK
    have cu : W.cell? ⟨b7, 0, none⟩ = some (.bool (decide (S.goneP xs ≠ 0))) := (hu7.cell 0).trans rfl
    have cv : W.cell? ⟨b6, 0, none⟩ = some (.slice A xs.length c) := (hv6.cell 0).trans rfl
    have hBw := hide (Nat.le_trans HLZ.out.size hB)
    clear hI hI0 hv6 hvo hv4 hvx hvH hu7 hux hT hHB hK hB
    by_cases hg : S.goneP xs = 0
    · have HST := hide (show S.stog xs = (parS (xs.map S.readP), 0) by unfold Bank.stog Bank.gatherE; rw [HBD.out, hg]; rfl)
      rw [show decide (S.goneP xs ≠ 0) = false by simp [hg]] at cu
      have HPB := hide (pbuild_any W A xs.length c (rawS (xs.map S.readP)) (rawS_secs _) (by rw [rawS_length, List.length_map]) (Reads.of_own HVO.out) (by omega))
      have HP1 := hide (par_length (rawS_secs (xs.map S.readP)))
      obtain ⟨pl, hpl⟩ : ∃ pl, pl = B8 (parOf (rawS (xs.map S.readP))) := ⟨_, rfl⟩
      rw [← hpl] at HPB
      have HPL := hide hpl
      have HPN := hide (show pl.length = 64 by rw [hpl, B8_length, HP1.out])
      have HPO := hide (show ∀ v ∈ pl, v.oneCell' = true by rw [hpl]; exact B8_one _)
      clear hg hpl
      go_wp2_with (first
        | (go_at_call 58; refine HPB.out.mono ?_; rintro _ z1 ⟨rfl, hl1⟩; have HL1 := hide hl1; clear hl1)
        | ((with_reducible refine at_store 4 ?_); refine wpList_store_all rfl 43 (.tmp 4) (.tmp 32) rfl b4 43 _ (HI.out.sec.below HL1.out HI.out.sec.lt) rfl pl rfl (by rw [HPN.out]; exact psec_info) (by rw [HPN.out]; decide) HPO.out ?_; intro z2 h1 h2 h3; have HC4 := hide h1; have HG2 := hide h2; have HC5 := hide (show Blk z2 b5 29 #[_] from (h2.block _ (Nat.lt_of_lt_of_le HI.out.err.lt HL1.out.size) (fun e => by injection e with e; have := h4s.out; omega)).trans (HI.out.err.below HL1.out HI.out.err.lt)); clear h1 h2 h3)
        | ((with_reducible refine at_store 5 ?_); refine wpList_poke rfl 29 (.tmp 5) _ rfl b5 0 29 _ HC5.out rfl (.int .i64 0) rfl rfl errno_info1 (by simp) ?_; intro z3 h1 h2 h3; have HC5b : Hid (Blk z3 b5 29 #[.int .i64 0]) := hide (by simpa using h1); have HG3 := hide h2; clear h1 h2 h3))
      have hl3 : Below w.heap.size w z3 := by
        have h0 := HI.out.low.trans (HL1.out.mono HI.out.low.size)
        have h1 := h0.grown HG2.out h0.size (fun g e => by injection e with e; have := h4s.out; omega)
        exact h1.grown HG3.out h1.size (fun g e => by injection e with e; have := h4s.out; omega)
      have hk3 : z3.heap[B]? = some (.deferred (some [])) := by
        have h0 : z1.heap[B]? = some (.deferred (some [])) := (HL1.out.block _ (Array.getElem?_eq_some_iff.1 HK.out).1).trans HK.out
        have h1 : z2.heap[B]? = some (.deferred (some [])) := (HG2.out.block _ (Array.getElem?_eq_some_iff.1 h0).1 (fun e => by injection e with e; exact hbl.out.1 e)).trans h0
        exact (HG3.out.block _ (Array.getElem?_eq_some_iff.1 h1).1 (fun e => by injection e with e; exact hbl.out.2 e)).trans h1
      have hs3 : Blk z3 b4 43 pl.toArray := (HG3.out.block _ HC4.out.lt (fun e => by injection e with e; have := h4s.out; omega)).trans HC4.out
      refine ⟨by simp, .inl ⟨_, _, rfl, run_takeDeferred hk3, ?_⟩⟩
      refine ⟨_, results_cells rfl _ _ b4 b5 pl ((World.putObj_heap_other (fun e => hbl.out.1 e.symm)).trans hs3) HPN.out (.int .i64 0) ((World.putObj_heap_other (fun e => hbl.out.2 e.symm)).trans HC5b.out) rfl rfl, ?_, ?_⟩
      · rw [HST.out, HPL.out]; rfl
      · exact hl3.grown (grownBy_putObj' _ B _) hl3.size (fun g e => by injection e with e; have := hBw.out; omega)
    · have HST := hide (show S.stog xs = (zeroSec, 5) by
        have : S.gatherE xs = 5 := by unfold Bank.gatherE; rw [HBD.out, if_pos rfl, if_neg hg]
        unfold Bank.stog; rw [this]; rfl)
      rw [show decide (S.goneP xs ≠ 0) = true by simp [hg]] at cu
      clear hg
      go_wp2_with (first
        | ((with_reducible refine at_slot 30 ?_); refine wpList_build_is rfl 43 #[] rfl [] (by simp) _ psec_built ?_)
        | ((with_reducible refine at_store 4 ?_); refine wpList_store_all rfl 43 (.tmp 4) (.tmp 30) rfl b4 43 _ HI.out.sec rfl (B8 zeroL) rfl psec_info rfl (B8_one _) ?_; intro z2 h1 h2 h3; have HC4 := hide h1; have HG2 := hide h2; have HC5 := hide (show Blk z2 b5 29 #[_] from (h2.block _ HI.out.err.lt (fun e => by injection e with e; have := h4s.out; omega)).trans HI.out.err); clear h1 h2 h3)
        | ((with_reducible refine at_store 5 ?_); refine wpList_poke rfl 29 (.tmp 5) _ rfl b5 0 29 _ HC5.out rfl (.int .i64 5) rfl rfl errno_info1 (by simp) ?_; intro z3 h1 h2 h3; have HC5b : Hid (Blk z3 b5 29 #[.int .i64 5]) := hide (by simpa using h1); have HG3 := hide h2; clear h1 h2 h3))
      have hl3 : Below w.heap.size w z3 := by
        have h1 := HI.out.low.grown HG2.out HI.out.low.size (fun g e => by injection e with e; have := h4s.out; omega)
        exact h1.grown HG3.out h1.size (fun g e => by injection e with e; have := h4s.out; omega)
      have hk3 : z3.heap[B]? = some (.deferred (some [])) := by
        have h1 : z2.heap[B]? = some (.deferred (some [])) := (HG2.out.block _ (Array.getElem?_eq_some_iff.1 HK.out).1 (fun e => by injection e with e; exact hbl.out.1 e)).trans HK.out
        exact (HG3.out.block _ (Array.getElem?_eq_some_iff.1 h1).1 (fun e => by injection e with e; exact hbl.out.2 e)).trans h1
      have hs3 : Blk z3 b4 43 (B8 zeroL).toArray := (HG3.out.block _ HC4.out.lt (fun e => by injection e with e; have := h4s.out; omega)).trans HC4.out
      refine ⟨by simp, .inl ⟨_, _, rfl, run_takeDeferred hk3, ?_⟩⟩
      refine ⟨_, results_cells rfl _ _ b4 b5 (B8 zeroL) ((World.putObj_heap_other (fun e => hbl.out.1 e.symm)).trans hs3) (by rw [B8_length, zeroL_length]) (.int .i64 5) ((World.putObj_heap_other (fun e => hbl.out.2 e.symm)).trans HC5b.out) rfl rfl, ?_, ?_⟩
      · rw [HST.out]; rfl
      · exact hl3.grown (grownBy_putObj' _ B _) hl3.size (fun g e => by injection e with e; have := hBw.out; omega)
  case stop =>
    intro B ys H W hpre hI hT _ hB hHB hK
    have hI0 : TogI w b S b4 b5 b6 b7 ys false H W := hI
    obtain ⟨v, mm, vs, hv6, hvo, hv4, hvx, hvH⟩ := hI0.all
    have hbad : S.badP ys ≠ 0 := fun h => by have := hI0.bad.2 h; cases this
    obtain ⟨zs, hzs⟩ := hpre
    have HST := hide (show S.stog xs = (zeroSec, S.badP ys) by
      have h1 : S.badP xs = S.badP ys := by rw [← hzs]; exact bad_more zs hbad
      have : S.gatherE xs = S.badP ys := by unfold Bank.gatherE; rw [h1, if_neg hbad]
      unfold Bank.stog; rw [this, if_neg hbad])
    have hbl : B ≠ b4 ∧ B ≠ b5 := ⟨fun e => hHB ((hvH B).2 (.inl e)), fun e => hHB ((hvH B).2 (.inr (.inl e)))⟩
    have hBw := Nat.le_trans HLZ.out.size hB
    go_wp2
    refine ⟨by simp, .inl ⟨_, _, rfl, run_takeDeferred hK, ?_⟩⟩
    refine ⟨_, results_cells rfl _ _ b4 b5 (B8 zeroL) ((World.putObj_heap_other (fun e => hbl.1 e.symm)).trans hI0.sec) (by rw [B8_length, zeroL_length]) (.int .i64 (S.badP ys : Int)) ((World.putObj_heap_other (fun e => hbl.2 e.symm)).trans hI0.err) rfl rfl, ?_, ?_⟩
    · rw [HST.out]; rfl
    · exact hI0.low.grown (grownBy_putObj' _ B _) hI0.low.size (fun g e => by injection e with e; omega)
end
end Go.Proofs.YtmjjnbabfldbcaaGreat
namespace Go.Proofs.YtmjjnbabfldbcaaGreat
open Go.RowKit
set_option linter.unusedVariables false
theorem kOf_lt {n s : Nat} (hn : 2 ≤ n) : kOf n s < n := by
  have h1 : s % (n - 1) < n - 1 := Nat.mod_lt _ (by omega)
  unfold kOf
  split <;> omega
theorem zHome_at {X : List PlI} {s : Nat} (hn : 2 ≤ X.length) : homeP X s = plAt (strM X (s / (X.length - 1))) (kOf X.length s) := by
  unfold homeP strD strO plAt kOf
  rw [List.getElem?_eraseIdx]
  by_cases h : strH X.length (s / (X.length - 1)) ≤ s % (X.length - 1)
  · rw [if_neg (by omega), if_pos h]
  · rw [if_pos (by omega), if_neg h]
theorem matesP_at {X : List PlI} {s : Nat} (hn : 2 ≤ X.length) (hs : s < slotsN X.length) : matesP X s = butTo (strM X (s / (X.length - 1))) [(kOf X.length s : Int), (strH X.length (s / (X.length - 1)) : Int)] X.length ++ [plAt (strM X (s / (X.length - 1))) (strH X.length (s / (X.length - 1)))] := by
  unfold matesP
  rw [but_two hn hs]
  rfl
theorem zD_at {X : List PlI} {t : Nat} (hn : 2 ≤ X.length) : strD X t = butTo (strM X t) [(strH X.length t : Int)] X.length := by
  rw [but_one (strH_lt (by omega))]
  rfl
theorem butTo_len (M : List PlI) (L : List Int) : ∀ k, (butTo M L k).length ≤ k
  | 0 => Nat.le_refl _
  | k + 1 => by
    have := butTo_len M L k
    rw [butTo, List.length_append]
    split <;> simp only [List.length_nil, List.length_cons] <;> omega
structure NotNil (e : Nat) : Prop where
  a : ((e : Int) != 0) = true
  b : ¬ ((e : Int) = 0)
theorem notNil {e : Nat} (h : e ≠ 0) : NotNil e := ⟨by simp [h], by omega⟩
theorem XtIn.length {w : World} {A : Option Addr} {n c : Nat} {X : List PlI} (h : XtIn w A n c X) : X.length = n := by have := h.reads.1; rw [plsL_length] at this; omega
section
variable {A : Option Addr} {n c : Nat} {X : List PlI}
/-- rowOfSlot where there is such a slot. -/
theorem rowSlot_ok {s : Nat} (hn : n ≤ 1000000) (h : homeE n (s : Int) = 0) (hs : I64In (s : Int)) (w : World) :
    Calls Tryz.prog 53 #[.slice A n c, .int .i64 (s : Int)] w fun e w' => e = .returned (.tuple #[.agg (rowL A n c (s / (n - 1))).toArray, .int .i64 (kOf n s : Int), .int .i64 0]) ∧ Below w.heap.size w w' := by
  have := rowSlot_any A n c (s : Int) hn hs w
  rw [h] at this
  unfold rowSG kSG at this
  rw [h] at this
  exact this
theorem rowSlot_bad {slot : Int} {E : Nat} (hn : n ≤ 1000000) (h : homeE n slot = E) (hE : E ≠ 0) (hs : I64In slot) (w : World) :
    Calls Tryz.prog 53 #[.slice A n c, .int .i64 slot] w fun e w' => e = .returned (.tuple #[.agg ([.slice none 0 0, .int .i64 0] : List Value).toArray, .int .i64 0, .int .i64 (E : Int)]) ∧ Below w.heap.size w w' := by
  have := rowSlot_any A n c slot hn hs w
  unfold rowSG kSG at this
  rw [h, if_neg hE, if_neg hE] at this
  exact this
theorem rowOf_ok {t : Nat} (hn : n ≤ 1000000) (h : strE n (t : Int) = 0) (w : World) :
    Calls Tryz.prog 50 #[.slice A n c, .int .i64 (t : Int)] w fun e w' => e = .returned (.tuple #[.agg (rowL A n c t).toArray, .int .i64 0]) ∧ Below w.heap.size w w' := by
  have := rowOf_any A n c (t : Int) hn w
  unfold rowG at this
  rw [h] at this
  exact this
theorem rowOf_bad {t : Int} {E : Nat} (hn : n ≤ 1000000) (h : strE n t = E) (hE : E ≠ 0) (w : World) :
    Calls Tryz.prog 50 #[.slice A n c, .int .i64 t] w fun e w' => e = .returned (.tuple #[.agg ([.slice none 0 0, .int .i64 0] : List Value).toArray, .int .i64 (E : Int)]) ∧ Below w.heap.size w w' := by
  have := rowOf_any A n c t hn w
  unfold rowG at this
  rw [h, if_neg hE] at this
  exact this
set_option maxRecDepth 100000 in
set_option maxHeartbeats 4000000 in
theorem home_any (w : World) (hx : XtIn w A n c X) (slot : Int) (hsl : I64In slot) :
    Calls Tryz.prog 17 #[.slice A n c, .int .i64 slot] w fun e w' => e = .returned (.tuple #[.agg (plC (homeR X n slot)).toArray, .int .i64 (homeE n slot : Int)]) ∧ Below w.heap.size w w' := by
  have hXn := hx.length
  have hn : n ≤ 1000000 := by have := hx.few; omega
  by_cases he : homeE n slot = 0
  · obtain ⟨h2, h0, h8⟩ := homeE_ok he
    obtain ⟨s, rfl⟩ : ∃ s : Nat, slot = (s : Int) := ⟨slot.toNat, by omega⟩
    have hs8 : s < slotsN n := by omega
    have HR := hide (fun w => rowSlot_ok (A := A) (c := c) hn he hsl w)
    have hp : homeR X n (s : Int) = plAt (strM X (s / (n - 1))) (kOf n s) := by
      unfold homeR
      rw [he, ← hXn]
      exact zHome_at (by omega)
    have hkn := kOf_lt (n := n) (s := s) h2
    obtain ⟨p, hpx⟩ : ∃ p, X[kOf n s]? = some p := ⟨X[kOf n s]'(by rw [hXn]; exact hkn), List.getElem?_eq_getElem _⟩
    have ht8 : s / (n - 1) < 8 := by
      refine (Nat.div_lt_iff_lt_mul (by omega)).2 ?_
      unfold slotsN at hs8
      exact hs8
    obtain ⟨t, ht⟩ : ∃ t, t = s / (n - 1) := ⟨_, rfl⟩
    rw [← ht] at ht8 hp HR
    have hpa : plAt (strM X t) (kOf n s) = (p.1, p.2 + (t : Int)) := by unfold plAt; rw [strM_at hpx]; rfl
    rw [hp, hpa, he]
    obtain ⟨pv, hpv⟩ : ∃ pv, pv = plC (p.1, p.2 + (t : Int)) := ⟨_, rfl⟩
    have HO := hide (fun (w' : World) (hb : Below w.heap.size w w') => by have := on_any (w := w') (c := c) ((hx.reads.later hb)) hpx hx.small hn ht8; rw [← hpv] at this; exact this)
    have HP1 := hide (show ∀ v ∈ pv, v.oneCell' = true by rw [hpv]; exact plC_one _)
    have HP2 := hide (show pv.length = 2 by rw [hpv]; rfl)
    have HR1 := hide (rowL_one A n c t)
    rw [← hpv]
    clear hp hpa hpv hpx ht ht8 hs8 he h0 h8 hXn hx
    go_enter Tryz.func17, Tryz.ntmps17
    go_wp2_with (first
      | ((with_reducible refine at_slot 4 ?_); refine wpList_alloc_blk rfl 47 rfl _ (pl_zero _) ?_; intro w1 h1 h2 h3; have HB1 : Hid (Blk w1 w.heap.size 47 (plC (0, 0)).toArray) := hide h1; have HL1 := hide h2; clear h1 h2 h3)
      | (go_at_call 53; refine (HR.out _).mono ?_; rintro _ w2 ⟨rfl, hl2q⟩; have HL2 := hide hl2q; clear hl2q)
      | ((with_reducible refine at_slot 6 ?_); refine wpList_alloc_blk rfl 90 rfl _ (row_zero _) ?_; intro w3 h1 h2 h3; have HB3 := hide h1; have HL3 := hide h2; clear h1 h2 h3)
      | ((with_reducible refine at_store 6 ?_); refine wpList_store_all rfl 90 (.tmp 6) (.tmp 13) rfl w2.heap.size 90 _ HB3.out rfl (rowL A n c t) rfl row_info rfl HR1.out ?_; intro w4 h1 h2 h3; have HRB := hide h1; have HLR := hide (show Below w2.heap.size w2 w4 from HL3.out.grown h2 HL3.out.size (fun g e => by injection e with e; subst e; exact Nat.le_refl _)); clear h1 h2 h3)
      | ((with_reducible refine at_slot 20 ?_); refine wpList_load_blk rfl 90 (.tmp 6) rfl w2.heap.size 0 90 _ HRB.out rfl (rowL A n c t) _ (fun j v hj => by rw [Nat.zero_add]; simpa using hj) Tryz.underlying90 rfl row_info ?_)
      | (go_at_call 51; refine (HO.out _ (HL1.out.trans ((HL2.out.trans (HLR.out.mono HL2.out.size)).mono HL1.out.size))).mono ?_; rintro _ w5 ⟨rfl, hl5q⟩; have HL5 := hide (HL1.out.trans (((HL2.out.trans (HLR.out.mono HL2.out.size)).trans (hl5q.mono (HL2.out.trans (HLR.out.mono HL2.out.size)).size)).mono HL1.out.size)); have HB5 := hide ((HB1.out.below (HL2.out.trans (HLR.out.mono HL2.out.size)) HB1.out.lt).below hl5q (Nat.lt_of_lt_of_le HB1.out.lt (HL2.out.trans (HLR.out.mono HL2.out.size)).size)); clear hl5q)
      | ((with_reducible refine at_store 4 ?_); refine wpList_store_all rfl 47 (.tmp 4) (.tmp 22) rfl w.heap.size 47 _ HB5.out rfl pv rfl (by rw [HP2.out]; exact pl_info) (by rw [HP2.out]; rfl) HP1.out ?_; intro w6 h1 h2 h3; have HB6 := hide h1; have HG6 := hide h2; clear h1 h2 h3))
    refine ret_cell_tmp rfl w.heap.size 47 pv _ HB6.out rfl Tryz.underlying47 rfl (by rw [HP2.out]; exact pl_info) (.int .i64 0) rfl rfl ⟨rfl, ?_⟩
    exact HL5.out.grown HG6.out HL5.out.size (fun g e => by injection e with e; omega)
  · obtain ⟨E, hE⟩ : ∃ E, homeE n slot = E := ⟨_, rfl⟩
    have hE0 : E ≠ 0 := by rw [← hE]; exact he
    have HR := hide (fun w => rowSlot_bad (A := A) (c := c) hn hE hE0 hsl w)
    have hp : homeR X n slot = (0, 0) := by unfold homeR; rw [if_neg he]
    obtain ⟨hn1, hn2⟩ := notNil hE0
    rw [hp, hE]
    clear he hE hE0 hp hx hXn
    go_enter Tryz.func17, Tryz.ntmps17
    go_wp2_with (first
      | ((with_reducible refine at_slot 4 ?_); refine wpList_alloc_blk rfl 47 rfl _ (pl_zero _) ?_; intro w1 h1 h2 h3; have HB1 : Hid (Blk w1 w.heap.size 47 (plC (0, 0)).toArray) := hide h1; have HL1 := hide h2; clear h1 h2 h3)
      | (go_at_call 53; refine (HR.out _).mono ?_; rintro _ w2 ⟨rfl, hl2q⟩; have HL2 := hide hl2q; clear hl2q)
      | ((with_reducible refine at_slot 6 ?_); refine wpList_alloc_blk rfl 90 rfl _ (row_zero _) ?_; intro w3 h1 h2 h3; have HB3 := hide h1; have HL3 := hide h2; clear h1 h2 h3)
      | ((with_reducible refine at_store 6 ?_); refine wpList_store_all rfl 90 (.tmp 6) (.tmp 13) rfl w2.heap.size 90 _ HB3.out rfl [.slice none 0 0, .int .i64 0] rfl row_info rfl rowZ_one ?_; intro w4 h1 h2 h3; have HRB := hide h1; have HLR := hide (show Below w2.heap.size w2 w4 from HL3.out.grown h2 HL3.out.size (fun g e => by injection e with e; subst e; exact Nat.le_refl _)); clear h1 h2 h3)
      | ((with_reducible refine at_slot 18 ?_); refine wpList_build_is rfl 47 #[] rfl [] (by simp) _ (show _ = some (plC (0, 0)).toArray by kernel_rfl) ?_)
      | ((with_reducible refine at_store 4 ?_); refine wpList_store_all rfl 47 (.tmp 4) (.tmp 18) rfl w.heap.size 47 _ ((HB1.out.below (HL2.out.trans (HLR.out.mono HL2.out.size)) HB1.out.lt)) rfl (plC (0, 0)) rfl pl_info rfl (plC_one _) ?_; intro w6 h1 h2 h3; have HB6 := hide h1; have HG6 := hide h2; clear h1 h2 h3))
    refine ret_cell_tmp rfl w.heap.size 47 (plC (0, 0)) _ HB6.out rfl Tryz.underlying47 rfl pl_info (.int .i64 (E : Int)) rfl rfl ⟨rfl, ?_⟩
    have hz := HL1.out.trans ((HL2.out.trans (HLR.out.mono HL2.out.size)).mono HL1.out.size)
    exact hz.grown HG6.out hz.size (fun g e => by injection e with e; omega)
set_option maxRecDepth 100000 in
set_option maxHeartbeats 4000000 in
theorem par_any (w : World) (hx : XtIn w A n c X) (t0 : Int) (htl : I64In t0) :
    Calls Tryz.prog 16 #[.slice A n c, .int .i64 t0] w fun e w' => e = .returned (.tuple #[.agg (plC (parR X n t0)).toArray, .int .i64 (strE n t0 : Int)]) ∧ Below w.heap.size w w' := by
  have hXn := hx.length
  have hn : n ≤ 1000000 := by have := hx.few; omega
  by_cases he : strE n t0 = 0
  · obtain ⟨h2, h0, h8⟩ := strE_ok he
    obtain ⟨t, rfl⟩ : ∃ t : Nat, t0 = (t : Int) := ⟨t0.toNat, by omega⟩
    have ht8 : t < 8 := by omega
    have HR := hide (fun w => rowOf_ok (A := A) (c := c) hn he w)
    have hp : parR X n (t : Int) = plAt (strM X t) (strH n t) := by
      unfold parR
      rw [if_pos he, ← hXn]
      rfl
    obtain ⟨k, hk⟩ : ∃ k, k = strH n t := ⟨_, rfl⟩
    have hkn : k < n := by rw [hk]; exact strH_lt (by omega)
    have HP := hide (fun w => rpar_any (A := A) (c := c) t (show 0 < n by omega) hn ht8 w)
    rw [← hk] at hp HP
    obtain ⟨p, hpx⟩ : ∃ p, X[k]? = some p := ⟨X[k]'(by rw [hXn]; exact hkn), List.getElem?_eq_getElem _⟩
    have hpa : plAt (strM X t) k = (p.1, p.2 + (t : Int)) := by unfold plAt; rw [strM_at hpx]; rfl
    rw [hp, hpa, he]
    obtain ⟨pv, hpv⟩ : ∃ pv, pv = plC (p.1, p.2 + (t : Int)) := ⟨_, rfl⟩
    have HO := hide (fun (w' : World) (hb : Below w.heap.size w w') => by have := on_any (w := w') (c := c) ((hx.reads.later hb)) hpx hx.small hn ht8; rw [← hpv] at this; exact this)
    have HP1 := hide (show ∀ v ∈ pv, v.oneCell' = true by rw [hpv]; exact plC_one _)
    have HP2 := hide (show pv.length = 2 by rw [hpv]; rfl)
    have HR1 := hide (rowL_one A n c t)
    rw [← hpv]
    clear hp hpa hpv hpx hk hkn ht8 he h0 h8 hXn hx
    go_enter Tryz.func16, Tryz.ntmps16
    go_upto_region 4 with (first
      | ((with_reducible refine at_slot 4 ?_); refine wpList_alloc_blk rfl 47 rfl _ (pl_zero _) ?_; intro w1 h1 h2 h3; have HB1 : Hid (Blk w1 w.heap.size 47 (plC (0, 0)).toArray) := hide h1; have HL1 := hide h2; clear h1 h2 h3)
      | (go_at_call 50; refine (HR.out _).mono ?_; rintro _ w2 ⟨rfl, hl2q⟩; have HL2 := hide hl2q; clear hl2q)
      | ((with_reducible refine at_slot 6 ?_); refine wpList_alloc_blk rfl 90 rfl _ (row_zero _) ?_; intro w3 h1 h2 h3; have HB3 := hide h1; have HL3 := hide h2; clear h1 h2 h3)
      | ((with_reducible refine at_store 6 ?_); refine wpList_store_all rfl 90 (.tmp 6) (.tmp 12) rfl w2.heap.size 90 _ HB3.out rfl (rowL A n c t) rfl row_info rfl HR1.out ?_; intro w4 h1 h2 h3; have HRB := hide h1; have HLR := hide (show Below w2.heap.size w2 w4 from HL3.out.grown h2 HL3.out.size (fun g e => by injection e with e; subst e; exact Nat.le_refl _)); clear h1 h2 h3))
    obtain ⟨rb, hrb⟩ : ∃ rb, rb = w2.heap.size := ⟨_, rfl⟩
    rw [← hrb] at HRB ⊢
    have HZ := hide (show Below w.heap.size w w4 from HL1.out.trans ((HL2.out.trans (HLR.out.mono HL2.out.size)).mono HL1.out.size))
    have HQ1 := hide (HB1.out.below (HL2.out.trans (HLR.out.mono HL2.out.size)) HB1.out.lt)
    have HRW := hide (show w.heap.size < rb by rw [hrb]; exact Nat.lt_of_lt_of_le HB1.out.lt HL2.out.size)
    have HRS := hide (fun (W : World) (h : Blk W rb 90 (rowL A n c t).toArray) => show W.cell? ⟨rb, 0, none⟩ = some (.slice A n c) ∧ W.cell? ⟨rb, 1, none⟩ = some (.int .i64 (t : Int)) from ⟨(h.cell 0).trans rfl, (h.cell 1).trans rfl⟩)
    have Hz0 := hide (show Below w4.heap.size w4 w4.drew from (Below.refl _ _).drew)
    clear hrb HL2 HL3 HB3 HLR HL1 HB1

    refine wp_region_held_drew (S := (fun W => W.cell? ⟨rb, 0, none⟩ = some (.slice A n c) ∧ W.cell? ⟨rb, 1, none⟩ = some (.int .i64 (t : Int)))) (by kernel_rfl) ?_ (fun hHeld => ?_)
    · exact (HRS.out _ (HRB.out.below Hz0.out HRB.out.lt))
    refine heldTake (i := 0) (v := .agg (rowL A n c t).toArray) rfl (by kernel_rfl) (by kernel_rfl) (by kernel_rfl) (fun _ _ _ h => h) (Or.inl ⟨by rfl, fun V hV => ?_⟩) (by assumption) ?_
    · obtain ⟨e0, e1⟩ := hV
      go_simp
      try rfl
    try simp only [Act.put, List.setIfInBounds_toArray, List.set_cons_zero, List.set_cons_succ]
    refine heldTake (i := 1) (v := .agg (rowL A n c t).toArray) rfl (by kernel_rfl) (by kernel_rfl) (by kernel_rfl) (fun _ _ _ h => h) (Or.inl ⟨by rfl, fun V hV => ?_⟩) (by assumption) ?_
    · obtain ⟨e0, e1⟩ := hV
      go_simp
      try rfl
    try simp only [Act.put, List.setIfInBounds_toArray, List.set_cons_zero, List.set_cons_succ]
    refine wpAnyH_ready (rs := [2]) (by kernel_rfl) (by simp) ?_
    refine heldCons (i := 2) rfl (fun Kq hKq => ?_) AllReadyH.nil
    go_simp
    go_at_call 52
    refine (HP.out _).mono ?_
    rintro _ z1 ⟨rfl, hlq⟩
    have Hz1 := hide (Hz0.out.trans (hlq.mono Hz0.out.size))
    clear hlq
    first | (refine hKq.out _ _ (HRS.out _ (HRB.out.below Hz1.out HRB.out.lt)) (fun hHeld => ?_)) | (go_wp2_with fail; refine hKq.out _ _ (HRS.out _ (HRB.out.below Hz1.out HRB.out.lt)) (fun hHeld => ?_))
    clear hKq Kq
    try simp only [Act.put, List.setIfInBounds_toArray, List.set_cons_zero, List.set_cons_succ]
    refine wpAnyH_ready (rs := [3]) (by kernel_rfl) (by simp) ?_
    refine heldCons (i := 3) rfl (fun Kq hKq => ?_) AllReadyH.nil
    go_simp
    go_at_call 51
    refine (HO.out _ (HZ.out.trans (Hz1.out.mono HZ.out.size))).mono ?_
    rintro _ z2 ⟨rfl, hlq⟩
    have Hz2 := hide (Hz1.out.trans (hlq.mono Hz1.out.size))
    clear hlq
    first | (refine hKq.out _ _ (HRS.out _ (HRB.out.below Hz2.out HRB.out.lt)) (fun hHeld => ?_)) | (go_wp2_with fail; refine hKq.out _ _ (HRS.out _ (HRB.out.below Hz2.out HRB.out.lt)) (fun hHeld => ?_))
    clear hKq Kq
    try simp only [Act.put, List.setIfInBounds_toArray, List.set_cons_zero, List.set_cons_succ]
    refine wpAnyH_ready (rs := [4]) (by kernel_rfl) (by simp) ?_
    refine heldCons (i := 4) rfl (fun Kq hKq => ?_) AllReadyH.nil
    refine step_store_blk rfl 47 (.tmp 4) (.tmp 21) rfl w.heap.size 0 47 _ (HQ1.out.below Hz2.out HQ1.out.lt) rfl pv rfl (by rw [HP2.out]; exact pl_info) (by rw [HP2.out]; decide) HP1.out ?_
    intro z3 hb7q hg7 hs7
    have HB7 : Hid (Blk z3 w.heap.size 47 pv.toArray) := hide (by
      rw [List.take_zero, List.nil_append, HP2.out, List.drop_of_length_le (by decide), List.append_nil] at hb7q
      exact hb7q)
    have HG7 := hide hg7
    refine hKq.out _ _ (HRS.out _ ((HRB.out.below Hz2.out HRB.out.lt).grown hg7 (fun e => by injection e with e; have := HRW.out; omega))) (fun hHeld => ?_)
    clear hKq Kq
    try simp only [Act.put]
    refine heldTake (i := 5) (v := ?_) rfl (by kernel_rfl) (by kernel_rfl) (by kernel_rfl) (fun _ _ _ h => h) (Or.inl ⟨by rfl, ?_⟩) (by assumption) ?_
    rotate_left
    · intro w hSw; (try dsimp only at hSw); go_simp <;> (with_reducible rfl)
    try simp only [Act.put, List.setIfInBounds_toArray, List.set_cons_zero, List.set_cons_succ]
    refine wpAnyH_done (by kernel_rfl) ?_ _
    go_wp2_with fail
    refine ret_cell_tmp rfl w.heap.size 47 pv _ HB7.out rfl Tryz.underlying47 rfl (by rw [HP2.out]; exact pl_info) (.int .i64 0) rfl rfl ⟨rfl, ?_⟩
    have hz := HZ.out.trans (Hz2.out.mono HZ.out.size)
    exact hz.grown HG7.out hz.size (fun g e => by injection e with e; omega)
  · obtain ⟨E, hE⟩ : ∃ E, strE n t0 = E := ⟨_, rfl⟩
    have hE0 : E ≠ 0 := by rw [← hE]; exact he
    have HR := hide (fun w => rowOf_bad (A := A) (c := c) hn hE hE0 w)
    have hp : parR X n t0 = (0, 0) := by unfold parR; rw [if_neg he]
    obtain ⟨hn1, hn2⟩ := notNil hE0
    rw [hp, hE]
    clear he hE hE0 hp hx hXn
    go_enter Tryz.func16, Tryz.ntmps16
    go_wp2_with (first
      | ((with_reducible refine at_slot 4 ?_); refine wpList_alloc_blk rfl 47 rfl _ (pl_zero _) ?_; intro w1 h1 h2 h3; have HB1 : Hid (Blk w1 w.heap.size 47 (plC (0, 0)).toArray) := hide h1; have HL1 := hide h2; clear h1 h2 h3)
      | (go_at_call 50; refine (HR.out _).mono ?_; rintro _ w2 ⟨rfl, hl2q⟩; have HL2 := hide hl2q; clear hl2q)
      | ((with_reducible refine at_slot 6 ?_); refine wpList_alloc_blk rfl 90 rfl _ (row_zero _) ?_; intro w3 h1 h2 h3; have HB3 := hide h1; have HL3 := hide h2; clear h1 h2 h3)
      | ((with_reducible refine at_store 6 ?_); refine wpList_store_all rfl 90 (.tmp 6) (.tmp 12) rfl w2.heap.size 90 _ HB3.out rfl [.slice none 0 0, .int .i64 0] rfl row_info rfl rowZ_one ?_; intro w4 h1 h2 h3; have HRB := hide h1; have HLR := hide (show Below w2.heap.size w2 w4 from HL3.out.grown h2 HL3.out.size (fun g e => by injection e with e; subst e; exact Nat.le_refl _)); clear h1 h2 h3)
      | ((with_reducible refine at_slot 16 ?_); refine wpList_build_is rfl 47 #[] rfl [] (by simp) _ (show _ = some (plC (0, 0)).toArray by kernel_rfl) ?_)
      | ((with_reducible refine at_store 4 ?_); refine wpList_store_all rfl 47 (.tmp 4) (.tmp 16) rfl w.heap.size 47 _ ((HB1.out.below (HL2.out.trans (HLR.out.mono HL2.out.size)) HB1.out.lt)) rfl (plC (0, 0)) rfl pl_info rfl (plC_one _) ?_; intro w6 h1 h2 h3; have HB6 := hide h1; have HG6 := hide h2; clear h1 h2 h3))
    refine ret_cell_tmp rfl w.heap.size 47 (plC (0, 0)) _ HB6.out rfl Tryz.underlying47 rfl pl_info (.int .i64 (E : Int)) rfl rfl ⟨rfl, ?_⟩
    have hz := HL1.out.trans ((HL2.out.trans (HLR.out.mono HL2.out.size)).mono HL1.out.size)
    exact hz.grown HG6.out hz.size (fun g e => by injection e with e; omega)
/-- Places handed back. -/
def PlAns (L : List PlI) (E : Nat) (w : World) (e : Ending) (w' : World) : Prop := ∃ A' m c', e = .returned (.tuple #[.slice A' m c', .int .i64 (E : Int)]) ∧ Reads w' w'.heap.size 2 A' m (plsL L) ∧ m ≤ c' ∧ c' ≤ 9223372036854775807 ∧ Below w.heap.size w w'
theorem plAns_of {L : List PlI} {w w' : World} {v : Value} {B : Nat} (ho : w'.ownsRow B 47 2 v L.length (plsL L)) (hb : Below w.heap.size w w') : PlAns L 0 w (.returned (.tuple #[v, .int .i64 0])) w' := by
  obtain ⟨A', c', rfl, h1, h2⟩ := own_shape ho
  exact ⟨A', L.length, c', rfl, Reads.of_own ho, h1, by simpa [maxLen] using h2, hb⟩

set_option maxRecDepth 100000 in
set_option maxHeartbeats 4000000 in
theorem zmates_any (w : World) (hx : XtIn w A n c X) (slot : Int) (hsl : I64In slot) :
    Calls Tryz.prog 18 #[.slice A n c, .int .i64 slot] w (PlAns (matesR X n slot) (homeE n slot) w) := by
  have hXn := hx.length
  have hn : n ≤ 1000000 := by have := hx.few; omega
  by_cases he : homeE n slot = 0
  · obtain ⟨h2, h0, h8⟩ := homeE_ok he
    obtain ⟨s, rfl⟩ : ∃ s : Nat, slot = (s : Int) := ⟨slot.toNat, by omega⟩
    have hs8 : s < slotsN n := by omega
    have HR := hide (fun w => rowSlot_ok (A := A) (c := c) hn he hsl w)
    have ht8 : s / (n - 1) < 8 := by
      refine (Nat.div_lt_iff_lt_mul (by omega)).2 ?_
      unfold slotsN at hs8
      exact hs8
    have hp : matesR X n (s : Int) = butTo (strM X (s / (n - 1))) [(kOf n s : Int), (strH n (s / (n - 1)) : Int)] n ++ [plAt (strM X (s / (n - 1))) (strH n (s / (n - 1)))] := by
      unfold matesR
      rw [if_pos he, ← hXn]
      exact matesP_at (by omega) (by rw [hXn]; exact hs8)
    obtain ⟨t, ht⟩ : ∃ t, t = s / (n - 1) := ⟨_, rfl⟩
    obtain ⟨k, hk⟩ : ∃ k, k = kOf n s := ⟨_, rfl⟩
    rw [← ht] at ht8 hp HR
    rw [← hk] at hp HR
    have HLE := hide (show (butTo (strM X t) [(k : Int), (strH n t : Int)] n ++ [plAt (strM X t) (strH n t)]).length ≤ 1000 by rw [List.length_append]; have := butTo_len (strM X t) [(k : Int), (strH n t : Int)] n; have := hx.few; simp only [List.length_cons, List.length_nil]; omega)
    have HSQ := hide (fun (br bk : Nat) => mates_seq (Br := br) (Bk := bk) (A := A) (c := c) (k := k) hXn hn h2 hx.small ht8)
    rw [hp, he]
    obtain ⟨L, hL⟩ : ∃ L, L = butTo (strM X t) [(k : Int), (strH n t : Int)] n ++ [plAt (strM X t) (strH n t)] := ⟨_, rfl⟩
    rw [← hL] at HLE HSQ ⊢
    have HXR := hide hx.reads
    have HR1 := hide (rowL_one A n c t)
    clear hp hL hk ht ht8 hs8 he h0 h8 hXn hx
    go_enter Tryz.func18, Tryz.ntmps18
    go_upto_region 4 with (first
      | (go_at_call 53; refine (HR.out _).mono ?_; rintro _ w2 ⟨rfl, hl2q⟩; have HL2 := hide hl2q; clear hl2q)
      | ((with_reducible refine at_slot 6 ?_); refine wpList_alloc_blk rfl 90 rfl _ (row_zero _) ?_; intro w3 h1 h2 h3; have HB3 := hide h1; have HL3 := hide h2; clear h1 h2 h3)
      | ((with_reducible refine at_store 6 ?_); refine wpList_store_all rfl 90 (.tmp 6) (.tmp 13) rfl w2.heap.size 90 _ HB3.out rfl (rowL A n c t) rfl row_info rfl HR1.out ?_; intro w4 h1 h2 h3; have HRB := hide h1; have HLR := hide (show Below w2.heap.size w2 w4 from HL3.out.grown h2 HL3.out.size (fun g e => by injection e with e; subst e; exact Nat.le_refl _)); clear h1 h2 h3))
    obtain ⟨rb, hrb⟩ : ∃ rb, rb = w2.heap.size := ⟨_, rfl⟩
    rw [← hrb] at HRB ⊢
    have HZ := hide (show Below w.heap.size w w4 from HL2.out.trans (HLR.out.mono HL2.out.size))
    have HRS := hide (fun (W : World) (h : Blk W rb 90 (rowL A n c t).toArray) => show W.cell? ⟨rb, 0, none⟩ = some (.slice A n c) ∧ W.cell? ⟨rb, 1, none⟩ = some (.int .i64 (t : Int)) from ⟨(h.cell 0).trans rfl, (h.cell 1).trans rfl⟩)
    have Hz0 := hide (show Below w4.heap.size w4 w4.drew from (Below.refl _ _).drew)
    clear hrb HL2 HL3 HB3 HLR

    go_wp2_with (first
      | ((with_reducible refine at_slot 19 ?_); refine wpList_load_blk rfl 90 _ rfl rb 0 90 _ HRB.out rfl (rowL A n c t) _ (fun j v hj => by rw [Nat.zero_add]; simpa using hj) Tryz.underlying90 rfl row_info ?_)
      | (go_at_call 55; refine (mates_make A n c t k _).mono ?_; rintro _ z3 ⟨rfl, hb1, hb2, hl4, hs4⟩; have Hz3 := hide hl4; have HBD := hide (show MatD _ _ A n c t X k z3 from ⟨hb1, hb2, HXR.out.later (HZ.out.trans (hl4.mono HZ.out.size))⟩); clear hb1 hb2 hl4 hs4)
      | (go_at_call 54; refine (collect_any (HSQ.out _ _) HLE.out _ HBD.out).mono ?_; rintro _ z4 ⟨v, rfl, hov, hl5⟩; have Hz4 := hide (Hz3.out.trans (hl5.mono Hz3.out.size)); have HOV := hide hov; clear hov hl5))
    go_ret2
    exact plAns_of HOV.out (HZ.out.trans (Hz4.out.mono HZ.out.size))
  · obtain ⟨E, hE⟩ : ∃ E, homeE n slot = E := ⟨_, rfl⟩
    have hE0 : E ≠ 0 := by rw [← hE]; exact he
    have HR := hide (fun w => rowSlot_bad (A := A) (c := c) hn hE hE0 hsl w)
    have hp : matesR X n slot = [] := by unfold matesR; rw [if_neg he]
    obtain ⟨hn1, hn2⟩ := notNil hE0
    rw [hp, hE]
    clear he hE hE0 hp hx hXn
    go_enter Tryz.func18, Tryz.ntmps18
    go_wp2_with (first
      | (go_at_call 53; refine (HR.out _).mono ?_; rintro _ w2 ⟨rfl, hl2q⟩; have HL2 := hide hl2q; clear hl2q)
      | ((with_reducible refine at_slot 6 ?_); refine wpList_alloc_blk rfl 90 rfl _ (row_zero _) ?_; intro w3 h1 h2 h3; have HB3 := hide h1; have HL3 := hide h2; clear h1 h2 h3)
      | ((with_reducible refine at_store 6 ?_); refine wpList_store_all rfl 90 (.tmp 6) (.tmp 13) rfl w2.heap.size 90 _ HB3.out rfl [.slice none 0 0, .int .i64 0] rfl row_info rfl rowZ_one ?_; intro w4 h1 h2 h3; have HRB := hide h1; have HLR := hide (show Below w2.heap.size w2 w4 from HL3.out.grown h2 HL3.out.size (fun g e => by injection e with e; subst e; exact Nat.le_refl _)); clear h1 h2 h3))
    go_ret2
    exact ⟨none, 0, 0, rfl, ⟨rfl, fun h => absurd h (by decide)⟩, Nat.le_refl _, by decide, HL2.out.trans (HLR.out.mono HL2.out.size)⟩
end
end Go.Proofs.YtmjjnbabfldbcaaGreat
namespace Go.Proofs.YtmjjnbabfldbcaaGreat
open Go.RowKit
set_option linter.unusedVariables false
theorem wpList_ints1 {ops : Array Oper} {rest : List Oper} {o : Oper} {a : Act} {w : World} {Q : Exit → Act → World → Prop} (hgd : o.guard = none) (x : Operand) (ho : o.op = .buildSlice 132 1 #[(0, x)]) (i : Int) (hx : a.eval x = .int .i64 i)
    (h : wpList Tryz.prog ops Q rest (a.put o.dst (.slice (some ⟨w.heap.size, 0, none⟩) 1 1)) (w.alloc (.cells #[.int .i64 i] 3))) : wpList Tryz.prog ops Q (o :: rest) a w :=
  wpList_plain hgd fun _ hK => by
    have hrun : (Instr.buildSlice 132 1 #[(0, .int .i64 i)]).run Tryz.prog w = .ok (.slice (some ⟨w.heap.size, 0, none⟩) 1 1) (w.alloc (.cells #[.int .i64 i] 3)) := by kernel_rfl
    unfold Oper.wp
    simp [execOp, ho, hx, hrun, Result.andThen]
    exact hK _ _ h
section
variable {A : Option Addr} {n c : Nat} {X : List PlI} {b : Nat} {F : Nat → Prop} {S : Bank}
set_option maxRecDepth 100000 in
set_option maxHeartbeats 4000000 in
theorem zrebuilt_any (w : World) (hB : BankOn w b F S) (hx : XtIn w A n c X) (k0 t0 : Int) (hkl : I64In k0) (htl : I64In t0) :
    Calls Tryz.prog 28 #[.pointer (some ⟨b, 0, none⟩), .slice A n c, .int .i64 k0, .int .i64 t0] w fun e w' => e = .returned (.tuple #[secV (S.srebuilt X k0 t0).1, .int .i64 ((S.srebuilt X k0 t0).2 : Int)]) ∧ Below w.heap.size w w' := by
  have hXn := hx.length
  have hn : n ≤ 1000000 := by have := hx.few; omega
  by_cases h0 : k0 < 0
  · have hs : S.srebuilt X k0 t0 = (zeroSec, 1) := by unfold Bank.srebuilt rebuiltE; rw [if_pos (show X.length < 2 ∨ k0 < 0 ∨ (X.length : Int) ≤ k0 from .inr (.inl h0))]; rfl
    rw [hs]
    clear hs hx hB hXn
    go_enter Tryz.func28, Tryz.ntmps28
    go_wp2_with (first
      | ((with_reducible refine at_slot 8 ?_); refine wpList_alloc_blk rfl 43 rfl _ (psec_nought _) ?_; intro w1 h1 h2 h3; have HB1 : Hid (Blk w1 w.heap.size 43 (B8 zeroL).toArray) := hide h1; have HL1 := hide h2; clear h1 h2 h3)
      | ((with_reducible refine at_slot 20 ?_); refine wpList_build_is rfl 43 #[] rfl [] (by simp) _ psec_built ?_)
      | ((with_reducible refine at_store 8 ?_); refine wpList_store_all rfl 43 (.tmp 8) (.tmp 20) rfl w.heap.size 43 _ HB1.out rfl (B8 zeroL) rfl psec_info rfl (B8_one _) ?_; intro w6 h1 h2 h3; have HB6 := hide h1; have HG6 := hide h2; clear h1 h2 h3))
    refine ret_cell_tmp rfl w.heap.size 43 (B8 zeroL) _ HB6.out rfl Tryz.underlying43 rfl psec_info (.int .i64 1) rfl rfl ⟨rfl, ?_⟩
    exact HL1.out.grown HG6.out HL1.out.size (fun g e => by injection e with e; omega)
  by_cases h1 : (n : Int) ≤ k0
  · have hs : S.srebuilt X k0 t0 = (zeroSec, 1) := by unfold Bank.srebuilt rebuiltE; rw [if_pos (show X.length < 2 ∨ k0 < 0 ∨ (X.length : Int) ≤ k0 from .inr (.inr (by rw [hXn]; exact h1)))]; rfl
    have h1' : k0 ≥ (n : Int) := h1
    rw [hs]
    clear hs hx hB hXn
    go_enter Tryz.func28, Tryz.ntmps28
    go_wp2_with (first
      | ((with_reducible refine at_slot 8 ?_); refine wpList_alloc_blk rfl 43 rfl _ (psec_nought _) ?_; intro w1 h1 h2 h3; have HB1 : Hid (Blk w1 w.heap.size 43 (B8 zeroL).toArray) := hide h1; have HL1 := hide h2; clear h1 h2 h3)
      | ((with_reducible refine at_slot 20 ?_); refine wpList_build_is rfl 43 #[] rfl [] (by simp) _ psec_built ?_)
      | ((with_reducible refine at_store 8 ?_); refine wpList_store_all rfl 43 (.tmp 8) (.tmp 20) rfl w.heap.size 43 _ HB1.out rfl (B8 zeroL) rfl psec_info rfl (B8_one _) ?_; intro w6 h1 h2 h3; have HB6 := hide h1; have HG6 := hide h2; clear h1 h2 h3))
    refine ret_cell_tmp rfl w.heap.size 43 (B8 zeroL) _ HB6.out rfl Tryz.underlying43 rfl psec_info (.int .i64 1) rfl rfl ⟨rfl, ?_⟩
    exact HL1.out.grown HG6.out HL1.out.size (fun g e => by injection e with e; omega)
  obtain ⟨k, rfl⟩ : ∃ k : Nat, k0 = (k : Int) := ⟨k0.toNat, by omega⟩
  have hkn : k < n := by omega
  have h0' : ¬ (k : Int) < 0 := h0
  have h1' : ¬ (k : Int) ≥ (n : Int) := h1
  have hre : rebuiltE X.length (k : Int) t0 = strE n t0 := by
    unfold rebuiltE strE
    rw [hXn]
    by_cases h2 : n < 2
    · rw [if_pos (.inl h2), if_pos h2]
    · rw [if_neg (by omega), if_neg h2]
  by_cases he : strE n t0 = 0
  · obtain ⟨h2, h00, h8⟩ := strE_ok he
    obtain ⟨t, rfl⟩ : ∃ t : Nat, t0 = (t : Int) := ⟨t0.toNat, by omega⟩
    have ht8 : t < 8 := by omega
    have HR := hide (fun w => rowOf_ok (A := A) (c := c) hn he w)
    have hs : S.srebuilt X (k : Int) (t : Int) = S.stog (butTo (strM X t) [(k : Int)] n) := by
      unfold Bank.srebuilt Bank.stog
      rw [hre, he, ← hXn, but_one (by omega)]
      rfl
    have HLE := hide (show (butTo (strM X t) [(k : Int)] n).length ≤ 1000 from Nat.le_trans (butTo_len _ _ n) (by have := hx.few; omega))
    have HSQ := hide (fun (br bt : Nat) (a2 : Option Addr) => but_seq (Br := br) (Bt := bt) (A := A) (c := c) (A2 := a2) (m := 1) (c2 := 1) (L := [(k : Int)]) hXn hn (by decide) hx.small ht8)
    rw [hs]
    obtain ⟨L, hL⟩ : ∃ L, L = butTo (strM X t) [(k : Int)] n := ⟨_, rfl⟩
    rw [← hL] at HLE HSQ ⊢
    obtain ⟨sl, hsl⟩ : ∃ sl, sl = secL (S.stog L).1 := ⟨_, rfl⟩
    obtain ⟨E, hE⟩ : ∃ E, E = (S.stog L).2 := ⟨_, rfl⟩
    have HTV := hide (show (Value.tuple #[secV (S.stog L).1, .int .i64 ((S.stog L).2 : Int)]) = .tuple #[.agg sl.toArray, .int .i64 (E : Int)] by rw [hsl, hE]; rfl)
    rw [HTV.out]
    have HS1 := hide (show ∀ v ∈ sl, v.oneCell' = true by rw [hsl]; exact secL_one _)
    have HS2 := hide (show sl.length = 64 by rw [hsl]; exact secL_length _)
    have HXR := hide hx.reads
    have HBK := hide hB
    have HR1 := hide (rowL_one A n c t)
    clear hs hL hsl hE ht8 he h00 h8 hXn hx hB hre
    go_enter Tryz.func28, Tryz.ntmps28
    go_upto_region 6 with (first
      | ((with_reducible refine at_slot 8 ?_); refine wpList_alloc_blk rfl 43 rfl _ (psec_nought _) ?_; intro w1 h1 h2 h3; have HB1 : Hid (Blk w1 w.heap.size 43 (B8 zeroL).toArray) := hide h1; have HL1 := hide h2; clear h1 h2 h3)
      | (go_at_call 50; refine (HR.out _).mono ?_; rintro _ w2 ⟨rfl, hl2q⟩; have HL2 := hide hl2q; clear hl2q)
      | ((with_reducible refine at_slot 10 ?_); refine wpList_alloc_blk rfl 90 rfl _ (row_zero _) ?_; intro w3 h1 h2 h3; have HB3 := hide h1; have HL3 := hide h2; clear h1 h2 h3)
      | ((with_reducible refine at_store 10 ?_); refine wpList_store_all rfl 90 (.tmp 10) (.tmp 25) rfl w2.heap.size 90 _ HB3.out rfl (rowL A n c t) rfl row_info rfl HR1.out ?_; intro w4 h1 h2 h3; have HRB := hide h1; have HLR := hide (show Below w2.heap.size w2 w4 from HL3.out.grown h2 HL3.out.size (fun g e => by injection e with e; subst e; exact Nat.le_refl _)); clear h1 h2 h3))
    obtain ⟨rb, hrb⟩ : ∃ rb, rb = w2.heap.size := ⟨_, rfl⟩
    rw [← hrb] at HRB ⊢
    have HZ := hide (show Below w.heap.size w w4 from HL1.out.trans ((HL2.out.trans (HLR.out.mono HL2.out.size)).mono HL1.out.size))
    have HQ1 := hide (HB1.out.below (HL2.out.trans (HLR.out.mono HL2.out.size)) HB1.out.lt)
    have HRW := hide (show w.heap.size < rb by rw [hrb]; exact Nat.lt_of_lt_of_le HB1.out.lt HL2.out.size)
    have HRS := hide (fun (W : World) (h : Blk W rb 90 (rowL A n c t).toArray) => show W.cell? ⟨rb, 0, none⟩ = some (.slice A n c) ∧ W.cell? ⟨rb, 1, none⟩ = some (.int .i64 (t : Int)) from ⟨(h.cell 0).trans rfl, (h.cell 1).trans rfl⟩)
    have Hz0 := hide (show Below w4.heap.size w4 w4.drew from (Below.refl _ _).drew)
    clear hrb HL2 HL3 HB3 HLR HL1 HB1

    go_wp2_with (first
      | ((with_reducible refine at_slot 32 ?_); refine wpList_load_blk rfl 90 _ rfl rb 0 90 _ HRB.out rfl (rowL A n c t) _ (fun j v hj => by rw [Nat.zero_add]; simpa using hj) Tryz.underlying90 rfl row_info ?_)
      | ((with_reducible refine at_slot 34 ?_); refine wpList_ints1 rfl (.tmp 33) rfl (k : Int) rfl ?_; have Hz1 := hide (show Below w4.heap.size w4 (w4.alloc (.cells #[.int .i64 (k : Int)] 3)) from (Below.refl _ w4).alloc (Nat.le_refl _) _); have HI2 := hide (Blk.new w4 3 #[.int .i64 (k : Int)]))
      | (go_at_call 56; refine (but_make A n c t (some ⟨w4.heap.size, 0, none⟩) 1 1 _).mono ?_; rintro _ z3 ⟨rfl, hb1, hb2, hl4, hs4⟩
         have Hz3 := hide (Hz1.out.trans (hl4.mono Hz1.out.size))
         rw [World.size_alloc] at hb1 hb2
         have HBD := hide (show ButD (w4.heap.size + 1) (w4.heap.size + 1 + 1) A n c t X (some ⟨w4.heap.size, 0, none⟩) 1 1 [(k : Int)] z3 from
           ⟨hb1, hb2, (HXR.out.later (HZ.out.trans (Hz3.out.mono HZ.out.size))), ⟨rfl, fun _ => ⟨_, rfl, (HI2.out.below hl4 HI2.out.lt).lt, fun j v hj => blk_at (cs := [.int .i64 (k : Int)]) (HI2.out.below hl4 HI2.out.lt) j v hj⟩⟩⟩)
         clear hb1 hb2 hl4 hs4)
      | (go_at_call 62; refine (sgather_any (HSQ.out _ _ _) HLE.out _ HBD.out (HBK.out.later (HZ.out.trans (Hz3.out.mono HZ.out.size)))).mono ?_; rw [HTV.out]; rintro _ z4 ⟨rfl, hl5⟩; have Hz4 := hide (Hz3.out.trans (hl5.mono Hz3.out.size)); clear hl5)
      | ((with_reducible refine at_store 8 ?_); refine wpList_store_all rfl 43 (.tmp 8) (.tmp 37) rfl w.heap.size 43 _ (HQ1.out.below Hz4.out HQ1.out.lt) rfl sl rfl (by rw [HS2.out]; exact psec_info) (by rw [HS2.out]; decide) HS1.out ?_; intro w6 h1 h2 h3; have HB6 := hide h1; have HG6 := hide h2; clear h1 h2 h3))
    refine ret_cell_tmp rfl w.heap.size 43 sl _ HB6.out rfl Tryz.underlying43 rfl (by rw [HS2.out]; exact psec_info) (.int .i64 (E : Int)) rfl rfl ⟨rfl, ?_⟩
    have hz := HZ.out.trans (Hz4.out.mono HZ.out.size)
    exact hz.grown HG6.out hz.size (fun g e => by injection e with e; omega)
  · obtain ⟨E, hE⟩ : ∃ E, strE n t0 = E := ⟨_, rfl⟩
    have hE0 : E ≠ 0 := by rw [← hE]; exact he
    have HR := hide (fun w => rowOf_bad (A := A) (c := c) hn hE hE0 w)
    have hs : S.srebuilt X (k : Int) t0 = (zeroSec, E) := by unfold Bank.srebuilt; rw [hre, hE, if_neg hE0]
    obtain ⟨hn1, hn2⟩ := notNil hE0
    rw [hs]
    clear he hE hE0 hs hx hXn hre hB
    go_enter Tryz.func28, Tryz.ntmps28
    go_wp2_with (first
      | ((with_reducible refine at_slot 8 ?_); refine wpList_alloc_blk rfl 43 rfl _ (psec_nought _) ?_; intro w1 h1 h2 h3; have HB1 : Hid (Blk w1 w.heap.size 43 (B8 zeroL).toArray) := hide h1; have HL1 := hide h2; clear h1 h2 h3)
      | (go_at_call 50; refine (HR.out _).mono ?_; rintro _ w2 ⟨rfl, hl2q⟩; have HL2 := hide hl2q; clear hl2q)
      | ((with_reducible refine at_slot 10 ?_); refine wpList_alloc_blk rfl 90 rfl _ (row_zero _) ?_; intro w3 h1 h2 h3; have HB3 := hide h1; have HL3 := hide h2; clear h1 h2 h3)
      | ((with_reducible refine at_store 10 ?_); refine wpList_store_all rfl 90 (.tmp 10) (.tmp 25) rfl w2.heap.size 90 _ HB3.out rfl [.slice none 0 0, .int .i64 0] rfl row_info rfl rowZ_one ?_; intro w4 h1 h2 h3; have HRB := hide h1; have HLR := hide (show Below w2.heap.size w2 w4 from HL3.out.grown h2 HL3.out.size (fun g e => by injection e with e; subst e; exact Nat.le_refl _)); clear h1 h2 h3)
      | ((with_reducible refine at_slot 29 ?_); refine wpList_build_is rfl 43 #[] rfl [] (by simp) _ psec_built ?_)
      | ((with_reducible refine at_store 8 ?_); refine wpList_store_all rfl 43 (.tmp 8) (.tmp 29) rfl w.heap.size 43 _ ((HB1.out.below (HL2.out.trans (HLR.out.mono HL2.out.size)) HB1.out.lt)) rfl (B8 zeroL) rfl psec_info rfl (B8_one _) ?_; intro w6 h1 h2 h3; have HB6 := hide h1; have HG6 := hide h2; clear h1 h2 h3))
    refine ret_cell_tmp rfl w.heap.size 43 (B8 zeroL) _ HB6.out rfl Tryz.underlying43 rfl psec_info (.int .i64 (E : Int)) rfl rfl ⟨rfl, ?_⟩
    have hz := HL1.out.trans ((HL2.out.trans (HLR.out.mono HL2.out.size)).mono HL1.out.size)
    exact hz.grown HG6.out hz.size (fun g e => by injection e with e; omega)
set_option maxRecDepth 100000 in
set_option maxHeartbeats 4000000 in
theorem zread_any (w : World) (hB : BankOn w b F S) (hx : XtIn w A n c X) (slot : Int) (hsl : I64In slot) :
    Calls Tryz.prog 22 #[.pointer (some ⟨b, 0, none⟩), .slice A n c, .int .i64 slot] w fun e w' => e = .returned (.tuple #[secV (S.sread X slot).1, .int .i64 ((S.sread X slot).2 : Int)]) ∧ Below w.heap.size w w' := by
  have hXn := hx.length
  have hn : n ≤ 1000000 := by have := hx.few; omega
  by_cases he : homeE n slot = 0
  · obtain ⟨h2, h0, h8⟩ := homeE_ok he
    obtain ⟨s, rfl⟩ : ∃ s : Nat, slot = (s : Int) := ⟨slot.toNat, by omega⟩
    have hs8 : s < slotsN n := by omega
    have HR := hide (fun w => rowSlot_ok (A := A) (c := c) hn he hsl w)
    have ht8 : s / (n - 1) < 8 := by
      refine (Nat.div_lt_iff_lt_mul (by omega)).2 ?_
      unfold slotsN at hs8
      exact hs8
    have hkn := kOf_lt (n := n) (s := s) h2
    have hhp : homeP X s = plAt (strM X (s / (n - 1))) (kOf n s) := by rw [← hXn]; exact zHome_at (by omega)
    have hmp : matesP X s = butTo (strM X (s / (n - 1))) [(kOf n s : Int), (strH n (s / (n - 1)) : Int)] n ++ [plAt (strM X (s / (n - 1))) (strH n (s / (n - 1)))] := by rw [← hXn]; exact matesP_at (by omega) (by rw [hXn]; exact hs8)
    have hsr : S.sread X (s : Int) = if lostB (S.placeP (homeP X s)) = true then S.stog (matesP X s) else (S.readP (homeP X s), S.placeP (homeP X s)) := by
      unfold Bank.sread Bank.stog
      rw [hXn, if_pos he]
      rfl
    obtain ⟨t, ht⟩ : ∃ t, t = s / (n - 1) := ⟨_, rfl⟩
    obtain ⟨k, hk⟩ : ∃ k, k = kOf n s := ⟨_, rfl⟩
    rw [← ht] at ht8 hhp hmp HR
    rw [← hk] at hhp hmp HR hkn
    have HLE := hide (show (butTo (strM X t) [(k : Int), (strH n t : Int)] n ++ [plAt (strM X t) (strH n t)]).length ≤ 1000 by rw [List.length_append]; have := butTo_len (strM X t) [(k : Int), (strH n t : Int)] n; have := hx.few; simp only [List.length_cons, List.length_nil]; omega)
    have HSQ := hide (fun (br bk : Nat) => mates_seq (Br := br) (Bk := bk) (A := A) (c := c) (k := k) hXn hn h2 hx.small ht8)
    obtain ⟨p, hpx⟩ : ∃ p, X[k]? = some p := ⟨X[k]'(by rw [hXn]; exact hkn), List.getElem?_eq_getElem _⟩
    have hpa : plAt (strM X t) k = (p.1, p.2 + (t : Int)) := by unfold plAt; rw [strM_at hpx]; rfl
    have HO := hide (fun (w' : World) (hb : Below w.heap.size w w') => on_any (w := w') (c := c) ((hx.reads.later hb)) hpx hx.small hn ht8)
    obtain ⟨L, hL⟩ : ∃ L, L = butTo (strM X t) [(k : Int), (strH n t : Int)] n ++ [plAt (strM X t) (strH n t)] := ⟨_, rfl⟩
    rw [← hL] at HLE HSQ hmp
    rw [hsr, hhp, hmp, hpa]
    obtain ⟨xd, hxd⟩ : ∃ xd, xd = p.1 := ⟨_, rfl⟩
    obtain ⟨xk, hxk⟩ : ∃ xk, xk = p.2 + (t : Int) := ⟨_, rfl⟩
    rw [← hxd, ← hxk] at HO ⊢
    obtain ⟨E, hE⟩ : ∃ E, E = S.placeP (xd, xk) := ⟨_, rfl⟩
    obtain ⟨q, hq⟩ : ∃ q, q = S.readP (xd, xk) := ⟨_, rfl⟩
    have HRV := hide (show readV S (nI xd) (nI xk) = .tuple #[.agg (secL q).toArray, .int .i64 (E : Int)] by rw [hE, hq]; rfl)
    rw [← hE, ← hq]
    have HQ2 := hide (secL_one q)
    have HQ3 := hide (secL_length q)
    have HXR := hide hx.reads
    have HBK := hide hB
    have HR1 := hide (rowL_one A n c t)
    have HLO := hide (fun w => slost_any E w)
    have HRD := hide (fun (w' : World) (hb : Below w.heap.size w w') => show Calls Tryz.prog 13 #[.pointer (some ⟨b, 0, none⟩), .agg (plC (xd, xk)).toArray] w' fun e w'' => e = .returned (.tuple #[.agg (secL q).toArray, .int .i64 (E : Int)]) ∧ Below w'.heap.size w' w'' by rw [← HRV.out]; exact onI_read (HBK.out.later hb) xd xk)
    clear hsr hhp hmp hpa hL hxd hxk hE hq hpx hk ht ht8 hs8 he h0 h8 hXn hx hB hkn
    by_cases hle : lostB E = true
    · rw [hle] at HLO
      rw [if_pos hle]
      obtain ⟨sl, hsl2⟩ : ∃ sl, sl = secL (S.stog L).1 := ⟨_, rfl⟩
      obtain ⟨E2, hE2⟩ : ∃ E2, E2 = (S.stog L).2 := ⟨_, rfl⟩
      have HTV := hide (show (Value.tuple #[secV (S.stog L).1, .int .i64 ((S.stog L).2 : Int)]) = .tuple #[.agg sl.toArray, .int .i64 (E2 : Int)] by rw [hsl2, hE2]; rfl)
      rw [HTV.out]
      have HS1 := hide (show ∀ v ∈ sl, v.oneCell' = true by rw [hsl2]; exact secL_one _)
      have HS2 := hide (show sl.length = 64 by rw [hsl2]; exact secL_length _)
      clear hle hsl2 hE2
      go_enter Tryz.func22, Tryz.ntmps22
      go_upto_region 4 with (first
        | ((with_reducible refine at_slot 6 ?_); refine wpList_alloc_blk rfl 43 rfl _ (psec_nought _) ?_; intro w1 h1 h2 h3; have HB1 : Hid (Blk w1 w.heap.size 43 (B8 zeroL).toArray) := hide h1; have HL1 := hide h2; clear h1 h2 h3)
        | (go_at_call 53; refine (HR.out _).mono ?_; rintro _ w2 ⟨rfl, hl2q⟩; have HL2 := hide hl2q; clear hl2q)
        | ((with_reducible refine at_slot 8 ?_); refine wpList_alloc_blk rfl 90 rfl _ (row_zero _) ?_; intro w3 h1 h2 h3; have HB3 := hide h1; have HL3 := hide h2; clear h1 h2 h3)
        | ((with_reducible refine at_store 8 ?_); refine wpList_store_all rfl 90 (.tmp 8) (.tmp 16) rfl w2.heap.size 90 _ HB3.out rfl (rowL A n c t) rfl row_info rfl HR1.out ?_; intro w4 h1 h2 h3; have HRB := hide h1; have HLR := hide (show Below w2.heap.size w2 w4 from HL3.out.grown h2 HL3.out.size (fun g e => by injection e with e; subst e; exact Nat.le_refl _)); clear h1 h2 h3))
      obtain ⟨rb, hrb⟩ : ∃ rb, rb = w2.heap.size := ⟨_, rfl⟩
      rw [← hrb] at HRB ⊢
      have HZ := hide (show Below w.heap.size w w4 from HL1.out.trans ((HL2.out.trans (HLR.out.mono HL2.out.size)).mono HL1.out.size))
      have HQ1 := hide (HB1.out.below (HL2.out.trans (HLR.out.mono HL2.out.size)) HB1.out.lt)
      have HRW := hide (show w.heap.size < rb by rw [hrb]; exact Nat.lt_of_lt_of_le HB1.out.lt HL2.out.size)
      have HRS := hide (fun (W : World) (h : Blk W rb 90 (rowL A n c t).toArray) => show W.cell? ⟨rb, 0, none⟩ = some (.slice A n c) ∧ W.cell? ⟨rb, 1, none⟩ = some (.int .i64 (t : Int)) from ⟨(h.cell 0).trans rfl, (h.cell 1).trans rfl⟩)
      have Hz0 := hide (show Below w4.heap.size w4 w4.drew from (Below.refl _ _).drew)
      clear hrb HL2 HL3 HB3 HLR HL1 HB1

      go_wp2_with (first
        | ((with_reducible refine at_slot 25 ?_); refine wpList_load_blk rfl 90 _ rfl rb 0 90 _ HRB.out rfl (rowL A n c t) _ (fun j v hj => by rw [Nat.zero_add]; simpa using hj) Tryz.underlying90 rfl row_info ?_)
        | (go_at_call 51; refine (HO.out _ HZ.out).mono ?_; rintro _ z1 ⟨rfl, hlq⟩; have Hz1 := hide hlq; clear hlq)
        | (go_at_call 13; refine (HRD.out _ (HZ.out.trans (Hz1.out.mono HZ.out.size))).mono ?_; rintro _ z2 ⟨rfl, hlq⟩; have Hz2 := hide (Hz1.out.trans (hlq.mono Hz1.out.size)); clear hlq)
        | ((with_reducible refine at_slot 11 ?_); refine wpList_alloc_blk rfl 43 rfl _ (psec_nought _) ?_; intro z3 h1 h2 h3; have HA3 : Hid (Blk z3 z2.heap.size 43 (B8 zeroL).toArray) := hide h1; have HL3 := hide h2; clear h1 h2 h3)
        | ((with_reducible refine at_store 11 ?_); refine wpList_store_all rfl 43 (.tmp 11) (.tmp 29) rfl z2.heap.size 43 _ HA3.out rfl (secL q) rfl (by rw [HQ3.out]; exact psec_info) (by rw [HQ3.out]; decide) HQ2.out ?_; intro z4 h1 h2 h3; have HA4 := hide h1; have Hz4 := hide (Hz2.out.trans ((HL3.out.grown h2 HL3.out.size (fun g e => by injection e with e; subst e; exact Nat.le_refl _)).mono Hz2.out.size)); clear h1 h2 h3)
        | (go_at_call 59; (with_reducible refine (HLO.out _).mono ?_); rintro _ _ ⟨rfl, rfl⟩)
        | ((with_reducible refine at_slot 34 ?_); refine wpList_load_blk rfl 90 _ rfl rb 0 90 _ (HRB.out.below Hz4.out HRB.out.lt) rfl (rowL A n c t) _ (fun j v hj => by rw [Nat.zero_add]; simpa using hj) Tryz.underlying90 rfl row_info ?_)
        | (go_at_call 55; refine (mates_make A n c t k _).mono ?_; rintro _ z5 ⟨rfl, hb1, hb2, hl4, hs4⟩; have Hz5 := hide (Hz4.out.trans (hl4.mono Hz4.out.size)); have HBD := hide (show MatD _ _ A n c t X k z5 from ⟨hb1, hb2, HXR.out.later (HZ.out.trans (Hz5.out.mono HZ.out.size))⟩); clear hb1 hb2 hl4 hs4)
        | (go_at_call 62; refine (sgather_any (HSQ.out _ _) HLE.out _ HBD.out (HBK.out.later (HZ.out.trans (Hz5.out.mono HZ.out.size)))).mono ?_; rw [HTV.out]; rintro _ z6 ⟨rfl, hl5⟩; have Hz6 := hide (Hz5.out.trans (hl5.mono Hz5.out.size)); clear hl5)
        | ((with_reducible refine at_store 6 ?_); refine wpList_store_all rfl 43 (.tmp 6) (.tmp 38) rfl w.heap.size 43 _ (HQ1.out.below Hz6.out HQ1.out.lt) rfl sl rfl (by rw [HS2.out]; exact psec_info) (by rw [HS2.out]; decide) HS1.out ?_; intro w6 h1 h2 h3; have HB6 := hide h1; have HG6 := hide h2; clear h1 h2 h3))
      refine ret_cell_tmp rfl w.heap.size 43 sl _ HB6.out rfl Tryz.underlying43 rfl (by rw [HS2.out]; exact psec_info) (.int .i64 (E2 : Int)) rfl rfl ⟨rfl, ?_⟩
      have hz := HZ.out.trans (Hz6.out.mono HZ.out.size)
      exact hz.grown HG6.out hz.size (fun g e => by injection e with e; omega)
    · rw [if_neg hle]
      rw [Bool.not_eq_true] at hle
      rw [hle] at HLO
      clear hle
      go_enter Tryz.func22, Tryz.ntmps22
      go_upto_region 4 with (first
        | ((with_reducible refine at_slot 6 ?_); refine wpList_alloc_blk rfl 43 rfl _ (psec_nought _) ?_; intro w1 h1 h2 h3; have HB1 : Hid (Blk w1 w.heap.size 43 (B8 zeroL).toArray) := hide h1; have HL1 := hide h2; clear h1 h2 h3)
        | (go_at_call 53; refine (HR.out _).mono ?_; rintro _ w2 ⟨rfl, hl2q⟩; have HL2 := hide hl2q; clear hl2q)
        | ((with_reducible refine at_slot 8 ?_); refine wpList_alloc_blk rfl 90 rfl _ (row_zero _) ?_; intro w3 h1 h2 h3; have HB3 := hide h1; have HL3 := hide h2; clear h1 h2 h3)
        | ((with_reducible refine at_store 8 ?_); refine wpList_store_all rfl 90 (.tmp 8) (.tmp 16) rfl w2.heap.size 90 _ HB3.out rfl (rowL A n c t) rfl row_info rfl HR1.out ?_; intro w4 h1 h2 h3; have HRB := hide h1; have HLR := hide (show Below w2.heap.size w2 w4 from HL3.out.grown h2 HL3.out.size (fun g e => by injection e with e; subst e; exact Nat.le_refl _)); clear h1 h2 h3))
      obtain ⟨rb, hrb⟩ : ∃ rb, rb = w2.heap.size := ⟨_, rfl⟩
      rw [← hrb] at HRB ⊢
      have HZ := hide (show Below w.heap.size w w4 from HL1.out.trans ((HL2.out.trans (HLR.out.mono HL2.out.size)).mono HL1.out.size))
      have HQ1 := hide (HB1.out.below (HL2.out.trans (HLR.out.mono HL2.out.size)) HB1.out.lt)
      have HRW := hide (show w.heap.size < rb by rw [hrb]; exact Nat.lt_of_lt_of_le HB1.out.lt HL2.out.size)
      have HRS := hide (fun (W : World) (h : Blk W rb 90 (rowL A n c t).toArray) => show W.cell? ⟨rb, 0, none⟩ = some (.slice A n c) ∧ W.cell? ⟨rb, 1, none⟩ = some (.int .i64 (t : Int)) from ⟨(h.cell 0).trans rfl, (h.cell 1).trans rfl⟩)
      have Hz0 := hide (show Below w4.heap.size w4 w4.drew from (Below.refl _ _).drew)
      clear hrb HL2 HL3 HB3 HLR HL1 HB1

      go_wp2_with (first
        | ((with_reducible refine at_slot 25 ?_); refine wpList_load_blk rfl 90 _ rfl rb 0 90 _ HRB.out rfl (rowL A n c t) _ (fun j v hj => by rw [Nat.zero_add]; simpa using hj) Tryz.underlying90 rfl row_info ?_)
        | (go_at_call 51; refine (HO.out _ HZ.out).mono ?_; rintro _ z1 ⟨rfl, hlq⟩; have Hz1 := hide hlq; clear hlq)
        | (go_at_call 13; refine (HRD.out _ (HZ.out.trans (Hz1.out.mono HZ.out.size))).mono ?_; rintro _ z2 ⟨rfl, hlq⟩; have Hz2 := hide (Hz1.out.trans (hlq.mono Hz1.out.size)); clear hlq)
        | ((with_reducible refine at_slot 11 ?_); refine wpList_alloc_blk rfl 43 rfl _ (psec_nought _) ?_; intro z3 h1 h2 h3; have HA3 : Hid (Blk z3 z2.heap.size 43 (B8 zeroL).toArray) := hide h1; have HL3 := hide h2; clear h1 h2 h3)
        | ((with_reducible refine at_store 11 ?_); refine wpList_store_all rfl 43 (.tmp 11) (.tmp 29) rfl z2.heap.size 43 _ HA3.out rfl (secL q) rfl (by rw [HQ3.out]; exact psec_info) (by rw [HQ3.out]; decide) HQ2.out ?_; intro z4 h1 h2 h3; have HA4 := hide h1; have Hz4 := hide (Hz2.out.trans ((HL3.out.grown h2 HL3.out.size (fun g e => by injection e with e; subst e; exact Nat.le_refl _)).mono Hz2.out.size)); clear h1 h2 h3)
        | (go_at_call 59; (with_reducible refine (HLO.out _).mono ?_); rintro _ _ ⟨rfl, rfl⟩)
        | ((with_reducible refine at_slot 40 ?_); refine wpList_load_blk rfl 43 _ rfl z2.heap.size 0 43 _ HA4.out rfl (secL q) _ (fun j v hj => by rw [Nat.zero_add]; simpa using hj) Tryz.underlying43 rfl (by rw [HQ3.out]; exact psec_info) ?_)
        | ((with_reducible refine at_store 6 ?_); refine wpList_store_all rfl 43 (.tmp 6) (.tmp 40) rfl w.heap.size 43 _ (HQ1.out.below Hz4.out HQ1.out.lt) rfl (secL q) rfl (by rw [HQ3.out]; exact psec_info) (by rw [HQ3.out]; decide) HQ2.out ?_; intro w6 h1 h2 h3; have HB6 := hide h1; have HG6 := hide h2; clear h1 h2 h3))
      refine ret_cell_tmp rfl w.heap.size 43 (secL q) _ HB6.out rfl Tryz.underlying43 rfl (by rw [HQ3.out]; exact psec_info) (.int .i64 (E : Int)) rfl rfl ⟨rfl, ?_⟩
      have hz := HZ.out.trans (Hz4.out.mono HZ.out.size)
      exact hz.grown HG6.out hz.size (fun g e => by injection e with e; omega)
  · obtain ⟨E, hE⟩ : ∃ E, homeE n slot = E := ⟨_, rfl⟩
    have hE0 : E ≠ 0 := by rw [← hE]; exact he
    have HR := hide (fun w => rowSlot_bad (A := A) (c := c) hn hE hE0 hsl w)
    have hs : S.sread X slot = (zeroSec, E) := by unfold Bank.sread; rw [hXn, hE, if_neg hE0]
    obtain ⟨hn1, hn2⟩ := notNil hE0
    rw [hs]
    clear he hE hE0 hs hx hXn hB
    go_enter Tryz.func22, Tryz.ntmps22
    go_wp2_with (first
      | ((with_reducible refine at_slot 6 ?_); refine wpList_alloc_blk rfl 43 rfl _ (psec_nought _) ?_; intro w1 h1 h2 h3; have HB1 : Hid (Blk w1 w.heap.size 43 (B8 zeroL).toArray) := hide h1; have HL1 := hide h2; clear h1 h2 h3)
      | (go_at_call 53; refine (HR.out _).mono ?_; rintro _ w2 ⟨rfl, hl2q⟩; have HL2 := hide hl2q; clear hl2q)
      | ((with_reducible refine at_slot 8 ?_); refine wpList_alloc_blk rfl 90 rfl _ (row_zero _) ?_; intro w3 h1 h2 h3; have HB3 := hide h1; have HL3 := hide h2; clear h1 h2 h3)
      | ((with_reducible refine at_store 8 ?_); refine wpList_store_all rfl 90 (.tmp 8) (.tmp 16) rfl w2.heap.size 90 _ HB3.out rfl [.slice none 0 0, .int .i64 0] rfl row_info rfl rowZ_one ?_; intro w4 h1 h2 h3; have HRB := hide h1; have HLR := hide (show Below w2.heap.size w2 w4 from HL3.out.grown h2 HL3.out.size (fun g e => by injection e with e; subst e; exact Nat.le_refl _)); clear h1 h2 h3)
      | ((with_reducible refine at_slot 21 ?_); refine wpList_build_is rfl 43 #[] rfl [] (by simp) _ psec_built ?_)
      | ((with_reducible refine at_store 6 ?_); refine wpList_store_all rfl 43 (.tmp 6) (.tmp 21) rfl w.heap.size 43 _ ((HB1.out.below (HL2.out.trans (HLR.out.mono HL2.out.size)) HB1.out.lt)) rfl (B8 zeroL) rfl psec_info rfl (B8_one _) ?_; intro w6 h1 h2 h3; have HB6 := hide h1; have HG6 := hide h2; clear h1 h2 h3))
    refine ret_cell_tmp rfl w.heap.size 43 (B8 zeroL) _ HB6.out rfl Tryz.underlying43 rfl psec_info (.int .i64 (E : Int)) rfl rfl ⟨rfl, ?_⟩
    have hz := HL1.out.trans ((HL2.out.trans (HLR.out.mono HL2.out.size)).mono HL1.out.size)
    exact hz.grown HG6.out hz.size (fun g e => by injection e with e; omega)
end
end Go.Proofs.YtmjjnbabfldbcaaGreat
