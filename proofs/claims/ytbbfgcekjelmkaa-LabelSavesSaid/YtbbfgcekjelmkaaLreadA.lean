/- What label.read answers, over whatever sector comes in: the whole walk. -/
import Derived.Test.YtbbfgcekjelmkaaLread
import Derived.Deep.RegionWith
namespace Go.Proofs.Ytbbfgcekjelmkaa
open Go.RowKit

/-- What lies at address A lies at block L or behind it. -/
def From (L : Nat) (A : Option Addr) (n : Nat) : Prop := 0 < n → ∀ ad, A = some ad → L ≤ ad.block

set_option maxRecDepth 100000 in
set_option maxHeartbeats 4000000 in
theorem lread_any (s : Sec) (w : World) :
    Calls Try.prog 39 #[secV s] w fun e w' => (∃ A n c, e = .returned (labV (readL s.1) A n c) ∧ MbIn w' w'.heap.size A n c (readL s.1).members ∧ From w.heap.size A n) ∧ Below w.heap.size w w' := by
  have hmf : ∀ (fn : Fn) (first cap : Array Value) (w : World), (Instr.makeFunc fn first cap).run Try.prog w = .ok (.func fn first cap) w := fun _ _ _ _ => rfl
  obtain ⟨N, hN⟩ : ∃ N, N = countM s.1 := ⟨_, rfl⟩
  have hN255 : N ≤ 255 := by rw [hN]; exact countM_le _
  have HNN := hide hN
  clear hN
  obtain ⟨i0, hi0, hz0, hz1, hz2⟩ := info_parts mb_parts
  go_enter Try.func39, Try.ntmps39
  go_wp2_with (first
    | (refine wpList_box_blk rfl 26 _ rfl (secV s) rfl ?_; intro w1 hb1 hl1 hs1; clear hs1)
    | (refine wpList_alloc_blk rfl 24 rfl _ (lab_zero _) ?_; intro w2 hb2 hl2 hs2; clear hs2))
  have hz1' := hb1.lt
  have hz2' := hb2.lt
  have hN3 : NextIs (w2.alloc (.cells #[.slice (some ⟨w.heap.size, 2, none⟩) 62 62] 64)) w2.heap.size w1.heap.size s.1 2 :=
    ⟨by omega, ⟨w.heap.size, 2, none⟩, 62, Blk.new _ _ _, Blk.reads (xs := s.1) ((hb1.below hl2 hz1').alloc _) hz1' (by rw [s.2]), by omega⟩
  have HN3 := hide hN3
  have HL3 := hide ((hl1.trans (hl2.mono (by omega))).alloc (by omega) (.cells #[.slice (some ⟨w.heap.size, 2, none⟩) 62 62] 64))
  have HB3 := hide (hb2.alloc (.cells #[.slice (some ⟨w.heap.size, 2, none⟩) 62 62] 64))
  clear hb1 hl1 hb2 hl2 hN3
  refine (next_at 4 6 HN3.out (by omega) (by omega) rfl).mono ?_
  rintro _ w4 ⟨rfl, hN4, hg4⟩
  have HN4 := hide hN4
  have HL4 := hide (HL3.out.grown hg4 HL3.out.size (fun g e => by injection e with e; omega))
  have HB4 := hide (HB3.out.grown hg4 (fun e => by injection e with e; omega))
  clear HN3 HL3 HB3 hN4 hg4
  go_wp2_with fail
  refine (next_at 4 10 HN4.out (by omega) (by omega) rfl).mono ?_
  rintro _ w5 ⟨rfl, hN5, hg5⟩
  have HN5 := hide hN5
  have HL5 := hide (HL4.out.grown hg5 HL4.out.size (fun g e => by injection e with e; omega))
  have HB5 := hide (HB4.out.grown hg5 (fun e => by injection e with e; omega))
  clear HN4 HL4 HB4 hN5 hg5
  go_wp2_with fail
  refine (next_at 1 11 HN5.out (by omega) (by omega) rfl).mono ?_
  rintro _ w6 ⟨rfl, hN6, hg6⟩
  have HN6 := hide hN6
  have HL6 := hide (HL5.out.grown hg6 HL5.out.size (fun g e => by injection e with e; omega))
  have HB6 := hide (HB5.out.grown hg6 (fun e => by injection e with e; omega))
  clear HN5 HL5 HB5 hN6 hg6
  go_wp2_with fail
  refine (next_at 2 13 HN6.out (by omega) (by omega) rfl).mono ?_
  rintro _ w7 ⟨rfl, hN7, hg7⟩
  have HN7 := hide hN7
  have HL7 := hide (HL6.out.grown hg7 HL6.out.size (fun g e => by injection e with e; omega))
  have HB7 := hide (HB6.out.grown hg7 (fun e => by injection e with e; omega))
  have hz7 := hN7.lt
  clear HN6 HL6 HB6 hN7 hg7
  go_wp2_with (first
    | (refine wpList_build_is rfl 24 #[(0, .tmp 10), (1, .tmp 12), (2, .tmp 14), (3, .tmp 16)] rfl [(0, .int .i64 (readL s.1).array), (1, .int .i64 (readL s.1).gen), (2, .int .i64 (readL s.1).member), (3, .int .i64 (readL s.1).blocks)] (by simp only [List.map_toArray, List.map_cons, List.map_nil]; rfl) (labC (readL s.1) none 0 0).toArray (built_lab _ _ _ _) ?_)
    | (refine wpList_alloc_blk rfl 24 rfl _ (lab_zero _) ?_; intro w8 hb8 hl8 hs8; clear hs8)
    | (refine wpList_store_all rfl 24 (.tmp 5) (.tmp 17) rfl w7.heap.size 24 _ hb8 rfl (labC (readL s.1) none 0 0) rfl lab_info rfl (labC_one _ _ _ _) ?_; intro w9 hb9 hg9 hs9; clear hs9))
  have hz8 := hl8.size
  have hz9 := hg9.size
  have hlb : w7.heap.size < w9.heap.size := by have := hb8.lt; omega
  have HN9 := hide ((HN7.out.later hl8).grown hg9 (by omega) (by omega))
  have HL9 := hide ((HL7.out.trans (hl8.mono HL7.out.size)).grown hg9 (by have := HL7.out.size; omega) (fun g e => by injection e with e; have := HL7.out.size; omega))
  have HB9 := hide ((HB7.out.below hl8 HB7.out.lt).grown hg9 (fun e => by injection e with e; omega))
  have HX9 := hide hb9
  clear HN7 HL7 HB7 hb8 hl8 hb9 hg9
  refine (next_at 1 14 HN9.out (by omega) (by omega) rfl).mono ?_
  rintro _ w10 ⟨rfl, hN10, hg10⟩
  rw [show getV (s.1.drop 13) ((1 : Nat) : Int) = N from HNN.out.symm]
  have HN10 := hide hN10
  have HL10 := hide (HL9.out.grown hg10 HL9.out.size (fun g e => by injection e with e; omega))
  have HB10 := hide (HB9.out.grown hg10 (fun e => by injection e with e; omega))
  have HX10 := hide (HX9.out.grown hg10 (fun e => by injection e with e; omega))
  have hz10 := hg10.size
  clear HN9 HL9 HB9 HX9 hN10 hg10
  have hx4 : w10.cell? ⟨w7.heap.size, 4, none⟩ = some (.slice none 0 0) := HX10.out.cell 4
  have hf4 : w10.frozen? ⟨w7.heap.size, 4, none⟩ = false := HX10.out.frozen 4
  go_wp2_with (first
    | (refine wpList_make_blk rfl (.tmp 19) (.tmp 19) 22 rfl 62 i0 _ (mbC (0, 0, 0)) Try.underlying22 hi0 hz0 rfl hz1 (by decide) N rfl rfl (by rw [hz2]; omega) (by omega) ?_; intro w11 hb11 hl11; rw [← readTo_zero s.1 N] at hb11; have hx5 := (hl11.cell (p := ⟨w7.heap.size, 4, none⟩) (by show w7.heap.size < w10.heap.size; omega)).trans hx4; have hf5 := (HX10.out.below hl11 HX10.out.lt).frozen 4))
  have hz11 := hl11.size
  have hmb11 := hb11.lt
  obtain ⟨V, hV⟩ : ∃ V, V = labC (readL s.1) (some ⟨w10.heap.size, 0, none⟩) N N := ⟨_, rfl⟩
  have hx12 : Blk (w11.setCell ⟨w7.heap.size, 4, none⟩ (.slice (some ⟨w10.heap.size, 0, none⟩) N N)) w7.heap.size 24 V.toArray := by
    rw [hV]
    exact (HX10.out.below hl11 HX10.out.lt).set_ 4 _
  have hg12 := grown_set (grown_refl w11 (some w7.heap.size)) ⟨w7.heap.size, 4, none⟩ rfl (.slice (some ⟨w10.heap.size, 0, none⟩) N N)
  obtain ⟨w12, hw12⟩ : ∃ W, W = w11.setCell ⟨w7.heap.size, 4, none⟩ (.slice (some ⟨w10.heap.size, 0, none⟩) N N) := ⟨_, rfl⟩
  rw [← hw12] at hx12 hg12 ⊢
  have HN12 := hide ((HN10.out.later hl11).grown hg12 (by omega) (by omega))
  have HL12 := hide ((HL10.out.trans (hl11.mono HL10.out.size)).grown hg12 (by have := HL10.out.size; omega) (fun g e => by injection e with e; have := HL10.out.size; omega))
  have HB12 := hide ((HB10.out.below hl11 HB10.out.lt).grown hg12 (fun e => by injection e with e; omega))
  have HM12 := hide (hb11.grown hg12 (fun e => by injection e with e; omega))
  have HX12 := hide hx12
  have HV := hide hV
  have hz12 := hg12.size
  clear HN10 HL10 HB10 HX10 hb11 hl11 hx4 hf4 hx5 hf5 hx12 hg12 hw12 hV
  go_loopw [6, 25] (fun _ i wr => ∃ k : Nat, k ≤ N ∧ i = .int .i64 k ∧ Hid (Blk wr w7.heap.size 24 V.toArray) ∧ Hid (Blk wr w10.heap.size 62 (mbL (readTo s.1 N k)).toArray) ∧ Hid (NextIs wr w2.heap.size w1.heap.size s.1 (14 + 4 * k)) ∧
    Hid (Blk wr w1.heap.size 24 (labV Lab.none_ none 0 0).cells) ∧ Hid (Below w.heap.size w wr) ∧ w12.heap.size ≤ wr.heap.size) (fun _ i _ => N - (intOf i).toNat)
  case atStart => exact ⟨0, Nat.zero_le _, rfl, HX12, HM12, HN12, HB12, HL12, Nat.le_refl _⟩
  case round =>
    obtain ⟨k, hk, rfl, HX, HM, HN, HB, HL, hsz⟩ := hrel
    by_cases hkn : k < N
    · have e0 : wr.drew.cell? ⟨w7.heap.size, 4, none⟩ = some (.slice (some ⟨w10.heap.size, 0, none⟩) N N) := by
        have h := HX.out.drew.cell 4
        rw [HV.out] at h
        exact h
      have q1 : Hid (Calls Try.prog 71 #[.int .i64 1, .pointer (some ⟨w2.heap.size, 0, none⟩)] wr.drew fun e w' => e = .returned (.int .i64 ((getV (s.1.drop (14 + 4 * k)) 1 : Nat) : Int)) ∧ NextIs w' w2.heap.size w1.heap.size s.1 (15 + 4 * k) ∧ wr.drew.grownBy w' (some w2.heap.size)) :=
        next_at 1 (15 + 4 * k) (HN.out.later ((Below.refl _ _).drew)) (by omega) (by omega) (by omega)
      have q2 : Hid (∀ w5, NextIs w5 w2.heap.size w1.heap.size s.1 (15 + 4 * k) → Calls Try.prog 71 #[.int .i64 2, .pointer (some ⟨w2.heap.size, 0, none⟩)] w5 fun e w' => e = .returned (.int .i64 ((getV (s.1.drop (15 + 4 * k)) 2 : Nat) : Int)) ∧ NextIs w' w2.heap.size w1.heap.size s.1 (17 + 4 * k) ∧ w5.grownBy w' (some w2.heap.size)) :=
        fun w5 h => next_at 2 (17 + 4 * k) h (by omega) (by omega) (by omega)
      have q3 : Hid (∀ w5, NextIs w5 w2.heap.size w1.heap.size s.1 (17 + 4 * k) → Calls Try.prog 71 #[.int .i64 1, .pointer (some ⟨w2.heap.size, 0, none⟩)] w5 fun e w' => e = .returned (.int .i64 ((getV (s.1.drop (17 + 4 * k)) 1 : Nat) : Int)) ∧ NextIs w' w2.heap.size w1.heap.size s.1 (14 + 4 * (k + 1)) ∧ w5.grownBy w' (some w2.heap.size)) :=
        fun w5 h => next_at 1 (14 + 4 * (k + 1)) h (by omega) (by omega) (by omega)
      have QX : Hid (∀ w5, wr.drew.grownBy w5 (some w2.heap.size) → w5.cell? ⟨w7.heap.size, 4, none⟩ = some (.slice (some ⟨w10.heap.size, 0, none⟩) N N)) := fun w5 h => by
        have h2 := (HX.out.drew.grown h (fun e => by injection e with e; omega)).cell 4
        rw [HV.out] at h2
        exact h2
      have QM : Hid (∀ w5, wr.drew.grownBy w5 (some w2.heap.size) → Blk w5 w10.heap.size 62 (mbL (readTo s.1 N k)).toArray) := fun w5 h => HM.out.drew.grown h (fun e => by injection e with e; omega)
      have hat : ∀ j, j < 3 → ∃ v, (mbL (readTo s.1 N k))[k * 3 + j]? = some v := fun j hj => by
        have h : k * 3 + j < (mbL (readTo s.1 N k)).length := by rw [mbL_length, readTo_length]; omega
        exact ⟨_, List.getElem?_eq_getElem h⟩
      obtain ⟨v0, hv0⟩ := hat 0 (by omega)
      obtain ⟨v1, hv1⟩ := hat 1 (by omega)
      obtain ⟨v2, hv2⟩ := hat 2 (by omega)
      have QC0 : Hid (∀ w5, wr.drew.grownBy w5 (some w2.heap.size) → w5.cell? ⟨w10.heap.size, k * 3, none⟩ = some v0) := fun w5 h => ((QM.out w5 h).cell _).trans (by rw [List.getElem?_toArray]; exact hv0)
      have QC1 : Hid (∀ w5, wr.drew.grownBy w5 (some w2.heap.size) → w5.cell? ⟨w10.heap.size, k * 3 + 1, none⟩ = some v1) := fun w5 h => ((QM.out w5 h).cell _).trans (by rw [List.getElem?_toArray]; exact hv1)
      have QC2 : Hid (∀ w5, wr.drew.grownBy w5 (some w2.heap.size) → w5.cell? ⟨w10.heap.size, k * 3 + 2, none⟩ = some v2) := fun w5 h => ((QM.out w5 h).cell _).trans (by rw [List.getElem?_toArray]; exact hv2)
      clear hat hv0 hv1 hv2
      go_wp2
      go_region_with (first
        | (go_at_call 71; (with_reducible refine (q3.out _ hN6).mono ?_); rintro _ w7' ⟨rfl, hN7, hg7⟩; have hgw := grown_trans (grown_trans hg5 hg6) hg7; have d0 := QC0.out w7' hgw; have d1 := QC1.out w7' hgw; have d2 := QC2.out w7' hgw; have f0 := (QM.out w7' hgw).frozen (k * 3); have f1 := (QM.out w7' hgw).frozen (k * 3 + 1); have f2 := (QM.out w7' hgw).frozen (k * 3 + 2); have e7 := QX.out w7' hgw)
        | (go_at_call 71; (with_reducible refine (q2.out _ hN5).mono ?_); rintro _ w6' ⟨rfl, hN6, hg6⟩; have e6 := QX.out w6' (grown_trans hg5 hg6))
        | (go_at_call 71; (with_reducible refine q1.out.mono ?_); rintro _ w5' ⟨rfl, hN5, hg5⟩; have e5 := QX.out w5' hg5))
      all_goals
        obtain ⟨w8', hw8⟩ : ∃ W, W = ((w7'.setCell ⟨w10.heap.size, k * 3, none⟩ (.int .i64 (readM s.1 k).1)).setCell ⟨w10.heap.size, k * 3 + 1, none⟩ (.int .i64 (readM s.1 k).2.1)).setCell ⟨w10.heap.size, k * 3 + 2, none⟩ (.int .i64 (readM s.1 k).2.2) := ⟨_, rfl⟩
        have hg8 : w7'.grownBy w8' (some w10.heap.size) := by
          rw [hw8]
          exact grown_set (grown_set (grown_set (grown_refl w7' (some w10.heap.size)) ⟨w10.heap.size, k * 3, none⟩ rfl _) ⟨w10.heap.size, k * 3 + 1, none⟩ rfl _) ⟨w10.heap.size, k * 3 + 2, none⟩ rfl _
        have hm8 : Blk w8' w10.heap.size 62 (mbL (readTo s.1 N (k + 1))).toArray := by
          have h := ((((QM.out w7' hgw).set_ (k * 3) (.int .i64 (readM s.1 k).1)).set_ (k * 3 + 1) (.int .i64 (readM s.1 k).2.1)).set_ (k * 3 + 2) (.int .i64 (readM s.1 k).2.2))
          rw [List.setIfInBounds_toArray, List.setIfInBounds_toArray, List.setIfInBounds_toArray, mbL_set _ _ _ (by rw [readTo_length]; exact hkn), ← readTo_step s.1 N k hkn] at h
          rw [hw8]
          exact h
        have HW := hide hw8
        have HM8 := hide hm8
        have HN8 := hide (hN7.grown hg8 (by omega) (by omega))
        have HX8 := hide ((HX.out.drew.grown hgw (fun e => by injection e with e; omega)).grown hg8 (fun e => by injection e with e; omega))
        have HB8 := hide ((HB.out.drew.grown hgw (fun e => by injection e with e; omega)).grown hg8 (fun e => by injection e with e; omega))
        have HL8 := hide ((HL.out.drew.grown hgw (by have := HL.out.size; exact this) (fun g e => by injection e with e; omega)).grown hg8 (by have := HL.out.size; have := hgw.size; exact Nat.le_trans HL.out.size hgw.size) (fun g e => by injection e with e; have := HL.out.size; omega))
        have hsz8 : w12.heap.size ≤ w8'.heap.size := Nat.le_trans hsz (Nat.le_trans hgw.size hg8.size)
        clear hw8 hm8 hg8 d0 d1 d2 f0 f1 f2 e7 e6 e5 hN5 hN6 hN7 hg5 hg6 hg7 hgw e0 q1 q2 q3 QX QM QC0 QC1 QC2 HX HM HN HB HL
        unfold readM at HW
        rw [← HW.out]
        go_wp2
        go_roundw
        case rel => exact ⟨k + 1, by omega, by go_num, HX8, HM8, HN8, HB8, HL8, hsz8⟩
        case measure => simp [intOf]; omega
    · obtain rfl : k = N := by omega
      have hV := HV.out
      have HXV : Hid (Blk wr w7.heap.size 24 (labC (readL s.1) (some ⟨w10.heap.size, 0, none⟩) k k).toArray) := by
        have h := HX.out
        rw [hV] at h
        exact h
      clear hV
      go_wp2_with (first
        | (refine wpList_load_blk rfl 24 (.tmp 5) rfl w7.heap.size 0 24 _ HXV.out rfl (labC (readL s.1) (some ⟨w10.heap.size, 0, none⟩) k k) _ (fun j v hj => by rw [Nat.zero_add]; simpa using hj) Try.underlying24 rfl lab_info ?_)
        | (refine wpList_store_all rfl 24 (.tmp 2) (.tmp 40) rfl w1.heap.size 24 _ HB.out rfl (labC (readL s.1) (some ⟨w10.heap.size, 0, none⟩) k k) rfl lab_info rfl (labC_one _ _ _ _) ?_; intro w13 hb13 hg13 hs13; clear hs13))
      refine ret_cell rfl w1.heap.size 24 (labC (readL s.1) (some ⟨w10.heap.size, 0, none⟩) k k) _ hb13 rfl Try.underlying24 rfl lab_info rfl ⟨⟨_, _, _, rfl, ⟨?_, Nat.le_refl _, by omega⟩, ?_⟩, HL.out.grown hg13 (by have := HL.out.size; omega) (fun g e => by injection e with e; omega)⟩
      · have hm := HM.out.grown hg13 (fun e => by injection e with e; omega)
        rw [readTo_all] at hm
        refine ⟨?_, fun _ => ⟨_, rfl, hm.lt, fun j u hu => ?_⟩⟩
        · rw [mbL_length]
          show ((List.range (countM s.1)).map (readM s.1)).length * 3 = _
          rw [← HNN.out]
          simp
        · have hadd : (⟨w10.heap.size, 0, none⟩ : Addr).add j = ⟨w10.heap.size, j, none⟩ := by unfold Addr.add; split <;> simp_all
          rw [hadd, hm.cell, List.getElem?_toArray]
          have e : (readL s.1).members = (List.range k).map (readM s.1) := by rw [HNN.out]; rfl
          rw [e] at hu
          exact hu
      · intro _ ad e
        injection e with e
        subst e
        show w.heap.size ≤ w10.heap.size
        omega
#print axioms lread_any
end Go.Proofs.Ytbbfgcekjelmkaa
