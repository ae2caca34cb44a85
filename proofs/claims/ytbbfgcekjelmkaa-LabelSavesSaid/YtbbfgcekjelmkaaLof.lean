/- What label.Of answers, over whatever sector comes in. -/
import Derived.Test.YtbbfgcekjelmkaaLreadA
import Derived.Test.YtbbfgcekjelmkaaWhen
import Derived.Test.YtbbfgcekjelmkaaKeep
namespace Go.Proofs.Ytbbfgcekjelmkaa
open Go.RowKit

theorem built_lab0 : Try.prog.built 24 [] = some (labC Lab.none_ none 0 0).toArray := by kernel_rfl
theorem MbIn.none_ {w : World} {B : Nat} : MbIn w B none 0 0 [] := ⟨Reads.none_, Nat.le_refl _, Nat.zero_le _⟩
/-- A label that a call hands back: its members lie in memory of its own. -/
def Gave (l : Lab) (w w' : World) (A : Option Addr) (n c : Nat) : Prop := MbIn w' w'.heap.size A n c l.members ∧ From w.heap.size A n
theorem Gave.later {l : Lab} {w w1 w2 : World} {A : Option Addr} {n c : Nat} (h : Gave l w w1 A n c) (hb : Below w1.heap.size w1 w2) : Gave l w w2 A n c := ⟨h.1.later hb, h.2⟩
theorem Gave.from_ {l : Lab} {w w0 w1 : World} {A : Option Addr} {n c : Nat} (h : Gave l w w1 A n c) (hb : w0.heap.size ≤ w.heap.size) : Gave l w0 w1 A n c := ⟨h.1, fun h0 ad e => Nat.le_trans hb (h.2 h0 ad e)⟩
theorem Gave.none_ {w w' : World} : Gave Lab.none_ w w' none 0 0 := ⟨MbIn.none_, fun h => absurd h (by omega)⟩
theorem Gave.grown {l : Lab} {w w1 w2 : World} {A : Option Addr} {n c r : Nat} (h : Gave l w w1 A n c) (hg : w1.grownBy w2 (some r)) (hr : 0 < n → ∀ ad, A = some ad → ad.block ≠ r) : Gave l w w2 A n c := by
  refine ⟨⟨⟨h.1.1.1, fun hn => ?_⟩, h.1.2⟩, h.2⟩
  obtain ⟨ad, e, hb, hc⟩ := h.1.1.2 hn
  refine ⟨ad, e, Nat.lt_of_lt_of_le hb hg.size, fun j u hu => ?_⟩
  have hbl : (ad.add j).block = ad.block := block_of_add _ _
  exact (World.cell?_of_block (hg.block _ (by rw [hbl]; exact hb) (fun e2 => hr hn ad e (by injection e2 with e2; rw [← hbl, e2])))).trans (hc j u hu)

set_option maxRecDepth 100000 in
set_option maxHeartbeats 2000000 in
theorem of_any (s : Sec) (w : World) :
    Calls Try.prog 14 #[secV s] w fun e w' => (∃ A n c, e = .returned (.tuple #[labV (ofL s) A n c, .int .i64 (ofE s)]) ∧ Gave (ofL s) w w' A n c) ∧ Below w.heap.size w w' := by
  obtain ⟨L, hL⟩ : ∃ L, L = readL s.1 := ⟨_, rfl⟩
  obtain ⟨US, hUS⟩ : ∃ U, U = secL s := ⟨_, rfl⟩
  have hUSl : US.length = 64 := by rw [hUS, secL_length]
  have hiS : (Try.prog.info? 26).map (·.size) = some US.length := by rw [hUSl]; exact sec_info
  have hsS : secV s = .agg US.toArray := by rw [hUS]; rfl
  have hES : Value.agg US.toArray = .agg (B8 s.1).toArray := by rw [hUS]; rfl
  obtain ⟨UP, hUP⟩ : ∃ U, U = secL (putS L) := ⟨_, rfl⟩
  have hUPl : UP.length = 64 := by rw [hUP, secL_length]
  have hUPo : ∀ v ∈ UP, v.oneCell' = true := by rw [hUP]; exact secL_one _
  have hiP : (Try.prog.info? 26).map (·.size) = some UP.length := by rw [hUPl]; exact sec_info
  have hsP : secV (putS L) = .agg UP.toArray := by rw [hUP]; rfl
  have hEP : Value.agg UP.toArray = .agg (B8 (putS L).1).toArray := by rw [hUP]; rfl
  have HR := hide (fun w => lread_any s w)
  rw [← hL, hsS] at HR
  have HP := hide (fun A n c B0 w => lput_any L A n c B0 w)
  rw [hsP] at HP
  rw [hsS]
  have HIS := hide hiS
  have HES := hide hES
  have HPl := hide hUPl
  have HPO := hide hUPo
  have HIP := hide hiP
  have HEP := hide hEP
  have HLL := hide hL
  clear hUS hUSl hiS hsS hES hUP hUPl hUPo hiP hsP hEP hL
  cases hr : rightB L with
  | false =>
    have hE := hide (show putE L = 1 by rw [putE, hr]; rfl)
    have hB : ofB s = false := by rw [ofB, ← HLL.out, hr]; rfl
    have HO := hide (show ofL s = Lab.none_ by rw [ofL, hB]; rfl)
    have HE := hide (show ofE s = 2 by rw [ofE, hB]; rfl)
    rw [HO.out, HE.out]
    rw [hE.out] at HP
    clear hr hB
    go_enter Try.func14, Try.ntmps14
    go_wp2_with (first
      | (refine wpList_box_blk rfl 26 _ rfl (.agg US.toArray) rfl ?_; intro w1 hb1q hl1 hs1; clear hs1; have hb1 : Blk w1 w.heap.size 26 US.toArray := hb1q; clear hb1q)
      | (refine wpList_alloc_blk rfl 24 rfl _ (lab_zero _) ?_; intro w2 hb2 hl2 hs2; clear hs2)
      | (refine wpList_load_blk rfl 26 (.tmp 1) rfl w.heap.size 0 26 _ (hb1.below hl2 hb1.lt) rfl US _ (fun j v hj => by rw [Nat.zero_add]; simpa using hj) Try.underlying26 rfl HIS.out ?_))
    refine (HR.out w2).mono ?_
    rintro _ w3 ⟨⟨A, n, c, rfl, hm3, hf3⟩, hl3⟩
    have hz1 := hb1.lt
    have hz2 := hb2.lt
    have hz3 := hl3.size
    have HL3 := hide ((hl1.trans (hl2.mono (by omega))).trans (hl3.mono (by omega)))
    have HB3 := hide (hb2.below hl3 hz2)
    clear hb1 hb2 hl1 hl2
    go_wp2_with (first
      | (refine wpList_alloc_blk rfl 24 rfl _ (lab_zero _) ?_; intro w4 hb4 hl4 hs4; clear hs4)
      | (refine wpList_store_all rfl 24 (.tmp 4) (.tmp 8) rfl w3.heap.size 24 _ hb4 rfl (labC L A n c) rfl lab_info rfl (labC_one _ _ _ _) ?_; intro w5 hb5 hg5 hs5; clear hs5)
      | (refine wpList_load_blk rfl 24 (.tmp 4) rfl w3.heap.size 0 24 _ hb5 rfl (labC L A n c) _ (fun j v hj => by rw [Nat.zero_add]; simpa using hj) Try.underlying24 rfl lab_info ?_))
    have hz4 := hb4.lt
    have hz5 := hg5.size
    have hl35 : Below w3.heap.size w3 w5 := hl4.grown hg5 (by have := hl4.size; omega) (fun g e => by injection e with e; omega)
    refine (HP.out A n c w3.heap.size w5 (hm3.below hl35) (by omega)).mono ?_
    rintro _ w6 ⟨rfl, hl6⟩
    have hz6 := hl6.size
    have HL6 := hide ((HL3.out.trans (hl35.mono (by omega))).trans (hl6.mono (by omega)))
    have HB6 := hide ((HB3.out.below hl35 (by omega)).below hl6 (by omega))
    clear HL3 HB3 hl35 hl6 hb4 hl4 hb5 hg5
    go_wp2_with (first
      | (refine wpList_alloc_blk rfl 26 rfl _ (sec_zero _) ?_; intro w7 hb7 hl7 hs7; clear hs7)
      | (refine wpList_store_all rfl 26 (.tmp 5) (.tmp 12) rfl w6.heap.size 26 _ hb7 rfl UP rfl HIP.out (HPl.out.trans (secL_length zeroSec).symm) HPO.out ?_; intro w8 hb8 hg8 hs8; clear hs8; have hl68 : Below w6.heap.size w6 w8 := hl7.grown hg8 (by have := hl7.size; omega) (fun g e => by injection e with e; omega); have HB8 := hide (HB6.out.below hl68 (by omega)))
      | (refine wpList_build_is rfl 24 #[] rfl [] (by simp) (labC Lab.none_ none 0 0).toArray built_lab0 ?_)
      | (refine wpList_store_all rfl 24 (.tmp 2) (.tmp 21) rfl w1.heap.size 24 _ HB8.out rfl (labC Lab.none_ none 0 0) rfl lab_info rfl (labC_one _ _ _ _) ?_; intro w9 hb9 hg9 hs9; clear hs9))
    exact ret_cell_tmp rfl w1.heap.size 24 (labC Lab.none_ none 0 0) _ hb9 rfl Try.underlying24 rfl lab_info (.int .i64 2) rfl rfl ⟨⟨none, 0, 0, rfl, Gave.none_⟩, (HL6.out.trans (hl68.mono (by omega))).grown hg9 (by have := hl68.size; omega) (fun g e => by injection e with e; omega)⟩
  | true =>
    have hE := hide (show putE L = 0 by rw [putE, hr]; rfl)
    have hPS := hide (show putS L = labS L by rw [putS, hr]; rfl)
    rw [hE.out] at HP
    cases hd : decide (labS L = s) with
    | false =>
      have hB : ofB s = false := by rw [ofB, ← HLL.out, hr, hd]; rfl
      have HO := hide (show ofL s = Lab.none_ by rw [ofL, hB]; rfl)
      have HE := hide (show ofE s = 2 by rw [ofE, hB]; rfl)
      have HEQ := hide (show (!decide ((putS L).1 = s.1)) = true by
        rw [hPS.out, Bool.not_eq_true', decide_eq_false_iff_not]
        intro h
        exact absurd (Subtype.ext h) (by simpa using hd))
      rw [HO.out, HE.out]
      clear hr hd hB
      go_enter Try.func14, Try.ntmps14
      go_wp2_with (first
        | (refine wpList_box_blk rfl 26 _ rfl (.agg US.toArray) rfl ?_; intro w1 hb1q hl1 hs1; clear hs1; have hb1 : Blk w1 w.heap.size 26 US.toArray := hb1q; clear hb1q)
        | (refine wpList_alloc_blk rfl 24 rfl _ (lab_zero _) ?_; intro w2 hb2 hl2 hs2; clear hs2)
        | (refine wpList_load_blk rfl 26 (.tmp 1) rfl w.heap.size 0 26 _ (hb1.below hl2 hb1.lt) rfl US _ (fun j v hj => by rw [Nat.zero_add]; simpa using hj) Try.underlying26 rfl HIS.out ?_))
      refine (HR.out w2).mono ?_
      rintro _ w3 ⟨⟨A, n, c, rfl, hm3, hf3⟩, hl3⟩
      have hz1 := hb1.lt
      have hz2 := hb2.lt
      have hz3 := hl3.size
      have HL3 := hide ((hl1.trans (hl2.mono (by omega))).trans (hl3.mono (by omega)))
      have HB3 := hide (hb2.below hl3 hz2)
      have HS3 := hide ((hb1.below hl2 hz1).below hl3 (by omega))
      have HG3 : Hid (Gave L w w3 A n c) := ⟨hm3, fun h0 ad e => by have := hf3 h0 ad e; omega⟩
      have HF3 := hide hf3
      clear hb1 hb2 hl1 hl2 hf3
      go_wp2_with (first
        | (refine wpList_alloc_blk rfl 24 rfl _ (lab_zero _) ?_; intro w4 hb4 hl4 hs4; clear hs4)
        | (refine wpList_store_all rfl 24 (.tmp 4) (.tmp 8) rfl w3.heap.size 24 _ hb4 rfl (labC L A n c) rfl lab_info rfl (labC_one _ _ _ _) ?_; intro w5 hb5 hg5 hs5; clear hs5)
        | (refine wpList_load_blk rfl 24 (.tmp 4) rfl w3.heap.size 0 24 _ hb5 rfl (labC L A n c) _ (fun j v hj => by rw [Nat.zero_add]; simpa using hj) Try.underlying24 rfl lab_info ?_))
      have hz4 := hb4.lt
      have hz5 := hg5.size
      have hl35 : Below w3.heap.size w3 w5 := hl4.grown hg5 (by have := hl4.size; omega) (fun g e => by injection e with e; omega)
      refine (HP.out A n c w3.heap.size w5 (hm3.below hl35) (by omega)).mono ?_
      rintro _ w6 ⟨rfl, hl6⟩
      have hz6 := hl6.size
      have HL6 := hide ((HL3.out.trans (hl35.mono (by omega))).trans (hl6.mono (by omega)))
      have HB6 := hide ((HB3.out.below hl35 (by omega)).below hl6 (by omega))
      have HS6 := hide ((HS3.out.below hl35 (by omega)).below hl6 (by omega))
      have HX6 := hide (hb5.below hl6 hb5.lt)
      have HG6 := hide ((HG3.out.later hl35).later hl6)
      clear HL3 HB3 HS3 HG3 hl35 hl6 hb4 hl4 hb5 hg5 hm3
      go_wp2_with (first
        | (refine wpList_alloc_blk rfl 26 rfl _ (sec_zero _) ?_; intro w7 hb7 hl7 hs7; clear hs7)
        | (refine wpList_store_all rfl 26 (.tmp 5) (.tmp 12) rfl w6.heap.size 26 _ hb7 rfl UP rfl HIP.out (HPl.out.trans (secL_length zeroSec).symm) HPO.out ?_; intro w8 hb8 hg8 hs8; clear hs8; have hl68 : Below w6.heap.size w6 w8 := hl7.grown hg8 (by have := hl7.size; omega) (fun g e => by injection e with e; omega); have HB8 := hide (HB6.out.below hl68 (by omega)); have HS8 := hide (HS6.out.below hl68 (by omega)); have HX8 := hide (HX6.out.below hl68 HX6.out.lt); have HG8 := hide (HG6.out.later hl68))
        | (refine when_load rfl 26 (.tmp 5) rfl w6.heap.size 0 26 _ hb8 rfl UP _ (fun j v hj => by rw [Nat.zero_add]; simpa using hj) Try.underlying26 rfl HIP.out ?_)
        | (refine when_load rfl 26 (.tmp 1) rfl w.heap.size 0 26 _ HS8.out rfl US _ (fun j v hj => by rw [Nat.zero_add]; simpa using hj) Try.underlying26 rfl HIS.out ?_)
        | (refine when_neq rfl 26 5 _ (.tmp 17) (.tmp 18) rfl 64 _ Try.underlying26 Try.underlying5 u8_info (by kernel_rfl) (by kernel_rfl) (putS L).1 s.1 (putS L).2 s.2 HEP.out HES.out true HEQ.out ?_)
        | (refine wpList_build_is rfl 24 #[] rfl [] (by simp) (labC Lab.none_ none 0 0).toArray built_lab0 ?_)
        | (refine wpList_store_all rfl 24 (.tmp 2) (.tmp 21) rfl w1.heap.size 24 _ HB8.out rfl (labC Lab.none_ none 0 0) rfl lab_info rfl (labC_one _ _ _ _) ?_; intro w9 hb9 hg9 hs9; clear hs9))
      exact ret_cell_tmp rfl w1.heap.size 24 (labC Lab.none_ none 0 0) _ hb9 rfl Try.underlying24 rfl lab_info (.int .i64 2) rfl rfl ⟨⟨none, 0, 0, rfl, Gave.none_⟩, (HL6.out.trans (hl68.mono (by omega))).grown hg9 (by have := hl68.size; omega) (fun g e => by injection e with e; omega)⟩
    | true =>
      have hB : ofB s = true := by rw [ofB, ← HLL.out, hr, hd]; rfl
      have HO := hide (show ofL s = L by rw [ofL, hB, HLL.out]; rfl)
      have HE := hide (show ofE s = 0 by rw [ofE, hB]; rfl)
      have HEQ := hide (show (!decide ((putS L).1 = s.1)) = false by
        rw [hPS.out, (by simpa using hd : labS L = s)]
        simp)
      rw [HO.out, HE.out]
      clear hr hd hB
      go_enter Try.func14, Try.ntmps14
      go_wp2_with (first
        | (refine wpList_box_blk rfl 26 _ rfl (.agg US.toArray) rfl ?_; intro w1 hb1q hl1 hs1; clear hs1; have hb1 : Blk w1 w.heap.size 26 US.toArray := hb1q; clear hb1q)
        | (refine wpList_alloc_blk rfl 24 rfl _ (lab_zero _) ?_; intro w2 hb2 hl2 hs2; clear hs2)
        | (refine wpList_load_blk rfl 26 (.tmp 1) rfl w.heap.size 0 26 _ (hb1.below hl2 hb1.lt) rfl US _ (fun j v hj => by rw [Nat.zero_add]; simpa using hj) Try.underlying26 rfl HIS.out ?_))
      refine (HR.out w2).mono ?_
      rintro _ w3 ⟨⟨A, n, c, rfl, hm3, hf3⟩, hl3⟩
      have hz1 := hb1.lt
      have hz2 := hb2.lt
      have hz3 := hl3.size
      have HL3 := hide ((hl1.trans (hl2.mono (by omega))).trans (hl3.mono (by omega)))
      have HB3 := hide (hb2.below hl3 hz2)
      have HS3 := hide ((hb1.below hl2 hz1).below hl3 (by omega))
      have HG3 : Hid (Gave L w w3 A n c) := ⟨hm3, fun h0 ad e => by have := hf3 h0 ad e; omega⟩
      have HF3 := hide hf3
      clear hb1 hb2 hl1 hl2 hf3
      go_wp2_with (first
        | (refine wpList_alloc_blk rfl 24 rfl _ (lab_zero _) ?_; intro w4 hb4 hl4 hs4; clear hs4)
        | (refine wpList_store_all rfl 24 (.tmp 4) (.tmp 8) rfl w3.heap.size 24 _ hb4 rfl (labC L A n c) rfl lab_info rfl (labC_one _ _ _ _) ?_; intro w5 hb5 hg5 hs5; clear hs5)
        | (refine wpList_load_blk rfl 24 (.tmp 4) rfl w3.heap.size 0 24 _ hb5 rfl (labC L A n c) _ (fun j v hj => by rw [Nat.zero_add]; simpa using hj) Try.underlying24 rfl lab_info ?_))
      have hz4 := hb4.lt
      have hz5 := hg5.size
      have hl35 : Below w3.heap.size w3 w5 := hl4.grown hg5 (by have := hl4.size; omega) (fun g e => by injection e with e; omega)
      refine (HP.out A n c w3.heap.size w5 (hm3.below hl35) (by omega)).mono ?_
      rintro _ w6 ⟨rfl, hl6⟩
      have hz6 := hl6.size
      have HL6 := hide ((HL3.out.trans (hl35.mono (by omega))).trans (hl6.mono (by omega)))
      have HB6 := hide ((HB3.out.below hl35 (by omega)).below hl6 (by omega))
      have HS6 := hide ((HS3.out.below hl35 (by omega)).below hl6 (by omega))
      have HX6 := hide (hb5.below hl6 hb5.lt)
      have HG6 := hide ((HG3.out.later hl35).later hl6)
      clear HL3 HB3 HS3 HG3 hl35 hl6 hb4 hl4 hb5 hg5 hm3
      go_wp2_with (first
        | (refine wpList_alloc_blk rfl 26 rfl _ (sec_zero _) ?_; intro w7 hb7 hl7 hs7; clear hs7)
        | (refine wpList_store_all rfl 26 (.tmp 5) (.tmp 12) rfl w6.heap.size 26 _ hb7 rfl UP rfl HIP.out (HPl.out.trans (secL_length zeroSec).symm) HPO.out ?_; intro w8 hb8 hg8 hs8; clear hs8; have hl68 : Below w6.heap.size w6 w8 := hl7.grown hg8 (by have := hl7.size; omega) (fun g e => by injection e with e; omega); have HB8 := hide (HB6.out.below hl68 (by omega)); have HS8 := hide (HS6.out.below hl68 (by omega)); have HX8 := hide (HX6.out.below hl68 HX6.out.lt); have HG8 := hide (HG6.out.later hl68))
        | (refine when_load rfl 26 (.tmp 5) rfl w6.heap.size 0 26 _ hb8 rfl UP _ (fun j v hj => by rw [Nat.zero_add]; simpa using hj) Try.underlying26 rfl HIP.out ?_)
        | (refine when_load rfl 26 (.tmp 1) rfl w.heap.size 0 26 _ HS8.out rfl US _ (fun j v hj => by rw [Nat.zero_add]; simpa using hj) Try.underlying26 rfl HIS.out ?_)
        | (refine when_neq rfl 26 5 _ (.tmp 17) (.tmp 18) rfl 64 _ Try.underlying26 Try.underlying5 u8_info (by kernel_rfl) (by kernel_rfl) (putS L).1 s.1 (putS L).2 s.2 HEP.out HES.out false HEQ.out ?_)
        | (refine wpList_load_blk rfl 24 (.tmp 4) rfl w3.heap.size 0 24 _ HX8.out rfl (labC L A n c) _ (fun j v hj => by rw [Nat.zero_add]; simpa using hj) Try.underlying24 rfl lab_info ?_)
        | (refine wpList_store_all rfl 24 (.tmp 2) (.tmp 22) rfl w1.heap.size 24 _ HB8.out rfl (labC L A n c) rfl lab_info rfl (labC_one _ _ _ _) ?_; intro w9 hb9 hg9 hs9; clear hs9))
      exact ret_cell_tmp rfl w1.heap.size 24 (labC L A n c) _ hb9 rfl Try.underlying24 rfl lab_info (.int .i64 0) rfl rfl ⟨⟨A, n, c, rfl, HG8.out.grown hg9 (fun h0 ad e => by have := HF3.out h0 ad e; omega)⟩, (HL6.out.trans (hl68.mono (by omega))).grown hg9 (by have := hl68.size; omega) (fun g e => by injection e with e; omega)⟩
#print axioms of_any
end Go.Proofs.Ytbbfgcekjelmkaa
