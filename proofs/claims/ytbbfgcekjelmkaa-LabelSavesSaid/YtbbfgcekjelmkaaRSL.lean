/- The reference's Save and Load over its bank; and a disk of a number below 0, on both sides. -/
import Derived.Test.YtbbfgcekjelmkaaSaveL
import Derived.Test.YtbbfgcekjelmkaaRefKA
import Derived.Test.YtbbfgcekjelmkaaRefLP
import Derived.Test.YtbbfgcekjelmkaaLoadL
import Derived.Test.YtbbfgcekjelmkaaRefO
namespace Go.Proofs.Ytbbfgcekjelmkaa
open Go.RowKit
set_option linter.unusedVariables false
section
variable {w : World} {b : Nat} {S : Bank} {F : Nat → Prop}
theorem RefOn.go (h : RefOn w b F S) : RefGo w w b F S := by
  obtain ⟨h1, h2, R, h3, h4⟩ := h
  exact ⟨h2, ⟨R, h3, fun x hx => .inl (h4 x hx)⟩, Turn.refl _ _⟩
theorem RefOn.go_more {w' : World} (h : RefOn w' b (More F w w') S) (hT : Turn F w w') : RefGo w w' b F S := by
  obtain ⟨h1, h2, R, h3, h4⟩ := h
  exact ⟨h2, ⟨R, h3, fun x hx => (h4 x hx).imp id (fun h => h.1)⟩, hT⟩
set_option maxRecDepth 100000 in
set_option maxHeartbeats 2000000 in
theorem rsave_on (h : RefOn w b F S) (hw : S.writes < 4611686018427387904) (l : Lab) (A : Option Addr) (n c : Nat) (hm : MbIn w w.heap.size A n c l.members) :
    Calls Try.prog 25 #[.pointer (some ⟨b, 0, none⟩), labV l A n c] w fun e w' => e = .returned (.int .i64 ((S.saveL l).1 : Int)) ∧ RefOn w' b (More F w w') (S.saveL l).2 ∧ Turn F w w' := by
  have hlt := h.1
  have HPut := hide (fun B0 w => refLput_any l A n c B0 w)
  obtain ⟨U, hU⟩ : ∃ U, U = secL (putS l) := ⟨_, rfl⟩
  have hUl : U.length = 64 := by rw [hU, secL_length]
  have hUo : ∀ v ∈ U, v.oneCell' = true := by rw [hU]; exact secL_one _
  have hiU : (Try.prog.info? 26).map (·.size) = some U.length := by rw [hUl]; exact sec_info
  have hs : secV (putS l) = .agg U.toArray := by rw [hU]; rfl
  rw [hs] at HPut
  have HUl := hide hUl
  have HUO := hide hUo
  have HIU := hide hiU
  have HU := hide hs
  have HM := hide hm
  have HB := hide h
  clear hUl hUo hiU hs hU hm h
  cases hr : rightB l with
  | false =>
    have hE : putE l = 1 := by rw [putE, hr]; rfl
    have HS := hide (show S.saveL l = (1, S) by unfold Bank.saveL; rw [hr]; rfl)
    rw [HS.out]
    rw [hE] at HPut
    clear hE hr
    unfold labV
    unfold labV at HPut
    go_enter Try.func25, Try.ntmps25
    go_wp2_with (first
      | (refine wpList_box_blk rfl 24 _ rfl (.agg (labC l A n c).toArray) rfl ?_; intro w1 hb1q hl1 hs1; clear hs1; have hb1 : Blk w1 w.heap.size 24 (labC l A n c).toArray := hb1q; clear hb1q)
      | (refine wpList_load_blk rfl 24 (.tmp 3) rfl w.heap.size 0 24 _ hb1 rfl (labC l A n c) _ (fun j v hj => by rw [Nat.zero_add]; simpa using hj) Try.underlying24 rfl lab_info ?_)
      | (go_at_call 13; refine (HPut.out w.heap.size w1 (HM.out.below hl1) hl1.size).mono ?_; rintro _ w2 ⟨rfl, hl2⟩)
      | (refine wpList_alloc_blk rfl 26 rfl _ (sec_zero _) ?_; intro w3 hb3 hl3 hs3; clear hs3)
      | (refine wpList_store_all rfl 26 (.tmp 5) (.tmp 10) rfl w2.heap.size 26 _ hb3 rfl U rfl HIU.out (HUl.out.trans (secL_length zeroSec).symm) HUO.out ?_; intro w4 hb4 hg4 hs4; clear hs4))
    go_ret
    have hz1 := hl1.size
    have hz2 := hl2.size
    have hl02 : Below w.heap.size w w2 := hl1.trans (hl2.mono hz1)
    have hl03 : Below w.heap.size w w3 := hl02.trans (hl3.mono (by omega))
    have hl04 : Below w.heap.size w w4 := hl03.grown hg4 hl03.size (fun g e => by injection e with e; omega)
    have hf := (HB.out.later hl04).go.fin hl04 hlt
    exact ⟨rfl, hf.1, hf.2⟩
  | true =>
    have hE : putE l = 0 := by rw [putE, hr]; rfl
    have hPS : putS l = labS l := by rw [putS, hr]; rfl
    obtain ⟨_, q2, _⟩ := right_parts hr
    have q7 := right_member hr
    obtain ⟨m, hmem⟩ : ∃ m : Nat, m = l.member.toNat := ⟨_, rfl⟩
    obtain ⟨g, hgen⟩ : ∃ g : Nat, g = l.gen.toNat := ⟨_, rfl⟩
    have hmI : l.member = (m : Int) := by omega
    have hgI : l.gen = (g : Int) := by omega
    obtain ⟨C, hC⟩ : ∃ C, C = S.laysL l := ⟨_, rfl⟩
    have hSv : S.saveL l = if C.1 = 0 then (C.2.may m, if C.2.may m = 0 then C.2.flush m else C.2) else C := by
      rw [hC, hmem]
      unfold Bank.saveL
      rw [hr]
      rfl
    obtain ⟨C1, C2⟩ := C
    have HS := hide hSv
    have HWr := hide (fun w1 (h1 : RefOn w1 b F S) => rOn_write h1 hw m (g % 2) (putS l))
    rw [show S.write m (g % 2) (putS l) = (C1, C2) by rw [hC, hPS, hmem, hgen]; rfl, HU.out, show (((g % 2 : Nat)) : Int) = (g : Int) % 2 by omega] at HWr
    have HFl := hide (fun w1 G (h1 : RefOn w1 b G C2) => rOn_flush h1 m)
    rw [hE] at HPut
    have HCM := hide (And.intro hmI hgI)
    have hg31 : (g : Int) < 4294967296 := by omega
    clear hE hr q2 q7 hmem hgen hmI hgI hSv hC hPS
    unfold labV
    unfold labV at HPut
    go_enter Try.func25, Try.ntmps25
    go_wp2_with (first
      | (refine wpList_box_blk rfl 24 _ rfl (.agg (labC l A n c).toArray) rfl ?_; intro w1 hb1q hl1 hs1; clear hs1; have hb1 : Blk w1 w.heap.size 24 (labC l A n c).toArray := hb1q; clear hb1q)
      | (refine wpList_load_blk rfl 24 (.tmp 3) rfl w.heap.size 0 24 _ hb1 rfl (labC l A n c) _ (fun j v hj => by rw [Nat.zero_add]; simpa using hj) Try.underlying24 rfl lab_info ?_)
      | (go_at_call 13; refine (HPut.out w.heap.size w1 (HM.out.below hl1) hl1.size).mono ?_; rintro _ w2 ⟨rfl, hl2⟩)
      | (refine wpList_alloc_blk rfl 26 rfl _ (sec_zero _) ?_; intro w3 hb3 hl3 hs3; clear hs3)
      | (refine wpList_store_all rfl 26 (.tmp 5) (.tmp 10) rfl w2.heap.size 26 _ hb3 rfl U rfl HIU.out (HUl.out.trans (secL_length zeroSec).symm) HUO.out ?_; intro w4 hb4 hg4 hs4; clear hs4
         have hz1 := hb1.lt
         have hz2 := hl2.size
         have hz3 := hl3.size
         have hl02 : Below w.heap.size w w2 := hl1.trans (hl2.mono (by omega))
         have hl03 : Below w.heap.size w w3 := hl02.trans (hl3.mono (by omega))
         have hl04 : Below w.heap.size w w4 := hl03.grown hg4 hl03.size (fun g e => by injection e with e; omega)
         have HL4 := hide hl04
         have hx4 : Blk w4 w.heap.size 24 (labC l A n c).toArray := ((hb1.below hl2 hz1).below hl3 (by omega)).grown hg4 (fun e => by injection e with e; omega)
         have HX4 := hide hx4
         have c1 := lab_c1 hx4
         have c2 := lab_c2 hx4
         rw [HCM.out.1] at c2
         rw [HCM.out.2] at c1
         clear hx4 hl02 hl03 hl04 hg4 hl3 hl2 hl1 hb3 hb1)
      | (refine wpList_load_blk rfl 26 (.tmp 5) rfl w2.heap.size 0 26 _ hb4 rfl U _ (fun j v hj => by rw [Nat.zero_add]; simpa using hj) Try.underlying26 rfl HIU.out ?_))
    refine (HWr.out w4 (HB.out.later HL4.out)).mono ?_
    rintro _ w5 ⟨rfl, hB5, hT5⟩
    have hnF : ¬ F w.heap.size := fun hf => Nat.lt_irrefl _ (hlt _ hf)
    have hx5 := HX4.out.turned hT5 hnF
    have c25 := lab_c2 hx5
    rw [HCM.out.1] at c25
    have HG5 := hide (hB5.go_more hT5)
    clear hB5 hT5 c1 c2 hb4 hx5 HX4
    by_cases h0 : C1 = 0
    · have HS2 := hide (show (if C1 = 0 then (C2.may m, if C2.may m = 0 then C2.flush m else C2) else (C1, C2)) = (C2.may m, if C2.may m = 0 then C2.flush m else C2) by rw [if_pos h0])
      have hz0 : (C1 : Int) = 0 := by omega
      clear h0
      go_wp2_with fail
      refine (HFl.out w5 _ (HG5.out.on (fun x hx => by have := hlt x hx; have := HL4.out.size; omega))).mono ?_
      rintro _ w6 ⟨rfl, hB6, hT6⟩
      have HG6 := hide (HG5.out.step hB6 hT6)
      clear hB6 hT6
      clear hz0
      go_wp2_with fail
      go_ret
      rw [HS.out, HS2.out]
      have hf := HG6.out.fin HL4.out hlt
      exact ⟨rfl, hf.1, hf.2⟩
    · have HS2 := hide (show (if C1 = 0 then (C2.may m, if C2.may m = 0 then C2.flush m else C2) else (C1, C2)) = (C1, C2) by rw [if_neg h0])
      have hne : ((C1 : Int) != 0) = true := by simp; omega
      clear h0
      go_wp2_with fail
      go_ret
      rw [HS.out, HS2.out]
      have hf := HG5.out.fin HL4.out hlt
      exact ⟨rfl, hf.1, hf.2⟩
end
#print axioms rsave_on
set_option linter.unusedVariables false
theorem best_gen (S : Bank) (d : Nat) : ∀ k, 0 ≤ (S.bestL d k).gen
  | 0 => Int.le_refl _
  | k + 1 => by
    show 0 ≤ (candL d (S.bestL d k) (S.newest d k)).gen
    unfold candL
    have h := best_gen S d k
    split
    · rename_i hc
      unfold candB at hc
      simp only [Bool.and_eq_true, decide_eq_true_eq] at hc
      omega
    · exact h
section
variable {w : World} {b : Nat} {S : Bank} {F : Nat → Prop}
theorem rOn_read (h : RefOn w b F S) (d k : Nat) :
    Calls Try.prog 58 #[.pointer (some ⟨b, 0, none⟩), .agg #[.int .i64 (d : Int), .int .i64 (k : Int)]] w fun e w' => e = .returned (readV S d k) ∧ Below w.heap.size w w' := by
  obtain ⟨_, _, R, h3, _⟩ := h
  exact rread_any h3 d k
set_option maxRecDepth 100000 in
set_option maxHeartbeats 4000000 in
theorem rload_on (h : RefOn w b F S) (d : Nat) :
    Calls Try.prog 27 #[.pointer (some ⟨b, 0, none⟩), .int .i64 (d : Int)] w fun e w' => (∃ A n c, e = .returned (.tuple #[labV (S.loadL d).1 A n c, .int .i64 ((S.loadL d).2 : Int)]) ∧ Gave (S.loadL d).1 w w' A n c) ∧ Below w.heap.size w w' := by
  have HB := hide h
  clear h
  go_enter Try.func27, Try.ntmps27
  go_wp2_with (first
    | (refine wpList_alloc_blk rfl 24 rfl _ (lab_zero w) ?_; intro w1 hb1 hl1 hs1; clear hs1)
    | (refine wpList_alloc_blk rfl 24 rfl _ (lab_zero w1) ?_; intro w2 hb2 hl2 hs2; clear hs2))
  have hz1 := hb1.lt
  have hz2 := hb2.lt
  have hl02 : Below w.heap.size w w2 := hl1.trans (hl2.mono (by omega))
  have HR0 := hide (hb1.below hl2 hz1)
  have HN0 : Hid (Blk w2 w1.heap.size 24 (labC Lab.none_ none 0 0).toArray) := hb2
  clear hb1 hb2
  go_loopw [7, 8, 9, 10, 11, 12] (fun s7 s8 _ _ _ _ wr => ∃ (k : Nat) (A : Option Addr) (n c : Nat) (β : Bool), s8 = .int .i64 (k : Int) ∧ k ≤ 2 ∧ s7 = .bool β ∧ Hid (β = decide ((S.bestL d k).gen ≠ 0)) ∧ (∀ j, j < k → S.place d j = 0) ∧ Hid (Blk wr w.heap.size 24 (labC Lab.none_ none 0 0).toArray) ∧ Hid (Blk wr w1.heap.size 24 (labC (S.bestL d k) A n c).toArray) ∧ Hid (Gave (S.bestL d k) w2 wr A n c) ∧ Below w.heap.size w wr ∧ w2.heap.size ≤ wr.heap.size) (fun _ s8 _ _ _ _ _ => 2 - (intOf s8).toNat)
  case atStart => exact ⟨0, none, 0, 0, false, rfl, by decide, rfl, rfl, fun j hj => absurd hj (Nat.not_lt_zero j), HR0, HN0, Gave.none_, hl02, Nat.le_refl _⟩
  case round =>
    obtain ⟨k, A, n, c, β, rfl, hk, rfl, hβ, hall, HR, HN, HG, hl, hsz⟩ := hrel
    obtain ⟨wo, rfl⟩ : ∃ wo, wo = wr := ⟨_, rfl⟩
    have hbg := best_gen S d k
    by_cases hk2 : k < 2
    · have hg1 : (k : Int) < 2 := by omega
      have hB := HB.out.later hl
      have hR := rOn_read hB d k
      by_cases hp : S.place d k = 0
      · rw [readV_ok hp] at hR
        obtain ⟨U, hU⟩ : ∃ U, U = secL (S.newest d k) := ⟨_, rfl⟩
        have hUl : U.length = 64 := by rw [hU, secL_length]
        have hUo : ∀ v ∈ U, v.oneCell' = true := by rw [hU]; exact secL_one _
        have hiU : (Try.prog.info? 26).map (·.size) = some U.length := by rw [hUl]; exact sec_info
        have hs : secV (S.newest d k) = .agg U.toArray := by rw [hU]; rfl
        have HOf := hide (fun w => refOf_any (S.newest d k) w)
        rw [hs] at hR HOf
        have HRd := hide hR
        have HUl := hide hUl
        have HUO := hide hUo
        have HIU := hide hiU
        have HAll : Hid (∀ j, j < k + 1 → S.place d j = 0) := fun j hj => by
          rcases Nat.lt_or_ge j k with h | h
          · exact hall j h
          · rw [show j = k by omega]; exact hp
        have HSt := hide (show S.bestL d (k + 1) = candL d (S.bestL d k) (S.newest d k) from rfl)
        have HRight := hide (fun (h : ofB (S.newest d k) = true) => (of_parts h).1)
        obtain ⟨best, hbest⟩ : ∃ x, x = S.bestL d k := ⟨_, rfl⟩
        rw [← hbest] at HN HG HSt hbg hβ
        clear hU hUl hUo hiU hs hR hB hp hall hbest
        obtain ⟨L, hL⟩ : ∃ L, L = ofL (S.newest d k) := ⟨_, rfl⟩
        rw [← hL] at HOf HRight
        have HSt2 : Hid (S.bestL d (k + 1) = if ofB (S.newest d k) && (decide (L.member = (d : Int)) && decide (best.gen < L.gen)) then L else best) := by
          show _ = _
          rw [HSt.out, candL, candB, hL]
        clear hL HSt
        cases hof : ofB (S.newest d k) with
        | false =>
          have hE : ofE (S.newest d k) = 2 := by rw [ofE, hof]; rfl
          have HEq := hide (show S.bestL d (k + 1) = best by rw [HSt2.out, hof]; rfl)
          rw [hE] at HOf
          clear hE hof HSt2 HRight
          go_wp2_with fail
          refine HRd.out.mono ?_
          rintro _ w3 ⟨rfl, hl3⟩
          have hz3 := hl3.size
          have HL3 := hide (hl.trans (hl3.mono hl.size))
          have HR3 := hide (HR.out.below hl3 HR.out.lt)
          have HN3 := hide (HN.out.below hl3 HN.out.lt)
          have HG3 := hide (HG.out.later hl3)
          clear hl3 hl
          go_wp2_with (first
            | (refine wpList_alloc_blk rfl 26 rfl _ (sec_zero w3) ?_; intro w4 hb4 hl4 hs4; clear hs4)
            | (refine wpList_store_all rfl 26 (.tmp 9) (.tmp 23) rfl w3.heap.size 26 _ hb4 rfl U rfl HIU.out (HUl.out.trans (secL_length zeroSec).symm) HUO.out ?_; intro w5 hb5 hg5 hs5; clear hs5)
            | (refine wpList_load_blk rfl 26 (.tmp 9) rfl w3.heap.size 0 26 _ hb5 rfl U _ (fun j v hj => by rw [Nat.zero_add]; simpa using hj) Try.underlying26 rfl HIU.out ?_))
          have hz4 := hb4.lt
          have hz5 := hg5.size
          have hl35 : Below w3.heap.size w3 w5 := hl4.grown hg5 (by omega) (fun g e => by injection e with e; omega)
          refine (HOf.out w5).mono ?_
          rintro _ w6 ⟨⟨A6, n6, c6, rfl, hG6⟩, hl6⟩
          have hz6 := hl6.size
          have hF6 := hG6.2
          have hl36 : Below w3.heap.size w3 w6 := hl35.trans (hl6.mono (by omega))
          have HL6 := hide (HL3.out.trans (hl36.mono HL3.out.size))
          have HR6 := hide (HR3.out.below hl36 HR3.out.lt)
          have HN6 := hide (HN3.out.below hl36 HN3.out.lt)
          have HG6 := hide (HG3.out.later hl36)
          have HK6 := hide hG6
          have hn3 := HN3.out.lt
          clear hG6 hl6 hl35 hl36 hb4 hl4 hb5 hg5 HL3 HR3 HN3 HG3
          go_wp2_with (first
            | (refine wpList_alloc_blk rfl 24 rfl _ (lab_zero w6) ?_; intro w7 hb7 hl7 hs7; clear hs7)
            | (refine wpList_store_all rfl 24 (.tmp 11) (.tmp 32) rfl w6.heap.size 24 _ hb7 rfl (labC L A6 n6 c6) rfl lab_info rfl (labC_one _ _ _ _) ?_; intro w8 hb8 hg8 hs8; clear hs8; have hz7 := hb7.lt; have hl68 : Below w6.heap.size w6 w8 := hl7.grown hg8 (by omega) (fun g e => by injection e with e; omega); have HN8 := hide (HN6.out.below hl68 (by omega)); have HR8 := hide (HR6.out.below hl68 (by have := HR6.out.lt; omega)); have HG8 := hide (HG6.out.later hl68); have HK8 := hide (HK6.out.later hl68); have HL8 := hide (HL6.out.trans (hl68.mono HL6.out.size)); have hz68 := hl68.size))
          go_roundw
          case rel => exact ⟨k + 1, A, n, c, β, by simp, by omega, rfl, by rw [HEq.out]; exact hβ, HAll.out, HR8, by rw [HEq.out]; exact HN8, by rw [HEq.out]; exact HG8, HL8.out, by omega⟩
          case measure => simp [intOf]; omega
        | true =>
          have hE : ofE (S.newest d k) = 0 := by rw [ofE, hof]; rfl
          obtain ⟨_, hLg, _⟩ := right_parts (HRight.out hof)
          rw [hE] at HOf
          by_cases hmem : L.member = (d : Int)
          · by_cases hgen : best.gen < L.gen
            · have HEq := hide (show S.bestL d (k + 1) = L by rw [HSt2.out, hof, decide_eq_true hmem, decide_eq_true hgen]; rfl)
              clear hE hof HSt2 HRight
              by_cases hb0 : best.gen = 0
              · obtain rfl : β = false := by rw [hβ.out]; simpa using hb0
                clear hβ
                go_wp2_with fail
                refine HRd.out.mono ?_
                rintro _ w3 ⟨rfl, hl3⟩
                have hz3 := hl3.size
                have HL3 := hide (hl.trans (hl3.mono hl.size))
                have HR3 := hide (HR.out.below hl3 HR.out.lt)
                have HN3 := hide (HN.out.below hl3 HN.out.lt)
                have HG3 := hide (HG.out.later hl3)
                clear hl3 hl
                go_wp2_with (first
                  | (refine wpList_alloc_blk rfl 26 rfl _ (sec_zero w3) ?_; intro w4 hb4 hl4 hs4; clear hs4)
                  | (refine wpList_store_all rfl 26 (.tmp 9) (.tmp 23) rfl w3.heap.size 26 _ hb4 rfl U rfl HIU.out (HUl.out.trans (secL_length zeroSec).symm) HUO.out ?_; intro w5 hb5 hg5 hs5; clear hs5)
                  | (refine wpList_load_blk rfl 26 (.tmp 9) rfl w3.heap.size 0 26 _ hb5 rfl U _ (fun j v hj => by rw [Nat.zero_add]; simpa using hj) Try.underlying26 rfl HIU.out ?_))
                have hz4 := hb4.lt
                have hz5 := hg5.size
                have hl35 : Below w3.heap.size w3 w5 := hl4.grown hg5 (by omega) (fun g e => by injection e with e; omega)
                refine (HOf.out w5).mono ?_
                rintro _ w6 ⟨⟨A6, n6, c6, rfl, hG6⟩, hl6⟩
                have hz6 := hl6.size
                have hF6 := hG6.2
                have hl36 : Below w3.heap.size w3 w6 := hl35.trans (hl6.mono (by omega))
                have HL6 := hide (HL3.out.trans (hl36.mono HL3.out.size))
                have HR6 := hide (HR3.out.below hl36 HR3.out.lt)
                have HN6 := hide (HN3.out.below hl36 HN3.out.lt)
                have HG6 := hide (HG3.out.later hl36)
                have HK6 := hide hG6
                have hn3 := HN3.out.lt
                clear hG6 hl6 hl35 hl36 hb4 hl4 hb5 hg5 HL3 HR3 HN3 HG3
                go_wp2_with (first
                  | (refine wpList_alloc_blk rfl 24 rfl _ (lab_zero w6) ?_; intro w7 hb7 hl7 hs7; clear hs7)
                  | (refine wpList_store_all rfl 24 (.tmp 11) (.tmp 32) rfl w6.heap.size 24 _ hb7 rfl (labC L A6 n6 c6) rfl lab_info rfl (labC_one _ _ _ _) ?_; intro w8 hb8 hg8 hs8; clear hs8; have hz7 := hb7.lt; have hl68 : Below w6.heap.size w6 w8 := hl7.grown hg8 (by omega) (fun g e => by injection e with e; omega); have HN8 := hide (HN6.out.below hl68 (by omega)); have HR8 := hide (HR6.out.below hl68 (by have := HR6.out.lt; omega)); have HG8 := hide (HG6.out.later hl68); have HK8 := hide (HK6.out.later hl68); have HL8 := hide (HL6.out.trans (hl68.mono HL6.out.size)); have hz68 := hl68.size; have x2 := lab_c2 hb8; have x1 := lab_c1 hb8; have y1 := lab_c1 HN8.out; rw [hmem] at x2)
                  | (refine wpList_load_blk rfl 24 (.tmp 11) rfl w6.heap.size 0 24 _ hb8 rfl (labC L A6 n6 c6) _ (fun j v hj => by rw [Nat.zero_add]; simpa using hj) Try.underlying24 rfl lab_info ?_)
                  | (refine wpList_store_all rfl 24 (.tmp 6) (.tmp 53) rfl w1.heap.size 24 _ HN8.out rfl (labC L A6 n6 c6) rfl lab_info rfl (labC_one _ _ _ _) ?_; intro w9 hb9 hg9 hs9; clear hs9))
                have hz9 := hg9.size
                have HN9 := hide hb9
                have HR9 := hide (HR8.out.grown hg9 (fun e => by injection e with e; omega))
                have HG9 : Hid (Gave L w2 w9 A6 n6 c6) := (HK8.out.from_ (by omega)).grown hg9 (fun h0 ad e => by have := hF6 h0 ad e; omega)
                have HL9 := hide (HL8.out.grown hg9 HL8.out.size (fun g e => by injection e with e; omega))
                clear hb9 hg9
                go_roundw
                case rel => exact ⟨k + 1, A6, n6, c6, true, by simp, by omega, rfl, by rw [HEq.out]; show _ = _; exact (decide_eq_true (by omega)).symm, HAll.out, HR9, by rw [HEq.out]; exact HN9, by rw [HEq.out]; exact HG9, HL9.out, by omega⟩
                case measure => simp [intOf]; omega
              · obtain rfl : β = true := by rw [hβ.out]; simpa using hb0
                clear hβ
                go_wp2_with fail
                refine HRd.out.mono ?_
                rintro _ w3 ⟨rfl, hl3⟩
                have hz3 := hl3.size
                have HL3 := hide (hl.trans (hl3.mono hl.size))
                have HR3 := hide (HR.out.below hl3 HR.out.lt)
                have HN3 := hide (HN.out.below hl3 HN.out.lt)
                have HG3 := hide (HG.out.later hl3)
                clear hl3 hl
                go_wp2_with (first
                  | (refine wpList_alloc_blk rfl 26 rfl _ (sec_zero w3) ?_; intro w4 hb4 hl4 hs4; clear hs4)
                  | (refine wpList_store_all rfl 26 (.tmp 9) (.tmp 23) rfl w3.heap.size 26 _ hb4 rfl U rfl HIU.out (HUl.out.trans (secL_length zeroSec).symm) HUO.out ?_; intro w5 hb5 hg5 hs5; clear hs5)
                  | (refine wpList_load_blk rfl 26 (.tmp 9) rfl w3.heap.size 0 26 _ hb5 rfl U _ (fun j v hj => by rw [Nat.zero_add]; simpa using hj) Try.underlying26 rfl HIU.out ?_))
                have hz4 := hb4.lt
                have hz5 := hg5.size
                have hl35 : Below w3.heap.size w3 w5 := hl4.grown hg5 (by omega) (fun g e => by injection e with e; omega)
                refine (HOf.out w5).mono ?_
                rintro _ w6 ⟨⟨A6, n6, c6, rfl, hG6⟩, hl6⟩
                have hz6 := hl6.size
                have hF6 := hG6.2
                have hl36 : Below w3.heap.size w3 w6 := hl35.trans (hl6.mono (by omega))
                have HL6 := hide (HL3.out.trans (hl36.mono HL3.out.size))
                have HR6 := hide (HR3.out.below hl36 HR3.out.lt)
                have HN6 := hide (HN3.out.below hl36 HN3.out.lt)
                have HG6 := hide (HG3.out.later hl36)
                have HK6 := hide hG6
                have hn3 := HN3.out.lt
                clear hG6 hl6 hl35 hl36 hb4 hl4 hb5 hg5 HL3 HR3 HN3 HG3
                go_wp2_with (first
                  | (refine wpList_alloc_blk rfl 24 rfl _ (lab_zero w6) ?_; intro w7 hb7 hl7 hs7; clear hs7)
                  | (refine wpList_store_all rfl 24 (.tmp 11) (.tmp 32) rfl w6.heap.size 24 _ hb7 rfl (labC L A6 n6 c6) rfl lab_info rfl (labC_one _ _ _ _) ?_; intro w8 hb8 hg8 hs8; clear hs8; have hz7 := hb7.lt; have hl68 : Below w6.heap.size w6 w8 := hl7.grown hg8 (by omega) (fun g e => by injection e with e; omega); have HN8 := hide (HN6.out.below hl68 (by omega)); have HR8 := hide (HR6.out.below hl68 (by have := HR6.out.lt; omega)); have HG8 := hide (HG6.out.later hl68); have HK8 := hide (HK6.out.later hl68); have HL8 := hide (HL6.out.trans (hl68.mono HL6.out.size)); have hz68 := hl68.size; have x2 := lab_c2 hb8; have x1 := lab_c1 hb8; have y1 := lab_c1 HN8.out; rw [hmem] at x2)
                  | (refine wpList_load_blk rfl 24 (.tmp 11) rfl w6.heap.size 0 24 _ hb8 rfl (labC L A6 n6 c6) _ (fun j v hj => by rw [Nat.zero_add]; simpa using hj) Try.underlying24 rfl lab_info ?_)
                  | (refine wpList_store_all rfl 24 (.tmp 6) (.tmp 53) rfl w1.heap.size 24 _ HN8.out rfl (labC L A6 n6 c6) rfl lab_info rfl (labC_one _ _ _ _) ?_; intro w9 hb9 hg9 hs9; clear hs9))
                have hz9 := hg9.size
                have HN9 := hide hb9
                have HR9 := hide (HR8.out.grown hg9 (fun e => by injection e with e; omega))
                have HG9 : Hid (Gave L w2 w9 A6 n6 c6) := (HK8.out.from_ (by omega)).grown hg9 (fun h0 ad e => by have := hF6 h0 ad e; omega)
                have HL9 := hide (HL8.out.grown hg9 HL8.out.size (fun g e => by injection e with e; omega))
                clear hb9 hg9
                go_roundw
                case rel => exact ⟨k + 1, A6, n6, c6, true, by simp, by omega, rfl, by rw [HEq.out]; show _ = _; exact (decide_eq_true (by omega)).symm, HAll.out, HR9, by rw [HEq.out]; exact HN9, by rw [HEq.out]; exact HG9, HL9.out, by omega⟩
                case measure => simp [intOf]; omega
            · have HEq := hide (show S.bestL d (k + 1) = best by rw [HSt2.out, hof, decide_eq_true hmem, decide_eq_false hgen]; rfl)
              have HFO := hide (show true = decide (best.gen ≠ 0) from (decide_eq_true (by omega)).symm)
              obtain rfl : β = true := by rw [hβ.out]; exact HFO.out.symm
              clear hE hof HSt2 HRight hβ
              go_wp2_with fail
              refine HRd.out.mono ?_
              rintro _ w3 ⟨rfl, hl3⟩
              have hz3 := hl3.size
              have HL3 := hide (hl.trans (hl3.mono hl.size))
              have HR3 := hide (HR.out.below hl3 HR.out.lt)
              have HN3 := hide (HN.out.below hl3 HN.out.lt)
              have HG3 := hide (HG.out.later hl3)
              clear hl3 hl
              go_wp2_with (first
                | (refine wpList_alloc_blk rfl 26 rfl _ (sec_zero w3) ?_; intro w4 hb4 hl4 hs4; clear hs4)
                | (refine wpList_store_all rfl 26 (.tmp 9) (.tmp 23) rfl w3.heap.size 26 _ hb4 rfl U rfl HIU.out (HUl.out.trans (secL_length zeroSec).symm) HUO.out ?_; intro w5 hb5 hg5 hs5; clear hs5)
                | (refine wpList_load_blk rfl 26 (.tmp 9) rfl w3.heap.size 0 26 _ hb5 rfl U _ (fun j v hj => by rw [Nat.zero_add]; simpa using hj) Try.underlying26 rfl HIU.out ?_))
              have hz4 := hb4.lt
              have hz5 := hg5.size
              have hl35 : Below w3.heap.size w3 w5 := hl4.grown hg5 (by omega) (fun g e => by injection e with e; omega)
              refine (HOf.out w5).mono ?_
              rintro _ w6 ⟨⟨A6, n6, c6, rfl, hG6⟩, hl6⟩
              have hz6 := hl6.size
              have hF6 := hG6.2
              have hl36 : Below w3.heap.size w3 w6 := hl35.trans (hl6.mono (by omega))
              have HL6 := hide (HL3.out.trans (hl36.mono HL3.out.size))
              have HR6 := hide (HR3.out.below hl36 HR3.out.lt)
              have HN6 := hide (HN3.out.below hl36 HN3.out.lt)
              have HG6 := hide (HG3.out.later hl36)
              have HK6 := hide hG6
              have hn3 := HN3.out.lt
              clear hG6 hl6 hl35 hl36 hb4 hl4 hb5 hg5 HL3 HR3 HN3 HG3
              go_wp2_with (first
                | (refine wpList_alloc_blk rfl 24 rfl _ (lab_zero w6) ?_; intro w7 hb7 hl7 hs7; clear hs7)
                | (refine wpList_store_all rfl 24 (.tmp 11) (.tmp 32) rfl w6.heap.size 24 _ hb7 rfl (labC L A6 n6 c6) rfl lab_info rfl (labC_one _ _ _ _) ?_; intro w8 hb8 hg8 hs8; clear hs8; have hz7 := hb7.lt; have hl68 : Below w6.heap.size w6 w8 := hl7.grown hg8 (by omega) (fun g e => by injection e with e; omega); have HN8 := hide (HN6.out.below hl68 (by omega)); have HR8 := hide (HR6.out.below hl68 (by have := HR6.out.lt; omega)); have HG8 := hide (HG6.out.later hl68); have HK8 := hide (HK6.out.later hl68); have HL8 := hide (HL6.out.trans (hl68.mono HL6.out.size)); have hz68 := hl68.size; have x2 := lab_c2 hb8; have x1 := lab_c1 hb8; have y1 := lab_c1 HN8.out; rw [hmem] at x2))
              go_roundw
              case rel => exact ⟨k + 1, A, n, c, true, by simp, by omega, rfl, by rw [HEq.out]; exact HFO.out, HAll.out, HR8, by rw [HEq.out]; exact HN8, by rw [HEq.out]; exact HG8, HL8.out, by omega⟩
              case measure => simp [intOf]; omega
          · have HEq := hide (show S.bestL d (k + 1) = best by rw [HSt2.out, hof, decide_eq_false hmem]; rfl)
            have hmf : decide (L.member = (d : Int)) = false := by simpa using hmem
            clear hE hof HSt2 HRight
            go_wp2_with fail
            refine HRd.out.mono ?_
            rintro _ w3 ⟨rfl, hl3⟩
            have hz3 := hl3.size
            have HL3 := hide (hl.trans (hl3.mono hl.size))
            have HR3 := hide (HR.out.below hl3 HR.out.lt)
            have HN3 := hide (HN.out.below hl3 HN.out.lt)
            have HG3 := hide (HG.out.later hl3)
            clear hl3 hl
            go_wp2_with (first
              | (refine wpList_alloc_blk rfl 26 rfl _ (sec_zero w3) ?_; intro w4 hb4 hl4 hs4; clear hs4)
              | (refine wpList_store_all rfl 26 (.tmp 9) (.tmp 23) rfl w3.heap.size 26 _ hb4 rfl U rfl HIU.out (HUl.out.trans (secL_length zeroSec).symm) HUO.out ?_; intro w5 hb5 hg5 hs5; clear hs5)
              | (refine wpList_load_blk rfl 26 (.tmp 9) rfl w3.heap.size 0 26 _ hb5 rfl U _ (fun j v hj => by rw [Nat.zero_add]; simpa using hj) Try.underlying26 rfl HIU.out ?_))
            have hz4 := hb4.lt
            have hz5 := hg5.size
            have hl35 : Below w3.heap.size w3 w5 := hl4.grown hg5 (by omega) (fun g e => by injection e with e; omega)
            refine (HOf.out w5).mono ?_
            rintro _ w6 ⟨⟨A6, n6, c6, rfl, hG6⟩, hl6⟩
            have hz6 := hl6.size
            have hF6 := hG6.2
            have hl36 : Below w3.heap.size w3 w6 := hl35.trans (hl6.mono (by omega))
            have HL6 := hide (HL3.out.trans (hl36.mono HL3.out.size))
            have HR6 := hide (HR3.out.below hl36 HR3.out.lt)
            have HN6 := hide (HN3.out.below hl36 HN3.out.lt)
            have HG6 := hide (HG3.out.later hl36)
            have HK6 := hide hG6
            have hn3 := HN3.out.lt
            clear hG6 hl6 hl35 hl36 hb4 hl4 hb5 hg5 HL3 HR3 HN3 HG3
            go_wp2_with (first
              | (refine wpList_alloc_blk rfl 24 rfl _ (lab_zero w6) ?_; intro w7 hb7 hl7 hs7; clear hs7)
              | (refine wpList_store_all rfl 24 (.tmp 11) (.tmp 32) rfl w6.heap.size 24 _ hb7 rfl (labC L A6 n6 c6) rfl lab_info rfl (labC_one _ _ _ _) ?_; intro w8 hb8 hg8 hs8; clear hs8; have hz7 := hb7.lt; have hl68 : Below w6.heap.size w6 w8 := hl7.grown hg8 (by omega) (fun g e => by injection e with e; omega); have HN8 := hide (HN6.out.below hl68 (by omega)); have HR8 := hide (HR6.out.below hl68 (by have := HR6.out.lt; omega)); have HG8 := hide (HG6.out.later hl68); have HK8 := hide (HK6.out.later hl68); have HL8 := hide (HL6.out.trans (hl68.mono HL6.out.size)); have hz68 := hl68.size; have x2 := lab_c2 hb8; have x1 := lab_c1 hb8; have y1 := lab_c1 HN8.out))
            go_roundw
            case rel => exact ⟨k + 1, A, n, c, β, by simp, by omega, rfl, by rw [HEq.out]; exact hβ, HAll.out, HR8, by rw [HEq.out]; exact HN8, by rw [HEq.out]; exact HG8, HL8.out, by omega⟩
            case measure => simp [intOf]; omega
      · rw [readV_no hp] at hR
        have HErr := hide (Bank.loadL_err hk2 hall hp)
        have hne : ((S.place d k : Int) != 0) = true := by simp; omega
        obtain ⟨U, hU⟩ : ∃ U, U = secL zeroSec := ⟨_, rfl⟩
        have hUl : U.length = 64 := by rw [hU, secL_length]
        have hUo : ∀ v ∈ U, v.oneCell' = true := by rw [hU]; exact secL_one _
        have hiU : (Try.prog.info? 26).map (·.size) = some U.length := by rw [hUl]; exact sec_info
        have hs : secV zeroSec = .agg U.toArray := by rw [hU]; rfl
        rw [hs] at hR
        have HRd := hide hR
        have HUl := hide hUl
        have HUO := hide hUo
        have HIU := hide hiU
        clear hU hUl hUo hiU hs hR hB hp hall
        go_wp2_with fail
        refine HRd.out.mono ?_
        rintro _ w3 ⟨rfl, hl3⟩
        have hz3 := hl3.size
        have HL3 := hide (hl.trans (hl3.mono hl.size))
        have HR3 := hide (HR.out.below hl3 HR.out.lt)
        clear hl3 hl
        go_wp2_with (first
          | (refine wpList_alloc_blk rfl 26 rfl _ (sec_zero w3) ?_; intro w4 hb4 hl4 hs4; clear hs4)
          | (refine wpList_store_all rfl 26 (.tmp 9) (.tmp 23) rfl w3.heap.size 26 _ hb4 rfl U rfl HIU.out (HUl.out.trans (secL_length zeroSec).symm) HUO.out ?_; intro w5 hb5 hg5 hs5; clear hs5; have hz4 := hb4.lt; have hl35 : Below w3.heap.size w3 w5 := hl4.grown hg5 (by omega) (fun g e => by injection e with e; omega); have HR5 := hide (HR3.out.below hl35 HR3.out.lt); have HL5 := hide (HL3.out.trans (hl35.mono HL3.out.size)))
          | (refine wpList_build_is rfl 24 #[] rfl [] (by simp) (labC Lab.none_ none 0 0).toArray built_lab0 ?_)
          | (refine wpList_store_all rfl 24 (.tmp 4) (.tmp 27) rfl w.heap.size 24 _ HR5.out rfl (labC Lab.none_ none 0 0) rfl lab_info rfl (labC_one _ _ _ _) ?_; intro w6 hb6 hg6 hs6; clear hs6))
        have hL6 : Below w.heap.size w w6 := HL5.out.grown hg6 HL5.out.size (fun g e => by injection e with e; omega)
        exact ret_cell_tmp rfl w.heap.size 24 (labC Lab.none_ none 0 0) _ hb6 rfl Try.underlying24 rfl lab_info (.int .i64 (S.place d k : Int)) rfl rfl ⟨⟨none, 0, 0, by rw [HErr.out]; rfl, by rw [HErr.out]; exact Gave.none_⟩, hL6⟩
    · obtain rfl : k = 2 := by omega
      have HOK := hide (Bank.loadL_ok hall)
      by_cases h0 : (S.bestL d 2).gen = 0
      · have HV := hide (show S.loadL d = (Lab.none_, 8) by rw [HOK.out, if_pos h0])
        obtain rfl : β = false := by rw [hβ.out]; simpa using h0
        clear hall HOK h0 hβ
        go_wp2_with (first
          | (refine wpList_build_is rfl 24 #[] rfl [] (by simp) (labC Lab.none_ none 0 0).toArray built_lab0 ?_)
          | (refine wpList_store_all rfl 24 (.tmp 4) (.tmp 56) rfl w.heap.size 24 _ HR.out rfl (labC Lab.none_ none 0 0) rfl lab_info rfl (labC_one _ _ _ _) ?_; intro w6 hb6 hg6 hs6; clear hs6))
        have hL6 : Below w.heap.size w w6 := hl.grown hg6 hl.size (fun g e => by injection e with e; omega)
        exact ret_cell_tmp rfl w.heap.size 24 (labC Lab.none_ none 0 0) _ hb6 rfl Try.underlying24 rfl lab_info (.int .i64 8) rfl rfl ⟨⟨none, 0, 0, by rw [HV.out]; rfl, by rw [HV.out]; exact Gave.none_⟩, hL6⟩
      · have HV := hide (show S.loadL d = (S.bestL d 2, 0) by rw [HOK.out, if_neg h0])
        obtain rfl : β = true := by rw [hβ.out]; simpa using h0
        clear hall HOK h0 hβ
        obtain ⟨best, hbest⟩ : ∃ x, x = S.bestL d 2 := ⟨_, rfl⟩
        rw [← hbest] at HN HG HV
        clear hbest
        go_wp2_with (first
          | (refine wpList_load_blk rfl 24 (.tmp 6) rfl w1.heap.size 0 24 _ HN.out rfl (labC best A n c) _ (fun j v hj => by rw [Nat.zero_add]; simpa using hj) Try.underlying24 rfl lab_info ?_)
          | (refine wpList_store_all rfl 24 (.tmp 4) (.tmp 57) rfl w.heap.size 24 _ HR.out rfl (labC best A n c) rfl lab_info rfl (labC_one _ _ _ _) ?_; intro w6 hb6 hg6 hs6; clear hs6))
        have hL6 : Below w.heap.size w w6 := hl.grown hg6 hl.size (fun g e => by injection e with e; omega)
        have hF := HG.out.2
        exact ret_cell_tmp rfl w.heap.size 24 (labC best A n c) _ hb6 rfl Try.underlying24 rfl lab_info (.int .i64 0) rfl rfl ⟨⟨A, n, c, by rw [HV.out]; rfl, by rw [HV.out]; exact (HG.out.from_ (by omega)).grown hg6 (fun hn ad e => by have := hF hn ad e; omega)⟩, hL6⟩
end
#print axioms rload_on
set_option linter.unusedVariables false
section
variable {w : World} {b r : Nat} {S : Bank} {F G : Nat → Prop}
theorem holder_neg (b : Nat) (k : Nat) (w : World) :
    Calls Try.prog 64 #[.pointer (some ⟨b, 0, none⟩), .agg #[.int .i64 (-1), .int .i64 (k : Int)]] w fun e w' => e = .returned (.tuple #[.pointer none, .int .i64 8]) ∧ Below w.heap.size w w' := by
  have hT : ∀ w : World, Calls Try.prog 51 #[.pointer (some ⟨b, 0, none⟩), .int .i64 (-1)] w fun e w' => e = .returned (.bool false) ∧ w = w' := fun w => by
    go_enter Try.func51, Try.ntmps51
    go_wp2
    go_ret
    exact ⟨rfl, rfl⟩
  have HT := hide hT
  clear hT
  have hW : ∀ w : World, Calls Try.prog 77 #[.pointer (some ⟨b, 0, none⟩), .int .i64 (-1)] w fun e w' => e = .returned (.tuple #[.pointer none, .int .i64 8]) ∧ w = w' := fun w => by
    go_enter Try.func77, Try.ntmps77
    go_wp2_with (first | (go_at_call 51; refine (HT.out _).mono ?_; rintro _ _ ⟨rfl, rfl⟩))
    go_ret2
    exact ⟨rfl, rfl⟩
  have HW := hide hW
  clear hW
  go_enter Try.func64, Try.ntmps64
  go_wp2_with (first
    | (refine wpList_box_blk rfl 59 (.tmp 1) rfl (.agg #[.int .i64 (-1), .int .i64 (k : Int)]) rfl ?_; intro w1 hb1 hl1 hs1; clear hs1; have p0 : w1.cell? ⟨w.heap.size, 0, none⟩ = some (.int .i64 (-1)) := hb1.cell 0)
    | (go_at_call 77; refine (HW.out _).mono ?_; rintro _ _ ⟨rfl, rfl⟩))
  go_quiet (first | fail)
  go_wp2
  go_ret2
  exact ⟨rfl, hl1.trans ⟨rfl, rfl, rfl, Nat.le_refl _, fun _ _ => rfl⟩⟩
set_option maxRecDepth 100000 in
theorem read_neg (b : Nat) (k : Nat) (w : World) :
    Calls Try.prog 57 #[.pointer (some ⟨b, 0, none⟩), .agg #[.int .i64 (-1), .int .i64 (k : Int)]] w fun e w' => e = .returned (.tuple #[secV zeroSec, .int .i64 8]) ∧ Below w.heap.size w w' := by
  obtain ⟨U, hU⟩ : ∃ U, U = secL zeroSec := ⟨_, rfl⟩
  have hUl : U.length = 64 := by rw [hU, secL_length]
  have hUo : ∀ v ∈ U, v.oneCell' = true := by rw [hU]; exact secL_one _
  have hiU : (Try.prog.info? 26).map (·.size) = some U.length := by rw [hUl]; exact sec_info
  rw [show secV zeroSec = .agg U.toArray by rw [hU]; rfl]
  have HUl := hide hUl
  have HUO := hide hUo
  have HIU := hide hiU
  have HBZ := hide (show Try.prog.built 26 [] = some U.toArray by rw [hU]; exact sec_none)
  have HH := hide (holder_neg b k)
  clear hU hUl hUo hiU
  go_enter Try.func57, Try.ntmps57
  go_wp2_with (first
    | (refine wpList_box_blk rfl 59 (.tmp 1) rfl (.agg #[.int .i64 (-1), .int .i64 (k : Int)]) rfl ?_; intro w1 hb1q hl1 hs1; clear hs1; have hb1 : Blk w1 w.heap.size 59 [.int .i64 (-1), .int .i64 (k : Int)].toArray := hb1q; clear hb1q)
    | (refine wpList_alloc_blk rfl 26 rfl _ (sec_zero w1) ?_; intro w2 hb2 hl2 hs2; clear hs2; have hz1 := hb1.lt; have hb12 := hb1.below hl2 hz1; have p0 : w2.cell? ⟨w.heap.size, 0, none⟩ = some (.int .i64 (-1)) := hb12.cell 0; have p1 : w2.cell? ⟨w.heap.size, 1, none⟩ = some (.int .i64 (k : Int)) := hb12.cell 1)
    | (go_at_call 64; refine (HH.out w2).mono ?_; rintro _ w3 ⟨rfl, hl3⟩; have hz2 := hb2.lt; have hl03 : Below w.heap.size w w3 := (hl1.trans (hl2.mono hl1.size)).trans (hl3.mono (by omega)); have hb23 := hb2.below hl3 hz2)
    | (refine wpList_build_is rfl 26 #[] rfl [] (by simp) U.toArray HBZ.out ?_)
    | (refine wpList_store_all rfl 26 (.tmp 4) (.tmp 16) rfl w1.heap.size 26 _ hb23 rfl U rfl HIU.out (HUl.out.trans (secL_length zeroSec).symm) HUO.out ?_; intro w4 hb4 hg4 hs4; clear hs4))
  exact ret_cell_tmp rfl w1.heap.size 26 U _ hb4 rfl Try.underlying26 rfl HIU.out (.int .i64 8) rfl rfl ⟨rfl, hl03.grown hg4 hl03.size (fun g e => by injection e with e; omega)⟩
theorem rmay_neg (r : Nat) (w : World) :
    Calls Try.prog 79 #[.pointer (some ⟨r, 0, none⟩), .int .i64 (-1)] w fun e w' => e = .returned (.int .i64 8) ∧ w = w' := by
  go_enter Try.func79, Try.ntmps79
  go_wp2
  go_ret
  exact ⟨rfl, rfl⟩
theorem rplace_neg (r k : Nat) (w : World) :
    Calls Try.prog 76 #[.pointer (some ⟨r, 0, none⟩), .agg #[.int .i64 (-1), .int .i64 (k : Int)]] w fun e w' => e = .returned (.int .i64 8) ∧ Below w.heap.size w w' := by
  go_enter Try.func76, Try.ntmps76
  go_wp2_with (first
    | (refine wpList_box_blk rfl 59 (.tmp 1) rfl (.agg #[.int .i64 (-1), .int .i64 (k : Int)]) rfl ?_; intro w1 hb1 hl1 hs1; clear hs1; have q0 : w1.cell? ⟨w.heap.size, 0, none⟩ = some (.int .i64 (-1)) := hb1.cell 0)
    | (go_at_call 79; refine (rmay_neg r _).mono ?_; rintro _ w2 ⟨rfl, rfl⟩))
  go_ret
  exact ⟨rfl, hl1⟩
set_option maxRecDepth 100000 in
theorem rread_neg (r k : Nat) (w : World) :
    Calls Try.prog 58 #[.pointer (some ⟨r, 0, none⟩), .agg #[.int .i64 (-1), .int .i64 (k : Int)]] w fun e w' => e = .returned (.tuple #[secV zeroSec, .int .i64 8]) ∧ Below w.heap.size w w' := by
  obtain ⟨U, hU⟩ : ∃ U, U = secL zeroSec := ⟨_, rfl⟩
  have hUl : U.length = 64 := by rw [hU, secL_length]
  have hUo : ∀ v ∈ U, v.oneCell' = true := by rw [hU]; exact secL_one _
  have hiU : (Try.prog.info? 26).map (·.size) = some U.length := by rw [hUl]; exact sec_info
  rw [show secV zeroSec = .agg U.toArray by rw [hU]; rfl]
  have HUl := hide hUl
  have HUO := hide hUo
  have HIU := hide hiU
  have HBZ := hide (show Try.prog.built 26 [] = some U.toArray by rw [hU]; exact sec_none)
  have HH := hide (rplace_neg r k)
  clear hU hUl hUo hiU
  go_enter Try.func58, Try.ntmps58
  go_wp2_with (first
    | (refine wpList_box_blk rfl 59 (.tmp 1) rfl (.agg #[.int .i64 (-1), .int .i64 (k : Int)]) rfl ?_; intro w1 hb1q hl1 hs1; clear hs1; have hb1 : Blk w1 w.heap.size 59 [.int .i64 (-1), .int .i64 (k : Int)].toArray := hb1q; clear hb1q)
    | (refine wpList_alloc_blk rfl 26 rfl _ (sec_zero w1) ?_; intro w2 hb2 hl2 hs2; clear hs2; have hz1 := hb1.lt; have hb12 := hb1.below hl2 hz1)
    | (refine wpList_load_blk rfl 59 (.tmp 3) rfl w.heap.size 0 59 _ hb12 rfl [.int .i64 (-1), .int .i64 (k : Int)] _ (fun j v hj => by rw [Nat.zero_add]; simpa using hj) Try.underlying59 rfl rplace_info ?_)
    | (go_at_call 76; refine (HH.out w2).mono ?_; rintro _ w3 ⟨rfl, hl3⟩; have hz2 := hb2.lt; have hl03 : Below w.heap.size w w3 := (hl1.trans (hl2.mono hl1.size)).trans (hl3.mono (by omega)); have hb23 := hb2.below hl3 hz2)
    | (refine wpList_build_is rfl 26 #[] rfl [] (by simp) U.toArray HBZ.out ?_)
    | (refine wpList_store_all rfl 26 (.tmp 4) (.tmp 12) rfl w1.heap.size 26 _ hb23 rfl U rfl HIU.out (HUl.out.trans (secL_length zeroSec).symm) HUO.out ?_; intro w4 hb4 hg4 hs4; clear hs4))
  exact ret_cell_tmp rfl w1.heap.size 26 U _ hb4 rfl Try.underlying26 rfl HIU.out (.int .i64 8) rfl rfl ⟨rfl, hl03.grown hg4 hl03.size (fun g e => by injection e with e; omega)⟩
set_option maxRecDepth 100000 in
set_option maxHeartbeats 2000000 in
theorem lload_neg (b : Nat) (w : World) :
    Calls Try.prog 26 #[.pointer (some ⟨b, 0, none⟩), .int .i64 (-1)] w fun e w' => (∃ A n c, e = .returned (.tuple #[labV Lab.none_ A n c, .int .i64 8]) ∧ Gave Lab.none_ w w' A n c) ∧ Below w.heap.size w w' := by
  obtain ⟨U, hU⟩ : ∃ U, U = secL zeroSec := ⟨_, rfl⟩
  have hUl : U.length = 64 := by rw [hU, secL_length]
  have hUo : ∀ v ∈ U, v.oneCell' = true := by rw [hU]; exact secL_one _
  have hiU : (Try.prog.info? 26).map (·.size) = some U.length := by rw [hUl]; exact sec_info
  have hR := fun w => read_neg b 0 w
  rw [show secV zeroSec = .agg U.toArray by rw [hU]; rfl] at hR
  have HRd := hide hR
  have HUl := hide hUl
  have HUO := hide hUo
  have HIU := hide hiU
  clear hU hUl hUo hiU hR
  go_enter Try.func26, Try.ntmps26
  go_wp2_with (first
    | (refine wpList_alloc_blk rfl 24 rfl _ (lab_zero w) ?_; intro w1 hb1 hl1 hs1; clear hs1)
    | (refine wpList_alloc_blk rfl 24 rfl _ (lab_zero w1) ?_; intro w2 hb2 hl2 hs2; clear hs2))
  have hz1 := hb1.lt
  have hz2 := hb2.lt
  have hl02 : Below w.heap.size w w2 := hl1.trans (hl2.mono (by omega))
  have HR0 : Hid (Blk w2 w.heap.size 24 (labC Lab.none_ none 0 0).toArray) := hb1.below hl2 hz1
  clear hb1 hb2
  go_loopw [7, 8, 9, 10, 11] (fun _ _ _ _ s11 wr => s11 = .int .i64 0 ∧ wr = w2) (fun _ _ _ _ _ _ => 0)
  case atStart => exact ⟨rfl, rfl⟩
  case round =>
    obtain ⟨rfl, hwo⟩ := hrel
    subst hwo
    go_wp2_with fail
    refine (HRd.out _).mono ?_
    rintro _ w3 ⟨rfl, hl3⟩
    have hz3 := hl3.size
    have HL3 := hide (hl02.trans (hl3.mono hl02.size))
    have HR3 := hide (HR0.out.below hl3 HR0.out.lt)
    clear hl3
    go_wp2_with (first
      | (refine wpList_alloc_blk rfl 26 rfl _ (sec_zero w3) ?_; intro w4 hb4 hl4 hs4; clear hs4)
      | (refine wpList_store_all rfl 26 (.tmp 8) (.tmp 20) rfl w3.heap.size 26 _ hb4 rfl U rfl HIU.out (HUl.out.trans (secL_length zeroSec).symm) HUO.out ?_; intro w5 hb5 hg5 hs5; clear hs5; have hz4 := hb4.lt; have hl35 : Below w3.heap.size w3 w5 := hl4.grown hg5 (by omega) (fun g e => by injection e with e; omega); have HR5 := hide (HR3.out.below hl35 HR3.out.lt); have HL5 := hide (HL3.out.trans (hl35.mono HL3.out.size)))
      | (refine wpList_build_is rfl 24 #[] rfl [] (by simp) (labC Lab.none_ none 0 0).toArray built_lab0 ?_)
      | (refine wpList_store_all rfl 24 (.tmp 4) (.tmp 24) rfl w.heap.size 24 _ HR5.out rfl (labC Lab.none_ none 0 0) rfl lab_info rfl (labC_one _ _ _ _) ?_; intro w6 hb6 hg6 hs6; clear hs6))
    have hL6 : Below w.heap.size w w6 := HL5.out.grown hg6 HL5.out.size (fun g e => by injection e with e; omega)
    exact ret_cell_tmp rfl w.heap.size 24 (labC Lab.none_ none 0 0) _ hb6 rfl Try.underlying24 rfl lab_info (.int .i64 8) rfl rfl ⟨⟨none, 0, 0, rfl, Gave.none_⟩, hL6⟩
set_option maxRecDepth 100000 in
set_option maxHeartbeats 2000000 in
theorem rload_neg (b : Nat) (w : World) :
    Calls Try.prog 27 #[.pointer (some ⟨b, 0, none⟩), .int .i64 (-1)] w fun e w' => (∃ A n c, e = .returned (.tuple #[labV Lab.none_ A n c, .int .i64 8]) ∧ Gave Lab.none_ w w' A n c) ∧ Below w.heap.size w w' := by
  obtain ⟨U, hU⟩ : ∃ U, U = secL zeroSec := ⟨_, rfl⟩
  have hUl : U.length = 64 := by rw [hU, secL_length]
  have hUo : ∀ v ∈ U, v.oneCell' = true := by rw [hU]; exact secL_one _
  have hiU : (Try.prog.info? 26).map (·.size) = some U.length := by rw [hUl]; exact sec_info
  have hR := fun w => rread_neg b 0 w
  rw [show secV zeroSec = .agg U.toArray by rw [hU]; rfl] at hR
  have HRd := hide hR
  have HUl := hide hUl
  have HUO := hide hUo
  have HIU := hide hiU
  clear hU hUl hUo hiU hR
  go_enter Try.func27, Try.ntmps27
  go_wp2_with (first
    | (refine wpList_alloc_blk rfl 24 rfl _ (lab_zero w) ?_; intro w1 hb1 hl1 hs1; clear hs1)
    | (refine wpList_alloc_blk rfl 24 rfl _ (lab_zero w1) ?_; intro w2 hb2 hl2 hs2; clear hs2))
  have hz1 := hb1.lt
  have hz2 := hb2.lt
  have hl02 : Below w.heap.size w w2 := hl1.trans (hl2.mono (by omega))
  have HR0 : Hid (Blk w2 w.heap.size 24 (labC Lab.none_ none 0 0).toArray) := hb1.below hl2 hz1
  clear hb1 hb2
  go_loopw [7, 8, 9, 10, 11, 12] (fun _ s8 _ _ _ _ wr => s8 = .int .i64 0 ∧ wr = w2) (fun _ _ _ _ _ _ _ => 0)
  case atStart => exact ⟨rfl, rfl⟩
  case round =>
    obtain ⟨rfl, hwo⟩ := hrel
    subst hwo
    go_wp2_with fail
    refine (HRd.out _).mono ?_
    rintro _ w3 ⟨rfl, hl3⟩
    have hz3 := hl3.size
    have HL3 := hide (hl02.trans (hl3.mono hl02.size))
    have HR3 := hide (HR0.out.below hl3 HR0.out.lt)
    clear hl3
    go_wp2_with (first
      | (refine wpList_alloc_blk rfl 26 rfl _ (sec_zero w3) ?_; intro w4 hb4 hl4 hs4; clear hs4)
      | (refine wpList_store_all rfl 26 (.tmp 9) (.tmp 23) rfl w3.heap.size 26 _ hb4 rfl U rfl HIU.out (HUl.out.trans (secL_length zeroSec).symm) HUO.out ?_; intro w5 hb5 hg5 hs5; clear hs5; have hz4 := hb4.lt; have hl35 : Below w3.heap.size w3 w5 := hl4.grown hg5 (by omega) (fun g e => by injection e with e; omega); have HR5 := hide (HR3.out.below hl35 HR3.out.lt); have HL5 := hide (HL3.out.trans (hl35.mono HL3.out.size)))
      | (refine wpList_build_is rfl 24 #[] rfl [] (by simp) (labC Lab.none_ none 0 0).toArray built_lab0 ?_)
      | (refine wpList_store_all rfl 24 (.tmp 4) (.tmp 27) rfl w.heap.size 24 _ HR5.out rfl (labC Lab.none_ none 0 0) rfl lab_info rfl (labC_one _ _ _ _) ?_; intro w6 hb6 hg6 hs6; clear hs6))
    have hL6 : Below w.heap.size w w6 := HL5.out.grown hg6 HL5.out.size (fun g e => by injection e with e; omega)
    exact ret_cell_tmp rfl w.heap.size 24 (labC Lab.none_ none 0 0) _ hb6 rfl Try.underlying24 rfl lab_info (.int .i64 8) rfl rfl ⟨⟨none, 0, 0, rfl, Gave.none_⟩, hL6⟩
end
end Go.Proofs.Ytbbfgcekjelmkaa
