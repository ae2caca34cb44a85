/- What label.Load tells of a bank. -/
import Derived.Test.YtbbfgcekjelmkaaSaveL
namespace Go.Proofs.Ytbbfgcekjelmkaa
open Go.RowKit

/-- The newer of the label that was met and of what a sector says of member d. -/
def candB (d : Int) (best : Lab) (s : Sec) : Bool := ofB s && (decide ((ofL s).member = d) && decide (best.gen < (ofL s).gen))
def candL (d : Int) (best : Lab) (s : Sec) : Lab := if candB d best s then ofL s else best
def Bank.bestL (S : Bank) (d : Nat) : Nat → Lab
  | 0 => Lab.none_
  | k + 1 => candL d (S.bestL d k) (S.newest d k)
def Bank.loadL (S : Bank) (d : Nat) : Lab × Nat :=
  if S.place d 0 = 0 then (if S.place d 1 = 0 then (if (S.bestL d 2).gen = 0 then (Lab.none_, 8) else (S.bestL d 2, 0)) else (Lab.none_, S.place d 1)) else (Lab.none_, S.place d 0)
theorem Bank.loadL_err {S : Bank} {d k : Nat} (hk : k < 2) (h : ∀ j, j < k → S.place d j = 0) (hp : S.place d k ≠ 0) : S.loadL d = (Lab.none_, S.place d k) := by
  unfold Bank.loadL
  rcases (by omega : k = 0 ∨ k = 1) with rfl | rfl
  · rw [if_neg hp]
  · rw [if_pos (h 0 (by omega)), if_neg hp]
theorem Bank.loadL_ok {S : Bank} {d : Nat} (h : ∀ j, j < 2 → S.place d j = 0) : S.loadL d = if (S.bestL d 2).gen = 0 then (Lab.none_, 8) else (S.bestL d 2, 0) := by
  unfold Bank.loadL
  rw [if_pos (h 0 (by omega)), if_pos (h 1 (by omega))]
theorem readV_ok {S : Bank} {d k : Nat} (h : S.place d k = 0) : readV S d k = .tuple #[secV (S.newest d k), .int .i64 0] := by
  unfold readV
  rw [if_pos h, h]
  rfl
theorem readV_no {S : Bank} {d k : Nat} (h : S.place d k ≠ 0) : readV S d k = .tuple #[secV zeroSec, .int .i64 (S.place d k : Int)] := by
  unfold readV
  rw [if_neg h]
/-- A place's errno is no other number. -/
theorem Gave.below_ {l : Lab} {w w1 w2 : World} {A : Option Addr} {n c : Nat} (h : Gave l w w1 A n c) (hb : Below w1.heap.size w1 w2) : Gave l w w2 A n c := h.later hb
section
variable {w : World} {b : Nat} {S : Bank} {F : Nat → Prop}
set_option maxRecDepth 100000 in
set_option maxHeartbeats 4000000 in
theorem lload_on (h : BankOn w b F S) (d : Nat) :
    Calls Try.prog 26 #[.pointer (some ⟨b, 0, none⟩), .int .i64 (d : Int)] w fun e w' => (∃ A n c, e = .returned (.tuple #[labV (S.loadL d).1 A n c, .int .i64 ((S.loadL d).2 : Int)]) ∧ Gave (S.loadL d).1 w w' A n c) ∧ Below w.heap.size w w' := by
  have HB := hide h
  clear h
  go_enter Try.func26, Try.ntmps26
  go_wp2_with (first
    | (refine wpList_alloc_blk rfl 24 rfl _ (lab_zero w) ?_; intro w1 hb1 hl1 hs1; clear hs1)
    | (refine wpList_alloc_blk rfl 24 rfl _ (lab_zero w1) ?_; intro w2 hb2 hl2 hs2; clear hs2))
  have hz1 := hb1.lt
  have hz2 := hb2.lt
  have hl02 : Below w.heap.size w w2 := hl1.trans (hl2.mono (by omega))
  have HR0 := hide (hb1.below hl2 hz1)
  have HN0 : Hid (Blk w2 w1.heap.size 24 (labC Lab.none_ none 0 0).toArray) := hb2
  clear hb1 hb2
  go_loopw [7, 8, 9, 10, 11] (fun _ _ _ _ s11 wr => ∃ (k : Nat) (A : Option Addr) (n c : Nat), s11 = .int .i64 (k : Int) ∧ k ≤ 2 ∧ (∀ j, j < k → S.place d j = 0) ∧ Hid (Blk wr w.heap.size 24 (labC Lab.none_ none 0 0).toArray) ∧ Hid (Blk wr w1.heap.size 24 (labC (S.bestL d k) A n c).toArray) ∧ Hid (Gave (S.bestL d k) w2 wr A n c) ∧ Below w.heap.size w wr ∧ w2.heap.size ≤ wr.heap.size) (fun _ _ _ _ s11 _ => 2 - (intOf s11).toNat)
  case atStart => exact ⟨0, none, 0, 0, rfl, by decide, fun j hj => absurd hj (Nat.not_lt_zero j), HR0, HN0, Gave.none_, hl02, Nat.le_refl _⟩
  case round =>
    obtain ⟨k, A, n, c, rfl, hk, hall, HR, HN, HG, hl, hsz⟩ := hrel
    obtain ⟨wo, rfl⟩ : ∃ wo, wo = wr := ⟨_, rfl⟩
    by_cases hk2 : k < 2
    · have hg1 : (k : Int) < 2 := by omega
      have hB := HB.out.later hl
      have hR := on_read hB d k
      by_cases hp : S.place d k = 0
      · rw [readV_ok hp] at hR
        obtain ⟨U, hU⟩ : ∃ U, U = secL (S.newest d k) := ⟨_, rfl⟩
        have hUl : U.length = 64 := by rw [hU, secL_length]
        have hUo : ∀ v ∈ U, v.oneCell' = true := by rw [hU]; exact secL_one _
        have hiU : (Try.prog.info? 26).map (·.size) = some U.length := by rw [hUl]; exact sec_info
        have hs : secV (S.newest d k) = .agg U.toArray := by rw [hU]; rfl
        have HOf := hide (fun w => of_any (S.newest d k) w)
        rw [hs] at hR HOf
        have HRd := hide hR
        have HUl := hide hUl
        have HUO := hide hUo
        have HIU := hide hiU
        have HAll : Hid (∀ j, j < k + 1 → S.place d j = 0) := fun j hj => by
          rcases Nat.lt_or_ge j k with h | h
          · exact hall j h
          · rw [show j = k by omega]; exact hp
        have HSt := hide (show S.bestL d (k + 1) = candL d (S.bestL d k) (S.newest d k) from rfl)
        obtain ⟨best, hbest⟩ : ∃ x, x = S.bestL d k := ⟨_, rfl⟩
        rw [← hbest] at HN HG HSt
        clear hU hUl hUo hiU hs hR hB hp hall hbest
        go_wp2_with fail
        refine HRd.out.mono ?_
        rintro _ w3 ⟨rfl, hl3⟩
        have hz3 := hl3.size
        have HL3 := hide (hl.trans (hl3.mono hl.size))
        have HR3 := hide (HR.out.below hl3 HR.out.lt)
        have HN3 := hide (HN.out.below hl3 HN.out.lt)
        have HG3 := hide (HG.out.later hl3)
        clear hl3 hl
        go_wp2_with (first
          | (refine wpList_alloc_blk rfl 26 rfl _ (sec_zero w3) ?_; intro w4 hb4 hl4 hs4; clear hs4)
          | (refine wpList_store_all rfl 26 (.tmp 8) (.tmp 20) rfl w3.heap.size 26 _ hb4 rfl U rfl HIU.out (HUl.out.trans (secL_length zeroSec).symm) HUO.out ?_; intro w5 hb5 hg5 hs5; clear hs5)
          | (refine wpList_load_blk rfl 26 (.tmp 8) rfl w3.heap.size 0 26 _ hb5 rfl U _ (fun j v hj => by rw [Nat.zero_add]; simpa using hj) Try.underlying26 rfl HIU.out ?_))
        have hz4 := hb4.lt
        have hz5 := hg5.size
        have hl35 : Below w3.heap.size w3 w5 := hl4.grown hg5 (by omega) (fun g e => by injection e with e; omega)
        refine (HOf.out w5).mono ?_
        rintro _ w6 ⟨⟨A6, n6, c6, rfl, hG6⟩, hl6⟩
        have hz6 := hl6.size
        have hF6 := hG6.2
        have hl36 : Below w3.heap.size w3 w6 := hl35.trans (hl6.mono (by omega))
        have HL6 := hide (HL3.out.trans (hl36.mono HL3.out.size))
        have HR6 := hide (HR3.out.below hl36 HR3.out.lt)
        have HN6 := hide (HN3.out.below hl36 HN3.out.lt)
        have HG6 := hide (HG3.out.later hl36)
        have HK6 := hide hG6
        have hn3 := HN3.out.lt
        clear hG6 hl6 hl35 hl36 hb4 hl4 hb5 hg5 HL3 HR3 HN3 HG3
        obtain ⟨L, hL⟩ : ∃ L, L = ofL (S.newest d k) := ⟨_, rfl⟩
        rw [← hL] at HK6
        rw [← hL]
        have HSt2 : Hid (S.bestL d (k + 1) = if ofB (S.newest d k) && (decide (L.member = (d : Int)) && decide (best.gen < L.gen)) then L else best) := by
          show _ = _
          rw [HSt.out, candL, candB, hL]
        clear hL HSt
        cases hof : ofB (S.newest d k) with
        | false =>
          have hE : ofE (S.newest d k) = 2 := by rw [ofE, hof]; rfl
          have HEq := hide (show S.bestL d (k + 1) = best by rw [HSt2.out, hof]; rfl)
          rw [hE]
          clear hE hof HSt2
          go_wp2_with (first
            | (refine wpList_alloc_blk rfl 24 rfl _ (lab_zero w6) ?_; intro w7 hb7 hl7 hs7; clear hs7)
            | (refine wpList_store_all rfl 24 (.tmp 10) (.tmp 29) rfl w6.heap.size 24 _ hb7 rfl (labC L A6 n6 c6) rfl lab_info rfl (labC_one _ _ _ _) ?_; intro w8 hb8 hg8 hs8; clear hs8; have hz7 := hb7.lt; have hl68 : Below w6.heap.size w6 w8 := hl7.grown hg8 (by omega) (fun g e => by injection e with e; omega); have HN8 := hide (HN6.out.below hl68 (by omega)); have HR8 := hide (HR6.out.below hl68 (by have := HR6.out.lt; omega)); have HG8 := hide (HG6.out.later hl68); have HK8 := hide (HK6.out.later hl68); have HL8 := hide (HL6.out.trans (hl68.mono HL6.out.size)); have hz68 := hl68.size))
          go_roundw
          case rel => exact ⟨k + 1, A, n, c, by simp, by omega, HAll.out, HR8, by rw [HEq.out]; exact HN8, by rw [HEq.out]; exact HG8, HL8.out, by omega⟩
          case measure => simp [intOf]; omega
        | true =>
          have hE : ofE (S.newest d k) = 0 := by rw [ofE, hof]; rfl
          rw [hE]
          by_cases hmem : L.member = (d : Int)
          · by_cases hgen : best.gen < L.gen
            · have HEq := hide (show S.bestL d (k + 1) = L by rw [HSt2.out, hof, decide_eq_true hmem, decide_eq_true hgen]; rfl)
              clear hE hof HSt2
              go_wp2_with (first
                | (refine wpList_alloc_blk rfl 24 rfl _ (lab_zero w6) ?_; intro w7 hb7 hl7 hs7; clear hs7)
                | (refine wpList_store_all rfl 24 (.tmp 10) (.tmp 29) rfl w6.heap.size 24 _ hb7 rfl (labC L A6 n6 c6) rfl lab_info rfl (labC_one _ _ _ _) ?_; intro w8 hb8 hg8 hs8; clear hs8; have hz7 := hb7.lt; have hl68 : Below w6.heap.size w6 w8 := hl7.grown hg8 (by omega) (fun g e => by injection e with e; omega); have HN8 := hide (HN6.out.below hl68 (by omega)); have HR8 := hide (HR6.out.below hl68 (by have := HR6.out.lt; omega)); have HG8 := hide (HG6.out.later hl68); have HK8 := hide (HK6.out.later hl68); have HL8 := hide (HL6.out.trans (hl68.mono HL6.out.size)); have hz68 := hl68.size; have x2 := lab_c2 hb8; have x1 := lab_c1 hb8; have y1 := lab_c1 HN8.out; rw [hmem] at x2)
                | (refine wpList_load_blk rfl 24 (.tmp 10) rfl w6.heap.size 0 24 _ hb8 rfl (labC L A6 n6 c6) _ (fun j v hj => by rw [Nat.zero_add]; simpa using hj) Try.underlying24 rfl lab_info ?_)
                | (refine wpList_store_all rfl 24 (.tmp 6) (.tmp 46) rfl w1.heap.size 24 _ HN8.out rfl (labC L A6 n6 c6) rfl lab_info rfl (labC_one _ _ _ _) ?_; intro w9 hb9 hg9 hs9; clear hs9))
              have HN9 := hide hb9
              have hz9 := hg9.size
              have HR9 := hide (HR8.out.grown hg9 (fun e => by injection e with e; omega))
              have HG9 : Hid (Gave L w2 w9 A6 n6 c6) := (HK8.out.from_ (by omega)).grown hg9 (fun h0 ad e => by have := hF6 h0 ad e; omega)
              have HL9 := hide (HL8.out.grown hg9 HL8.out.size (fun g e => by injection e with e; omega))
              clear hb9 hg9
              go_roundw
              case rel => exact ⟨k + 1, A6, n6, c6, by simp, by omega, HAll.out, HR9, by rw [HEq.out]; exact HN9, by rw [HEq.out]; exact HG9, HL9.out, by omega⟩
              case measure => simp [intOf]; omega
            · have HEq := hide (show S.bestL d (k + 1) = best by rw [HSt2.out, hof, decide_eq_true hmem, decide_eq_false hgen]; rfl)
              clear hE hof HSt2
              go_wp2_with (first
                | (refine wpList_alloc_blk rfl 24 rfl _ (lab_zero w6) ?_; intro w7 hb7 hl7 hs7; clear hs7)
                | (refine wpList_store_all rfl 24 (.tmp 10) (.tmp 29) rfl w6.heap.size 24 _ hb7 rfl (labC L A6 n6 c6) rfl lab_info rfl (labC_one _ _ _ _) ?_; intro w8 hb8 hg8 hs8; clear hs8; have hz7 := hb7.lt; have hl68 : Below w6.heap.size w6 w8 := hl7.grown hg8 (by omega) (fun g e => by injection e with e; omega); have HN8 := hide (HN6.out.below hl68 (by omega)); have HR8 := hide (HR6.out.below hl68 (by have := HR6.out.lt; omega)); have HG8 := hide (HG6.out.later hl68); have HK8 := hide (HK6.out.later hl68); have HL8 := hide (HL6.out.trans (hl68.mono HL6.out.size)); have hz68 := hl68.size; have x2 := lab_c2 hb8; have x1 := lab_c1 hb8; have y1 := lab_c1 HN8.out; rw [hmem] at x2))
              go_roundw
              case rel => exact ⟨k + 1, A, n, c, by simp, by omega, HAll.out, HR8, by rw [HEq.out]; exact HN8, by rw [HEq.out]; exact HG8, HL8.out, by omega⟩
              case measure => simp [intOf]; omega
          · have HEq := hide (show S.bestL d (k + 1) = best by rw [HSt2.out, hof, decide_eq_false hmem]; rfl)
            have hmf : decide (L.member = (d : Int)) = false := by simpa using hmem
            clear hE hof HSt2
            go_wp2_with (first
              | (refine wpList_alloc_blk rfl 24 rfl _ (lab_zero w6) ?_; intro w7 hb7 hl7 hs7; clear hs7)
              | (refine wpList_store_all rfl 24 (.tmp 10) (.tmp 29) rfl w6.heap.size 24 _ hb7 rfl (labC L A6 n6 c6) rfl lab_info rfl (labC_one _ _ _ _) ?_; intro w8 hb8 hg8 hs8; clear hs8; have hz7 := hb7.lt; have hl68 : Below w6.heap.size w6 w8 := hl7.grown hg8 (by omega) (fun g e => by injection e with e; omega); have HN8 := hide (HN6.out.below hl68 (by omega)); have HR8 := hide (HR6.out.below hl68 (by have := HR6.out.lt; omega)); have HG8 := hide (HG6.out.later hl68); have HK8 := hide (HK6.out.later hl68); have HL8 := hide (HL6.out.trans (hl68.mono HL6.out.size)); have hz68 := hl68.size; have x2 := lab_c2 hb8; have x1 := lab_c1 hb8; have y1 := lab_c1 HN8.out))
            go_roundw
            case rel => exact ⟨k + 1, A, n, c, by simp, by omega, HAll.out, HR8, by rw [HEq.out]; exact HN8, by rw [HEq.out]; exact HG8, HL8.out, by omega⟩
            case measure => simp [intOf]; omega
      · rw [readV_no hp] at hR
        have HErr := hide (Bank.loadL_err hk2 hall hp)
        have hne : ((S.place d k : Int) != 0) = true := by simp; omega
        obtain ⟨U, hU⟩ : ∃ U, U = secL zeroSec := ⟨_, rfl⟩
        have hUl : U.length = 64 := by rw [hU, secL_length]
        have hUo : ∀ v ∈ U, v.oneCell' = true := by rw [hU]; exact secL_one _
        have hiU : (Try.prog.info? 26).map (·.size) = some U.length := by rw [hUl]; exact sec_info
        have hs : secV zeroSec = .agg U.toArray := by rw [hU]; rfl
        rw [hs] at hR
        have HRd := hide hR
        have HUl := hide hUl
        have HUO := hide hUo
        have HIU := hide hiU
        clear hU hUl hUo hiU hs hR hB hp hall
        go_wp2_with fail
        refine HRd.out.mono ?_
        rintro _ w3 ⟨rfl, hl3⟩
        have hz3 := hl3.size
        have HL3 := hide (hl.trans (hl3.mono hl.size))
        have HR3 := hide (HR.out.below hl3 HR.out.lt)
        clear hl3 hl
        go_wp2_with (first
          | (refine wpList_alloc_blk rfl 26 rfl _ (sec_zero w3) ?_; intro w4 hb4 hl4 hs4; clear hs4)
          | (refine wpList_store_all rfl 26 (.tmp 8) (.tmp 20) rfl w3.heap.size 26 _ hb4 rfl U rfl HIU.out (HUl.out.trans (secL_length zeroSec).symm) HUO.out ?_; intro w5 hb5 hg5 hs5; clear hs5; have hz4 := hb4.lt; have hl35 : Below w3.heap.size w3 w5 := hl4.grown hg5 (by omega) (fun g e => by injection e with e; omega); have HR5 := hide (HR3.out.below hl35 HR3.out.lt); have HL5 := hide (HL3.out.trans (hl35.mono HL3.out.size)))
          | (refine wpList_build_is rfl 24 #[] rfl [] (by simp) (labC Lab.none_ none 0 0).toArray built_lab0 ?_)
          | (refine wpList_store_all rfl 24 (.tmp 4) (.tmp 24) rfl w.heap.size 24 _ HR5.out rfl (labC Lab.none_ none 0 0) rfl lab_info rfl (labC_one _ _ _ _) ?_; intro w6 hb6 hg6 hs6; clear hs6))
        have hL6 : Below w.heap.size w w6 := HL5.out.grown hg6 HL5.out.size (fun g e => by injection e with e; omega)
        exact ret_cell_tmp rfl w.heap.size 24 (labC Lab.none_ none 0 0) _ hb6 rfl Try.underlying24 rfl lab_info (.int .i64 (S.place d k : Int)) rfl rfl ⟨⟨none, 0, 0, by rw [HErr.out]; rfl, by rw [HErr.out]; exact Gave.none_⟩, hL6⟩
    · obtain rfl : k = 2 := by omega
      have HOK := hide (Bank.loadL_ok hall)
      have y1 := lab_c1 HN.out
      by_cases h0 : (S.bestL d 2).gen = 0
      · have HV := hide (show S.loadL d = (Lab.none_, 8) by rw [HOK.out, if_pos h0])
        clear hall HOK
        obtain ⟨best, hbest⟩ : ∃ x, x = S.bestL d 2 := ⟨_, rfl⟩
        rw [← hbest] at HN HG y1 h0
        clear hbest
        rw [h0] at y1
        go_wp2_with (first
          | (refine wpList_build_is rfl 24 #[] rfl [] (by simp) (labC Lab.none_ none 0 0).toArray built_lab0 ?_)
          | (refine wpList_store_all rfl 24 (.tmp 4) (.tmp 51) rfl w.heap.size 24 _ HR.out rfl (labC Lab.none_ none 0 0) rfl lab_info rfl (labC_one _ _ _ _) ?_; intro w6 hb6 hg6 hs6; clear hs6))
        have hL6 : Below w.heap.size w w6 := hl.grown hg6 hl.size (fun g e => by injection e with e; omega)
        exact ret_cell_tmp rfl w.heap.size 24 (labC Lab.none_ none 0 0) _ hb6 rfl Try.underlying24 rfl lab_info (.int .i64 8) rfl rfl ⟨⟨none, 0, 0, by rw [HV.out]; rfl, by rw [HV.out]; exact Gave.none_⟩, hL6⟩
      · have HV := hide (show S.loadL d = (S.bestL d 2, 0) by rw [HOK.out, if_neg h0])
        clear hall HOK
        obtain ⟨best, hbest⟩ : ∃ x, x = S.bestL d 2 := ⟨_, rfl⟩
        rw [← hbest] at HN HG y1 h0 HV
        clear hbest
        go_wp2_with (first
          | (refine wpList_load_blk rfl 24 (.tmp 6) rfl w1.heap.size 0 24 _ HN.out rfl (labC best A n c) _ (fun j v hj => by rw [Nat.zero_add]; simpa using hj) Try.underlying24 rfl lab_info ?_)
          | (refine wpList_store_all rfl 24 (.tmp 4) (.tmp 52) rfl w.heap.size 24 _ HR.out rfl (labC best A n c) rfl lab_info rfl (labC_one _ _ _ _) ?_; intro w6 hb6 hg6 hs6; clear hs6))
        have hL6 : Below w.heap.size w w6 := hl.grown hg6 hl.size (fun g e => by injection e with e; omega)
        have hF := HG.out.2
        exact ret_cell_tmp rfl w.heap.size 24 (labC best A n c) _ hb6 rfl Try.underlying24 rfl lab_info (.int .i64 0) rfl rfl ⟨⟨A, n, c, by rw [HV.out]; rfl, by rw [HV.out]; exact (HG.out.from_ (by omega)).grown hg6 (fun hn ad e => by have := hF hn ad e; omega)⟩, hL6⟩
end
#print axioms lload_on
end Go.Proofs.Ytbbfgcekjelmkaa
