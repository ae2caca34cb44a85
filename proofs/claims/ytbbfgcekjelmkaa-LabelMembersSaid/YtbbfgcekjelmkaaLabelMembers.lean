/- LabelMembers: a label is right just so: three to twelve members, rising, of the right sizes, and its own among them; whatever members and own one come in. -/
import Derived.Test.YtbbfgcekjelmkaaShownL
import Derived.Test.YtbbfgcekjelmkaaArgL
import Derived.Test.YtbbfgcekjelmkaaTold
namespace Go.Proofs.Ytbbfgcekjelmkaa.LabelMembers
open Go.ChangeShapes Go.WideShapes Go.ChangeAt Go.RowKit Go.Proofs.Ytbbfgcekjelmkaa

set_option maxRecDepth 100000 in
set_option maxHeartbeats 8000000 in
theorem walk (A : Option Addr) (n c : Nat) (l : List Mb) (own : Int) (w : World) (hx : MbIn w w.heap.size A n c l) (_h1 : -9223372036854775808 ≤ own) (_h2 : own ≤ 9223372036854775807) :
    Calls Try.prog 9 #[.slice A n c, .int .i64 own] w fun e w' => e = .returned (.bool true) ∧ Below w.heap.size w w' := by
  obtain ⟨i0, hi0, hz0, hz1i, hz2i⟩ := info_parts mb_parts
  have hlen := hx.len
  have hnc := hx.2
  obtain ⟨m, hm⟩ : ∃ m : Nat, m = min n 14 := ⟨_, rfl⟩
  have hm1 : m ≤ n := by rw [hm]; exact Nat.min_le_left _ _
  have hm2 : m ≤ 14 := by rw [hm]; exact Nat.min_le_right _ _
  have hmin : ∀ ts t (W : World), (Builtin.min_ ts t #[.int .i64 (n : Int), .int .i64 14]).run Try.prog W = .ok (.int .i64 (m : Int)) W := by
    intro ts t W
    rw [run_min_int2]
    congr 2
    rw [hm]
    by_cases h14 : n ≤ 14
    · rw [Nat.min_eq_left h14, if_neg (by omega)]
    · rw [Nat.min_eq_right (by omega), if_pos (by omega)]
      rfl
  obtain ⟨K, hK⟩ : ∃ K, K = l.take m := ⟨_, rfl⟩
  have hKl : K.length = m := by rw [hK, List.length_take]; omega
  have hhead := hx.1.head hm1
  rw [mbL_take, ← hK] at hhead
  have HH := hide hhead
  have HKL := hide hKl
  have hA : 0 + m ≤ maxLen := by simp only [maxLen]; omega
  have hB : (0 + m) * 24 ≤ 140737488355328 := by omega
  have HShown := hide shownL_any
  have HRight := hide (fun A n c B0 w => right_any ⟨1, 1, own, 1, K⟩ A n c B0 w)
  have hrt : rightB ⟨1, 1, own, 1, K⟩ = (membersB K && ownB K own) := rfl
  rw [hrt] at HRight
  clear hx hlen hm hK hKl hhead hrt
  have hmbz : True := trivial
  clear hmbz
  cases h3 : decide ((3 : Int) ≤ (m : Int)) with
  | false =>
    go_enter Try.func9, Try.ntmps9
    go_wp2_with fail
    refine (HShown.out w).mono ?_
    rintro _ w1 ⟨rfl, hl1⟩
    have hz1 := hl1.size
    go_wp2_with (first
      | (at_builtin; refine wpList_append_any _ rfl (.tmp 11) (.tmp 16) _ rfl w1.heap.size 62 i0 _ 3 24 Try.underlying22 hi0 hz0 hz1i hz2i rfl (by omega) _ 0 [] rfl (World.ownsRow_made w1 #[] 0 (Nat.le_refl _) (Nat.zero_le _) rfl) w.heap.size A m c (mbL K) rfl (HH.out.below (hl1.alloc hz1 _)) (mbL_one _) hA hB (le_alloc (Nat.le_refl _) _) ?_; intro v3 w3 ho3 hl3; rw [List.nil_append, Nat.zero_add] at ho3; obtain ⟨A3, c3, rfl, hn3, hc3⟩ := own_shape ho3; have HO := hide ho3; have HL3 := hide ((hl1.alloc hz1 (.cells #[] 62)).trans (hl3.mono hz1)); clear ho3 hl3))
    have HM3 : Hid (MbIn w3 w3.heap.size A3 m c3 K) := ⟨Reads.of_own HO.out, hn3, by simpa [maxLen] using hc3⟩
    clear HH HO hmin hA hB
    have hz3 := HL3.out.size
    have hok : inB (K.length : Int) 3 12 = false := by rw [HKL.out]; exact inB_no.2 (fun h => by have := of_decide_eq_false h3; omega)
    have HT0 := hide (told_zero K own)
    rw [hok] at HT0
    clear hok
    go_loopw [6, 7, 8, 9] (fun s6 s7 s8 _ wr => ∃ (k : Nat) (ok yes : Bool), k ≤ m ∧ s8 = .int .i64 (k : Int) ∧ s6 = .bool ok ∧ s7 = .bool yes ∧ Hid (Told K own k ok yes) ∧ Hid (Below w3.heap.size w3 wr) ∧ Below w.heap.size w wr ∧ ok = false) (fun _ _ s8 _ _ => m - (intOf s8).toNat)
    case atStart => exact ⟨0, _, _, Nat.zero_le _, rfl, rfl, rfl, HT0, hide (Below.refl _ _), HL3.out, rfl⟩
    case round =>
      obtain ⟨k, ok, yes, hk, rfl, rfl, rfl, HT, hb3, hbel, rfl⟩ := hrel
      by_cases hkn : k < m
      · obtain ⟨ad, mb, rfl, hab, hmk, hcs⟩ := (HM3.out.below hb3.out).at_ hkn
        have HS := hide hcs
        have HMK := hide hmk
        have hz := hbel.size
        clear hmk hcs
        have HT2 := hide (HT.out.no HMK.out (fun e => by cases e))
        go_wp2_with (first
          | (refine wpList_load_at rfl 62 (.tmp 34) rfl (ad.add (k * 3)) rfl (mbC mb) _ HS.out Try.underlying62 rfl mb_info ?_)
          | (refine wpList_alloc_blk rfl 62 rfl _ (mb_zero _) ?_; intro w5 ha5 hl5 hs5; clear hs5)
          | (refine wpList_store_all rfl 62 (.tmp 9) (.tmp 35) rfl wr.heap.size 62 _ ha5 rfl (mbC mb) rfl mb_info rfl (mbC_one _) ?_; intro w6 hc6 hg6 hs6; clear hs6))
        have hl6 : Below wr.heap.size wr w6 := hl5.grown hg6 (by have := hl5.size; omega) (fun g e => by injection e with e; omega)
        have x0 : w6.cell? ⟨wr.heap.size, 0, none⟩ = some (.int .i64 mb.1) := hc6.cell 0
        have x1 : w6.cell? ⟨wr.heap.size, 1, none⟩ = some (.int .i64 mb.2.1) := hc6.cell 1
        have x2 : w6.cell? ⟨wr.heap.size, 2, none⟩ = some (.int .i64 mb.2.2) := hc6.cell 2
        have hl06 := hbel.trans (hl6.mono hbel.size)
        have HL6 := hide hl06
        clear hc6 hg6 ha5 hl5 hl06
        simp only [Act.put, List.setIfInBounds_toArray, List.set_cons_succ, List.set_cons_zero]
        refine wp_region_quiet_lit (by kernel_rfl) (by kernel_rfl) ?_
        iterate 47 (go_big_quiet_step (fail))
        refine wpQuiet_nil ?_
        rintro w7 ⟨q1, rfl⟩
        cases yes with
        | false =>
          rw [Bool.false_or] at HT2
          go_wp2
          go_roundw
          case rel => exact ⟨k + 1, _, _, by omega, by go_num, rfl, rfl, HT2, hide (below_drewN (hb3.out.trans (hl6.mono hb3.out.size)) _), below_drewN HL6.out _, rfl⟩
          case measure => simp [intOf]; omega
        | true =>
          rw [Bool.true_or] at HT2
          go_wp2
          go_roundw
          case rel => exact ⟨k + 1, _, _, by omega, by go_num, rfl, rfl, HT2, hide (below_drewN (hb3.out.trans (hl6.mono hb3.out.size)) _), below_drewN HL6.out _, rfl⟩
          case measure => simp [intOf]; omega
      · obtain rfl : k = m := by omega
        have hT := HT.out
        rw [← HKL.out] at hT
        obtain ⟨e1, e2⟩ := hT.end_
        rw [e1, e2] at HRight
        have HM := hide (HM3.out.below (Below.trans (Below.refl _ w3) (hb3.out)))
        clear hT e1 e2
        go_wp2_with (first | (go_at_call 17; refine (HRight.out A3 k c3 w3.heap.size wr HM.out hb3.out.size).mono ?_; rintro _ w8 ⟨rfl, hl8⟩))
        go_ret
        exact ⟨rfl, hbel.trans (hl8.mono hbel.size)⟩
  | true =>
    go_enter Try.func9, Try.ntmps9
    go_wp2_with fail
    refine (HShown.out w).mono ?_
    rintro _ w1 ⟨rfl, hl1⟩
    have hz1 := hl1.size
    go_wp2_with (first
      | (at_builtin; refine wpList_append_any _ rfl (.tmp 11) (.tmp 16) _ rfl w1.heap.size 62 i0 _ 3 24 Try.underlying22 hi0 hz0 hz1i hz2i rfl (by omega) _ 0 [] rfl (World.ownsRow_made w1 #[] 0 (Nat.le_refl _) (Nat.zero_le _) rfl) w.heap.size A m c (mbL K) rfl (HH.out.below (hl1.alloc hz1 _)) (mbL_one _) hA hB (le_alloc (Nat.le_refl _) _) ?_; intro v3 w3 ho3 hl3; rw [List.nil_append, Nat.zero_add] at ho3; obtain ⟨A3, c3, rfl, hn3, hc3⟩ := own_shape ho3; have HO := hide ho3; have HL3 := hide ((hl1.alloc hz1 (.cells #[] 62)).trans (hl3.mono hz1)); clear ho3 hl3))
    have HM3 : Hid (MbIn w3 w3.heap.size A3 m c3 K) := ⟨Reads.of_own HO.out, hn3, by simpa [maxLen] using hc3⟩
    clear HH HO hmin hA hB
    have hz3 := HL3.out.size
    have hok : inB (K.length : Int) 3 12 = decide ((m : Int) ≤ 12) := by rw [HKL.out]; simp [inB, (of_decide_eq_true h3 : (3 : Int) ≤ (m : Int))]
    have HT0 := hide (told_zero K own)
    rw [hok] at HT0
    clear hok
    go_loopw [6, 7, 8, 9] (fun s6 s7 s8 _ wr => ∃ (k : Nat) (ok yes : Bool), k ≤ m ∧ s8 = .int .i64 (k : Int) ∧ s6 = .bool ok ∧ s7 = .bool yes ∧ Hid (Told K own k ok yes) ∧ Hid (Below w3.heap.size w3 wr) ∧ Below w.heap.size w wr) (fun _ _ s8 _ _ => m - (intOf s8).toNat)
    case atStart => exact ⟨0, _, _, Nat.zero_le _, rfl, rfl, rfl, HT0, hide (Below.refl _ _), HL3.out⟩
    case round =>
      obtain ⟨k, ok, yes, hk, rfl, rfl, rfl, HT, hb3, hbel⟩ := hrel
      by_cases hkn : k < m
      · obtain ⟨ad, mb, rfl, hab, hmk, hcs⟩ := (HM3.out.below hb3.out).at_ hkn
        have HS := hide hcs
        have HMK := hide hmk
        have hz := hbel.size
        clear hmk hcs
        cases ok with
        | false =>
          have HT2 := hide (HT.out.no HMK.out (fun e => by cases e))
          go_wp2_with (first
            | (refine wpList_load_at rfl 62 (.tmp 34) rfl (ad.add (k * 3)) rfl (mbC mb) _ HS.out Try.underlying62 rfl mb_info ?_)
            | (refine wpList_alloc_blk rfl 62 rfl _ (mb_zero _) ?_; intro w5 ha5 hl5 hs5; clear hs5)
            | (refine wpList_store_all rfl 62 (.tmp 9) (.tmp 35) rfl wr.heap.size 62 _ ha5 rfl (mbC mb) rfl mb_info rfl (mbC_one _) ?_; intro w6 hc6 hg6 hs6; clear hs6))
          have hl6 : Below wr.heap.size wr w6 := hl5.grown hg6 (by have := hl5.size; omega) (fun g e => by injection e with e; omega)
          have x0 : w6.cell? ⟨wr.heap.size, 0, none⟩ = some (.int .i64 mb.1) := hc6.cell 0
          have x1 : w6.cell? ⟨wr.heap.size, 1, none⟩ = some (.int .i64 mb.2.1) := hc6.cell 1
          have x2 : w6.cell? ⟨wr.heap.size, 2, none⟩ = some (.int .i64 mb.2.2) := hc6.cell 2
          have hl06 := hbel.trans (hl6.mono hbel.size)
          have HL6 := hide hl06
          clear hc6 hg6 ha5 hl5 hl06
          simp only [Act.put, List.setIfInBounds_toArray, List.set_cons_succ, List.set_cons_zero]
          refine wp_region_quiet_lit (by kernel_rfl) (by kernel_rfl) ?_
          iterate 47 (go_big_quiet_step (fail))
          refine wpQuiet_nil ?_
          rintro w7 ⟨q1, rfl⟩
          cases yes with
          | false =>
            rw [Bool.false_or] at HT2
            go_wp2
            go_roundw
            case rel => exact ⟨k + 1, _, _, by omega, by go_num, rfl, rfl, HT2, hide (below_drewN (hb3.out.trans (hl6.mono hb3.out.size)) _), below_drewN HL6.out _⟩
            case measure => simp [intOf]; omega
          | true =>
            rw [Bool.true_or] at HT2
            go_wp2
            go_roundw
            case rel => exact ⟨k + 1, _, _, by omega, by go_num, rfl, rfl, HT2, hide (below_drewN (hb3.out.trans (hl6.mono hb3.out.size)) _), below_drewN HL6.out _⟩
            case measure => simp [intOf]; omega
        | true =>
          cases d1 : decide (0 ≤ mb.1) with
          | false =>
            have HT2 := hide (HT.out.no HMK.out (fun _ h => absurd (show 0 ≤ mb.1 by have := HT.out.low rfl; omega) (of_decide_eq_false d1)))
            go_wp2_with (first
              | (refine wpList_load_at rfl 62 (.tmp 34) rfl (ad.add (k * 3)) rfl (mbC mb) _ HS.out Try.underlying62 rfl mb_info ?_)
              | (refine wpList_alloc_blk rfl 62 rfl _ (mb_zero _) ?_; intro w5 ha5 hl5 hs5; clear hs5)
              | (refine wpList_store_all rfl 62 (.tmp 9) (.tmp 35) rfl wr.heap.size 62 _ ha5 rfl (mbC mb) rfl mb_info rfl (mbC_one _) ?_; intro w6 hc6 hg6 hs6; clear hs6))
            have hl6 : Below wr.heap.size wr w6 := hl5.grown hg6 (by have := hl5.size; omega) (fun g e => by injection e with e; omega)
            have x0 : w6.cell? ⟨wr.heap.size, 0, none⟩ = some (.int .i64 mb.1) := hc6.cell 0
            have x1 : w6.cell? ⟨wr.heap.size, 1, none⟩ = some (.int .i64 mb.2.1) := hc6.cell 1
            have x2 : w6.cell? ⟨wr.heap.size, 2, none⟩ = some (.int .i64 mb.2.2) := hc6.cell 2
            have hl06 := hbel.trans (hl6.mono hbel.size)
            have HL6 := hide hl06
            clear hc6 hg6 ha5 hl5 hl06
            simp only [Act.put, List.setIfInBounds_toArray, List.set_cons_succ, List.set_cons_zero]
            refine wp_region_quiet_lit (by kernel_rfl) (by kernel_rfl) ?_
            iterate 47 (go_big_quiet_step (fail))
            refine wpQuiet_nil ?_
            rintro w7 ⟨q1, rfl⟩
            cases yes with
            | false =>
              rw [Bool.false_or] at HT2
              go_wp2
              go_roundw
              case rel => exact ⟨k + 1, _, _, by omega, by go_num, rfl, rfl, HT2, hide (below_drewN (hb3.out.trans (hl6.mono hb3.out.size)) _), below_drewN HL6.out _⟩
              case measure => simp [intOf]; omega
            | true =>
              rw [Bool.true_or] at HT2
              go_wp2
              go_roundw
              case rel => exact ⟨k + 1, _, _, by omega, by go_num, rfl, rfl, HT2, hide (below_drewN (hb3.out.trans (hl6.mono hb3.out.size)) _), below_drewN HL6.out _⟩
              case measure => simp [intOf]; omega
          | true =>
            cases d2 : decide (mb.1 ≤ 31) with
            | false =>
              have HT2 := hide (HT.out.no HMK.out (fun _ h => absurd (show mb.1 ≤ 31 by have := HT.out.low rfl; omega) (of_decide_eq_false d2)))
              go_wp2_with (first
                | (refine wpList_load_at rfl 62 (.tmp 34) rfl (ad.add (k * 3)) rfl (mbC mb) _ HS.out Try.underlying62 rfl mb_info ?_)
                | (refine wpList_alloc_blk rfl 62 rfl _ (mb_zero _) ?_; intro w5 ha5 hl5 hs5; clear hs5)
                | (refine wpList_store_all rfl 62 (.tmp 9) (.tmp 35) rfl wr.heap.size 62 _ ha5 rfl (mbC mb) rfl mb_info rfl (mbC_one _) ?_; intro w6 hc6 hg6 hs6; clear hs6))
              have hl6 : Below wr.heap.size wr w6 := hl5.grown hg6 (by have := hl5.size; omega) (fun g e => by injection e with e; omega)
              have x0 : w6.cell? ⟨wr.heap.size, 0, none⟩ = some (.int .i64 mb.1) := hc6.cell 0
              have x1 : w6.cell? ⟨wr.heap.size, 1, none⟩ = some (.int .i64 mb.2.1) := hc6.cell 1
              have x2 : w6.cell? ⟨wr.heap.size, 2, none⟩ = some (.int .i64 mb.2.2) := hc6.cell 2
              have hl06 := hbel.trans (hl6.mono hbel.size)
              have HL6 := hide hl06
              clear hc6 hg6 ha5 hl5 hl06
              simp only [Act.put, List.setIfInBounds_toArray, List.set_cons_succ, List.set_cons_zero]
              refine wp_region_quiet_lit (by kernel_rfl) (by kernel_rfl) ?_
              iterate 47 (go_big_quiet_step (fail))
              refine wpQuiet_nil ?_
              rintro w7 ⟨q1, rfl⟩
              cases yes with
              | false =>
                rw [Bool.false_or] at HT2
                go_wp2
                go_roundw
                case rel => exact ⟨k + 1, _, _, by omega, by go_num, rfl, rfl, HT2, hide (below_drewN (hb3.out.trans (hl6.mono hb3.out.size)) _), below_drewN HL6.out _⟩
                case measure => simp [intOf]; omega
              | true =>
                rw [Bool.true_or] at HT2
                go_wp2
                go_roundw
                case rel => exact ⟨k + 1, _, _, by omega, by go_num, rfl, rfl, HT2, hide (below_drewN (hb3.out.trans (hl6.mono hb3.out.size)) _), below_drewN HL6.out _⟩
                case measure => simp [intOf]; omega
            | true =>
              cases d3 : decide (160 ≤ mb.2.1) with
              | false =>
                have HT2 := hide (HT.out.no HMK.out (fun _ h => absurd (show 160 ≤ mb.2.1 by have := HT.out.low rfl; omega) (of_decide_eq_false d3)))
                go_wp2_with (first
                  | (refine wpList_load_at rfl 62 (.tmp 34) rfl (ad.add (k * 3)) rfl (mbC mb) _ HS.out Try.underlying62 rfl mb_info ?_)
                  | (refine wpList_alloc_blk rfl 62 rfl _ (mb_zero _) ?_; intro w5 ha5 hl5 hs5; clear hs5)
                  | (refine wpList_store_all rfl 62 (.tmp 9) (.tmp 35) rfl wr.heap.size 62 _ ha5 rfl (mbC mb) rfl mb_info rfl (mbC_one _) ?_; intro w6 hc6 hg6 hs6; clear hs6))
                have hl6 : Below wr.heap.size wr w6 := hl5.grown hg6 (by have := hl5.size; omega) (fun g e => by injection e with e; omega)
                have x0 : w6.cell? ⟨wr.heap.size, 0, none⟩ = some (.int .i64 mb.1) := hc6.cell 0
                have x1 : w6.cell? ⟨wr.heap.size, 1, none⟩ = some (.int .i64 mb.2.1) := hc6.cell 1
                have x2 : w6.cell? ⟨wr.heap.size, 2, none⟩ = some (.int .i64 mb.2.2) := hc6.cell 2
                have hl06 := hbel.trans (hl6.mono hbel.size)
                have HL6 := hide hl06
                clear hc6 hg6 ha5 hl5 hl06
                simp only [Act.put, List.setIfInBounds_toArray, List.set_cons_succ, List.set_cons_zero]
                refine wp_region_quiet_lit (by kernel_rfl) (by kernel_rfl) ?_
                iterate 47 (go_big_quiet_step (fail))
                refine wpQuiet_nil ?_
                rintro w7 ⟨q1, rfl⟩
                cases yes with
                | false =>
                  rw [Bool.false_or] at HT2
                  go_wp2
                  go_roundw
                  case rel => exact ⟨k + 1, _, _, by omega, by go_num, rfl, rfl, HT2, hide (below_drewN (hb3.out.trans (hl6.mono hb3.out.size)) _), below_drewN HL6.out _⟩
                  case measure => simp [intOf]; omega
                | true =>
                  rw [Bool.true_or] at HT2
                  go_wp2
                  go_roundw
                  case rel => exact ⟨k + 1, _, _, by omega, by go_num, rfl, rfl, HT2, hide (below_drewN (hb3.out.trans (hl6.mono hb3.out.size)) _), below_drewN HL6.out _⟩
                  case measure => simp [intOf]; omega
              | true =>
                cases d4 : decide (mb.2.1 ≤ 4096) with
                | false =>
                  have HT2 := hide (HT.out.no HMK.out (fun _ h => absurd (show mb.2.1 ≤ 4096 by have := HT.out.low rfl; omega) (of_decide_eq_false d4)))
                  go_wp2_with (first
                    | (refine wpList_load_at rfl 62 (.tmp 34) rfl (ad.add (k * 3)) rfl (mbC mb) _ HS.out Try.underlying62 rfl mb_info ?_)
                    | (refine wpList_alloc_blk rfl 62 rfl _ (mb_zero _) ?_; intro w5 ha5 hl5 hs5; clear hs5)
                    | (refine wpList_store_all rfl 62 (.tmp 9) (.tmp 35) rfl wr.heap.size 62 _ ha5 rfl (mbC mb) rfl mb_info rfl (mbC_one _) ?_; intro w6 hc6 hg6 hs6; clear hs6))
                  have hl6 : Below wr.heap.size wr w6 := hl5.grown hg6 (by have := hl5.size; omega) (fun g e => by injection e with e; omega)
                  have x0 : w6.cell? ⟨wr.heap.size, 0, none⟩ = some (.int .i64 mb.1) := hc6.cell 0
                  have x1 : w6.cell? ⟨wr.heap.size, 1, none⟩ = some (.int .i64 mb.2.1) := hc6.cell 1
                  have x2 : w6.cell? ⟨wr.heap.size, 2, none⟩ = some (.int .i64 mb.2.2) := hc6.cell 2
                  have hl06 := hbel.trans (hl6.mono hbel.size)
                  have HL6 := hide hl06
                  clear hc6 hg6 ha5 hl5 hl06
                  simp only [Act.put, List.setIfInBounds_toArray, List.set_cons_succ, List.set_cons_zero]
                  refine wp_region_quiet_lit (by kernel_rfl) (by kernel_rfl) ?_
                  iterate 47 (go_big_quiet_step (fail))
                  refine wpQuiet_nil ?_
                  rintro w7 ⟨q1, rfl⟩
                  cases yes with
                  | false =>
                    rw [Bool.false_or] at HT2
                    go_wp2
                    go_roundw
                    case rel => exact ⟨k + 1, _, _, by omega, by go_num, rfl, rfl, HT2, hide (below_drewN (hb3.out.trans (hl6.mono hb3.out.size)) _), below_drewN HL6.out _⟩
                    case measure => simp [intOf]; omega
                  | true =>
                    rw [Bool.true_or] at HT2
                    go_wp2
                    go_roundw
                    case rel => exact ⟨k + 1, _, _, by omega, by go_num, rfl, rfl, HT2, hide (below_drewN (hb3.out.trans (hl6.mono hb3.out.size)) _), below_drewN HL6.out _⟩
                    case measure => simp [intOf]; omega
                | true =>
                  cases d5 : decide (0 ≤ mb.2.2) with
                  | false =>
                    have HT2 := hide (HT.out.no HMK.out (fun _ h => absurd (show 0 ≤ mb.2.2 by have := HT.out.low rfl; omega) (of_decide_eq_false d5)))
                    go_wp2_with (first
                      | (refine wpList_load_at rfl 62 (.tmp 34) rfl (ad.add (k * 3)) rfl (mbC mb) _ HS.out Try.underlying62 rfl mb_info ?_)
                      | (refine wpList_alloc_blk rfl 62 rfl _ (mb_zero _) ?_; intro w5 ha5 hl5 hs5; clear hs5)
                      | (refine wpList_store_all rfl 62 (.tmp 9) (.tmp 35) rfl wr.heap.size 62 _ ha5 rfl (mbC mb) rfl mb_info rfl (mbC_one _) ?_; intro w6 hc6 hg6 hs6; clear hs6))
                    have hl6 : Below wr.heap.size wr w6 := hl5.grown hg6 (by have := hl5.size; omega) (fun g e => by injection e with e; omega)
                    have x0 : w6.cell? ⟨wr.heap.size, 0, none⟩ = some (.int .i64 mb.1) := hc6.cell 0
                    have x1 : w6.cell? ⟨wr.heap.size, 1, none⟩ = some (.int .i64 mb.2.1) := hc6.cell 1
                    have x2 : w6.cell? ⟨wr.heap.size, 2, none⟩ = some (.int .i64 mb.2.2) := hc6.cell 2
                    have hl06 := hbel.trans (hl6.mono hbel.size)
                    have HL6 := hide hl06
                    clear hc6 hg6 ha5 hl5 hl06
                    simp only [Act.put, List.setIfInBounds_toArray, List.set_cons_succ, List.set_cons_zero]
                    refine wp_region_quiet_lit (by kernel_rfl) (by kernel_rfl) ?_
                    iterate 47 (go_big_quiet_step (fail))
                    refine wpQuiet_nil ?_
                    rintro w7 ⟨q1, rfl⟩
                    cases yes with
                    | false =>
                      rw [Bool.false_or] at HT2
                      go_wp2
                      go_roundw
                      case rel => exact ⟨k + 1, _, _, by omega, by go_num, rfl, rfl, HT2, hide (below_drewN (hb3.out.trans (hl6.mono hb3.out.size)) _), below_drewN HL6.out _⟩
                      case measure => simp [intOf]; omega
                    | true =>
                      rw [Bool.true_or] at HT2
                      go_wp2
                      go_roundw
                      case rel => exact ⟨k + 1, _, _, by omega, by go_num, rfl, rfl, HT2, hide (below_drewN (hb3.out.trans (hl6.mono hb3.out.size)) _), below_drewN HL6.out _⟩
                      case measure => simp [intOf]; omega
                  | true =>
                    cases d6 : decide (mb.2.2 ≤ 2) with
                    | false =>
                      have HT2 := hide (HT.out.no HMK.out (fun _ h => absurd (show mb.2.2 ≤ 2 by have := HT.out.low rfl; omega) (of_decide_eq_false d6)))
                      go_wp2_with (first
                        | (refine wpList_load_at rfl 62 (.tmp 34) rfl (ad.add (k * 3)) rfl (mbC mb) _ HS.out Try.underlying62 rfl mb_info ?_)
                        | (refine wpList_alloc_blk rfl 62 rfl _ (mb_zero _) ?_; intro w5 ha5 hl5 hs5; clear hs5)
                        | (refine wpList_store_all rfl 62 (.tmp 9) (.tmp 35) rfl wr.heap.size 62 _ ha5 rfl (mbC mb) rfl mb_info rfl (mbC_one _) ?_; intro w6 hc6 hg6 hs6; clear hs6))
                      have hl6 : Below wr.heap.size wr w6 := hl5.grown hg6 (by have := hl5.size; omega) (fun g e => by injection e with e; omega)
                      have x0 : w6.cell? ⟨wr.heap.size, 0, none⟩ = some (.int .i64 mb.1) := hc6.cell 0
                      have x1 : w6.cell? ⟨wr.heap.size, 1, none⟩ = some (.int .i64 mb.2.1) := hc6.cell 1
                      have x2 : w6.cell? ⟨wr.heap.size, 2, none⟩ = some (.int .i64 mb.2.2) := hc6.cell 2
                      have hl06 := hbel.trans (hl6.mono hbel.size)
                      have HL6 := hide hl06
                      clear hc6 hg6 ha5 hl5 hl06
                      simp only [Act.put, List.setIfInBounds_toArray, List.set_cons_succ, List.set_cons_zero]
                      refine wp_region_quiet_lit (by kernel_rfl) (by kernel_rfl) ?_
                      iterate 47 (go_big_quiet_step (fail))
                      refine wpQuiet_nil ?_
                      rintro w7 ⟨q1, rfl⟩
                      cases yes with
                      | false =>
                        rw [Bool.false_or] at HT2
                        go_wp2
                        go_roundw
                        case rel => exact ⟨k + 1, _, _, by omega, by go_num, rfl, rfl, HT2, hide (below_drewN (hb3.out.trans (hl6.mono hb3.out.size)) _), below_drewN HL6.out _⟩
                        case measure => simp [intOf]; omega
                      | true =>
                        rw [Bool.true_or] at HT2
                        go_wp2
                        go_roundw
                        case rel => exact ⟨k + 1, _, _, by omega, by go_num, rfl, rfl, HT2, hide (below_drewN (hb3.out.trans (hl6.mono hb3.out.size)) _), below_drewN HL6.out _⟩
                        case measure => simp [intOf]; omega
                    | true =>
                      by_cases hk0 : k = 0
                      · have hk0I : ((k : Int) == 0) = true := by simp [hk0]
                        have hlast : lastOf K k = -1 := by rw [hk0]; rfl
                        have HLS := hide hlast
                        clear hk0 hlast
                        have HT2 := hide (HT.out.yes_ HMK.out ⟨⟨by rw [HLS.out]; have := of_decide_eq_true d1; omega, of_decide_eq_true d2⟩, ⟨of_decide_eq_true d3, of_decide_eq_true d4⟩, of_decide_eq_true d5, of_decide_eq_true d6⟩)
                        go_wp2_with (first
                          | (refine wpList_load_at rfl 62 (.tmp 34) rfl (ad.add (k * 3)) rfl (mbC mb) _ HS.out Try.underlying62 rfl mb_info ?_)
                          | (refine wpList_alloc_blk rfl 62 rfl _ (mb_zero _) ?_; intro w5 ha5 hl5 hs5; clear hs5)
                          | (refine wpList_store_all rfl 62 (.tmp 9) (.tmp 35) rfl wr.heap.size 62 _ ha5 rfl (mbC mb) rfl mb_info rfl (mbC_one _) ?_; intro w6 hc6 hg6 hs6; clear hs6))
                        have hl6 : Below wr.heap.size wr w6 := hl5.grown hg6 (by have := hl5.size; omega) (fun g e => by injection e with e; omega)
                        have x0 : w6.cell? ⟨wr.heap.size, 0, none⟩ = some (.int .i64 mb.1) := hc6.cell 0
                        have x1 : w6.cell? ⟨wr.heap.size, 1, none⟩ = some (.int .i64 mb.2.1) := hc6.cell 1
                        have x2 : w6.cell? ⟨wr.heap.size, 2, none⟩ = some (.int .i64 mb.2.2) := hc6.cell 2
                        have hl06 := hbel.trans (hl6.mono hbel.size)
                        have HL6 := hide hl06
                        clear hc6 hg6 ha5 hl5 hl06
                        simp only [Act.put, List.setIfInBounds_toArray, List.set_cons_succ, List.set_cons_zero]
                        refine wp_region_quiet_lit (by kernel_rfl) (by kernel_rfl) ?_
                        iterate 47 (go_big_quiet_step (fail))
                        refine wpQuiet_nil ?_
                        rintro w7 ⟨q1, rfl⟩
                        cases yes with
                        | false =>
                          rw [Bool.false_or] at HT2
                          go_wp2
                          go_roundw
                          case rel => exact ⟨k + 1, _, _, by omega, by go_num, rfl, rfl, HT2, hide (below_drewN (hb3.out.trans (hl6.mono hb3.out.size)) _), below_drewN HL6.out _⟩
                          case measure => simp [intOf]; omega
                        | true =>
                          rw [Bool.true_or] at HT2
                          go_wp2
                          go_roundw
                          case rel => exact ⟨k + 1, _, _, by omega, by go_num, rfl, rfl, HT2, hide (below_drewN (hb3.out.trans (hl6.mono hb3.out.size)) _), below_drewN HL6.out _⟩
                          case measure => simp [intOf]; omega
                      · obtain ⟨ad2, mp, e2, _, hmp, hcp⟩ := (HM3.out.below hb3.out).at_ (k := k - 1) (by omega)
                        obtain rfl : ad = ad2 := Option.some.inj e2
                        have hk0I : ((k : Int) == 0) = false := by simp; omega
                        have hk1 : 0 < k := by omega
                        have hlast : lastOf K k = mp.1 := by unfold lastOf; rw [if_neg hk0, hmp]; rfl
                        have HLS := hide hlast
                        have HCP := hide (fun w6 (hl6 : Below wr.heap.size wr w6) => ((hl6.cell (p := (ad.add ((k - 1) * 3)).add 0) (by rw [block_of_add, block_of_add]; have := hb3.out.size; omega)).trans (hcp 0 (.int .i64 mp.1) rfl)))
                        clear hmp hcp hlast e2 hk0
                        have HT2 := hide (HT.out.last_ HMK.out hk1 ⟨⟨of_decide_eq_true d1, of_decide_eq_true d2⟩, ⟨of_decide_eq_true d3, of_decide_eq_true d4⟩, of_decide_eq_true d5, of_decide_eq_true d6⟩)
                        go_wp2_with (first
                          | (refine wpList_load_at rfl 62 (.tmp 34) rfl (ad.add (k * 3)) rfl (mbC mb) _ HS.out Try.underlying62 rfl mb_info ?_)
                          | (refine wpList_alloc_blk rfl 62 rfl _ (mb_zero _) ?_; intro w5 ha5 hl5 hs5; clear hs5)
                          | (refine wpList_store_all rfl 62 (.tmp 9) (.tmp 35) rfl wr.heap.size 62 _ ha5 rfl (mbC mb) rfl mb_info rfl (mbC_one _) ?_; intro w6 hc6 hg6 hs6; clear hs6))
                        have hl6 : Below wr.heap.size wr w6 := hl5.grown hg6 (by have := hl5.size; omega) (fun g e => by injection e with e; omega)
                        have x0 : w6.cell? ⟨wr.heap.size, 0, none⟩ = some (.int .i64 mb.1) := hc6.cell 0
                        have x1 : w6.cell? ⟨wr.heap.size, 1, none⟩ = some (.int .i64 mb.2.1) := hc6.cell 1
                        have x2 : w6.cell? ⟨wr.heap.size, 2, none⟩ = some (.int .i64 mb.2.2) := hc6.cell 2
                        have hl06 := hbel.trans (hl6.mono hbel.size)
                        have HL6 := hide hl06
                        clear hc6 hg6 ha5 hl5 hl06
                        rw [HLS.out] at HT2
                        have x9 : w6.cell? (ad.add ((k - 1) * 3)) = some (.int .i64 mp.1) := HCP.out w6 hl6
                        simp only [Act.put, List.setIfInBounds_toArray, List.set_cons_succ, List.set_cons_zero]
                        refine wp_region_quiet_lit (by kernel_rfl) (by kernel_rfl) ?_
                        iterate 47 (go_big_quiet_step (fail))
                        refine wpQuiet_nil ?_
                        rintro w7 ⟨q1, rfl⟩
                        cases yes with
                        | false =>
                          rw [Bool.false_or] at HT2
                          go_wp2
                          go_roundw
                          case rel => exact ⟨k + 1, _, _, by omega, by go_num, rfl, rfl, HT2, hide (below_drewN (hb3.out.trans (hl6.mono hb3.out.size)) _), below_drewN HL6.out _⟩
                          case measure => simp [intOf]; omega
                        | true =>
                          rw [Bool.true_or] at HT2
                          go_wp2
                          go_roundw
                          case rel => exact ⟨k + 1, _, _, by omega, by go_num, rfl, rfl, HT2, hide (below_drewN (hb3.out.trans (hl6.mono hb3.out.size)) _), below_drewN HL6.out _⟩
                          case measure => simp [intOf]; omega
      · obtain rfl : k = m := by omega
        have hT := HT.out
        rw [← HKL.out] at hT
        obtain ⟨e1, e2⟩ := hT.end_
        rw [e1, e2] at HRight
        have HM := hide (HM3.out.below (Below.trans (Below.refl _ w3) (hb3.out)))
        clear hT e1 e2
        cases ok with
        | false =>
          go_wp2_with (first | (go_at_call 17; refine (HRight.out A3 k c3 w3.heap.size wr HM.out hb3.out.size).mono ?_; rintro _ w8 ⟨rfl, hl8⟩))
          go_ret
          exact ⟨rfl, hbel.trans (hl8.mono hbel.size)⟩
        | true =>
          go_wp2_with (first | (go_at_call 17; refine (HRight.out A3 k c3 w3.heap.size wr HM.out hb3.out.size).mono ?_; rintro _ w8 ⟨rfl, hl8⟩))
          go_ret
          exact ⟨by simp, hbel.trans (hl8.mono hbel.size)⟩

/-! The row's frame, by program: how the walk above proves the statement. -/
set_option maxRecDepth 100000 in
theorem lifted (os : Os) (started : os.Started) (H : Type) (enc : TypeId × Value → H) :
    ReturnsInHanded {} Try.checked os 9 .any (Rows.labelMembersSpec.pre6 enc Try.prog Try.f9 Rows.labelMembersRow.domain false) (Rows.labelMembersSpec.post enc Try.prog Try.f9 false true false false) := by
  refine returnsInHanded_of_change (C := Try.checked) own started (by kernel_rfl) Try.func9
    (ChangeSpec.witness6 (enc := enc) (C := Try.checked) false ⟨#[], #[.slice none 0 0, .int .i64 0], []⟩ 8 (by kernel_rfl) (by kernel_rfl) (by kernel_rfl) (by kernel_rfl)) ?_
  intro W base args ds gs before hval0 hW hcnd _
  have hval : ∀ (j : Nat) t v, Try.f9.params[j]? = some t → args[j]? = some v → Value.okWide Try.prog W .any base t v := hval0
  have hW' := hW
  obtain ⟨p, q, hA0, hV, rfl, hfz, hnd⟩ := hW
  have hA : DataW.TrodAll enc Try.prog W 0 (fun _ => true) true Try.f9.params.toList args.toList ds p := hA0
  rw [Try.params9] at hA hval
  obtain ⟨v0, vs0, d0, ds0, p0, q0, hargs, rfl, rfl, h0, r0⟩ := trodAll_cons hA
  obtain ⟨v1, vs1, d1, ds1, p1, q1, rfl, rfl, rfl, h1, r1⟩ := trodAll_cons r0
  obtain ⟨rfl, rfl, rfl⟩ := trodAll_nil r1
  obtain rfl : args = #[v0, v1] := by cases args; simp_all
  obtain ⟨rfl, rfl⟩ := trodVars_none hV
  obtain ⟨A0, n0, c0, rfl⟩ := okWide_slice Try.underlying22 (hval 0 22 v0 rfl rfl)
  have k0 := h0
  have lt0 : ∀ x ∈ p0, x.block < W.heap.size := by obtain ⟨m, hm⟩ := k0; exact DataW.trod_lt m _ _ _ hm
  obtain ⟨l0, x0⟩ := arg_members h0
  obtain ⟨a1, rfl, rfl, rfl, w1⟩ := open_int Try.underlying3 (hval 1 3 v1 rfl rfl) h1
  have b1 := bounds_i64 w1
  clear hA0 hval0
  refine (walk A0 n0 c0 l0 a1 W x0 b1.1 b1.2).mono fun e W' ⟨he, bel⟩ => ?_
  subst he
  exact ⟨_, rfl, _, _, _, [], _, [], hW', trodAll_mk1 (shut_bool Try.underlying4 _), (trodAll_cons_mk (Below.trod laidOut (by kernel_rfl) (of_decide_eq_true (by kernel_rfl)) k0 bel lt0) (trodAll_cons_mk (shut_int Try.underlying3 w1) trodAll_mk0)), rfl, bel.frame _, fun h => by cases h⟩

theorem over : Rows.labelMembersRow.holds Try.pinned (OpenSpec.ofChange Rows.labelMembersSpec) :=
  OpenClaim.holds_of_wide 9 Try.f9 rfl rfl rfl rfl rfl rfl rfl ⟨rfl, rfl, rfl, rfl, rfl⟩ rfl rfl rfl rfl rfl (by kernel_rfl) Try.func9 (by kernel_rfl)
    (of_decide_eq_true (by kernel_rfl)) (by unfold Func.isWrapper; first | (rw [if_pos (by decide +kernel)]; kernel_rfl) | (rw [if_neg (by decide +kernel)]; exact ⟨rfl, rfl⟩))
    (fun os started H enc _ => lifted os started H enc)

/-- The statement. -/
theorem proved : Rows.LabelMembersSaid := over
#print axioms proved
end Go.Proofs.Ytbbfgcekjelmkaa.LabelMembers
