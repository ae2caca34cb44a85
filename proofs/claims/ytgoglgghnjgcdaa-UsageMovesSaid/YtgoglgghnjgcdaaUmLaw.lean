/- UsageMoves' walk: a block goes from slot to slot. -/
import Derived.Test.YtgoglgghnjgcdaaUsgS
import Derived.Test.YtgoglgghnjgcdaaArgU5
import Derived.Deep.DeepCutAuto
namespace Go.Proofs.Ytgoglgghnjgcdaa
open Go.RowKit Go.Maps

/-- Three groups of eight; the block 42 in one slot, or nowhere (group below 0). -/
def mv (g s : Int) : Us := ⟨grp (fun _ => 8) 3, if g < 0 then [] else [⟨g, s, 42⟩]⟩
theorem mv_slots (g s : Int) {x : Int} (h0 : 0 ≤ x) (h3 : x < 3) : (mv g s).has x = true ∧ (mv g s).slots x = 8 := by
  unfold mv
  refine ⟨by rw [grp_has]; simp; omega, ?_⟩
  obtain ⟨i, rfl⟩ := Int.eq_ofNat_of_zero_le h0
  exact grp_slots _ _ _ i (by omega)
theorem mv_at (g s x y : Int) : (mv g s).at_ x y = if 0 ≤ g ∧ x = g ∧ y = s then some 42 else none := by
  unfold mv Us.at_
  dsimp only
  by_cases hg : g < 0
  · rw [if_pos hg, if_neg (by omega)]
    rfl
  · rw [if_neg hg]
    by_cases e : x = g ∧ y = s
    · obtain ⟨rfl, rfl⟩ := e
      rw [if_pos ⟨by omega, rfl, rfl⟩]
      simp
    · rw [if_neg (fun h => e h.2)]
      have hne : ¬ (g = x ∧ s = y) := fun h => e ⟨h.1.symm, h.2.symm⟩
      simp only [List.find?_cons, List.find?_nil]
      have : (g == x && s == y) = false := by
        rw [Bool.and_eq_false_iff]
        rcases Decidable.not_and_iff_or_not.1 hne with h | h
        · exact .inl (by simpa using h)
        · exact .inr (by simpa using h)
      rw [this]
      rfl
/-- The block is put into another slot. -/
theorem mv_put {g s x y : Int} (h0 : 0 ≤ x) (h3 : x < 3) (hy : 0 ≤ y) (h8 : y < 8) (hne : ¬ (x = g ∧ y = s)) : (mv g s).putE x y 42 = 0 ∧ (mv g s).put' x y 42 = mv x y := by
  have hs := mv_slots g s h0 h3
  have e : (mv g s).putE x y 42 = 0 := by
    rw [putE_in hs.1 hy (by rw [hs.2]; exact h8) (by decide), show (mv g s).at_ x y = none by rw [mv_at, if_neg (fun h => hne h.2)]]
    rfl
  refine ⟨e, ?_⟩
  rw [put_good e]
  unfold Us.put mv
  dsimp only
  rw [if_neg (show ¬ x < 0 by omega)]
  by_cases hg : g < 0
  · rw [if_pos hg]
    rfl
  · rw [if_neg hg]
    rfl
theorem mv_same {g s : Int} (h0 : 0 ≤ g) (h3 : g < 3) (hy : 0 ≤ s) (h8 : s < 8) : (mv g s).putE g s 42 = 9 ∧ (mv g s).put' g s 42 = mv g s := by
  have hs := mv_slots g s h0 h3
  have e : (mv g s).putE g s 42 = 9 := by
    rw [putE_in hs.1 hy (by rw [hs.2]; exact h8) (by decide), show (mv g s).at_ g s = some 42 by rw [mv_at, if_pos ⟨h0, rfl, rfl⟩]]
    rfl
  exact ⟨e, put_bad (by rw [e]; decide)⟩
theorem mv_fnd {g : Int} (s : Int) (h0 : 0 ≤ g) : (mv g s).fnd 42 = some (g, s) := by
  unfold mv Us.fnd
  dsimp only
  rw [if_neg (by omega)]
  rfl
theorem mv_cnt (g s x : Int) : (mv g s).cnt x = if 0 ≤ g ∧ x = g then 1 else 0 := by
  unfold mv Us.cnt
  dsimp only
  by_cases hg : g < 0
  · rw [if_pos hg, if_neg (by omega)]
    rfl
  · rw [if_neg hg]
    by_cases e : x = g
    · subst e
      rw [if_pos ⟨by omega, rfl⟩]
      simp
    · rw [if_neg (fun h => e h.2)]
      have hne : ¬ g = x := fun h => e h.symm
      simp [hne]
theorem mv_counts {g : Int} (s : Int) (h0 : 0 ≤ g) (h3 : g < 3) : (((mv g s).cnt 0 : Nat) : Int) + (((mv g s).cnt 1 : Nat) : Int) + (((mv g s).cnt 2 : Nat) : Int) = 1 := by
  rw [mv_cnt, mv_cnt, mv_cnt]
  rcases (show g = 0 ∨ g = 1 ∨ g = 2 by omega) with rfl | rfl | rfl <;> rfl
theorem mv_clear {g s : Int} (h0 : 0 ≤ g) (h3 : g < 3) (hy : 0 ≤ s) (h8 : s < 8) : (mv g s).clearE g s = 0 ∧ (mv g s).clear' g s = mv (-1) 0 := by
  have hs := mv_slots g s h0 h3
  have e : (mv g s).clearE g s = 0 := by
    rw [clearE_in hs.1 hy (by rw [hs.2]; exact h8), show (mv g s).at_ g s = some 42 by rw [mv_at, if_pos ⟨h0, rfl, rfl⟩]]
    rfl
  refine ⟨e, ?_⟩
  unfold Us.clear'
  rw [if_pos e]
  unfold Us.killed mv
  dsimp only
  rw [if_neg (by omega)]
  simp
theorem mv_gone {g s : Int} (h0 : 0 ≤ g) (h3 : g < 3) (hy : 0 ≤ s) (h8 : s < 8) : (mv (-1) 0).clearE g s = 9 ∧ (mv (-1) 0).clear' g s = mv (-1) 0 := by
  have hs := mv_slots (-1) 0 h0 h3
  have e : (mv (-1) 0).clearE g s = 9 := by
    rw [clearE_in hs.1 hy (by rw [hs.2]; exact h8), mv_at]
    rfl
  refine ⟨e, ?_⟩
  unfold Us.clear'
  rw [e]
  rfl
set_option maxRecDepth 100000 in
set_option maxHeartbeats 8000000 in
theorem usageMoves_walk (A : Option Addr) (n c : Nat) (f : Nat → OpU) (w : World) (hr : OpsU w w.heap.size A n f) :
    Calls Try.prog 8 #[.slice A n c] w fun e w' => e = .returned (.bool true) ∧ Below w.heap.size w w' := by
  have HSH := hide shown14_any
  have HR := hide hr
  have hnl := run_eql_tab
  have H42 : Hid (okI64 42) := hide (by unfold okI64; omega)
  clear hr
  go_enter Try.func8, Try.ntmps8
  go_wp2_with (first
    | (go_at_call 9; refine (HSH.out w).mono ?_; rintro _ w1 ⟨rfl, hl1⟩)
    | (go_at_call 10; refine (Tbl.make w w1 hl1).mono ?_; rintro _ w2 ⟨t, lo, rfl, ht2, _, _⟩; have HT2 := hide ht2; clear ht2 hl1))
  go_loopw [5] (fun s5 wr => ∃ k : Nat, s5 = .int .i64 (k : Int) ∧ k ≤ 3 ∧ Hid (Tbl w wr t lo k ⟨grp (fun _ => 8) k, []⟩)) (fun s5 _ => 3 - (intOf s5).toNat)
  case atStart => exact ⟨0, rfl, by decide, HT2⟩
  case round =>
    obtain ⟨k, rfl, hk, HT⟩ := hrel
    by_cases hk3 : (k : Int) < 3
    · have HO := hide (grp_open (fun _ => 8) k [] (by decide) (by decide))
      have hok : okI64 (k : Int) := by unfold okI64; omega
      go_wp2_with (first
        | (go_at_call 16; refine (HT.out.open_ (k : Int) 8 hok (by omega)).mono ?_; rw [HO.out.1, HO.out.2]; rintro _ w3 ⟨rfl, ht3, _⟩; have HT3 := hide ht3; clear ht3))
      go_roundw
      case rel => exact ⟨k + 1, by go_num, by omega, HT3⟩
      case measure => simp [intOf]; omega
    · obtain rfl : k = 3 := by omega
      obtain ⟨z3, rfl⟩ : ∃ z3, z3 = wr := ⟨_, rfl⟩
      have HTM : Hid (Tbl w z3 t lo 3 (mv (-1) 0)) := HT
      go_wp2
      go_loopw [6, 7, 8, 9, 10, 11, 12, 13, 14] (fun s6 s7 s8 _ _ _ _ _ _ wr => ∃ (k : Nat) (g s : Int), s6 = .int .i64 g ∧ s7 = .int .i64 s ∧ s8 = .int .i64 (k : Int) ∧ k ≤ n ∧ k ≤ 100 ∧ (g < 0 ∨ 0 ≤ g ∧ g < 3 ∧ 0 ≤ s ∧ s < 8) ∧ Hid (Tbl w wr t lo (3 + k) (mv g s))) (fun _ _ s8 _ _ _ _ _ _ _ => 100 - (intOf s8).toNat)
      case atStart => exact ⟨0, -1, 0, rfl, rfl, rfl, Nat.zero_le _, Nat.zero_le _, .inl (by decide), HTM⟩
      case round =>
        obtain ⟨k, g, s, rfl, rfl, rfl, hkn, hk100, hgs, HTr⟩ := hrel
        obtain ⟨z4, rfl⟩ : ∃ z4, z4 = wr := ⟨_, rfl⟩
        by_cases h100 : (k : Int) < 100 ∧ (k : Int) < (n : Int)
        · obtain ⟨h100, hn⟩ := h100
          obtain ⟨ad, hA, hab, hfit, _, hg1, hs1, _, _⟩ := (HR.out.below HTr.out.low).cell (i := k) (by omega)
          subst hA
          obtain ⟨N, hN, hN2⟩ := mask_65535 (f k).g
          obtain ⟨x, hx⟩ : ∃ x : Int, (N : Int) % 3 = x := ⟨_, rfl⟩
          have hxt : (N : Int).tmod 3 = x := by rw [Int.tmod_eq_emod_of_nonneg (by omega)]; exact hx
          have hx0 : 0 ≤ x := by omega
          have hx3 : x < 3 := by omega
          obtain ⟨Y, hY, hY2⟩ := mask_7 (f k).s
          obtain ⟨y, hy⟩ : ∃ y : Int, (Y : Int) = y := ⟨_, rfl⟩
          have hy0 : 0 ≤ y := by omega
          have hy8 : y < 8 := by omega
          rw [hy] at hY
          have HX : Hid (okI64 x) := hide (by unfold okI64; omega)
          have HY : Hid (okI64 y) := hide (by unfold okI64; omega)
          have HC := hide (And.intro (mv_fnd (g := x) y hx0) (show (mv x y).cnt x = 1 by rw [mv_cnt, if_pos ⟨hx0, rfl⟩]))
          have hq := mv_counts y hx0 hx3
          obtain ⟨q0, hq0⟩ : ∃ q, (mv x y).cnt 0 = q := ⟨_, rfl⟩
          obtain ⟨q1, hq1⟩ : ∃ q, (mv x y).cnt 1 = q := ⟨_, rfl⟩
          obtain ⟨q2, hq2⟩ : ∃ q, (mv x y).cnt 2 = q := ⟨_, rfl⟩
          rw [hq0, hq1, hq2] at hq
          have Q0 := hide hq0
          have Q1 := hide hq1
          have Q2 := hide hq2
          clear hq0 hq1 hq2 hy hY2 hN2 hfit hab
          by_cases hxg : x = g
          · by_cases hys : y = s
            · obtain rfl := hxg
              obtain rfl := hys
              have HP := hide (mv_same hx0 hx3 hy0 hy8)
              clear hgs
              go_wp2_with (first
                | (go_at_call 25; with_reducible refine (HT6.out.count_ (x : Int) HX.out).mono ?_; rw [HC.out.2]; rintro _ _ ⟨rfl, rfl⟩)
                | (go_at_call 25; with_reducible refine (HT6.out.count_ 0 (ok_small 0 (by decide) (by decide))).mono ?_; rw [Q0.out]; rintro _ _ ⟨rfl, rfl⟩)
                | (go_at_call 25; with_reducible refine (HT6.out.count_ 1 (ok_small 1 (by decide) (by decide))).mono ?_; rw [Q1.out]; rintro _ _ ⟨rfl, rfl⟩)
                | (go_at_call 25; with_reducible refine (HT6.out.count_ 2 (ok_small 2 (by decide) (by decide))).mono ?_; rw [Q2.out]; rintro _ _ ⟨rfl, rfl⟩)
                | (go_at_call 21; refine (HT5.out.find_ 42 H42.out).mono ?_; rw [HC.out.1]; rintro _ z6 ⟨rfl, ht6, _⟩; have HT6 := hide ht6; clear ht6)
                | (go_at_call 18; refine (HTr.out.put_ (x : Int) (y : Int) 42 HX.out HY.out H42.out (by omega)).mono ?_; rw [HP.out.1, HP.out.2]; rintro _ z5 ⟨rfl, ht5, _⟩; have HT5 := hide ht5; clear ht5))
              have HT7 : Hid (Tbl w z6 t lo (3 + (k + 1)) (mv x y)) := HT6
              go_roundw
              case rel => exact ⟨k + 1, x, y, rfl, rfl, by go_num, by omega, by omega, .inr (by omega), HT7⟩
              case measure => simp [intOf]; omega
            · obtain rfl := hxg
              have HP := hide (mv_put (g := x) (s := s) hx0 hx3 hy0 hy8 (fun h => hys h.2))
              have hne : (y == s) = false := by simpa using hys
              clear hgs hys
              go_wp2_with (first
                | (go_at_call 25; with_reducible refine (HT6.out.count_ (x : Int) HX.out).mono ?_; rw [HC.out.2]; rintro _ _ ⟨rfl, rfl⟩)
                | (go_at_call 25; with_reducible refine (HT6.out.count_ 0 (ok_small 0 (by decide) (by decide))).mono ?_; rw [Q0.out]; rintro _ _ ⟨rfl, rfl⟩)
                | (go_at_call 25; with_reducible refine (HT6.out.count_ 1 (ok_small 1 (by decide) (by decide))).mono ?_; rw [Q1.out]; rintro _ _ ⟨rfl, rfl⟩)
                | (go_at_call 25; with_reducible refine (HT6.out.count_ 2 (ok_small 2 (by decide) (by decide))).mono ?_; rw [Q2.out]; rintro _ _ ⟨rfl, rfl⟩)
                | (go_at_call 21; refine (HT5.out.find_ 42 H42.out).mono ?_; rw [HC.out.1]; rintro _ z6 ⟨rfl, ht6, _⟩; have HT6 := hide ht6; clear ht6)
                | (go_at_call 18; refine (HTr.out.put_ (x : Int) (y : Int) 42 HX.out HY.out H42.out (by omega)).mono ?_; rw [HP.out.1, HP.out.2]; rintro _ z5 ⟨rfl, ht5, _⟩; have HT5 := hide ht5; clear ht5))
              have HT7 : Hid (Tbl w z6 t lo (3 + (k + 1)) (mv x y)) := HT6
              go_roundw
              case rel => exact ⟨k + 1, x, y, rfl, rfl, by go_num, by omega, by omega, .inr (by omega), HT7⟩
              case measure => simp [intOf]; omega
          · have HP := hide (mv_put (g := g) (s := s) hx0 hx3 hy0 hy8 (fun h => hxg h.1))
            have hne : (x == g) = false := by simpa using hxg
            clear hgs hxg
            go_wp2_with (first
              | (go_at_call 25; with_reducible refine (HT6.out.count_ (x : Int) HX.out).mono ?_; rw [HC.out.2]; rintro _ _ ⟨rfl, rfl⟩)
              | (go_at_call 25; with_reducible refine (HT6.out.count_ 0 (ok_small 0 (by decide) (by decide))).mono ?_; rw [Q0.out]; rintro _ _ ⟨rfl, rfl⟩)
              | (go_at_call 25; with_reducible refine (HT6.out.count_ 1 (ok_small 1 (by decide) (by decide))).mono ?_; rw [Q1.out]; rintro _ _ ⟨rfl, rfl⟩)
              | (go_at_call 25; with_reducible refine (HT6.out.count_ 2 (ok_small 2 (by decide) (by decide))).mono ?_; rw [Q2.out]; rintro _ _ ⟨rfl, rfl⟩)
              | (go_at_call 21; refine (HT5.out.find_ 42 H42.out).mono ?_; rw [HC.out.1]; rintro _ z6 ⟨rfl, ht6, _⟩; have HT6 := hide ht6; clear ht6)
              | (go_at_call 18; refine (HTr.out.put_ (x : Int) (y : Int) 42 HX.out HY.out H42.out (by omega)).mono ?_; rw [HP.out.1, HP.out.2]; rintro _ z5 ⟨rfl, ht5, _⟩; have HT5 := hide ht5; clear ht5))
            have HT7 : Hid (Tbl w z6 t lo (3 + (k + 1)) (mv x y)) := HT6
            go_roundw
            case rel => exact ⟨k + 1, x, y, rfl, rfl, by go_num, by omega, by omega, .inr (by omega), HT7⟩
            case measure => simp [intOf]; omega
        · have hexit : ¬ ((k : Int) < (n : Int)) ∨ ((k : Int) < (n : Int)) ∧ ¬ ((k : Int) < 100) := by omega
          rcases hexit with hn | ⟨hn, h1⟩
          all_goals
            rcases hgs with hneg | ⟨hg0, hg3, hs0, hs8⟩
            · go_wp2
              go_ret
              exact ⟨rfl, HTr.out.low⟩
            · have hng : ¬ g < 0 := by omega
              have HX : Hid (okI64 g) := hide (by unfold okI64; omega)
              have HY : Hid (okI64 s) := hide (by unfold okI64; omega)
              have HC1 := hide (mv_clear hg0 hg3 hs0 hs8)
              have HC2 := hide (mv_gone hg0 hg3 hs0 hs8)
              have HF := hide (show (mv (-1) 0).fnd 42 = none by rfl)
              go_wp2_with (first
                | (go_at_call 17; refine (HT6.out.clear_ g s HX.out HY.out).mono ?_; rw [HC2.out.1, HC2.out.2]; rintro _ z7 ⟨rfl, ht7, _⟩; have HT7 := hide ht7; clear ht7)
                | (go_at_call 21; refine (HT5.out.find_ 42 H42.out).mono ?_; rw [HF.out]; rintro _ z6 ⟨rfl, ht6, _⟩; have HT6 := hide ht6; clear ht6)
                | (go_at_call 17; refine (HTr.out.clear_ g s HX.out HY.out).mono ?_; rw [HC1.out.1, HC1.out.2]; rintro _ z5 ⟨rfl, ht5, _⟩; have HT5 := hide ht5; clear ht5))
              go_ret
              exact ⟨rfl, HT7.out.low⟩
#print axioms usageMoves_walk
end Go.Proofs.Ytgoglgghnjgcdaa
