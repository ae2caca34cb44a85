/- BitsTakes holds: for every number that a length is made of and every two rows of places to take and to free, a set kept beside says the same of each place, Take tells the least place that is not in it, and as many can be taken as are left; no condition besides the card's own: math/bits.deBruijn64tab is as its initialiser lays it. -/
import Derived.Test.YtpakipacclmimaaDoorBools
import Derived.Deep.CutRange
import Derived.Test.YtpakipacclmimaaDoorCards
import Derived.Test.YtpakipacclmimaaDoorTie
import Derived.Deep.DeepCutAuto
import Derived.Deep.CutBlock
namespace Go.Proofs.YtpakipacclmimaaDoor.BitsTakes
open Go.ChangeShapes Go.WideShapes Go.ChangeAt Go.RowKit
set_option linter.unusedVariables false

set_option maxRecDepth 100000 in
set_option maxHeartbeats 8000000 in
theorem walk (n : Int) (A1 : Option Addr) (n1 c1 : Nat) (l1 : List Int) (A2 : Option Addr) (n2 c2 : Nat) (l2 : List Int) (w : World) (hT : Tab w) (_ : -9223372036854775808 ≤ n) (_ : n ≤ 9223372036854775807)
    (hr1 : Reads w w.heap.size 1 A1 n1 (I64 l1)) (_ : ∀ z ∈ l1, -9223372036854775808 ≤ z ∧ z ≤ 9223372036854775807) (hc1 : n1 ≤ c1) (hcc1 : c1 ≤ 9223372036854775807)
    (hr2 : Reads w w.heap.size 1 A2 n2 (I64 l2)) (_ : ∀ z ∈ l2, -9223372036854775808 ≤ z ∧ z ≤ 9223372036854775807) (hc2 : n2 ≤ c2) (hcc2 : c2 ≤ 9223372036854775807) :
    Calls Tryd.prog 5 #[.int .i64 n, .slice A1 n1 c1, .slice A2 n2 c2] w fun e w' => e = .returned (.bool true) ∧ Below w.heap.size w w' := by
  obtain ⟨i0, hi0, hz0, hz1, hz2⟩ := info_parts bool_info
  obtain ⟨M, N, hmask, hrem, hrem2, hN, hcl⟩ := mask_law n
  have HCL := hide hcl
  have hpos := hT.pos
  clear hcl
  have hmk : ∀ w : World, (Instr.makeSlice 39 (.int .i64 (N : Int)) (.int .i64 (N : Int))).run Tryd.prog w = .ok (.slice (some ⟨w.heap.size, 0, none⟩) N N) (w.alloc (.cells (BL N (fun _ => false)).toArray 4)) :=
    fun w => run_make_list w _ _ i0 _ Tryd.underlying39 hi0 hz0 hz1 rfl N _ (BL_none N) (by rw [hz2]; omega) (by omega)
  go_enter Tryd.func5, Tryd.ntmps5
  go_wp2_with fail
  refine (shown_any w hT).mono ?_
  rintro e w1 ⟨rfl, hb1⟩
  have hT1 := hT.later hb1
  go_wp2_with fail
  refine (new_any N w1).mono ?_
  rintro e w2 ⟨rfl, hm2, hb2⟩
  rw [HCL.out] at hm2
  have hT2 := hT1.later hb2
  have hbel2 : Below w.heap.size w w2 := hb1.trans (hb2.mono hb1.size)
  obtain ⟨b, hbb⟩ : ∃ b, b = w1.heap.size := ⟨_, rfl⟩
  rw [← hbb] at hm2 ⊢
  have HB : Hid (w.heap.size ≤ b) := by show _ ≤ _; rw [hbb]; exact hb1.size
  have HB0 : Hid (some 0 ≠ some b) := by show _ ≠ _; intro h; injection h with h; have := HB.out; omega
  clear hbb hb1 hb2 hT1 hmask hrem hrem2
  go_wp2_with fail
  refine (len_any hm2).mono ?_
  rintro e w3 ⟨rfl, rfl⟩
  obtain ⟨g, hg⟩ : ∃ g, g = w2.heap.size := ⟨_, rfl⟩
  obtain ⟨wa, hwa⟩ : ∃ wa, wa = w2.alloc (.cells (BL N (fun _ => false)).toArray 4) := ⟨_, rfl⟩
  have hmk2 := hmk w2
  rw [← hg, ← hwa] at hmk2
  have hma : MapAt wa b N (fun _ => false) := by rw [hwa]; exact hm2.alloc _
  have hbela : Below w.heap.size w wa := by rw [hwa]; exact hbel2.alloc hbel2.size _
  have hTa : Tab wa := by rw [hwa]; exact hT2.later ((Below.refl _ _).alloc (Nat.le_refl _) _)
  have hba : w.heap.size ≤ w2.heap.size := hbel2.size
  have hlit := World.ownsRow_lit (base := w.heap.size) (e := 4) (size := 1) w2 (BL N (fun _ => false)).toArray N hba (by unfold maxLen; omega) (by simp [BL_length])
  have howna : wa.ownsRow w.heap.size 4 1 (.slice (some ⟨g, 0, none⟩) N N) N (BL N (fun _ => false)) := by rw [hwa, hg]; simpa using hlit
  obtain ⟨B, hB⟩ : ∃ B, B = w.heap.size := ⟨_, rfl⟩
  rw [← hB] at howna
  have HG : Hid (w.heap.size ≤ (⟨g, 0, none⟩ : Addr).block) := by show _ ≤ g; rw [hg]; exact hba
  have HG1 : Hid (1 ≤ (⟨g, 0, none⟩ : Addr).block) := by show 1 ≤ g; have := HG.out; simp only at this; omega
  have HGB : Hid (g ≠ b) := row_ne howna hma (by decide)
  have HC0 : Hid (0 = cnt (fun _ => false) N) := (cnt_zero fun _ _ => rfl).symm
  clear hlit hba hm2 hbel2 hT2 hwa hg hmk hB
  go_upto_block 0 with fail
  go_cut [10, 11, 12, 13, 14, 15, 16, 17] (fun cs _ _ _ _ _ _ _ wx => ∃ (t : Nat → Bool) (cn : Nat), cn ≤ N ∧ cs = .int .i64 (cn : Int) ∧ Hid (cn = cnt t N) ∧ MapAt wx b N t ∧ wx.ownsRow B 4 1 (.slice (some ⟨g, 0, none⟩) N N) N (BL N t) ∧ Below w.heap.size w wx ∧ Tab wx)
  case first =>
    go_wp2_with fail
    go_loopw [10, 11] (fun cs a wr => ∃ (k : Nat) (t : Nat → Bool) (cn : Nat), k ≤ 300 ∧ a = .int .i64 (k : Int) ∧ cn ≤ N ∧ cs = .int .i64 (cn : Int) ∧ Hid (cn = cnt t N) ∧ MapAt wr b N t ∧ wr.ownsRow B 4 1 (.slice (some ⟨g, 0, none⟩) N N) N (BL N t) ∧ Below w.heap.size w wr ∧ Tab wr) (fun _ a _ => 300 - (intOf a).toNat)
    case atStart => exact ⟨0, _, 0, by omega, rfl, by omega, rfl, HC0, hma, howna, hbela, hTa⟩
    case round =>
      obtain ⟨k, t, cn, hk3, rfl, hcn, rfl, HCN, hm, hown, hbel, hTr⟩ := hrel
      by_cases hlt : k < 300
      · have hd3 : decide ((k : Int) < 300) = true := by simp; omega
        by_cases hk : k < n1
        · have hd1 : decide (k < n1) = true := by simpa using hk
          go_upto_if 61 with fail
          go_cut [10, 12, 13, 14] from 42 to 148 (fun cs _ _ _ wx => ∃ (t : Nat → Bool) (cn : Nat), cn ≤ N ∧ cs = .int .i64 (cn : Int) ∧ Hid (cn = cnt t N) ∧ MapAt wx b N t ∧ wx.ownsRow B 4 1 (.slice (some ⟨g, 0, none⟩) N N) N (BL N t) ∧ Below w.heap.size w wx ∧ Tab wx)
          case first =>
            obtain ⟨ad, x, rfl, hab, hx, hc⟩ := (hr1.below hbel).i64_at hk
            clear hx
            rcases Int.lt_or_le x 0 with hx0 | hx0
            · have hdx : decide ((0 : Int) ≤ x) = false := by simp; omega
              go_wp2_with fail
              refine (takeAt_below x hx0).mono ?_
              rintro e w3 ⟨rfl, rfl⟩
              go_wp2_with fail
              go_meet
              exact ⟨t, cn, by have h1 := cnt_le t N; have h2 := HCN.out; omega, by first | rfl | go_num, HCN, hm, hown, hbel, hTr⟩
            · obtain ⟨x, rfl⟩ := Int.eq_ofNat_of_zero_le hx0
              by_cases hxn : x < N
              · have hdx : decide (x < N) = true := by simpa using hxn
                have hcell := (hown.cellAt x (by omega)).trans (BL_at N t hxn)
                cases htx : t x
                · rw [htx] at hcell
                  have HTX := hide htx
                  clear htx
                  go_wp2_with fail
                  refine (takeAt_yes x hm hxn HTX.out).mono ?_
                  rintro e w3 ⟨rfl, hm3, hg3⟩
                  have hown3 := row_kept hown hg3 HGB.out
                  have hc3 := (hown3.cellAt x (by omega)).trans (BL_at N t hxn)
                  have hf3 := hown3.frozenAt x
                  rw [HTX.out] at hc3
                  have hb3 := below_of hbel hg3 hbel.size (fun k hk => by cases hk; exact HB.out)
                  have hT3 := hTr.grown hg3 HB0.out
                  have HCN3 : Hid (cn + 1 = cnt (put t x true) N) := by show _ = _; rw [cnt_more hxn HTX.out, ← HCN.out]
                  have hown4 := (hown3.stored x (.bool true)).1
                  rw [BL_set] at hown4
                  have hm4 := hm3.far (p := ⟨g, x, none⟩) (fun h => HGB.out h.symm) (.bool true)
                  have hb4 := hb3.setCell (p := ⟨g, x, none⟩) HG.out (.bool true)
                  have hT4 : Tab (w3.setCell ⟨g, x, none⟩ (.bool true)) := hT3.below ((Below.refl 1 w3).setCell (p := ⟨g, x, none⟩) HG1.out (.bool true)) (Nat.one_pos)
                  clear hcell
                  go_wp2_with fail
                  go_meet
                  exact ⟨(put t x true), cn + 1, by have h1 := cnt_le (put t x true) N; have h2 := HCN3.out; omega, by first | rfl | go_num, HCN3, hm4, hown4, hb4, hT4⟩
                · rw [htx] at hcell
                  have HTX := hide htx
                  clear htx
                  go_wp2_with fail
                  refine (takeAt_no x hm hxn HTX.out).mono ?_
                  rintro e w3 ⟨rfl, q, rfl⟩
                  go_wp2_with fail
                  go_meet
                  exact ⟨t, cn, by have h1 := cnt_le t N; have h2 := HCN.out; omega, by first | rfl | go_num, HCN, (hm.drewN q), hown, (below_drewN hbel q), hTr⟩
              · have hdx : decide (x < N) = false := by simpa using hxn
                go_wp2_with fail
                refine (takeAt_above x hm (by omega)).mono ?_
                rintro e w3 ⟨rfl, rfl⟩
                go_wp2_with fail
                go_meet
                exact ⟨t, cn, by have h1 := cnt_le t N; have h2 := HCN.out; omega, by first | rfl | go_num, HCN, hm, hown, hbel, hTr⟩
          case rest =>
            clear HCN hm hown hbel hTr
            obtain ⟨t, cn, hcn, rfl, HCN, hm, hown, hbel, hTr⟩ := hcut
            clear hk hd1
            by_cases hk : k < n2
            · have hd2 : decide (k < n2) = true := by simpa using hk
              obtain ⟨ad, x, rfl, hab, hx, hc⟩ := (hr2.below hbel).i64_at hk
              clear hx
              rcases Int.lt_or_le x 0 with hx0 | hx0
              · have hdx : decide ((0 : Int) ≤ x) = false := by simp; omega
                go_wp2_with fail
                refine (free_below x hx0).mono ?_
                rintro e w3 ⟨rfl, rfl⟩
                go_wp2_with fail
                go_roundw
                case rel => exact ⟨k + 1, t, cn, by omega, by go_num, by have h1 := cnt_le t N; have h2 := HCN.out; omega, by first | rfl | go_num, HCN, hm, hown, hbel, hTr⟩
                case measure => simp [intOf]; omega
              · obtain ⟨x, rfl⟩ := Int.eq_ofNat_of_zero_le hx0
                by_cases hxn : x < N
                · have hdx : decide (x < N) = true := by simpa using hxn
                  have hcell := (hown.cellAt x (by omega)).trans (BL_at N t hxn)
                  cases htx : t x
                  · rw [htx] at hcell
                    have HTX := hide htx
                    clear htx
                    go_wp2_with fail
                    refine (free_no x hm hxn HTX.out).mono ?_
                    rintro e w3 ⟨rfl, q, rfl⟩
                    go_wp2_with fail
                    go_roundw
                    case rel => exact ⟨k + 1, t, cn, by omega, by go_num, by have h1 := cnt_le t N; have h2 := HCN.out; omega, by first | rfl | go_num, HCN, (hm.drewN q), hown, (below_drewN hbel q), hTr⟩
                    case measure => simp [intOf]; omega
                  · rw [htx] at hcell
                    have HTX := hide htx
                    clear htx
                    go_wp2_with fail
                    have hcn1 : 1 ≤ cn := by have h1 := cnt_less hxn HTX.out; have h2 := HCN.out; omega
                    have hcast : (cn : Int) - 1 = ((cn - 1 : Nat) : Int) := by omega
                    refine (free_yes x hm hxn HTX.out).mono ?_
                    rintro e w3 ⟨rfl, hm3, hg3⟩
                    have hown3 := row_kept hown hg3 HGB.out
                    have hc3 := (hown3.cellAt x (by omega)).trans (BL_at N t hxn)
                    have hf3 := hown3.frozenAt x
                    rw [HTX.out] at hc3
                    have hb3 := below_of hbel hg3 hbel.size (fun k hk => by cases hk; exact HB.out)
                    have hT3 := hTr.grown hg3 HB0.out
                    have HCN3 : Hid (cn - 1 = cnt (put t x false) N) := by show _ = _; have h1 := cnt_less hxn HTX.out; have h2 := HCN.out; omega
                    have hown4 := (hown3.stored x (.bool false)).1
                    rw [BL_set] at hown4
                    have hm4 := hm3.far (p := ⟨g, x, none⟩) (fun h => HGB.out h.symm) (.bool false)
                    have hb4 := hb3.setCell (p := ⟨g, x, none⟩) HG.out (.bool false)
                    have hT4 : Tab (w3.setCell ⟨g, x, none⟩ (.bool false)) := hT3.below ((Below.refl 1 w3).setCell (p := ⟨g, x, none⟩) HG1.out (.bool false)) (Nat.one_pos)
                    clear hcell
                    go_wp2_with fail
                    go_roundw
                    case rel => exact ⟨k + 1, (put t x false), cn - 1, by omega, by go_num, by have h1 := cnt_le (put t x false) N; have h2 := HCN3.out; omega, by first | rfl | go_num, HCN3, hm4, hown4, hb4, hT4⟩
                    case measure => simp [intOf]; omega
                · have hdx : decide (x < N) = false := by simpa using hxn
                  go_wp2_with fail
                  refine (free_above x hm (by omega)).mono ?_
                  rintro e w3 ⟨rfl, rfl⟩
                  go_wp2_with fail
                  go_roundw
                  case rel => exact ⟨k + 1, t, cn, by omega, by go_num, by have h1 := cnt_le t N; have h2 := HCN.out; omega, by first | rfl | go_num, HCN, hm, hown, hbel, hTr⟩
                  case measure => simp [intOf]; omega
            · have hd2 : decide (k < n2) = false := by simpa using hk
              go_wp2_with fail
              go_roundw
              case rel => exact ⟨k + 1, t, cn, by omega, by go_num, by have h1 := cnt_le t N; have h2 := HCN.out; omega, by first | rfl | go_num, HCN, hm, hown, hbel, hTr⟩
              case measure => simp [intOf]; omega
        · have hd1 : decide (k < n1) = false := by simpa using hk
          clear hk
          by_cases hk : k < n2
          · have hd2 : decide (k < n2) = true := by simpa using hk
            obtain ⟨ad, x, rfl, hab, hx, hc⟩ := (hr2.below hbel).i64_at hk
            clear hx
            rcases Int.lt_or_le x 0 with hx0 | hx0
            · have hdx : decide ((0 : Int) ≤ x) = false := by simp; omega
              go_wp2_with fail
              refine (free_below x hx0).mono ?_
              rintro e w3 ⟨rfl, rfl⟩
              go_wp2_with fail
              go_roundw
              case rel => exact ⟨k + 1, t, cn, by omega, by go_num, by have h1 := cnt_le t N; have h2 := HCN.out; omega, by first | rfl | go_num, HCN, hm, hown, hbel, hTr⟩
              case measure => simp [intOf]; omega
            · obtain ⟨x, rfl⟩ := Int.eq_ofNat_of_zero_le hx0
              by_cases hxn : x < N
              · have hdx : decide (x < N) = true := by simpa using hxn
                have hcell := (hown.cellAt x (by omega)).trans (BL_at N t hxn)
                cases htx : t x
                · rw [htx] at hcell
                  have HTX := hide htx
                  clear htx
                  go_wp2_with fail
                  refine (free_no x hm hxn HTX.out).mono ?_
                  rintro e w3 ⟨rfl, q, rfl⟩
                  go_wp2_with fail
                  go_roundw
                  case rel => exact ⟨k + 1, t, cn, by omega, by go_num, by have h1 := cnt_le t N; have h2 := HCN.out; omega, by first | rfl | go_num, HCN, (hm.drewN q), hown, (below_drewN hbel q), hTr⟩
                  case measure => simp [intOf]; omega
                · rw [htx] at hcell
                  have HTX := hide htx
                  clear htx
                  go_wp2_with fail
                  have hcn1 : 1 ≤ cn := by have h1 := cnt_less hxn HTX.out; have h2 := HCN.out; omega
                  have hcast : (cn : Int) - 1 = ((cn - 1 : Nat) : Int) := by omega
                  refine (free_yes x hm hxn HTX.out).mono ?_
                  rintro e w3 ⟨rfl, hm3, hg3⟩
                  have hown3 := row_kept hown hg3 HGB.out
                  have hc3 := (hown3.cellAt x (by omega)).trans (BL_at N t hxn)
                  have hf3 := hown3.frozenAt x
                  rw [HTX.out] at hc3
                  have hb3 := below_of hbel hg3 hbel.size (fun k hk => by cases hk; exact HB.out)
                  have hT3 := hTr.grown hg3 HB0.out
                  have HCN3 : Hid (cn - 1 = cnt (put t x false) N) := by show _ = _; have h1 := cnt_less hxn HTX.out; have h2 := HCN.out; omega
                  have hown4 := (hown3.stored x (.bool false)).1
                  rw [BL_set] at hown4
                  have hm4 := hm3.far (p := ⟨g, x, none⟩) (fun h => HGB.out h.symm) (.bool false)
                  have hb4 := hb3.setCell (p := ⟨g, x, none⟩) HG.out (.bool false)
                  have hT4 : Tab (w3.setCell ⟨g, x, none⟩ (.bool false)) := hT3.below ((Below.refl 1 w3).setCell (p := ⟨g, x, none⟩) HG1.out (.bool false)) (Nat.one_pos)
                  clear hcell
                  go_wp2_with fail
                  go_roundw
                  case rel => exact ⟨k + 1, (put t x false), cn - 1, by omega, by go_num, by have h1 := cnt_le (put t x false) N; have h2 := HCN3.out; omega, by first | rfl | go_num, HCN3, hm4, hown4, hb4, hT4⟩
                  case measure => simp [intOf]; omega
              · have hdx : decide (x < N) = false := by simpa using hxn
                go_wp2_with fail
                refine (free_above x hm (by omega)).mono ?_
                rintro e w3 ⟨rfl, rfl⟩
                go_wp2_with fail
                go_roundw
                case rel => exact ⟨k + 1, t, cn, by omega, by go_num, by have h1 := cnt_le t N; have h2 := HCN.out; omega, by first | rfl | go_num, HCN, hm, hown, hbel, hTr⟩
                case measure => simp [intOf]; omega
          · have hd2 : decide (k < n2) = false := by simpa using hk
            go_wp2_with fail
            go_meet
            exact ⟨t, cn, by have h1 := cnt_le t N; have h2 := HCN.out; omega, by first | rfl | go_num, HCN, hm, hown, hbel, hTr⟩
      · have hd3 : decide ((k : Int) < 300) = false := by simp; omega
        go_wp2_with fail
        go_meet
        exact ⟨t, cn, by have h1 := cnt_le t N; have h2 := HCN.out; omega, by first | rfl | go_num, HCN, hm, hown, hbel, hTr⟩
  case rest =>
    obtain ⟨t, cn, hcn, rfl, HCN, hm, hown, hbel, hTr⟩ := hcut
    have hcast0 : (N : Int) - (cn : Int) = ((N - cn : Nat) : Int) := by omega
    obtain ⟨left, hleft⟩ : ∃ left, left = N - cn := ⟨_, rfl⟩
    rw [← hleft] at hcast0
    have hsum : cn + left = N := by omega
    clear hleft
    go_wp2_with fail
    clear hcast0
    go_loopw [18] (fun a wr => ∃ (t : Nat → Bool) (cn left : Nat), cn + left = N ∧ a = .int .i64 (left : Int) ∧ Hid (cn = cnt t N) ∧ MapAt wr b N t ∧ wr.ownsRow B 4 1 (.slice (some ⟨g, 0, none⟩) N N) N (BL N t) ∧ Below w.heap.size w wr ∧ Tab wr) (fun a _ => (intOf a).toNat)
    case atStart => exact ⟨t, cn, left, hsum, rfl, HCN, hm, hown, hbel, hTr⟩
    case round =>
      clear hsum HCN hm hown hbel hTr hcn
      obtain ⟨t, cn, left, hsum, rfl, HCN, hm, hown, hbel, hTr⟩ := hrel
      by_cases h0 : 0 < left
      · have hd0 : decide (0 < left) = true := by simpa using h0
        go_wp2_with fail
        refine (take_any hm hTr).mono ?_
        rintro e w3 ⟨k, ok, rfl, hNI, hm3, hg3⟩
        cases ok
        case false =>
          have h1 := next_none_cnt hNI
          have h2 := HCN.out
          exact absurd h0 (by omega)
        rw [if_pos rfl] at hm3
        have hkn : k < N := by
          rcases hNI with ⟨_, _, h, _⟩ | ⟨h, _⟩
          · exact h
          · cases h
        have HTK : Hid (t k = false) := by
          rcases hNI with ⟨_, _, _, h, _⟩ | ⟨h, _⟩
          · exact h
          · cases h
        have HALL : Hid (∀ i, i < k → t i = true) := by
          rcases hNI with ⟨_, _, _, _, h⟩ | ⟨h, _⟩
          · exact fun i hi => h i (Nat.zero_le _) hi
          · cases h
        clear hNI
        have hown3 := row_kept hown hg3 HGB.out
        have hc3 := (hown3.cellAt k (by omega)).trans (BL_at N t hkn)
        rw [HTK.out] at hc3
        have hf3 := hown3.frozenAt k
        have hb3 := below_of hbel hg3 hbel.size (fun k hk => by cases hk; exact HB.out)
        have hT3 := hTr.grown hg3 HB0.out
        have hd6 : decide (N ≤ k) = false := by simpa using hkn
        have hcast : (left : Int) - 1 = ((left - 1 : Nat) : Int) := by omega
        have HCN3 : Hid (cn + 1 = cnt (put t k true) N) := by show _ = _; rw [cnt_more hkn HTK.out, ← HCN.out]
        clear hm hown hbel hTr hg3
        go_wp2_with fail
        go_loop [21] (fun a => ∃ j : Nat, j ≤ k ∧ a = .int .i64 (j : Int)) (fun a => k - (intOf a).toNat)
        case atStart => exact ⟨0, by omega, rfl⟩
        case round =>
          obtain ⟨j, hj, rfl⟩ := hrel
          by_cases hlt : j < k
          · have hcj := (hown3.cellAt j (by omega)).trans (BL_at N t (by omega : j < N))
            rw [HALL.out j hlt] at hcj
            go_wp2_with fail
            go_round
            case rel => exact ⟨j + 1, by omega, by go_num⟩
            case measure => simp [intOf]; omega
          · have hown4 := (hown3.stored k (.bool true)).1
            rw [BL_set] at hown4
            have hm4 := hm3.far (p := ⟨g, k, none⟩) (fun h => HGB.out h.symm) (.bool true)
            have hb4 := hb3.setCell (p := ⟨g, k, none⟩) HG.out (.bool true)
            have hT4 : Tab (w3.setCell ⟨g, k, none⟩ (.bool true)) := hT3.below ((Below.refl 1 w3).setCell (p := ⟨g, k, none⟩) HG1.out (.bool true)) (Nat.one_pos)
            go_wp2_with fail
            go_roundw
            case rel => exact ⟨put t k true, cn + 1, left - 1, by omega, rfl, HCN3, hm4, hown4, hb4, hT4⟩
            case measure => simp [intOf]; omega
      · have hl0 : left = 0 := by omega
        have HF : Hid (cnt t N = N) := by show _ = _; rw [← HCN.out]; omega
        subst hl0
        clear hsum HCN
        go_wp2_with fail
        refine (take_any hm hTr).mono ?_
        rintro e w3 ⟨k, ok, rfl, hNI, hm3, hg3⟩
        obtain ⟨rfl, rfl⟩ := next_full hNI HF.out
        have hm5 : MapAt w3 b N t := hm3
        have hb3 := below_of hbel hg3 hbel.size (fun k hk => by cases hk; exact HB.out)
        have hT3 := hTr.grown hg3 HB0.out
        clear hm hown hbel hTr hg3 hm3 hNI
        go_wp2_with fail
        refine (next_any 0 hm5 hT3).mono ?_
        rintro e w4 ⟨⟨k, ok, rfl, hNI⟩, rfl⟩
        obtain ⟨rfl, rfl⟩ := next_full hNI HF.out
        clear hNI
        go_wp2_with fail
        refine (count_any hm5).mono ?_
        rintro e w4 ⟨rfl, rfl⟩
        rw [HF.out]
        go_wp2_with fail
        refine (has_above N hm5 (Nat.le_refl N)).mono ?_
        rintro e w4 ⟨rfl, q, rfl⟩
        go_wp2_with fail
        refine (has_below (-1) (by decide)).mono ?_
        rintro e w4 ⟨rfl, q2, rfl⟩
        go_wp2_with fail
        go_ret
        exact ⟨rfl, below_drewN hb3 _⟩

/-! The row's frame, by program: how the walk above proves the statement. -/
set_option maxRecDepth 100000 in
theorem lifted (os : Os) (started : os.Started) (H : Type) (enc : TypeId × Value → H) :
    ReturnsInHanded {} Tryd.checked os 5 .any (fun w args => (Rows.bitsTakesSpec.pre enc Tryd.prog Tryd.f5 Rows.bitsTakesRow.domain false w args ∧ laidMetH Tryd.prog tabL w) ∧ sizedMet enc Tryd.prog Tryd.f5 (OpenSpec.ofChange Rows.bitsTakesSpec) false w args) (Rows.bitsTakesSpec.post enc Tryd.prog Tryd.f5 false true false false) := by
  refine returnsInHanded_of_change_and (C := Tryd.checked) (X := fun w _ => laidMetH Tryd.prog tabL w) (fun _ _ _ hh h => h.of_heap hh) own started (by kernel_rfl) Tryd.func5
    (ChangeSpec.witness_shaped (enc := enc) (C := Tryd.checked) (os := os) (X := fun w _ => laidMetH Tryd.prog tabL w) false (World.doorLaid Tryd.prog 400 os) #[.int .i64 0, .slice none 0 0, .slice none 0 0] 8 rfl (World.shaped_of_RefB (by kernel_rfl) (by kernel_rfl)) (by kernel_rfl) (by kernel_rfl) (by kernel_rfl) (door_met os _)) ?_
  intro W base args ds gs before hval0 hW _ _ hL _
  have hval : ∀ (j : Nat) t v, Tryd.f5.params[j]? = some t → args[j]? = some v → Value.okWide Tryd.prog W .any base t v := hval0
  have hW' := hW
  obtain ⟨p, q, hA0, hV, rfl, hfz, hnd⟩ := hW
  have hA : DataW.TrodAll enc Tryd.prog W 0 (fun _ => true) true Tryd.f5.params.toList args.toList ds p := hA0
  rw [Tryd.params5] at hA hval
  obtain ⟨v0, vs0, d0, ds0, p0, q0, hargs, rfl, rfl, h0, r0⟩ := trodAll_cons hA
  obtain ⟨v1, vs1, d1, ds1, p1, q1, rfl, rfl, rfl, h1, r1⟩ := trodAll_cons r0
  obtain ⟨v2, vs2, d2, ds2, p2, q2, rfl, rfl, rfl, h2, r2⟩ := trodAll_cons r1
  obtain ⟨rfl, rfl, rfl⟩ := trodAll_nil r2
  obtain rfl : args = #[v0, v1, v2] := by cases args; simp_all
  obtain ⟨rfl, rfl⟩ := trodVars_none hV
  obtain ⟨a0, rfl, rfl, rfl, w0⟩ := open_int Tryd.underlying3 (hval 0 3 v0 rfl rfl) h0
  have b0 := bounds_i64 w0
  obtain ⟨A1, n1, c1, rfl⟩ := okWide_slice Tryd.underlying46 (hval 1 46 v1 rfl rfl)
  have k1 := h1
  have lt1 : ∀ x ∈ p1, x.block < W.heap.size := by obtain ⟨m, hm⟩ := k1; exact DataW.trod_lt m _ _ _ hm
  obtain ⟨l1, x1, y1, g1, z1⟩ := arg_ints h1
  obtain ⟨A2, n2, c2, rfl⟩ := okWide_slice Tryd.underlying46 (hval 2 46 v2 rfl rfl)
  have k2 := h2
  have lt2 : ∀ x ∈ p2, x.block < W.heap.size := by obtain ⟨m, hm⟩ := k2; exact DataW.trod_lt m _ _ _ hm
  obtain ⟨l2, x2, y2, g2, z2⟩ := arg_ints h2
  clear hA0 hval0
  refine (walk a0 A1 n1 c1 l1 A2 n2 c2 l2 W (of_laid hL) b0.1 b0.2 x1 y1 g1 z1 x2 y2 g2 z2).mono fun e W' ⟨he, bel⟩ => ?_
  subst he
  exact ⟨_, rfl, _, _, _, [], _, [], hW', trodAll_mk1 (shut_bool Tryd.underlying4 _), (trodAll_cons_mk (shut_int Tryd.underlying3 w0) (trodAll_cons_mk (Below.trod laidOut (by kernel_rfl) (of_decide_eq_true (by kernel_rfl)) k1 bel lt1) (trodAll_cons_mk (Below.trod laidOut (by kernel_rfl) (of_decide_eq_true (by kernel_rfl)) k2 bel lt2) trodAll_mk0))), rfl, bel.frame _, fun h => by cases h⟩

theorem over : Rows.bitsTakesRow.holds Tryd.pinned (OpenSpec.ofChange Rows.bitsTakesSpec) :=
  OpenClaim.holds_of_wide 5 Tryd.f5 rfl rfl rfl rfl rfl rfl rfl ⟨rfl, rfl, rfl, rfl, rfl⟩ rfl rfl rfl rfl rfl (by kernel_rfl) Tryd.func5 (by kernel_rfl)
    (of_decide_eq_true (by kernel_rfl)) (by unfold Func.isWrapper; first | (rw [if_pos (by decide +kernel)]; kernel_rfl) | (rw [if_neg (by decide +kernel)]; exact ⟨rfl, rfl⟩))
    (fun os started H enc _ => lifted os started H enc)

/-- The statement: the tied card. -/
theorem proved : Rows.BitsTakesCardSaid :=
  Claim7.holds_tied_plain_at .later [] [.data] true Rows.bitsTakesCard.stood.harness Rows.bitsTakesCard.stood.looks
    over (fun _ h => by cases h) (by kernel_rfl) (fun _ h => by cases h) bitsTakes_row_tie rfl ⟨rfl, rfl⟩ (by kernel_rfl) rfl
    (fun f fn hf hfn => by
      obtain rfl : f = 5 := Option.some.inj ((show Tryd.prog.funcNamed "braidwork/braidworklaw02.BitsTakes" = some 5 by kernel_rfl).symm.trans hf) |>.symm
      obtain rfl : fn = Tryd.f5 := (Option.some.inj (Tryd.func5.symm.trans hfn)).symm
      exact ⟨by kernel_rfl, fun j t ht => by
        rw [Tryd.params5] at ht
        have hm : t ∈ [3, 46, 46] := by simpa using Array.mem_of_getElem? ht
        have hall : ([3, 46, 46].all fun u => !Tryd.prog.wantsStandIn u) = true := by kernel_rfl
        exact (show Tryd.prog.wantsStandIn t = false by simpa using List.all_eq_true.1 hall t hm)⟩)
    (by kernel_rfl)
#print axioms proved
end Go.Proofs.YtpakipacclmimaaDoor.BitsTakes
