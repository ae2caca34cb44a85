/- MetalogDead holds: records are taken as long as one member lives, which tells them all; when none does Append is ErrFailed, then ErrState, and Scan ErrFailed; no condition. -/
import Derived.Test.YtmjdndhpnckeeaaMetL
import Derived.Test.YtmjdndhpnckeeaaArgI
import Derived.StillTailTactics
import Derived.Test.YtmjdndhpnckeeaaMjK
import Derived.Test.YtmjdndhpnckeeaaRows
namespace Go.Proofs.Ytmjdndhpnckeeaa
open Go.ChangeShapes Go.WideShapes Go.ChangeAt Go.RowKit
set_option linter.unusedVariables false

set_option maxRecDepth 100000 in
set_option maxHeartbeats 8000000 in
theorem metalogDead_walk (K : LogK) (A : Option Addr) (nl c : Nat) (f : Nat → BsV) (a cc : Int) (w : World) (hx : RowsIn w w.heap.size A nl c f) :
    Calls Try.prog 7 #[.slice A nl c, .int .i64 a, .int .i64 cc] w fun e w' => e = .returned (.bool true) ∧ Below w.heap.size w w' := by
  have HX := hide hx
  have hnc := hx.le
  have hc63 := hx.lt
  clear hx
  obtain ⟨N1, hN1, hN18⟩ := mask7 a
  obtain ⟨N2, hN2, hN28⟩ := mask7 cc
  go_enter Try.func7, Try.ntmps7
  go_wp2_with (first
    | (go_at_call 13; refine (shown9_any K w).mono ?_; rintro _ w1 ⟨rfl, hl1⟩)
    | (go_at_call 14; refine (disks_any w1 3 (by decide)).mono ?_; rintro _ w2 ⟨⟨b, F, rfl, hB2, hlo2⟩, hl2⟩))
  have hs1 := hl1.size
  have HL2 := hide (hl1.trans (hl2.mono hs1))
  have HB2 := hide hB2
  have HLO : Hid (∀ x, F x → w.heap.size ≤ x) := hide fun x hx => Nat.le_trans hs1 (hlo2 x hx)
  clear hB2 hlo2 hl1 hl2
  have hN := newRow w2 (I64 [0, 1, 2]) 3 (0, 0)
  have hbk : Blk (w2.alloc (.cells (I64 [0, 1, 2]).toArray 3 (0, 0))) w2.heap.size 3 (I64 [0, 1, 2]).toArray := Blk.new _ _ _
  go_wp2_with fail
  show Calls _ _ _ (w2.alloc (.cells (I64 [0, 1, 2]).toArray 3 (0, 0))) _
  generalize w2.alloc (.cells (I64 [0, 1, 2]).toArray 3 (0, 0)) = w3 at hN hbk ⊢
  obtain ⟨hl3, hz3, hr3⟩ := hN
  rw [← hz3] at hr3
  have hw2 := HL2.out.size
  have hF2 : ¬ F w2.heap.size := fun h => by have := HB2.out.1 _ h; omega
  refine (fresh_any K 3 [0, 1, 2] 2 w2.heap.size 3 3 (HB2.out.later hl3) HLO.out (HL2.out.trans (hl3.mono hw2)) hr3 (by omega) (by omega) (by omega) hF2 (by decide) (by decide) (by decide) (by decide)).mono ?_
  rintro _ w4 ⟨p, G, rfl, hM4, hp4, hG4, hl4⟩
  have HM4 := hide hM4
  have hF2p : w2.heap.size ≠ p := by omega
  have HK4 := hide (hbk.below hl4 hbk.lt)
  have HF2 := hide hF2
  clear hr3 hl3 hM4 hG4 hl4 hp4 HB2 HL2 HLO hbk hF2
  go_wp2_with fail
  go_loopw [11, 12] (fun s11 s12 wr => ∃ (i : Nat) (S : Bank) (V : LogV) (R : List (List UInt8)), s11 = .int .i64 (i : Int) ∧ s12 = .int .i64 (i : Int) ∧ i ≤ 8 ∧ i ≤ nl ∧ Hid (MetIs K w F G b p noughts wr S V R (i * 240)) ∧ Hid (V.live = [0, 1, 2] ∧ V.gen = 2 ∧ S.armed = 0 ∧ S.dead 2 = false ∧ S.n = 3 ∧ R.length = i ∧ usedL R ≤ i * 4) ∧ Hid (Blk wr w2.heap.size 3 (I64 [0, 1, 2]).toArray)) (fun _ s12 _ => nl - (intOf s12).toNat)
  case atStart => exact ⟨0, _, _, [], rfl, rfl, by decide, Nat.zero_le _, HM4, hide ⟨rfl, rfl, (Disks_std 3).2.2, Disks_live 3 2, rfl, rfl, by decide⟩, HK4⟩
  case round =>
    obtain ⟨i, S, V, R, rfl, rfl, hi8, hin, hM, hI, hK⟩ := hrel
    obtain ⟨wo, rfl⟩ : ∃ wo, wo = wr := ⟨_, rfl⟩
    by_cases hlt : i < nl ∧ i < 8
    · have hg1 : (i : Int) < (nl : Int) := by omega
      have hg2 : (i : Int) < 8 := by omega
      obtain ⟨ad, rfl, hadb, hcells⟩ := HX.out.row (by omega)
      have HC := hide (hcells i hlt.1)
      clear hcells
      generalize f i = y at HC
      obtain ⟨yA, yn, yc, yl⟩ := y
      have hyr : Reads w w.heap.size 1 yA yn (B8 yl) := HC.out.2.reads
      have hyl : yl.length = yn := by have := hyr.1; rw [B8_length] at this; omega
      have HYR := hide hyr
      clear hyr
      have hyc : yn ≤ yc := HC.out.2.le
      have hyc2 : yc ≤ 9223372036854775807 := HC.out.2.lt
      obtain ⟨m, hm⟩ : ∃ m, m = min yn 200 := ⟨_, rfl⟩
      have HMM := hide hm
      clear hm
      by_cases hm1 : i = N1
      · subst hm1
        by_cases hm2 : i = N2
        · subst hm2
          go_wp2_with fail
          refine (hM.out.fail 0).mono ?_
          rintro _ wa ⟨⟨vwa, rfl⟩, hMwa, hTwa⟩
          have Hwa := hide hMwa
          have HTwa := hide hTwa
          clear hMwa hTwa
          have HKwa : Hid (Blk wa w2.heap.size 3 (I64 [0, 1, 2]).toArray) := hide (hK.out.beside HTwa.out HF2.out hF2p)
          have HIwa : Hid (V.live = [0, 1, 2] ∧ V.gen = 2 ∧ (S.fail_ 0).armed = 0 ∧ (S.fail_ 0).dead 2 = false ∧ (S.fail_ 0).n = 3 ∧ R.length = i ∧ usedL R ≤ i * 4) := by
            obtain ⟨j1, j2, _, j4, _⟩ := fail_is S 0
            obtain ⟨i1, i2, i3, i4, i5, i6, i7⟩ := hI.out
            exact hide ⟨i1, i2, j1.trans i3, (j4 2 (by decide)).trans i4, j2.trans i5, i6, i7⟩
          clear HTwa
          go_wp2_with fail
          refine (Hwa.out.fail 1).mono ?_
          rintro _ wb ⟨⟨vwb, rfl⟩, hMwb, hTwb⟩
          have Hwb := hide hMwb
          have HTwb := hide hTwb
          clear hMwb hTwb
          have HKwb : Hid (Blk wb w2.heap.size 3 (I64 [0, 1, 2]).toArray) := hide (HKwa.out.beside HTwb.out HF2.out hF2p)
          have HIwb : Hid (V.live = [0, 1, 2] ∧ V.gen = 2 ∧ ((S.fail_ 0).fail_ 1).armed = 0 ∧ ((S.fail_ 0).fail_ 1).dead 2 = false ∧ ((S.fail_ 0).fail_ 1).n = 3 ∧ R.length = i ∧ usedL R ≤ i * 4) := by
            obtain ⟨j1, j2, _, j4, _⟩ := fail_is (S.fail_ 0) 1
            obtain ⟨i1, i2, i3, i4, i5, i6, i7⟩ := HIwa.out
            exact hide ⟨i1, i2, j1.trans i3, (j4 2 (by decide)).trans i4, j2.trans i5, i6, i7⟩
          clear HTwb
          clear Hwa HKwa HIwa
          have HM5 := Hwb
          have HI5 := HIwb
          have HK5 := HKwb
          clear Hwb HIwb HKwb
          generalize ((S.fail_ 0).fail_ 1) = S5 at HM5 HI5
          obtain ⟨w5, rfl⟩ : ∃ w5, w5 = wb := ⟨_, rfl⟩
          go_wp2_with fail
          have hm := HMM.out
          have hc5 : w5.cell? (ad.add i) = some (.slice yA yn yc) := (HM5.out.low.cell (p := ad.add i) (by rw [block_of_add]; exact hadb)).trans HC.out.1
          obtain ⟨i1, i2, i3, i4, i5, i6, i7⟩ := HI5.out
          have hp4 := parts_200 (n := (yl.take m).length) (by rw [List.length_take]; omega)
          have HAP := hide fun (w6 : World) (hb : Below w5.heap.size w5 w6) => (HM5.out.later hb).took i3 (d := 2) (by rw [i1]; decide) i4 yA m yc (yl.take m) (by
            have h := ((HYR.out.head (k := m) (by omega)).below (HM5.out.low.trans (hb.mono HM5.out.low.size))).more (Nat.le_trans HM5.out.low.size hb.size)
            rwa [Nat.mul_one, B8_take] at h) (by omega) hyc2 (by omega) (by rw [List.length_take]; omega) (by omega)
          clear i1 i2 i3 i4 i5 i6 i7
          by_cases hmn : yn ≤ 200
          · have hme : yn = m := by omega
            subst hme
            have hmv : min (yn : Int) 200 = (yn : Int) := by omega
            clear hm
            go_still_tail 12, (by kernel_rfl)
            change wpList _ _ _ _ _ w5.drew
            have hbd : Below w5.heap.size w5 w5.drew := (Below.refl _ _).drew
            generalize w5.drew = w6 at hbd ⊢
            clear hc5
            go_wp2_with fail
            refine (HAP.out w6 hbd).mono ?_
            rintro _ w7 ⟨rfl, ⟨S7, V7, hM7, g1, g2, g3, g4⟩, hT7⟩
            have HK7 : Hid (Blk w7 w2.heap.size 3 (I64 [0, 1, 2]).toArray) := hide ((HK5.out.below hbd HK5.out.lt).beside hT7 HF2.out hF2p)
            have HM7 : Hid (MetIs K w F G b p noughts w7 S7 V7 (R ++ [yl.take yn]) ((i + 1) * 240)) := hide (by rw [Nat.succ_mul]; exact hM7)
            have HI7 : Hid (V7.live = [0, 1, 2] ∧ V7.gen = 2 ∧ S7.armed = 0 ∧ S7.dead 2 = false ∧ S7.n = 3 ∧ (R ++ [yl.take yn]).length = i + 1 ∧ usedL (R ++ [yl.take yn]) ≤ (i + 1) * 4) := hide ⟨by rw [g1]; exact HI5.out.1, by rw [g2]; exact HI5.out.2.1, g4, by rw [g3.dead]; exact HI5.out.2.2.2.1, by rw [g3.n]; exact HI5.out.2.2.2.2.1, by rw [List.length_append, HI5.out.2.2.2.2.2.1]; rfl, by rw [usedL_append, usedL_cons, usedL_nil]; have := HI5.out.2.2.2.2.2.2; omega⟩
            clear hM7 g1 g2 g3 g4 hT7 hbd HAP
            go_wp2_with fail
            go_roundw
            case rel => exact ⟨i + 1, S7, V7, _, by simp, by simp, by omega, by omega, HM7, HI7, HK7⟩
            case measure => simp [intOf]; omega
          · have hme : 200 = m := by omega
            subst hme
            have h200 : 200 ≤ yc := by omega
            have h2w : (200 : Int) ≤ (yc : Int) := by omega
            have hmv : min (yn : Int) 200 = 200 := by omega
            clear hm
            go_still_tail 12, (by kernel_rfl)
            change wpList _ _ _ _ _ w5.drew
            have hbd : Below w5.heap.size w5 w5.drew := (Below.refl _ _).drew
            generalize w5.drew = w6 at hbd ⊢
            clear hc5
            go_wp2_with fail
            refine (HAP.out w6 hbd).mono ?_
            rintro _ w7 ⟨rfl, ⟨S7, V7, hM7, g1, g2, g3, g4⟩, hT7⟩
            have HK7 : Hid (Blk w7 w2.heap.size 3 (I64 [0, 1, 2]).toArray) := hide ((HK5.out.below hbd HK5.out.lt).beside hT7 HF2.out hF2p)
            have HM7 : Hid (MetIs K w F G b p noughts w7 S7 V7 (R ++ [yl.take 200]) ((i + 1) * 240)) := hide (by rw [Nat.succ_mul]; exact hM7)
            have HI7 : Hid (V7.live = [0, 1, 2] ∧ V7.gen = 2 ∧ S7.armed = 0 ∧ S7.dead 2 = false ∧ S7.n = 3 ∧ (R ++ [yl.take 200]).length = i + 1 ∧ usedL (R ++ [yl.take 200]) ≤ (i + 1) * 4) := hide ⟨by rw [g1]; exact HI5.out.1, by rw [g2]; exact HI5.out.2.1, g4, by rw [g3.dead]; exact HI5.out.2.2.2.1, by rw [g3.n]; exact HI5.out.2.2.2.2.1, by rw [List.length_append, HI5.out.2.2.2.2.2.1]; rfl, by rw [usedL_append, usedL_cons, usedL_nil]; have := HI5.out.2.2.2.2.2.2; omega⟩
            clear hM7 g1 g2 g3 g4 hT7 hbd HAP
            go_wp2_with fail
            go_roundw
            case rel => exact ⟨i + 1, S7, V7, _, by simp, by simp, by omega, by omega, HM7, HI7, HK7⟩
            case measure => simp [intOf]; omega
        · have hne2 : ¬ ((i : Int) = (N2 : Int)) := by omega
          go_wp2_with fail
          refine (hM.out.fail 0).mono ?_
          rintro _ wa ⟨⟨vwa, rfl⟩, hMwa, hTwa⟩
          have Hwa := hide hMwa
          have HTwa := hide hTwa
          clear hMwa hTwa
          have HKwa : Hid (Blk wa w2.heap.size 3 (I64 [0, 1, 2]).toArray) := hide (hK.out.beside HTwa.out HF2.out hF2p)
          have HIwa : Hid (V.live = [0, 1, 2] ∧ V.gen = 2 ∧ (S.fail_ 0).armed = 0 ∧ (S.fail_ 0).dead 2 = false ∧ (S.fail_ 0).n = 3 ∧ R.length = i ∧ usedL R ≤ i * 4) := by
            obtain ⟨j1, j2, _, j4, _⟩ := fail_is S 0
            obtain ⟨i1, i2, i3, i4, i5, i6, i7⟩ := hI.out
            exact hide ⟨i1, i2, j1.trans i3, (j4 2 (by decide)).trans i4, j2.trans i5, i6, i7⟩
          clear HTwa
          have HM5 := Hwa
          have HI5 := HIwa
          have HK5 := HKwa
          clear Hwa HIwa HKwa
          generalize (S.fail_ 0) = S5 at HM5 HI5
          obtain ⟨w5, rfl⟩ : ∃ w5, w5 = wa := ⟨_, rfl⟩
          go_wp2_with fail
          have hm := HMM.out
          have hc5 : w5.cell? (ad.add i) = some (.slice yA yn yc) := (HM5.out.low.cell (p := ad.add i) (by rw [block_of_add]; exact hadb)).trans HC.out.1
          obtain ⟨i1, i2, i3, i4, i5, i6, i7⟩ := HI5.out
          have hp4 := parts_200 (n := (yl.take m).length) (by rw [List.length_take]; omega)
          have HAP := hide fun (w6 : World) (hb : Below w5.heap.size w5 w6) => (HM5.out.later hb).took i3 (d := 2) (by rw [i1]; decide) i4 yA m yc (yl.take m) (by
            have h := ((HYR.out.head (k := m) (by omega)).below (HM5.out.low.trans (hb.mono HM5.out.low.size))).more (Nat.le_trans HM5.out.low.size hb.size)
            rwa [Nat.mul_one, B8_take] at h) (by omega) hyc2 (by omega) (by rw [List.length_take]; omega) (by omega)
          clear i1 i2 i3 i4 i5 i6 i7
          by_cases hmn : yn ≤ 200
          · have hme : yn = m := by omega
            subst hme
            have hmv : min (yn : Int) 200 = (yn : Int) := by omega
            clear hm
            go_still_tail 12, (by kernel_rfl)
            change wpList _ _ _ _ _ w5.drew
            have hbd : Below w5.heap.size w5 w5.drew := (Below.refl _ _).drew
            generalize w5.drew = w6 at hbd ⊢
            clear hc5
            go_wp2_with fail
            refine (HAP.out w6 hbd).mono ?_
            rintro _ w7 ⟨rfl, ⟨S7, V7, hM7, g1, g2, g3, g4⟩, hT7⟩
            have HK7 : Hid (Blk w7 w2.heap.size 3 (I64 [0, 1, 2]).toArray) := hide ((HK5.out.below hbd HK5.out.lt).beside hT7 HF2.out hF2p)
            have HM7 : Hid (MetIs K w F G b p noughts w7 S7 V7 (R ++ [yl.take yn]) ((i + 1) * 240)) := hide (by rw [Nat.succ_mul]; exact hM7)
            have HI7 : Hid (V7.live = [0, 1, 2] ∧ V7.gen = 2 ∧ S7.armed = 0 ∧ S7.dead 2 = false ∧ S7.n = 3 ∧ (R ++ [yl.take yn]).length = i + 1 ∧ usedL (R ++ [yl.take yn]) ≤ (i + 1) * 4) := hide ⟨by rw [g1]; exact HI5.out.1, by rw [g2]; exact HI5.out.2.1, g4, by rw [g3.dead]; exact HI5.out.2.2.2.1, by rw [g3.n]; exact HI5.out.2.2.2.2.1, by rw [List.length_append, HI5.out.2.2.2.2.2.1]; rfl, by rw [usedL_append, usedL_cons, usedL_nil]; have := HI5.out.2.2.2.2.2.2; omega⟩
            clear hM7 g1 g2 g3 g4 hT7 hbd HAP
            go_wp2_with fail
            go_roundw
            case rel => exact ⟨i + 1, S7, V7, _, by simp, by simp, by omega, by omega, HM7, HI7, HK7⟩
            case measure => simp [intOf]; omega
          · have hme : 200 = m := by omega
            subst hme
            have h200 : 200 ≤ yc := by omega
            have h2w : (200 : Int) ≤ (yc : Int) := by omega
            have hmv : min (yn : Int) 200 = 200 := by omega
            clear hm
            go_still_tail 12, (by kernel_rfl)
            change wpList _ _ _ _ _ w5.drew
            have hbd : Below w5.heap.size w5 w5.drew := (Below.refl _ _).drew
            generalize w5.drew = w6 at hbd ⊢
            clear hc5
            go_wp2_with fail
            refine (HAP.out w6 hbd).mono ?_
            rintro _ w7 ⟨rfl, ⟨S7, V7, hM7, g1, g2, g3, g4⟩, hT7⟩
            have HK7 : Hid (Blk w7 w2.heap.size 3 (I64 [0, 1, 2]).toArray) := hide ((HK5.out.below hbd HK5.out.lt).beside hT7 HF2.out hF2p)
            have HM7 : Hid (MetIs K w F G b p noughts w7 S7 V7 (R ++ [yl.take 200]) ((i + 1) * 240)) := hide (by rw [Nat.succ_mul]; exact hM7)
            have HI7 : Hid (V7.live = [0, 1, 2] ∧ V7.gen = 2 ∧ S7.armed = 0 ∧ S7.dead 2 = false ∧ S7.n = 3 ∧ (R ++ [yl.take 200]).length = i + 1 ∧ usedL (R ++ [yl.take 200]) ≤ (i + 1) * 4) := hide ⟨by rw [g1]; exact HI5.out.1, by rw [g2]; exact HI5.out.2.1, g4, by rw [g3.dead]; exact HI5.out.2.2.2.1, by rw [g3.n]; exact HI5.out.2.2.2.2.1, by rw [List.length_append, HI5.out.2.2.2.2.2.1]; rfl, by rw [usedL_append, usedL_cons, usedL_nil]; have := HI5.out.2.2.2.2.2.2; omega⟩
            clear hM7 g1 g2 g3 g4 hT7 hbd HAP
            go_wp2_with fail
            go_roundw
            case rel => exact ⟨i + 1, S7, V7, _, by simp, by simp, by omega, by omega, HM7, HI7, HK7⟩
            case measure => simp [intOf]; omega
      · have hne1 : ¬ ((i : Int) = (N1 : Int)) := by omega
        by_cases hm2 : i = N2
        · subst hm2
          go_wp2_with fail
          refine (hM.out.fail 1).mono ?_
          rintro _ wa ⟨⟨vwa, rfl⟩, hMwa, hTwa⟩
          have Hwa := hide hMwa
          have HTwa := hide hTwa
          clear hMwa hTwa
          have HKwa : Hid (Blk wa w2.heap.size 3 (I64 [0, 1, 2]).toArray) := hide (hK.out.beside HTwa.out HF2.out hF2p)
          have HIwa : Hid (V.live = [0, 1, 2] ∧ V.gen = 2 ∧ (S.fail_ 1).armed = 0 ∧ (S.fail_ 1).dead 2 = false ∧ (S.fail_ 1).n = 3 ∧ R.length = i ∧ usedL R ≤ i * 4) := by
            obtain ⟨j1, j2, _, j4, _⟩ := fail_is S 1
            obtain ⟨i1, i2, i3, i4, i5, i6, i7⟩ := hI.out
            exact hide ⟨i1, i2, j1.trans i3, (j4 2 (by decide)).trans i4, j2.trans i5, i6, i7⟩
          clear HTwa
          have HM5 := Hwa
          have HI5 := HIwa
          have HK5 := HKwa
          clear Hwa HIwa HKwa
          generalize (S.fail_ 1) = S5 at HM5 HI5
          obtain ⟨w5, rfl⟩ : ∃ w5, w5 = wa := ⟨_, rfl⟩
          go_wp2_with fail
          have hm := HMM.out
          have hc5 : w5.cell? (ad.add i) = some (.slice yA yn yc) := (HM5.out.low.cell (p := ad.add i) (by rw [block_of_add]; exact hadb)).trans HC.out.1
          obtain ⟨i1, i2, i3, i4, i5, i6, i7⟩ := HI5.out
          have hp4 := parts_200 (n := (yl.take m).length) (by rw [List.length_take]; omega)
          have HAP := hide fun (w6 : World) (hb : Below w5.heap.size w5 w6) => (HM5.out.later hb).took i3 (d := 2) (by rw [i1]; decide) i4 yA m yc (yl.take m) (by
            have h := ((HYR.out.head (k := m) (by omega)).below (HM5.out.low.trans (hb.mono HM5.out.low.size))).more (Nat.le_trans HM5.out.low.size hb.size)
            rwa [Nat.mul_one, B8_take] at h) (by omega) hyc2 (by omega) (by rw [List.length_take]; omega) (by omega)
          clear i1 i2 i3 i4 i5 i6 i7
          by_cases hmn : yn ≤ 200
          · have hme : yn = m := by omega
            subst hme
            have hmv : min (yn : Int) 200 = (yn : Int) := by omega
            clear hm
            go_still_tail 12, (by kernel_rfl)
            change wpList _ _ _ _ _ w5.drew
            have hbd : Below w5.heap.size w5 w5.drew := (Below.refl _ _).drew
            generalize w5.drew = w6 at hbd ⊢
            clear hc5
            go_wp2_with fail
            refine (HAP.out w6 hbd).mono ?_
            rintro _ w7 ⟨rfl, ⟨S7, V7, hM7, g1, g2, g3, g4⟩, hT7⟩
            have HK7 : Hid (Blk w7 w2.heap.size 3 (I64 [0, 1, 2]).toArray) := hide ((HK5.out.below hbd HK5.out.lt).beside hT7 HF2.out hF2p)
            have HM7 : Hid (MetIs K w F G b p noughts w7 S7 V7 (R ++ [yl.take yn]) ((i + 1) * 240)) := hide (by rw [Nat.succ_mul]; exact hM7)
            have HI7 : Hid (V7.live = [0, 1, 2] ∧ V7.gen = 2 ∧ S7.armed = 0 ∧ S7.dead 2 = false ∧ S7.n = 3 ∧ (R ++ [yl.take yn]).length = i + 1 ∧ usedL (R ++ [yl.take yn]) ≤ (i + 1) * 4) := hide ⟨by rw [g1]; exact HI5.out.1, by rw [g2]; exact HI5.out.2.1, g4, by rw [g3.dead]; exact HI5.out.2.2.2.1, by rw [g3.n]; exact HI5.out.2.2.2.2.1, by rw [List.length_append, HI5.out.2.2.2.2.2.1]; rfl, by rw [usedL_append, usedL_cons, usedL_nil]; have := HI5.out.2.2.2.2.2.2; omega⟩
            clear hM7 g1 g2 g3 g4 hT7 hbd HAP
            go_wp2_with fail
            go_roundw
            case rel => exact ⟨i + 1, S7, V7, _, by simp, by simp, by omega, by omega, HM7, HI7, HK7⟩
            case measure => simp [intOf]; omega
          · have hme : 200 = m := by omega
            subst hme
            have h200 : 200 ≤ yc := by omega
            have h2w : (200 : Int) ≤ (yc : Int) := by omega
            have hmv : min (yn : Int) 200 = 200 := by omega
            clear hm
            go_still_tail 12, (by kernel_rfl)
            change wpList _ _ _ _ _ w5.drew
            have hbd : Below w5.heap.size w5 w5.drew := (Below.refl _ _).drew
            generalize w5.drew = w6 at hbd ⊢
            clear hc5
            go_wp2_with fail
            refine (HAP.out w6 hbd).mono ?_
            rintro _ w7 ⟨rfl, ⟨S7, V7, hM7, g1, g2, g3, g4⟩, hT7⟩
            have HK7 : Hid (Blk w7 w2.heap.size 3 (I64 [0, 1, 2]).toArray) := hide ((HK5.out.below hbd HK5.out.lt).beside hT7 HF2.out hF2p)
            have HM7 : Hid (MetIs K w F G b p noughts w7 S7 V7 (R ++ [yl.take 200]) ((i + 1) * 240)) := hide (by rw [Nat.succ_mul]; exact hM7)
            have HI7 : Hid (V7.live = [0, 1, 2] ∧ V7.gen = 2 ∧ S7.armed = 0 ∧ S7.dead 2 = false ∧ S7.n = 3 ∧ (R ++ [yl.take 200]).length = i + 1 ∧ usedL (R ++ [yl.take 200]) ≤ (i + 1) * 4) := hide ⟨by rw [g1]; exact HI5.out.1, by rw [g2]; exact HI5.out.2.1, g4, by rw [g3.dead]; exact HI5.out.2.2.2.1, by rw [g3.n]; exact HI5.out.2.2.2.2.1, by rw [List.length_append, HI5.out.2.2.2.2.2.1]; rfl, by rw [usedL_append, usedL_cons, usedL_nil]; have := HI5.out.2.2.2.2.2.2; omega⟩
            clear hM7 g1 g2 g3 g4 hT7 hbd HAP
            go_wp2_with fail
            go_roundw
            case rel => exact ⟨i + 1, S7, V7, _, by simp, by simp, by omega, by omega, HM7, HI7, HK7⟩
            case measure => simp [intOf]; omega
        · have hne2 : ¬ ((i : Int) = (N2 : Int)) := by omega
          have HM5 := hM
          have HI5 := hI
          have HK5 := hK
          go_wp2_with fail
          obtain ⟨w5, rfl⟩ : ∃ w5, w5 = wo := ⟨_, rfl⟩
          have hm := HMM.out
          have hc5 : w5.cell? (ad.add i) = some (.slice yA yn yc) := (HM5.out.low.cell (p := ad.add i) (by rw [block_of_add]; exact hadb)).trans HC.out.1
          obtain ⟨i1, i2, i3, i4, i5, i6, i7⟩ := HI5.out
          have hp4 := parts_200 (n := (yl.take m).length) (by rw [List.length_take]; omega)
          have HAP := hide fun (w6 : World) (hb : Below w5.heap.size w5 w6) => (HM5.out.later hb).took i3 (d := 2) (by rw [i1]; decide) i4 yA m yc (yl.take m) (by
            have h := ((HYR.out.head (k := m) (by omega)).below (HM5.out.low.trans (hb.mono HM5.out.low.size))).more (Nat.le_trans HM5.out.low.size hb.size)
            rwa [Nat.mul_one, B8_take] at h) (by omega) hyc2 (by omega) (by rw [List.length_take]; omega) (by omega)
          clear i1 i2 i3 i4 i5 i6 i7
          by_cases hmn : yn ≤ 200
          · have hme : yn = m := by omega
            subst hme
            have hmv : min (yn : Int) 200 = (yn : Int) := by omega
            clear hm
            go_still_tail 12, (by kernel_rfl)
            change wpList _ _ _ _ _ w5.drew
            have hbd : Below w5.heap.size w5 w5.drew := (Below.refl _ _).drew
            generalize w5.drew = w6 at hbd ⊢
            clear hc5
            go_wp2_with fail
            refine (HAP.out w6 hbd).mono ?_
            rintro _ w7 ⟨rfl, ⟨S7, V7, hM7, g1, g2, g3, g4⟩, hT7⟩
            have HK7 : Hid (Blk w7 w2.heap.size 3 (I64 [0, 1, 2]).toArray) := hide ((HK5.out.below hbd HK5.out.lt).beside hT7 HF2.out hF2p)
            have HM7 : Hid (MetIs K w F G b p noughts w7 S7 V7 (R ++ [yl.take yn]) ((i + 1) * 240)) := hide (by rw [Nat.succ_mul]; exact hM7)
            have HI7 : Hid (V7.live = [0, 1, 2] ∧ V7.gen = 2 ∧ S7.armed = 0 ∧ S7.dead 2 = false ∧ S7.n = 3 ∧ (R ++ [yl.take yn]).length = i + 1 ∧ usedL (R ++ [yl.take yn]) ≤ (i + 1) * 4) := hide ⟨by rw [g1]; exact HI5.out.1, by rw [g2]; exact HI5.out.2.1, g4, by rw [g3.dead]; exact HI5.out.2.2.2.1, by rw [g3.n]; exact HI5.out.2.2.2.2.1, by rw [List.length_append, HI5.out.2.2.2.2.2.1]; rfl, by rw [usedL_append, usedL_cons, usedL_nil]; have := HI5.out.2.2.2.2.2.2; omega⟩
            clear hM7 g1 g2 g3 g4 hT7 hbd HAP
            go_wp2_with fail
            go_roundw
            case rel => exact ⟨i + 1, S7, V7, _, by simp, by simp, by omega, by omega, HM7, HI7, HK7⟩
            case measure => simp [intOf]; omega
          · have hme : 200 = m := by omega
            subst hme
            have h200 : 200 ≤ yc := by omega
            have h2w : (200 : Int) ≤ (yc : Int) := by omega
            have hmv : min (yn : Int) 200 = 200 := by omega
            clear hm
            go_still_tail 12, (by kernel_rfl)
            change wpList _ _ _ _ _ w5.drew
            have hbd : Below w5.heap.size w5 w5.drew := (Below.refl _ _).drew
            generalize w5.drew = w6 at hbd ⊢
            clear hc5
            go_wp2_with fail
            refine (HAP.out w6 hbd).mono ?_
            rintro _ w7 ⟨rfl, ⟨S7, V7, hM7, g1, g2, g3, g4⟩, hT7⟩
            have HK7 : Hid (Blk w7 w2.heap.size 3 (I64 [0, 1, 2]).toArray) := hide ((HK5.out.below hbd HK5.out.lt).beside hT7 HF2.out hF2p)
            have HM7 : Hid (MetIs K w F G b p noughts w7 S7 V7 (R ++ [yl.take 200]) ((i + 1) * 240)) := hide (by rw [Nat.succ_mul]; exact hM7)
            have HI7 : Hid (V7.live = [0, 1, 2] ∧ V7.gen = 2 ∧ S7.armed = 0 ∧ S7.dead 2 = false ∧ S7.n = 3 ∧ (R ++ [yl.take 200]).length = i + 1 ∧ usedL (R ++ [yl.take 200]) ≤ (i + 1) * 4) := hide ⟨by rw [g1]; exact HI5.out.1, by rw [g2]; exact HI5.out.2.1, g4, by rw [g3.dead]; exact HI5.out.2.2.2.1, by rw [g3.n]; exact HI5.out.2.2.2.2.1, by rw [List.length_append, HI5.out.2.2.2.2.2.1]; rfl, by rw [usedL_append, usedL_cons, usedL_nil]; have := HI5.out.2.2.2.2.2.2; omega⟩
            clear hM7 g1 g2 g3 g4 hT7 hbd HAP
            go_wp2_with fail
            go_roundw
            case rel => exact ⟨i + 1, S7, V7, _, by simp, by simp, by omega, by omega, HM7, HI7, HK7⟩
            case measure => simp [intOf]; omega
    · by_cases hin2 : i < nl
      · obtain rfl : i = 8 := by omega
        have hg1 : (8 : Int) < (nl : Int) := by omega
        go_wp2_with fail
        have HRD := hK.out.readsI (n := 3) rfl
        obtain ⟨i1, i2, i3, i4, i5, i6, i7⟩ := hI.out
        have hsc := hM.out.scan (fun nr j => foreign_noughts _ _ _) (live := [0, 1, 2]) (d := 2) (by rw [i1]; exact fun d h => h) (by decide) i4 (some ⟨w2.heap.size, 0, none⟩) 3 3 HRD (by omega) (by omega) (by omega)
        rw [i2, i6] at hsc
        refine hsc.mono ?_
        rintro _ w6 ⟨B1, k1, f1, rfl, _, _, hl6⟩
        have HM6 := hide (hM.out.later hl6)
        have HK6 := hide (hK.out.below hl6 hK.out.lt)
        have HI6 := hide (show V.live = [0, 1, 2] ∧ V.gen = 2 ∧ usedL R ≤ 32 ∧ R.length ≤ 8 ∧ S.n = 3 ∧ S.armed = 0 from ⟨i1, i2, by omega, by omega, i5, i3⟩)
        clear HRD i1 i2 i3 i4 i5 i6 i7 hsc hl6
        go_wp2_with fail
        go_loopw [16] (fun s16 wr => ∃ (d : Nat) (T : Bank), s16 = .int .i64 (d : Int) ∧ d ≤ 3 ∧ Hid (MetIs K w F G b p noughts wr T V R (8 * 240)) ∧ Hid ((∀ j, j < d → T.dead j = true) ∧ T.n = 3 ∧ T.armed = 0) ∧ Hid (Blk wr w2.heap.size 3 (I64 [0, 1, 2]).toArray)) (fun s16 _ => 3 - (intOf s16).toNat)
        case atStart => exact ⟨0, S, rfl, by decide, HM6, hide ⟨fun j h => absurd h (Nat.not_lt_zero j), HI6.out.2.2.2.2.1, HI6.out.2.2.2.2.2⟩, HK6⟩
        case round =>
          obtain ⟨d, T, rfl, hd3, hM7, hT7, hK7⟩ := hrel
          obtain ⟨w7, rfl⟩ : ∃ w7, w7 = wr := ⟨_, rfl⟩
          by_cases hdl : d < 3
          · have hg3 : (d : Int) < 3 := by omega
            go_wp2_with fail
            refine (hM7.out.fail d).mono ?_
            rintro _ w8 ⟨⟨v8, rfl⟩, hM8, hT8⟩
            have HK8 := hide (hK7.out.beside hT8 HF2.out hF2p)
            have HM8 := hide hM8
            have HT8 : Hid ((∀ j, j < d + 1 → (T.fail_ d).dead j = true) ∧ (T.fail_ d).n = 3 ∧ (T.fail_ d).armed = 0) := by
              obtain ⟨j1, j2, _, _, j5, j6⟩ := fail_is T d
              obtain ⟨t1, t2, t3⟩ := hT7.out
              refine hide ⟨fun j hj => ?_, j2.trans t2, j1.trans t3⟩
              by_cases hjd : j = d
              · subst hjd; exact j5 (by omega)
              · exact j6 j (t1 j (by omega))
            clear hM8 hT8
            go_wp2_with fail
            go_roundw
            case rel => exact ⟨d + 1, T.fail_ d, by simp, by omega, HM8, HT8, HK8⟩
            case measure => simp [intOf]; omega
          · obtain rfl : d = 3 := by omega
            have hdead : ∀ j ∈ V.live, T.dead j = true := by
              rw [HI6.out.1]
              intro j hj
              simp at hj
              exact hT7.out.1 j (by omega)
            have HDD := hide hdead
            clear hdead
            have kc := fun (w : World) (C : Array Value) (n c : Nat) => Lib.run_convert_bytes_const (P := Try.prog) w 32 5 C n c Try.underlying32 Try.underlying5
            go_wp2_with fail
            have hN := newRow w7 (B8 [120]) 5 (1, 2)
            show Calls _ _ _ (w7.alloc (.cells (B8 [120]).toArray 5 (1, 2))) _
            generalize w7.alloc (.cells (B8 [120]).toArray 5 (1, 2)) = w8 at hN ⊢
            obtain ⟨hl8, hz8, hr8⟩ := hN
            rw [← hz8] at hr8
            have hpx : partsN ([120] : List UInt8).length = 1 := by decide
            refine ((hM7.out.later hl8).alone HDD.out hT7.out.2.2 (some ⟨w7.heap.size, 0, none⟩) 1 1 [120] hr8 (by omega) (by omega) (by omega) (by decide) (by rw [hpx]; have := HI6.out.2.2.1; omega)).mono ?_
            rintro _ w9 ⟨rfl, ⟨S9, hB9, hO9, hS9, hA9, hW9⟩, hT9⟩
            have HB9 := hide hB9
            have HO9 := hide hO9
            have HS9 := hide (show Std S9 ∧ Alike T S9 ∧ S9.writes ≤ 1000000 from ⟨hS9, hA9, hW9⟩)
            have HL9 := hide (hM7.out.base.low (hM7.out.later hl8).low hT9)
            have HK9 := hide ((hK7.out.below hl8 hK7.out.lt).beside hT9 HF2.out hF2p)
            clear hB9 hO9 hS9 hA9 hW9 hT9 hr8 hl8
            go_wp2_with fail
            clear kc
            have hN := newRow w9 (B8 [120]) 5 (1, 2)
            show Calls _ _ _ (w9.alloc (.cells (B8 [120]).toArray 5 (1, 2))) _
            generalize w9.alloc (.cells (B8 [120]).toArray 5 (1, 2)) = w10 at hN ⊢
            obtain ⟨hl10, hz10, hr10⟩ := hN
            rw [← hz10] at hr10
            have hfw := hM7.out.ji.few
            have hus := hM7.out.ji.used
            have hat := hM7.out.ji.at_
            have hnu := hM7.out.ji.num
            refine (ended_any K (HB9.out.later hl10) (K.later HO9.out hl10) hM7.out.base.apart (some ⟨w9.heap.size, 0, none⟩) 1 1 [120] hr10 (by omega) (by omega) HS9.out.2.2 hM7.out.short (by omega) (by omega)).mono ?_
            rintro _ w11 ⟨rfl, hB11, hT11⟩
            have HB11 := hide hB11
            have HL11 := hide (hM7.out.base.low (HL9.out.trans (hl10.mono HL9.out.size)) hT11)
            have HK11 := hide ((HK9.out.below hl10 HK9.out.lt).beside hT11 HF2.out hF2p)
            clear hB11 hT11 hr10 hl10 hfw hus hat hnu
            go_wp2_with fail
            have HRD := HK11.out.readsI (n := 3) rfl
            refine (lost_any K HB11.out HS9.out.1.up (live := [0, 1, 2]) (fun d hd => by rw [HS9.out.2.1.dead]; exact HDD.out d (by rw [HI6.out.1]; exact hd)) (fun d hd => by
              rw [HS9.out.2.1.n, HS9.out.2.1.size]
              exact hM7.out.ji.live d (by rw [HI6.out.1]; exact hd)) (some ⟨w2.heap.size, 0, none⟩) 3 3 2 HRD (by omega) (by omega) (by omega)).mono ?_
            rintro _ w12 ⟨B12, k12, rfl, hl12⟩
            have HL12 := hide (HL11.out.trans (hl12.mono HL11.out.size))
            clear HRD hl12
            go_wp2_with fail
            go_ret
            exact ⟨rfl, HL12.out⟩
      · have hg1 : ¬ ((i : Int) < (nl : Int)) := by omega
        go_wp2_with fail
        have HRD := hK.out.readsI (n := 3) rfl
        obtain ⟨i1, i2, i3, i4, i5, i6, i7⟩ := hI.out
        have hsc := hM.out.scan (fun nr j => foreign_noughts _ _ _) (live := [0, 1, 2]) (d := 2) (by rw [i1]; exact fun d h => h) (by decide) i4 (some ⟨w2.heap.size, 0, none⟩) 3 3 HRD (by omega) (by omega) (by omega)
        rw [i2, i6] at hsc
        refine hsc.mono ?_
        rintro _ w6 ⟨B1, k1, f1, rfl, _, _, hl6⟩
        have HM6 := hide (hM.out.later hl6)
        have HK6 := hide (hK.out.below hl6 hK.out.lt)
        have HI6 := hide (show V.live = [0, 1, 2] ∧ V.gen = 2 ∧ usedL R ≤ 32 ∧ R.length ≤ 8 ∧ S.n = 3 ∧ S.armed = 0 from ⟨i1, i2, by omega, by omega, i5, i3⟩)
        clear HRD i1 i2 i3 i4 i5 i6 i7 hsc hl6
        go_wp2_with fail
        go_loopw [16] (fun s16 wr => ∃ (d : Nat) (T : Bank), s16 = .int .i64 (d : Int) ∧ d ≤ 3 ∧ Hid (MetIs K w F G b p noughts wr T V R (i * 240)) ∧ Hid ((∀ j, j < d → T.dead j = true) ∧ T.n = 3 ∧ T.armed = 0) ∧ Hid (Blk wr w2.heap.size 3 (I64 [0, 1, 2]).toArray)) (fun s16 _ => 3 - (intOf s16).toNat)
        case atStart => exact ⟨0, S, rfl, by decide, HM6, hide ⟨fun j h => absurd h (Nat.not_lt_zero j), HI6.out.2.2.2.2.1, HI6.out.2.2.2.2.2⟩, HK6⟩
        case round =>
          obtain ⟨d, T, rfl, hd3, hM7, hT7, hK7⟩ := hrel
          obtain ⟨w7, rfl⟩ : ∃ w7, w7 = wr := ⟨_, rfl⟩
          by_cases hdl : d < 3
          · have hg3 : (d : Int) < 3 := by omega
            go_wp2_with fail
            refine (hM7.out.fail d).mono ?_
            rintro _ w8 ⟨⟨v8, rfl⟩, hM8, hT8⟩
            have HK8 := hide (hK7.out.beside hT8 HF2.out hF2p)
            have HM8 := hide hM8
            have HT8 : Hid ((∀ j, j < d + 1 → (T.fail_ d).dead j = true) ∧ (T.fail_ d).n = 3 ∧ (T.fail_ d).armed = 0) := by
              obtain ⟨j1, j2, _, _, j5, j6⟩ := fail_is T d
              obtain ⟨t1, t2, t3⟩ := hT7.out
              refine hide ⟨fun j hj => ?_, j2.trans t2, j1.trans t3⟩
              by_cases hjd : j = d
              · subst hjd; exact j5 (by omega)
              · exact j6 j (t1 j (by omega))
            clear hM8 hT8
            go_wp2_with fail
            go_roundw
            case rel => exact ⟨d + 1, T.fail_ d, by simp, by omega, HM8, HT8, HK8⟩
            case measure => simp [intOf]; omega
          · obtain rfl : d = 3 := by omega
            have hdead : ∀ j ∈ V.live, T.dead j = true := by
              rw [HI6.out.1]
              intro j hj
              simp at hj
              exact hT7.out.1 j (by omega)
            have HDD := hide hdead
            clear hdead
            have kc := fun (w : World) (C : Array Value) (n c : Nat) => Lib.run_convert_bytes_const (P := Try.prog) w 32 5 C n c Try.underlying32 Try.underlying5
            go_wp2_with fail
            have hN := newRow w7 (B8 [120]) 5 (1, 2)
            show Calls _ _ _ (w7.alloc (.cells (B8 [120]).toArray 5 (1, 2))) _
            generalize w7.alloc (.cells (B8 [120]).toArray 5 (1, 2)) = w8 at hN ⊢
            obtain ⟨hl8, hz8, hr8⟩ := hN
            rw [← hz8] at hr8
            have hpx : partsN ([120] : List UInt8).length = 1 := by decide
            refine ((hM7.out.later hl8).alone HDD.out hT7.out.2.2 (some ⟨w7.heap.size, 0, none⟩) 1 1 [120] hr8 (by omega) (by omega) (by omega) (by decide) (by rw [hpx]; have := HI6.out.2.2.1; omega)).mono ?_
            rintro _ w9 ⟨rfl, ⟨S9, hB9, hO9, hS9, hA9, hW9⟩, hT9⟩
            have HB9 := hide hB9
            have HO9 := hide hO9
            have HS9 := hide (show Std S9 ∧ Alike T S9 ∧ S9.writes ≤ 1000000 from ⟨hS9, hA9, hW9⟩)
            have HL9 := hide (hM7.out.base.low (hM7.out.later hl8).low hT9)
            have HK9 := hide ((hK7.out.below hl8 hK7.out.lt).beside hT9 HF2.out hF2p)
            clear hB9 hO9 hS9 hA9 hW9 hT9 hr8 hl8
            go_wp2_with fail
            clear kc
            have hN := newRow w9 (B8 [120]) 5 (1, 2)
            show Calls _ _ _ (w9.alloc (.cells (B8 [120]).toArray 5 (1, 2))) _
            generalize w9.alloc (.cells (B8 [120]).toArray 5 (1, 2)) = w10 at hN ⊢
            obtain ⟨hl10, hz10, hr10⟩ := hN
            rw [← hz10] at hr10
            have hfw := hM7.out.ji.few
            have hus := hM7.out.ji.used
            have hat := hM7.out.ji.at_
            have hnu := hM7.out.ji.num
            refine (ended_any K (HB9.out.later hl10) (K.later HO9.out hl10) hM7.out.base.apart (some ⟨w9.heap.size, 0, none⟩) 1 1 [120] hr10 (by omega) (by omega) HS9.out.2.2 hM7.out.short (by omega) (by omega)).mono ?_
            rintro _ w11 ⟨rfl, hB11, hT11⟩
            have HB11 := hide hB11
            have HL11 := hide (hM7.out.base.low (HL9.out.trans (hl10.mono HL9.out.size)) hT11)
            have HK11 := hide ((HK9.out.below hl10 HK9.out.lt).beside hT11 HF2.out hF2p)
            clear hB11 hT11 hr10 hl10 hfw hus hat hnu
            go_wp2_with fail
            have HRD := HK11.out.readsI (n := 3) rfl
            refine (lost_any K HB11.out HS9.out.1.up (live := [0, 1, 2]) (fun d hd => by rw [HS9.out.2.1.dead]; exact HDD.out d (by rw [HI6.out.1]; exact hd)) (fun d hd => by
              rw [HS9.out.2.1.n, HS9.out.2.1.size]
              exact hM7.out.ji.live d (by rw [HI6.out.1]; exact hd)) (some ⟨w2.heap.size, 0, none⟩) 3 3 2 HRD (by omega) (by omega) (by omega)).mono ?_
            rintro _ w12 ⟨B12, k12, rfl, hl12⟩
            have HL12 := hide (HL11.out.trans (hl12.mono HL11.out.size))
            clear HRD hl12
            go_wp2_with fail
            go_ret
            exact ⟨rfl, HL12.out⟩
#print axioms metalogDead_walk
namespace MetalogDead
theorem walk (A0 : Option Addr) (n0 c0 : Nat) (l0 : Nat → BsV) (a1 a2 : Int) (w : World) (x0 : RowsIn w w.heap.size A0 n0 c0 l0) (_ : -9223372036854775808 ≤ a1) (_ : a1 ≤ 9223372036854775807) (_ : -9223372036854775808 ≤ a2) (_ : a2 ≤ 9223372036854775807) :
    Calls Try.prog 7 #[.slice A0 n0 c0, .int .i64 a1, .int .i64 a2] w fun e w' => e = .returned (.bool true) ∧ Below w.heap.size w w' :=
  metalogDead_walk logK A0 n0 c0 l0 a1 a2 w x0
/-! The row's frame, by program: how the walk above proves the statement. -/
set_option maxRecDepth 100000 in
theorem lifted (os : Os) (started : os.Started) (H : Type) (enc : TypeId × Value → H) :
    ReturnsInHanded {} Try.checked os 7 .any (Rows.metalogDeadSpec.pre6 enc Try.prog Try.f7 Rows.metalogDeadRow.domain false) (Rows.metalogDeadSpec.post enc Try.prog Try.f7 false true false false) := by
  refine returnsInHanded_of_change (C := Try.checked) own started (by kernel_rfl) Try.func7
    (ChangeSpec.witness6 (enc := enc) (C := Try.checked) false ⟨#[], #[.slice none 0 0, .int .i64 0, .int .i64 0], []⟩ 8 (by kernel_rfl) (by kernel_rfl) (by kernel_rfl) (by kernel_rfl)) ?_
  intro W base args ds gs before hval0 hW hcnd _
  have hval : ∀ (j : Nat) t v, Try.f7.params[j]? = some t → args[j]? = some v → Value.okWide Try.prog W .any base t v := hval0
  have hW' := hW
  obtain ⟨p, q, hA0, hV, rfl, hfz, hnd⟩ := hW
  have hA : DataW.TrodAll enc Try.prog W 0 (fun _ => true) true Try.f7.params.toList args.toList ds p := hA0
  rw [Try.params7] at hA hval
  obtain ⟨v0, vs0, d0, ds0, p0, q0, hargs, rfl, rfl, h0, r0⟩ := trodAll_cons hA
  obtain ⟨v1, vs1, d1, ds1, p1, q1, rfl, rfl, rfl, h1, r1⟩ := trodAll_cons r0
  obtain ⟨v2, vs2, d2, ds2, p2, q2, rfl, rfl, rfl, h2, r2⟩ := trodAll_cons r1
  obtain ⟨rfl, rfl, rfl⟩ := trodAll_nil r2
  obtain rfl : args = #[v0, v1, v2] := by cases args; simp_all
  obtain ⟨rfl, rfl⟩ := trodVars_none hV
  obtain ⟨A0, n0, c0, rfl⟩ := okWide_slice Try.underlying22 (hval 0 22 v0 rfl rfl)
  have k0 := h0
  have lt0 : ∀ x ∈ p0, x.block < W.heap.size := by obtain ⟨m, hm⟩ := k0; exact DataW.trod_lt m _ _ _ hm
  obtain ⟨l0, x0⟩ := arg_rows h0
  obtain ⟨a1, rfl, rfl, rfl, w1⟩ := open_int Try.underlying3 (hval 1 3 v1 rfl rfl) h1
  have b1 := bounds_i64 w1
  obtain ⟨a2, rfl, rfl, rfl, w2⟩ := open_int Try.underlying3 (hval 2 3 v2 rfl rfl) h2
  have b2 := bounds_i64 w2
  clear hA0 hval0
  refine (walk A0 n0 c0 l0 a1 a2 W x0 b1.1 b1.2 b2.1 b2.2).mono fun e W' ⟨he, bel⟩ => ?_
  subst he
  exact ⟨_, rfl, _, _, _, [], _, [], hW', trodAll_mk1 (shut_bool Try.underlying4 _), (trodAll_cons_mk (Below.trod laidOut (by kernel_rfl) (of_decide_eq_true (by kernel_rfl)) k0 bel lt0) (trodAll_cons_mk (shut_int Try.underlying3 w1) (trodAll_cons_mk (shut_int Try.underlying3 w2) trodAll_mk0))), rfl, bel.frame _, fun h => by cases h⟩

theorem over : Rows.metalogDeadRow.holds Try.pinned (OpenSpec.ofChange Rows.metalogDeadSpec) :=
  OpenClaim.holds_of_wide 7 Try.f7 rfl rfl rfl rfl rfl rfl rfl ⟨rfl, rfl, rfl, rfl, rfl⟩ rfl rfl rfl rfl rfl (by kernel_rfl) Try.func7 (by kernel_rfl)
    (of_decide_eq_true (by kernel_rfl)) (by unfold Func.isWrapper; first | (rw [if_pos (by decide +kernel)]; kernel_rfl) | (rw [if_neg (by decide +kernel)]; exact ⟨rfl, rfl⟩))
    (fun os started H enc _ => lifted os started H enc)

/-- The statement. -/
theorem proved : Rows.MetalogDeadSaid := over
#print axioms proved
end MetalogDead
end Go.Proofs.Ytmjdndhpnckeeaa
