/- MetalogOlder holds: Scan of a newer generation tells none of an older one's records, all of its own that were taken, and Scan of the older one tells nothing behind them; no condition. -/
import Derived.Test.YtmjdndhpnckeeaaMetL
import Derived.Test.YtmjdndhpnckeeaaArgI
import Derived.StillTailTactics
import Derived.Test.YtmjdndhpnckeeaaMjK
import Derived.Test.YtmjdndhpnckeeaaRows
namespace Go.Proofs.Ytmjdndhpnckeeaa
open Go.ChangeShapes Go.WideShapes Go.ChangeAt Go.RowKit
set_option linter.unusedVariables false

theorem mask24 (v : Int) : ∃ N : Nat, bits .and .i64 v 16777215 = (N : Int) ∧ N < 16777216 := by
  have h := i64_mask v 24 (by decide)
  have h2 : bits .and .i64 v 16777215 = v % 16777216 := h
  exact ⟨(v % 16777216).toNat, by rw [h2]; omega, by omega⟩
set_option maxRecDepth 100000 in
set_option maxHeartbeats 8000000 in
theorem metalogOlder_walk (K : LogK) (A : Option Addr) (nl c : Nat) (f : Nat → BsV) (A2 : Option Addr) (nl2 c2 : Nat) (f2 : Nat → BsV) (gen : Int) (w : World) (hx : RowsIn w w.heap.size A nl c f) (hx2 : RowsIn w w.heap.size A2 nl2 c2 f2) :
    Calls Try.prog 5 #[.slice A nl c, .slice A2 nl2 c2, .int .i64 gen] w fun e w' => e = .returned (.bool true) ∧ Below w.heap.size w w' := by
  have HX := hide hx
  have hnc := hx.le
  have hc63 := hx.lt
  have HX2 := hide hx2
  have hnc2 := hx2.le
  have hc632 := hx2.lt
  clear hx hx2
  obtain ⟨M, hM0, hM24⟩ := mask24 gen
  have HGM := hide (numB_iff.2 ⟨by omega, by omega⟩ : numB (M : Int) = true)
  have HGM1 := hide (numB_iff.2 ⟨by omega, by omega⟩ : numB ((M : Int) + 1) = true)
  go_enter Try.func5, Try.ntmps5
  go_wp2_with (first
    | (go_at_call 13; refine (shown9_any K w).mono ?_; rintro _ w1 ⟨rfl, hl1⟩)
    | (go_at_call 14; refine (disks_any w1 2 (by decide)).mono ?_; rintro _ w2 ⟨⟨b, F, rfl, hB2, hlo2⟩, hl2⟩))
  have hs1 := hl1.size
  have HL2 := hide (hl1.trans (hl2.mono hs1))
  have HB2 := hide hB2
  have HLO : Hid (∀ x, F x → w.heap.size ≤ x) := hide fun x hx => Nat.le_trans hs1 (hlo2 x hx)
  clear hB2 hlo2 hl1 hl2
  have hN := newRow w2 (I64 [0, 1]) 3 (0, 0)
  have hbk : Blk (w2.alloc (.cells (I64 [0, 1]).toArray 3 (0, 0))) w2.heap.size 3 (I64 [0, 1]).toArray := Blk.new _ _ _
  go_wp2_with fail
  show Calls _ _ _ (w2.alloc (.cells (I64 [0, 1]).toArray 3 (0, 0))) _
  generalize w2.alloc (.cells (I64 [0, 1]).toArray 3 (0, 0)) = w3 at hN hbk ⊢
  obtain ⟨hl3, hz3, hr3⟩ := hN
  rw [← hz3] at hr3
  have hw2 := HL2.out.size
  have hF2 : ¬ F w2.heap.size := fun h => by have := HB2.out.1 _ h; omega
  refine (fresh_any K 2 [0, 1] (M : Int) w2.heap.size 2 2 (HB2.out.later hl3) HLO.out (HL2.out.trans (hl3.mono hw2)) hr3 (by omega) (by omega) (by omega) hF2 (by decide) (by decide) HGM.out (by decide)).mono ?_
  rintro _ w4 ⟨p, G, rfl, hM4, hp4, hG4, hl4⟩
  have HM4 := hide hM4
  have hF2p : w2.heap.size ≠ p := by omega
  have HK4 := hide (hbk.below hl4 hbk.lt)
  have HF2 := hide hF2
  have hs4 := hl4.size
  clear hr3 hl3 hM4 hG4 hl4 HL2 hbk hF2
  go_wp2_with fail
  have HRL := HK4.out.readsI (n := 2) rfl
  refine (K.new_any w4 b (some ⟨w2.heap.size, 0, none⟩) 2 2 [0, 1] ((M : Int) + 1) HRL (by omega) (by omega) (by omega)).mono ?_
  rintro _ w5 ⟨p2, G2, rfl, hO5, hp5, hG5, hl5⟩
  have hpl := (K.own HM4.out.log)
  have HG2 : Hid ((∀ x, G2 x → ¬ (F x ∨ x = p)) ∧ p2 ≠ w2.heap.size) := hide ⟨fun x hg hf => by
    have hx : w4.heap.size ≤ x ∨ x = w2.heap.size := by
      rcases hG5 x hg with h | ⟨ad, h, e⟩
      · exact .inl h
      · injection h with h
        rw [← h] at e
        exact .inr e
    rcases hf with hf | rfl
    · have := HB2.out.1 x hf
      rcases hx with hx | hx
      · omega
      · omega
    · have := hpl.2 x hpl.1
      rcases hx with hx | hx
      · omega
      · omega, by omega⟩
  have HO5 := hide hO5
  have HM5 := hide (HM4.out.later hl5)
  have HK5 := hide (HK4.out.below hl5 HK4.out.lt)
  have hp2w : w.heap.size ≤ p2 := by omega
  clear HRL hO5 hp5 hG5 hl5 hpl HB2 HM4 HK4 hp4
  go_wp2_with fail
  go_loopw [12] (fun s12 wr => ∃ (i : Nat) (S : Bank) (V : LogV) (R : List (List UInt8)), s12 = .int .i64 (i : Int) ∧ i ≤ 8 ∧ i ≤ nl ∧ Hid (MetIs K w F G b p noughts wr S V R (i * 240)) ∧ Hid (K.On wr p2 G2 b ⟨[0, 1], (M : Int) + 1, 0, 0, false⟩) ∧ Hid (V.live = [0, 1] ∧ V.gen = (M : Int) ∧ S.armed = 0 ∧ S.dead 0 = false ∧ R.length = i ∧ usedL R ≤ i * 4) ∧ Hid (Blk wr w2.heap.size 3 (I64 [0, 1]).toArray)) (fun s12 _ => nl - (intOf s12).toNat)
  case atStart => exact ⟨0, _, _, [], rfl, by decide, Nat.zero_le _, HM5, HO5, hide ⟨rfl, rfl, (Disks_std 2).2.2, Disks_live 2 0, rfl, by decide⟩, HK5⟩
  case round =>
    obtain ⟨i, S, V, R, rfl, hi8, hin, hM, hO, hI, hK⟩ := hrel
    obtain ⟨wo, rfl⟩ : ∃ wo, wo = wr := ⟨_, rfl⟩
    by_cases hlt : i < nl ∧ i < 8
    · have hg1 : (i : Int) < (nl : Int) := by omega
      have hg2 : (i : Int) < 8 := by omega
      obtain ⟨ad, rfl, hadb, hcells⟩ := HX.out.row (by omega)
      have HC := hide (hcells i hlt.1)
      clear hcells
      generalize f i = y at HC
      obtain ⟨yA, yn, yc, yl⟩ := y
      have hyr : Reads w w.heap.size 1 yA yn (B8 yl) := HC.out.2.reads
      have hyl : yl.length = yn := by have := hyr.1; rw [B8_length] at this; omega
      have HYR := hide hyr
      clear hyr
      have hyc : yn ≤ yc := HC.out.2.le
      have hyc2 : yc ≤ 9223372036854775807 := HC.out.2.lt
      obtain ⟨m, hm⟩ : ∃ m, m = min yn 200 := ⟨_, rfl⟩
      have HMM := hide hm
      clear hm
      go_wp2_with fail
      have hm := HMM.out
      have hc5 : wo.cell? (ad.add i) = some (.slice yA yn yc) := (hM.out.low.cell (p := ad.add i) (by rw [block_of_add]; exact hadb)).trans HC.out.1
      obtain ⟨i1, i2, i3, i4, i6, i7⟩ := hI.out
      have hp4 := parts_200 (n := (yl.take m).length) (by rw [List.length_take]; omega)
      have HAP := hide fun (w6 : World) (hb : Below wo.heap.size wo w6) => (hM.out.later hb).took i3 (d := 0) (by rw [i1]; decide) i4 yA m yc (yl.take m) (by
        have h := ((HYR.out.head (k := m) (by omega)).below (hM.out.low.trans (hb.mono hM.out.low.size))).more (Nat.le_trans hM.out.low.size hb.size)
        rwa [Nat.mul_one, B8_take] at h) (by omega) hyc2 (by omega) (by rw [List.length_take]; omega) (by omega)
      clear i1 i2 i3 i4 i6 i7
      by_cases hmn : yn ≤ 200
      · have hme : yn = m := by omega
        subst hme
        have hmv : min (yn : Int) 200 = (yn : Int) := by omega
        clear hm
        go_still_tail 12, (by kernel_rfl)
        change wpList _ _ _ _ _ wo.drew
        have hbd : Below wo.heap.size wo wo.drew := (Below.refl _ _).drew
        generalize wo.drew = w6 at hbd ⊢
        clear hc5
        go_wp2_with fail
        refine (HAP.out w6 hbd).mono ?_
        rintro _ w7 ⟨rfl, ⟨S7, V7, hM7, g1, g2, g3, g4⟩, hT7⟩
        have HK7 : Hid (Blk w7 w2.heap.size 3 (I64 [0, 1]).toArray) := hide ((hK.out.below hbd hK.out.lt).beside hT7 HF2.out hF2p)
        have HO7 : Hid (K.On w7 p2 G2 b ⟨[0, 1], (M : Int) + 1, 0, 0, false⟩) := hide (K.kept (K.later hO.out hbd) hT7 HG2.out.1)
        have HM7 : Hid (MetIs K w F G b p noughts w7 S7 V7 (R ++ [yl.take yn]) ((i + 1) * 240)) := hide (by rw [Nat.succ_mul]; exact hM7)
        have HI7 : Hid (V7.live = [0, 1] ∧ V7.gen = (M : Int) ∧ S7.armed = 0 ∧ S7.dead 0 = false ∧ (R ++ [yl.take yn]).length = i + 1 ∧ usedL (R ++ [yl.take yn]) ≤ (i + 1) * 4) := hide ⟨by rw [g1]; exact hI.out.1, by rw [g2]; exact hI.out.2.1, g4, by rw [g3.dead]; exact hI.out.2.2.2.1, by rw [List.length_append, hI.out.2.2.2.2.1]; rfl, by rw [usedL_append, usedL_cons, usedL_nil]; have := hI.out.2.2.2.2.2; omega⟩
        clear hM7 g1 g2 g3 g4 hT7 hbd HAP
        go_wp2_with fail
        go_roundw
        case rel => exact ⟨i + 1, S7, V7, _, by simp, by omega, by omega, HM7, HO7, HI7, HK7⟩
        case measure => simp [intOf]; omega
      · have hme : 200 = m := by omega
        subst hme
        have h200 : 200 ≤ yc := by omega
        have h2w : (200 : Int) ≤ (yc : Int) := by omega
        have hmv : min (yn : Int) 200 = 200 := by omega
        clear hm
        go_still_tail 12, (by kernel_rfl)
        change wpList _ _ _ _ _ wo.drew
        have hbd : Below wo.heap.size wo wo.drew := (Below.refl _ _).drew
        generalize wo.drew = w6 at hbd ⊢
        clear hc5
        go_wp2_with fail
        refine (HAP.out w6 hbd).mono ?_
        rintro _ w7 ⟨rfl, ⟨S7, V7, hM7, g1, g2, g3, g4⟩, hT7⟩
        have HK7 : Hid (Blk w7 w2.heap.size 3 (I64 [0, 1]).toArray) := hide ((hK.out.below hbd hK.out.lt).beside hT7 HF2.out hF2p)
        have HO7 : Hid (K.On w7 p2 G2 b ⟨[0, 1], (M : Int) + 1, 0, 0, false⟩) := hide (K.kept (K.later hO.out hbd) hT7 HG2.out.1)
        have HM7 : Hid (MetIs K w F G b p noughts w7 S7 V7 (R ++ [yl.take 200]) ((i + 1) * 240)) := hide (by rw [Nat.succ_mul]; exact hM7)
        have HI7 : Hid (V7.live = [0, 1] ∧ V7.gen = (M : Int) ∧ S7.armed = 0 ∧ S7.dead 0 = false ∧ (R ++ [yl.take 200]).length = i + 1 ∧ usedL (R ++ [yl.take 200]) ≤ (i + 1) * 4) := hide ⟨by rw [g1]; exact hI.out.1, by rw [g2]; exact hI.out.2.1, g4, by rw [g3.dead]; exact hI.out.2.2.2.1, by rw [List.length_append, hI.out.2.2.2.2.1]; rfl, by rw [usedL_append, usedL_cons, usedL_nil]; have := hI.out.2.2.2.2.2; omega⟩
        clear hM7 g1 g2 g3 g4 hT7 hbd HAP
        go_wp2_with fail
        go_roundw
        case rel => exact ⟨i + 1, S7, V7, _, by simp, by omega, by omega, HM7, HO7, HI7, HK7⟩
        case measure => simp [intOf]; omega
    · by_cases hin2 : i < nl
      · obtain rfl : i = 8 := by omega
        have hg1 : (8 : Int) < (nl : Int) := by omega
        go_wp2_with fail
        have HRL := hK.out.readsI (n := 2) rfl
        obtain ⟨i1, i2, i3, i4, i6, i7⟩ := hI.out
        have hfew := hM.out.ji.few
        have HBS : Hid (∀ (nr : Int) j, Foreign ((M : Int) + 1) nr (contJ noughts (M : Int) R j)) := hide fun nr j => base_foreign HGM.out (by omega) (by omega) nr j
        have hh := hM.out.ji.holds
        rw [i1, i2] at hh
        have HM2 : Hid (MetIs K w F G2 b p2 (contJ noughts (M : Int) R) wo S ⟨[0, 1], (M : Int) + 1, 0, 0, false⟩ [] 1920) := hide { base := ⟨hM.out.base.lo, fun x hf hg => HG2.out.1 x hg (.inl hf), hp2w⟩, bank := hM.out.bank, log := hO.out, ji := { std := hM.out.ji.std, holds := hh.anew, at_ := rfl, num := rfl, going := rfl, gen := HGM1.out, live := fun d hd => hM.out.ji.live d (by rw [i1]; exact hd), nodup := (show ([0, 1] : List Nat).Nodup by decide), used := Nat.zero_le _, lens := fun r hr => by cases hr }, short := (show ([0, 1] : List Nat).length ≤ 5 by decide), few := Nat.le_trans hM.out.few (by omega), low := hM.out.low }
        refine (HM2.out.scan HBS.out (live := [0, 1]) (d := 0) (fun d h => h) (by decide) i4 (some ⟨w2.heap.size, 0, none⟩) 2 2 HRL (by omega) (by omega) (by omega)).mono ?_
        rintro _ w6 ⟨B1, k1, f1, rfl, _, _, hl6⟩
        rw [List.length_nil]
        obtain ⟨us0, hus0⟩ : ∃ us0, us0 = usedL [] := ⟨_, rfl⟩
        rw [← hus0]
        have HM6 := hide (HM2.out.later hl6)
        have HK6 := hide (hK.out.below hl6 hK.out.lt)
        have HI6 := hide (show S.armed = 0 ∧ S.dead 0 = false from ⟨i3, i4⟩)
        clear HRL i1 i2 i3 i4 i6 i7 hfew hh HM2 hl6 hM hO hI hK hus0
        go_wp2_with fail
        go_loopw [16, 17] (fun s16 s17 wr => ∃ (j : Nat) (S2 : Bank) (V2 : LogV) (R2 : List (List UInt8)), s16 = .int .i64 (j : Int) ∧ s17 = .int .i64 (j : Int) ∧ j ≤ 8 ∧ j ≤ nl2 ∧ Hid (MetIs K w F G2 b p2 (contJ noughts (M : Int) R) wr S2 V2 R2 (1920 + j * 240)) ∧ Hid (V2.live = [0, 1] ∧ V2.gen = (M : Int) + 1 ∧ S2.armed = 0 ∧ S2.dead 0 = false ∧ R2.length = j ∧ usedL R2 ≤ j * 4) ∧ Hid (Blk wr w2.heap.size 3 (I64 [0, 1]).toArray)) (fun _ s17 _ => nl2 - (intOf s17).toNat)
        case atStart => exact ⟨0, S, _, [], rfl, rfl, by decide, Nat.zero_le _, HM6, hide ⟨rfl, rfl, HI6.out.1, HI6.out.2, rfl, by decide⟩, HK6⟩
        case round =>
          obtain ⟨j, S2, V2, R2, rfl, rfl, hj8, hjn, hM2, hI2, hK2⟩ := hrel
          obtain ⟨wp, rfl⟩ : ∃ wp, wp = wr := ⟨_, rfl⟩
          by_cases hlt2 : j < nl2 ∧ j < 8
          · have hg1 : (j : Int) < (nl2 : Int) := by omega
            have hg2 : (j : Int) < 8 := by omega
            obtain ⟨ad, rfl, hadb, hcells⟩ := HX2.out.row (by omega)
            have HC := hide (hcells j hlt2.1)
            clear hcells
            generalize f2 j = y at HC
            obtain ⟨yA, yn, yc, yl⟩ := y
            have hyr : Reads w w.heap.size 1 yA yn (B8 yl) := HC.out.2.reads
            have hyl : yl.length = yn := by have := hyr.1; rw [B8_length] at this; omega
            have HYR := hide hyr
            clear hyr
            have hyc : yn ≤ yc := HC.out.2.le
            have hyc2 : yc ≤ 9223372036854775807 := HC.out.2.lt
            obtain ⟨m, hm⟩ : ∃ m, m = min yn 200 := ⟨_, rfl⟩
            have HMM := hide hm
            clear hm
            go_wp2_with fail
            have hm := HMM.out
            have hc5 : wp.cell? (ad.add j) = some (.slice yA yn yc) := (hM2.out.low.cell (p := ad.add j) (by rw [block_of_add]; exact hadb)).trans HC.out.1
            obtain ⟨i1, i2, i3, i4, i6, i7⟩ := hI2.out
            have hp4 := parts_200 (n := (yl.take m).length) (by rw [List.length_take]; omega)
            have HAP := hide fun (w6 : World) (hb : Below wp.heap.size wp w6) => (hM2.out.later hb).took i3 (d := 0) (by rw [i1]; decide) i4 yA m yc (yl.take m) (by
              have h := ((HYR.out.head (k := m) (by omega)).below (hM2.out.low.trans (hb.mono hM2.out.low.size))).more (Nat.le_trans hM2.out.low.size hb.size)
              rwa [Nat.mul_one, B8_take] at h) (by omega) hyc2 (by omega) (by rw [List.length_take]; omega) (by omega)
            clear i1 i2 i3 i4 i6 i7
            by_cases hmn : yn ≤ 200
            · have hme : yn = m := by omega
              subst hme
              have hmv : min (yn : Int) 200 = (yn : Int) := by omega
              clear hm
              go_still_tail 12, (by kernel_rfl)
              change wpList _ _ _ _ _ wp.drew
              have hbd : Below wp.heap.size wp wp.drew := (Below.refl _ _).drew
              generalize wp.drew = w6 at hbd ⊢
              clear hc5
              go_wp2_with fail
              refine (HAP.out w6 hbd).mono ?_
              rintro _ w7 ⟨rfl, ⟨S7, V7, hM7, g1, g2, g3, g4⟩, hT7⟩
              have HK7 : Hid (Blk w7 w2.heap.size 3 (I64 [0, 1]).toArray) := hide ((hK2.out.below hbd hK2.out.lt).beside hT7 HF2.out HG2.out.2.symm)
              have HM7 : Hid (MetIs K w F G2 b p2 (contJ noughts (M : Int) R) w7 S7 V7 (R2 ++ [yl.take yn]) (1920 + (j + 1) * 240)) := hide (by rw [Nat.succ_mul, ← Nat.add_assoc]; exact hM7)
              have HI7 : Hid (V7.live = [0, 1] ∧ V7.gen = (M : Int) + 1 ∧ S7.armed = 0 ∧ S7.dead 0 = false ∧ (R2 ++ [yl.take yn]).length = j + 1 ∧ usedL (R2 ++ [yl.take yn]) ≤ (j + 1) * 4) := hide ⟨by rw [g1]; exact hI2.out.1, by rw [g2]; exact hI2.out.2.1, g4, by rw [g3.dead]; exact hI2.out.2.2.2.1, by rw [List.length_append, hI2.out.2.2.2.2.1]; rfl, by rw [usedL_append, usedL_cons, usedL_nil]; have := hI2.out.2.2.2.2.2; omega⟩
              clear hM7 g1 g2 g3 g4 hT7 hbd HAP
              go_wp2_with fail
              go_roundw
              case rel => exact ⟨j + 1, S7, V7, _, by simp, by simp, by omega, by omega, HM7, HI7, HK7⟩
              case measure => simp [intOf]; omega
            · have hme : 200 = m := by omega
              subst hme
              have h200 : 200 ≤ yc := by omega
              have h2w : (200 : Int) ≤ (yc : Int) := by omega
              have hmv : min (yn : Int) 200 = 200 := by omega
              clear hm
              go_still_tail 12, (by kernel_rfl)
              change wpList _ _ _ _ _ wp.drew
              have hbd : Below wp.heap.size wp wp.drew := (Below.refl _ _).drew
              generalize wp.drew = w6 at hbd ⊢
              clear hc5
              go_wp2_with fail
              refine (HAP.out w6 hbd).mono ?_
              rintro _ w7 ⟨rfl, ⟨S7, V7, hM7, g1, g2, g3, g4⟩, hT7⟩
              have HK7 : Hid (Blk w7 w2.heap.size 3 (I64 [0, 1]).toArray) := hide ((hK2.out.below hbd hK2.out.lt).beside hT7 HF2.out HG2.out.2.symm)
              have HM7 : Hid (MetIs K w F G2 b p2 (contJ noughts (M : Int) R) w7 S7 V7 (R2 ++ [yl.take 200]) (1920 + (j + 1) * 240)) := hide (by rw [Nat.succ_mul, ← Nat.add_assoc]; exact hM7)
              have HI7 : Hid (V7.live = [0, 1] ∧ V7.gen = (M : Int) + 1 ∧ S7.armed = 0 ∧ S7.dead 0 = false ∧ (R2 ++ [yl.take 200]).length = j + 1 ∧ usedL (R2 ++ [yl.take 200]) ≤ (j + 1) * 4) := hide ⟨by rw [g1]; exact hI2.out.1, by rw [g2]; exact hI2.out.2.1, g4, by rw [g3.dead]; exact hI2.out.2.2.2.1, by rw [List.length_append, hI2.out.2.2.2.2.1]; rfl, by rw [usedL_append, usedL_cons, usedL_nil]; have := hI2.out.2.2.2.2.2; omega⟩
              clear hM7 g1 g2 g3 g4 hT7 hbd HAP
              go_wp2_with fail
              go_roundw
              case rel => exact ⟨j + 1, S7, V7, _, by simp, by simp, by omega, by omega, HM7, HI7, HK7⟩
              case measure => simp [intOf]; omega
          · by_cases hjn2 : j < nl2
            · obtain rfl : j = 8 := by omega
              have hg3 : (8 : Int) < (nl2 : Int) := by omega
              go_wp2_with fail
              have HRL := hK2.out.readsI (n := 2) rfl
              obtain ⟨j1, j2, j3, j4, j6, j7⟩ := hI2.out
              have hsc := hM2.out.scan (by rw [j2]; exact HBS.out) (live := [0, 1]) (d := 0) (by rw [j1]; exact fun d h => h) (by decide) j4 (some ⟨w2.heap.size, 0, none⟩) 2 2 HRL (by omega) (by omega) (by omega)
              rw [j2, j6] at hsc
              refine hsc.mono ?_
              rintro _ w8 ⟨B3, k3, f3, rfl, _, _, hl8⟩
              have HM8 := hide (hM2.out.later hl8)
              have HK8 := hide (hK2.out.below hl8 hK2.out.lt)
              clear HRL hsc hl8
              go_wp2_with fail
              have HRL := HK8.out.readsI (n := 2) rfl
              refine (K.scan_any _ b F S2 (some ⟨w2.heap.size, 0, none⟩) 2 2 [0, 1] (M : Int) HM8.out.bank HM8.out.ji.std.up HRL (by omega) (by omega) (by omega) (fun d hd => HM8.out.ji.live d (by rw [j1]; exact hd))).mono ?_
              rintro _ w9 ⟨B4, m4, k4, f4, rfl, _, hR9, hl9⟩
              have hv := views_ne (S := S2) (live := [0, 1]) (d := 0) (by decide) j4
              rw [if_neg hv] at hR9
              rw [if_neg hv, if_neg hv]
              have HL9 := hide (HM8.out.low.trans (hl9.mono HM8.out.low.size))
              obtain ⟨us, hus⟩ : ∃ us, us = (scanL (viewsOf S2 [0, 1]) (M : Int) 49 0 0).2 := ⟨_, rfl⟩
              rw [← hus]
              by_cases hj0 : 8 = 0
              · exact absurd hj0 (by decide)
              · have hm4 : m4 = 0 := by
                  cases R2 with
                  | nil => exact absurd j6.symm (by intro h; apply hj0; rw [h]; rfl)
                  | cons r R2 =>
                    have hh := HM8.out.ji.holds
                    have hg8 := HM8.out.ji.gen
                    rw [j1, j2] at hh
                    rw [j2] at hg8
                    have := Holds.older (gen := (M : Int)) (f := 49) hh hg8 (HM8.out.ji.lens r (by simp)) (by omega)
                    rw [this] at hR9
                    have := congrArg List.length hR9
                    simpa using this
                subst hm4
                have hjz : ¬ ((8 : Int) = 0) := by omega
                clear hus hR9 hl9 HRL hv j1 j2 j3 j4 j6 j7
                go_wp2_with fail
                go_ret
                exact ⟨rfl, HL9.out⟩
            · have hg3 : ¬ ((j : Int) < (nl2 : Int)) := by omega
              go_wp2_with fail
              have HRL := hK2.out.readsI (n := 2) rfl
              obtain ⟨j1, j2, j3, j4, j6, j7⟩ := hI2.out
              have hsc := hM2.out.scan (by rw [j2]; exact HBS.out) (live := [0, 1]) (d := 0) (by rw [j1]; exact fun d h => h) (by decide) j4 (some ⟨w2.heap.size, 0, none⟩) 2 2 HRL (by omega) (by omega) (by omega)
              rw [j2, j6] at hsc
              refine hsc.mono ?_
              rintro _ w8 ⟨B3, k3, f3, rfl, _, _, hl8⟩
              have HM8 := hide (hM2.out.later hl8)
              have HK8 := hide (hK2.out.below hl8 hK2.out.lt)
              clear HRL hsc hl8
              go_wp2_with fail
              have HRL := HK8.out.readsI (n := 2) rfl
              refine (K.scan_any _ b F S2 (some ⟨w2.heap.size, 0, none⟩) 2 2 [0, 1] (M : Int) HM8.out.bank HM8.out.ji.std.up HRL (by omega) (by omega) (by omega) (fun d hd => HM8.out.ji.live d (by rw [j1]; exact hd))).mono ?_
              rintro _ w9 ⟨B4, m4, k4, f4, rfl, _, hR9, hl9⟩
              have hv := views_ne (S := S2) (live := [0, 1]) (d := 0) (by decide) j4
              rw [if_neg hv] at hR9
              rw [if_neg hv, if_neg hv]
              have HL9 := hide (HM8.out.low.trans (hl9.mono HM8.out.low.size))
              obtain ⟨us, hus⟩ : ∃ us, us = (scanL (viewsOf S2 [0, 1]) (M : Int) 49 0 0).2 := ⟨_, rfl⟩
              rw [← hus]
              by_cases hj0 : j = 0
              · subst hj0
                clear hus hR9 hl9 HRL hv j1 j2 j3 j4 j6 j7
                go_wp2_with fail
                go_ret
                exact ⟨rfl, HL9.out⟩
              · have hm4 : m4 = 0 := by
                  cases R2 with
                  | nil => exact absurd j6.symm (by intro h; apply hj0; rw [h]; rfl)
                  | cons r R2 =>
                    have hh := HM8.out.ji.holds
                    have hg8 := HM8.out.ji.gen
                    rw [j1, j2] at hh
                    rw [j2] at hg8
                    have := Holds.older (gen := (M : Int)) (f := 49) hh hg8 (HM8.out.ji.lens r (by simp)) (by omega)
                    rw [this] at hR9
                    have := congrArg List.length hR9
                    simpa using this
                subst hm4
                have hjz : ¬ ((j : Int) = 0) := by omega
                clear hus hR9 hl9 HRL hv j1 j2 j3 j4 j6 j7
                go_wp2_with fail
                go_ret
                exact ⟨rfl, HL9.out⟩
      · have hg1 : ¬ ((i : Int) < (nl : Int)) := by omega
        go_wp2_with fail
        have HRL := hK.out.readsI (n := 2) rfl
        obtain ⟨i1, i2, i3, i4, i6, i7⟩ := hI.out
        have hfew := hM.out.ji.few
        have HBS : Hid (∀ (nr : Int) j, Foreign ((M : Int) + 1) nr (contJ noughts (M : Int) R j)) := hide fun nr j => base_foreign HGM.out (by omega) (by omega) nr j
        have hh := hM.out.ji.holds
        rw [i1, i2] at hh
        have HM2 : Hid (MetIs K w F G2 b p2 (contJ noughts (M : Int) R) wo S ⟨[0, 1], (M : Int) + 1, 0, 0, false⟩ [] 1920) := hide { base := ⟨hM.out.base.lo, fun x hf hg => HG2.out.1 x hg (.inl hf), hp2w⟩, bank := hM.out.bank, log := hO.out, ji := { std := hM.out.ji.std, holds := hh.anew, at_ := rfl, num := rfl, going := rfl, gen := HGM1.out, live := fun d hd => hM.out.ji.live d (by rw [i1]; exact hd), nodup := (show ([0, 1] : List Nat).Nodup by decide), used := Nat.zero_le _, lens := fun r hr => by cases hr }, short := (show ([0, 1] : List Nat).length ≤ 5 by decide), few := Nat.le_trans hM.out.few (by omega), low := hM.out.low }
        refine (HM2.out.scan HBS.out (live := [0, 1]) (d := 0) (fun d h => h) (by decide) i4 (some ⟨w2.heap.size, 0, none⟩) 2 2 HRL (by omega) (by omega) (by omega)).mono ?_
        rintro _ w6 ⟨B1, k1, f1, rfl, _, _, hl6⟩
        rw [List.length_nil]
        obtain ⟨us0, hus0⟩ : ∃ us0, us0 = usedL [] := ⟨_, rfl⟩
        rw [← hus0]
        have HM6 := hide (HM2.out.later hl6)
        have HK6 := hide (hK.out.below hl6 hK.out.lt)
        have HI6 := hide (show S.armed = 0 ∧ S.dead 0 = false from ⟨i3, i4⟩)
        clear HRL i1 i2 i3 i4 i6 i7 hfew hh HM2 hl6 hM hO hI hK hus0
        go_wp2_with fail
        go_loopw [16, 17] (fun s16 s17 wr => ∃ (j : Nat) (S2 : Bank) (V2 : LogV) (R2 : List (List UInt8)), s16 = .int .i64 (j : Int) ∧ s17 = .int .i64 (j : Int) ∧ j ≤ 8 ∧ j ≤ nl2 ∧ Hid (MetIs K w F G2 b p2 (contJ noughts (M : Int) R) wr S2 V2 R2 (1920 + j * 240)) ∧ Hid (V2.live = [0, 1] ∧ V2.gen = (M : Int) + 1 ∧ S2.armed = 0 ∧ S2.dead 0 = false ∧ R2.length = j ∧ usedL R2 ≤ j * 4) ∧ Hid (Blk wr w2.heap.size 3 (I64 [0, 1]).toArray)) (fun _ s17 _ => nl2 - (intOf s17).toNat)
        case atStart => exact ⟨0, S, _, [], rfl, rfl, by decide, Nat.zero_le _, HM6, hide ⟨rfl, rfl, HI6.out.1, HI6.out.2, rfl, by decide⟩, HK6⟩
        case round =>
          obtain ⟨j, S2, V2, R2, rfl, rfl, hj8, hjn, hM2, hI2, hK2⟩ := hrel
          obtain ⟨wp, rfl⟩ : ∃ wp, wp = wr := ⟨_, rfl⟩
          by_cases hlt2 : j < nl2 ∧ j < 8
          · have hg1 : (j : Int) < (nl2 : Int) := by omega
            have hg2 : (j : Int) < 8 := by omega
            obtain ⟨ad, rfl, hadb, hcells⟩ := HX2.out.row (by omega)
            have HC := hide (hcells j hlt2.1)
            clear hcells
            generalize f2 j = y at HC
            obtain ⟨yA, yn, yc, yl⟩ := y
            have hyr : Reads w w.heap.size 1 yA yn (B8 yl) := HC.out.2.reads
            have hyl : yl.length = yn := by have := hyr.1; rw [B8_length] at this; omega
            have HYR := hide hyr
            clear hyr
            have hyc : yn ≤ yc := HC.out.2.le
            have hyc2 : yc ≤ 9223372036854775807 := HC.out.2.lt
            obtain ⟨m, hm⟩ : ∃ m, m = min yn 200 := ⟨_, rfl⟩
            have HMM := hide hm
            clear hm
            go_wp2_with fail
            have hm := HMM.out
            have hc5 : wp.cell? (ad.add j) = some (.slice yA yn yc) := (hM2.out.low.cell (p := ad.add j) (by rw [block_of_add]; exact hadb)).trans HC.out.1
            obtain ⟨i1, i2, i3, i4, i6, i7⟩ := hI2.out
            have hp4 := parts_200 (n := (yl.take m).length) (by rw [List.length_take]; omega)
            have HAP := hide fun (w6 : World) (hb : Below wp.heap.size wp w6) => (hM2.out.later hb).took i3 (d := 0) (by rw [i1]; decide) i4 yA m yc (yl.take m) (by
              have h := ((HYR.out.head (k := m) (by omega)).below (hM2.out.low.trans (hb.mono hM2.out.low.size))).more (Nat.le_trans hM2.out.low.size hb.size)
              rwa [Nat.mul_one, B8_take] at h) (by omega) hyc2 (by omega) (by rw [List.length_take]; omega) (by omega)
            clear i1 i2 i3 i4 i6 i7
            by_cases hmn : yn ≤ 200
            · have hme : yn = m := by omega
              subst hme
              have hmv : min (yn : Int) 200 = (yn : Int) := by omega
              clear hm
              go_still_tail 12, (by kernel_rfl)
              change wpList _ _ _ _ _ wp.drew
              have hbd : Below wp.heap.size wp wp.drew := (Below.refl _ _).drew
              generalize wp.drew = w6 at hbd ⊢
              clear hc5
              go_wp2_with fail
              refine (HAP.out w6 hbd).mono ?_
              rintro _ w7 ⟨rfl, ⟨S7, V7, hM7, g1, g2, g3, g4⟩, hT7⟩
              have HK7 : Hid (Blk w7 w2.heap.size 3 (I64 [0, 1]).toArray) := hide ((hK2.out.below hbd hK2.out.lt).beside hT7 HF2.out HG2.out.2.symm)
              have HM7 : Hid (MetIs K w F G2 b p2 (contJ noughts (M : Int) R) w7 S7 V7 (R2 ++ [yl.take yn]) (1920 + (j + 1) * 240)) := hide (by rw [Nat.succ_mul, ← Nat.add_assoc]; exact hM7)
              have HI7 : Hid (V7.live = [0, 1] ∧ V7.gen = (M : Int) + 1 ∧ S7.armed = 0 ∧ S7.dead 0 = false ∧ (R2 ++ [yl.take yn]).length = j + 1 ∧ usedL (R2 ++ [yl.take yn]) ≤ (j + 1) * 4) := hide ⟨by rw [g1]; exact hI2.out.1, by rw [g2]; exact hI2.out.2.1, g4, by rw [g3.dead]; exact hI2.out.2.2.2.1, by rw [List.length_append, hI2.out.2.2.2.2.1]; rfl, by rw [usedL_append, usedL_cons, usedL_nil]; have := hI2.out.2.2.2.2.2; omega⟩
              clear hM7 g1 g2 g3 g4 hT7 hbd HAP
              go_wp2_with fail
              go_roundw
              case rel => exact ⟨j + 1, S7, V7, _, by simp, by simp, by omega, by omega, HM7, HI7, HK7⟩
              case measure => simp [intOf]; omega
            · have hme : 200 = m := by omega
              subst hme
              have h200 : 200 ≤ yc := by omega
              have h2w : (200 : Int) ≤ (yc : Int) := by omega
              have hmv : min (yn : Int) 200 = 200 := by omega
              clear hm
              go_still_tail 12, (by kernel_rfl)
              change wpList _ _ _ _ _ wp.drew
              have hbd : Below wp.heap.size wp wp.drew := (Below.refl _ _).drew
              generalize wp.drew = w6 at hbd ⊢
              clear hc5
              go_wp2_with fail
              refine (HAP.out w6 hbd).mono ?_
              rintro _ w7 ⟨rfl, ⟨S7, V7, hM7, g1, g2, g3, g4⟩, hT7⟩
              have HK7 : Hid (Blk w7 w2.heap.size 3 (I64 [0, 1]).toArray) := hide ((hK2.out.below hbd hK2.out.lt).beside hT7 HF2.out HG2.out.2.symm)
              have HM7 : Hid (MetIs K w F G2 b p2 (contJ noughts (M : Int) R) w7 S7 V7 (R2 ++ [yl.take 200]) (1920 + (j + 1) * 240)) := hide (by rw [Nat.succ_mul, ← Nat.add_assoc]; exact hM7)
              have HI7 : Hid (V7.live = [0, 1] ∧ V7.gen = (M : Int) + 1 ∧ S7.armed = 0 ∧ S7.dead 0 = false ∧ (R2 ++ [yl.take 200]).length = j + 1 ∧ usedL (R2 ++ [yl.take 200]) ≤ (j + 1) * 4) := hide ⟨by rw [g1]; exact hI2.out.1, by rw [g2]; exact hI2.out.2.1, g4, by rw [g3.dead]; exact hI2.out.2.2.2.1, by rw [List.length_append, hI2.out.2.2.2.2.1]; rfl, by rw [usedL_append, usedL_cons, usedL_nil]; have := hI2.out.2.2.2.2.2; omega⟩
              clear hM7 g1 g2 g3 g4 hT7 hbd HAP
              go_wp2_with fail
              go_roundw
              case rel => exact ⟨j + 1, S7, V7, _, by simp, by simp, by omega, by omega, HM7, HI7, HK7⟩
              case measure => simp [intOf]; omega
          · by_cases hjn2 : j < nl2
            · obtain rfl : j = 8 := by omega
              have hg3 : (8 : Int) < (nl2 : Int) := by omega
              go_wp2_with fail
              have HRL := hK2.out.readsI (n := 2) rfl
              obtain ⟨j1, j2, j3, j4, j6, j7⟩ := hI2.out
              have hsc := hM2.out.scan (by rw [j2]; exact HBS.out) (live := [0, 1]) (d := 0) (by rw [j1]; exact fun d h => h) (by decide) j4 (some ⟨w2.heap.size, 0, none⟩) 2 2 HRL (by omega) (by omega) (by omega)
              rw [j2, j6] at hsc
              refine hsc.mono ?_
              rintro _ w8 ⟨B3, k3, f3, rfl, _, _, hl8⟩
              have HM8 := hide (hM2.out.later hl8)
              have HK8 := hide (hK2.out.below hl8 hK2.out.lt)
              clear HRL hsc hl8
              go_wp2_with fail
              have HRL := HK8.out.readsI (n := 2) rfl
              refine (K.scan_any _ b F S2 (some ⟨w2.heap.size, 0, none⟩) 2 2 [0, 1] (M : Int) HM8.out.bank HM8.out.ji.std.up HRL (by omega) (by omega) (by omega) (fun d hd => HM8.out.ji.live d (by rw [j1]; exact hd))).mono ?_
              rintro _ w9 ⟨B4, m4, k4, f4, rfl, _, hR9, hl9⟩
              have hv := views_ne (S := S2) (live := [0, 1]) (d := 0) (by decide) j4
              rw [if_neg hv] at hR9
              rw [if_neg hv, if_neg hv]
              have HL9 := hide (HM8.out.low.trans (hl9.mono HM8.out.low.size))
              obtain ⟨us, hus⟩ : ∃ us, us = (scanL (viewsOf S2 [0, 1]) (M : Int) 49 0 0).2 := ⟨_, rfl⟩
              rw [← hus]
              by_cases hj0 : 8 = 0
              · exact absurd hj0 (by decide)
              · have hm4 : m4 = 0 := by
                  cases R2 with
                  | nil => exact absurd j6.symm (by intro h; apply hj0; rw [h]; rfl)
                  | cons r R2 =>
                    have hh := HM8.out.ji.holds
                    have hg8 := HM8.out.ji.gen
                    rw [j1, j2] at hh
                    rw [j2] at hg8
                    have := Holds.older (gen := (M : Int)) (f := 49) hh hg8 (HM8.out.ji.lens r (by simp)) (by omega)
                    rw [this] at hR9
                    have := congrArg List.length hR9
                    simpa using this
                subst hm4
                have hjz : ¬ ((8 : Int) = 0) := by omega
                clear hus hR9 hl9 HRL hv j1 j2 j3 j4 j6 j7
                go_wp2_with fail
                go_ret
                exact ⟨rfl, HL9.out⟩
            · have hg3 : ¬ ((j : Int) < (nl2 : Int)) := by omega
              go_wp2_with fail
              have HRL := hK2.out.readsI (n := 2) rfl
              obtain ⟨j1, j2, j3, j4, j6, j7⟩ := hI2.out
              have hsc := hM2.out.scan (by rw [j2]; exact HBS.out) (live := [0, 1]) (d := 0) (by rw [j1]; exact fun d h => h) (by decide) j4 (some ⟨w2.heap.size, 0, none⟩) 2 2 HRL (by omega) (by omega) (by omega)
              rw [j2, j6] at hsc
              refine hsc.mono ?_
              rintro _ w8 ⟨B3, k3, f3, rfl, _, _, hl8⟩
              have HM8 := hide (hM2.out.later hl8)
              have HK8 := hide (hK2.out.below hl8 hK2.out.lt)
              clear HRL hsc hl8
              go_wp2_with fail
              have HRL := HK8.out.readsI (n := 2) rfl
              refine (K.scan_any _ b F S2 (some ⟨w2.heap.size, 0, none⟩) 2 2 [0, 1] (M : Int) HM8.out.bank HM8.out.ji.std.up HRL (by omega) (by omega) (by omega) (fun d hd => HM8.out.ji.live d (by rw [j1]; exact hd))).mono ?_
              rintro _ w9 ⟨B4, m4, k4, f4, rfl, _, hR9, hl9⟩
              have hv := views_ne (S := S2) (live := [0, 1]) (d := 0) (by decide) j4
              rw [if_neg hv] at hR9
              rw [if_neg hv, if_neg hv]
              have HL9 := hide (HM8.out.low.trans (hl9.mono HM8.out.low.size))
              obtain ⟨us, hus⟩ : ∃ us, us = (scanL (viewsOf S2 [0, 1]) (M : Int) 49 0 0).2 := ⟨_, rfl⟩
              rw [← hus]
              by_cases hj0 : j = 0
              · subst hj0
                clear hus hR9 hl9 HRL hv j1 j2 j3 j4 j6 j7
                go_wp2_with fail
                go_ret
                exact ⟨rfl, HL9.out⟩
              · have hm4 : m4 = 0 := by
                  cases R2 with
                  | nil => exact absurd j6.symm (by intro h; apply hj0; rw [h]; rfl)
                  | cons r R2 =>
                    have hh := HM8.out.ji.holds
                    have hg8 := HM8.out.ji.gen
                    rw [j1, j2] at hh
                    rw [j2] at hg8
                    have := Holds.older (gen := (M : Int)) (f := 49) hh hg8 (HM8.out.ji.lens r (by simp)) (by omega)
                    rw [this] at hR9
                    have := congrArg List.length hR9
                    simpa using this
                subst hm4
                have hjz : ¬ ((j : Int) = 0) := by omega
                clear hus hR9 hl9 HRL hv j1 j2 j3 j4 j6 j7
                go_wp2_with fail
                go_ret
                exact ⟨rfl, HL9.out⟩
#print axioms metalogOlder_walk
namespace MetalogOlder
theorem walk (A0 : Option Addr) (n0 c0 : Nat) (l0 : Nat → BsV) (A1 : Option Addr) (n1 c1 : Nat) (l1 : Nat → BsV) (a2 : Int) (w : World) (x0 : RowsIn w w.heap.size A0 n0 c0 l0) (x1 : RowsIn w w.heap.size A1 n1 c1 l1) (_ : -9223372036854775808 ≤ a2) (_ : a2 ≤ 9223372036854775807) :
    Calls Try.prog 5 #[.slice A0 n0 c0, .slice A1 n1 c1, .int .i64 a2] w fun e w' => e = .returned (.bool true) ∧ Below w.heap.size w w' :=
  metalogOlder_walk logK A0 n0 c0 l0 A1 n1 c1 l1 a2 w x0 x1
/-! The row's frame, by program: how the walk above proves the statement. -/
set_option maxRecDepth 100000 in
theorem lifted (os : Os) (started : os.Started) (H : Type) (enc : TypeId × Value → H) :
    ReturnsInHanded {} Try.checked os 5 .any (Rows.metalogOlderSpec.pre6 enc Try.prog Try.f5 Rows.metalogOlderRow.domain false) (Rows.metalogOlderSpec.post enc Try.prog Try.f5 false true false false) := by
  refine returnsInHanded_of_change (C := Try.checked) own started (by kernel_rfl) Try.func5
    (ChangeSpec.witness6 (enc := enc) (C := Try.checked) false ⟨#[], #[.slice none 0 0, .slice none 0 0, .int .i64 0], []⟩ 8 (by kernel_rfl) (by kernel_rfl) (by kernel_rfl) (by kernel_rfl)) ?_
  intro W base args ds gs before hval0 hW hcnd _
  have hval : ∀ (j : Nat) t v, Try.f5.params[j]? = some t → args[j]? = some v → Value.okWide Try.prog W .any base t v := hval0
  have hW' := hW
  obtain ⟨p, q, hA0, hV, rfl, hfz, hnd⟩ := hW
  have hA : DataW.TrodAll enc Try.prog W 0 (fun _ => true) true Try.f5.params.toList args.toList ds p := hA0
  rw [Try.params5] at hA hval
  obtain ⟨v0, vs0, d0, ds0, p0, q0, hargs, rfl, rfl, h0, r0⟩ := trodAll_cons hA
  obtain ⟨v1, vs1, d1, ds1, p1, q1, rfl, rfl, rfl, h1, r1⟩ := trodAll_cons r0
  obtain ⟨v2, vs2, d2, ds2, p2, q2, rfl, rfl, rfl, h2, r2⟩ := trodAll_cons r1
  obtain ⟨rfl, rfl, rfl⟩ := trodAll_nil r2
  obtain rfl : args = #[v0, v1, v2] := by cases args; simp_all
  obtain ⟨rfl, rfl⟩ := trodVars_none hV
  obtain ⟨A0, n0, c0, rfl⟩ := okWide_slice Try.underlying22 (hval 0 22 v0 rfl rfl)
  have k0 := h0
  have lt0 : ∀ x ∈ p0, x.block < W.heap.size := by obtain ⟨m, hm⟩ := k0; exact DataW.trod_lt m _ _ _ hm
  obtain ⟨l0, x0⟩ := arg_rows h0
  obtain ⟨A1, n1, c1, rfl⟩ := okWide_slice Try.underlying22 (hval 1 22 v1 rfl rfl)
  have k1 := h1
  have lt1 : ∀ x ∈ p1, x.block < W.heap.size := by obtain ⟨m, hm⟩ := k1; exact DataW.trod_lt m _ _ _ hm
  obtain ⟨l1, x1⟩ := arg_rows h1
  obtain ⟨a2, rfl, rfl, rfl, w2⟩ := open_int Try.underlying3 (hval 2 3 v2 rfl rfl) h2
  have b2 := bounds_i64 w2
  clear hA0 hval0
  refine (walk A0 n0 c0 l0 A1 n1 c1 l1 a2 W x0 x1 b2.1 b2.2).mono fun e W' ⟨he, bel⟩ => ?_
  subst he
  exact ⟨_, rfl, _, _, _, [], _, [], hW', trodAll_mk1 (shut_bool Try.underlying4 _), (trodAll_cons_mk (Below.trod laidOut (by kernel_rfl) (of_decide_eq_true (by kernel_rfl)) k0 bel lt0) (trodAll_cons_mk (Below.trod laidOut (by kernel_rfl) (of_decide_eq_true (by kernel_rfl)) k1 bel lt1) (trodAll_cons_mk (shut_int Try.underlying3 w2) trodAll_mk0))), rfl, bel.frame _, fun h => by cases h⟩

theorem over : Rows.metalogOlderRow.holds Try.pinned (OpenSpec.ofChange Rows.metalogOlderSpec) :=
  OpenClaim.holds_of_wide 5 Try.f5 rfl rfl rfl rfl rfl rfl rfl ⟨rfl, rfl, rfl, rfl, rfl⟩ rfl rfl rfl rfl rfl (by kernel_rfl) Try.func5 (by kernel_rfl)
    (of_decide_eq_true (by kernel_rfl)) (by unfold Func.isWrapper; first | (rw [if_pos (by decide +kernel)]; kernel_rfl) | (rw [if_neg (by decide +kernel)]; exact ⟨rfl, rfl⟩))
    (fun os started H enc _ => lifted os started H enc)

/-- The statement. -/
theorem proved : Rows.MetalogOlderSaid := over
#print axioms proved
end MetalogOlder
end Go.Proofs.Ytmjdndhpnckeeaa
