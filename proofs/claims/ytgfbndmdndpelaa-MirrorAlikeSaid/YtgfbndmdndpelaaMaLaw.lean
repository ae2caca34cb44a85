/- MirrorAlike's walk over the contracts. -/
import Derived.Test.YtgfbndmdndpelaaMdLaw
import Derived.Test.YtgfbndmdndpelaaPoke
import Derived.Deep.DeepCutAuto
import Derived.Deep.CutRange
namespace Go.Proofs.Ytgfbndmdndpelaa
open Go.RowKit
set_option linter.unusedVariables false
theorem mask4 (v : Int) : ∃ N : Nat, bits .and .i64 v 15 = (N : Int) ∧ N < 16 := by
  have h := i64_mask v 4 (by decide)
  have h2 : bits .and .i64 v 15 = v % 16 := h
  exact ⟨(v % 16).toNat, by rw [h2]; omega, by omega⟩
set_option maxRecDepth 100000 in
set_option maxHeartbeats 8000000 in
theorem mirrorAlike_walk (K : MirK) (A : Option Addr) (n cp : Nat) (l : List Int) (mk : Nat) (turned : Bool) (w : World) (hr : Reads w w.heap.size 1 A n (I64 l)) (hc : n ≤ cp) (hc2 : cp ≤ 9223372036854775807) (hmk : mk < 18446744073709551616) :
    Calls Try.prog 6 #[.slice A n cp, .int .u64 (mk : Int), .bool turned] w fun e w' => e = .returned (.bool true) ∧ Below w.heap.size w w' := by
  have HSH := hide (fun w => shown12_any K w)
  have HR := hide hr
  clear hr
  go_enter Try.func6, Try.ntmps6
  go_wp2_with (first
    | (go_at_call 9; refine (HSH.out _).mono ?_; rintro _ y1 ⟨rfl, hlq⟩; have HL_y1 := hide (hlq); clear hlq)
    | (go_at_call 10; refine (sit_laid w y1 HL_y1.out 2 (by decide)).mono ?_; rintro _ y2 ⟨rfl, hsq⟩; have HS_y2 : Hid (Sit w y2 y1.heap.size y2.heap.size (LaidN 2) []) := hide hsq; clear hsq)
    | ((with_reducible refine at_slot 9 ?_); refine wpList_alloc_blk rfl 54 rfl _ (arr8_zero _) ?_; intro y3 hbq hl1 hs1; have HS_y3 : Hid (Sit w y3 y1.heap.size y2.heap.size (LaidN 2) [(y2.heap.size, 54, I64 (List.replicate 8 0))]) := hide (HS_y2.out.var hl1 (Nat.le_refl _) hbq); clear hbq hl1 hs1)
    | ((with_reducible refine at_slot 10 ?_); refine wpList_alloc_blk rfl 54 rfl _ (arr8_zero _) ?_; intro y4 hbq hl1 hs1; have HS_y4 : Hid (Sit w y4 y1.heap.size y2.heap.size (LaidN 2) [(y2.heap.size, 54, I64 (List.replicate 8 0)), (y3.heap.size, 54, I64 (List.replicate 8 0))]) := hide (HS_y3.out.var hl1 (Nat.le_refl _) hbq); clear hbq hl1 hs1))
  have HT0 := hide Two.zero
  have HC0 := hide cal_laid
  have HW0 := hide laid_plain.2.2.2
  go_loopw [11] (fun s11 wr => ∃ (i : Nat) (S : Bank) (f g : Nat → Nat → Sec) (M L : List Int), s11 = .int .i64 (i : Int) ∧ i ≤ 80 ∧ Hid (Cal S 0 f g) ∧ Hid (Two M f) ∧ Hid (Two L g) ∧ Hid (S.writes ≤ 2 * i) ∧ Hid (Sit w wr y1.heap.size y2.heap.size S [(y2.heap.size, 54, I64 M), (y3.heap.size, 54, I64 L)])) (fun s11 _ => 80 - (intOf s11).toNat)
  case atStart => exact ⟨0, _, _, _, _, _, rfl, by decide, HC0, HT0, HT0, hide (by rw [HW0.out]; decide), HS_y4⟩
  case round =>
    obtain ⟨i, S, f, g, M, L, rfl, hi80, HCL, HM, HL, HW, HS_z3⟩ := hrel
    obtain ⟨z3, rfl⟩ : ∃ z3, z3 = wr := ⟨_, rfl⟩
    by_cases h80 : (i : Int) < 80 ∧ (i : Int) < (n : Int)
    · obtain ⟨h80, hin⟩ := h80
      obtain ⟨ad, v, hA, hab, hv, hcell⟩ := (HR.out.below HS_z3.out.low).i64_at (k := i) (by omega)
      subst hA
      obtain ⟨k, hk, hk16⟩ := mask4 v
      have HLEN := hide HL.out.len
      by_cases hk7 : (7 : Int) < (k : Int)
      · have HF0 := hide (HCL.out.may (show 0 < 2 by decide))
        have HF1 := hide ((HCL.out.flush 0).may (show 1 < 2 by decide))
        have HCL2 := hide ((HCL.out.flush 0).flush 1)
        have HT2 := hide (HL.out.flushed (f := f))
        clear hv
        go_wp2_with (first
          | (go_at_call 26; (with_reducible refine (HS_y5.out.flush (di := 1) 1 rfl).mono ?_); rintro _ y6 ⟨rfl, hsq⟩; rw [HF1.out, if_pos rfl] at hsq; rw [HF1.out]; have HS_y6 : Hid (Sit w y6 y1.heap.size y2.heap.size (((S.flush 0).flush 1)) [(y2.heap.size, 54, I64 M), (y3.heap.size, 54, I64 L)]) := hide (hsq); clear hsq)
          | (go_at_call 26; (with_reducible refine (HS_z3.out.flush (di := 0) 0 rfl).mono ?_); rintro _ y5 ⟨rfl, hsq⟩; rw [HF0.out, if_pos rfl] at hsq; rw [HF0.out]; have HS_y5 : Hid (Sit w y5 y1.heap.size y2.heap.size (S.flush 0) [(y2.heap.size, 54, I64 M), (y3.heap.size, 54, I64 L)]) := hide (hsq); clear hsq)
          | ((with_reducible refine at_slot 57 ?_); refine when_own rfl (.tmp 10) rfl HS_y6.out.own 1 rfl rfl Try.underlying54 rfl (arr8_size HLEN.out) ?_)
          | ((with_reducible refine at_store 9 ?_); refine wpList_store_all rfl 54 (.tmp 9) (.tmp 57) rfl y2.heap.size 54 _ (HS_y6.out.own.blk 0 rfl) rfl (I64 L) rfl (arr8_size HLEN.out) (by rw [I64_length, HLEN.out, List.size_toArray, I64_length]; exact HM.out.len.symm) (i64_one _) ?_; intro y7 hbz hg hs; have HS_y7 : Hid (Sit w y7 y1.heap.size y2.heap.size (((S.flush 0).flush 1)) [(y2.heap.size, 54, I64 L), (y3.heap.size, 54, I64 L)]) := hide (HS_y6.out.poke 0 rfl hbz hg); clear hs hg hbz))
        go_roundw
        case rel => exact ⟨i + 1, _, _, g, L, L, by simp, by omega, HCL2, HT2, HL, hide (by show S.writes ≤ _; have := HW.out; omega), HS_y7⟩
        case measure => simp [intOf]; omega
      · have hk8 : k < 8 := by omega
        have hk8w : (k : Int) < 8 := by omega
        obtain ⟨a, ha⟩ : ∃ a, a = secOf ((i : Int) + 1) := ⟨_, rfl⟩
        have HA := hide (fun w => ha ▸ sector_any ((i : Int) + 1) w)
        have hw1 : IntKind.i64.wrap ((i : Int) + 1) = (i : Int) + 1 := IntWalk.i64_in _ (by omega)
        obtain ⟨he1, hl1, hw2⟩ := HCL.out.mwrite (k := k) (k' := k) (by omega) (by omega) a
        have hll := HL.out.put hk8 ((i : Int) + 1)
        rw [← ha] at hll
        obtain ⟨S1, hS1⟩ : ∃ S1, S1 = (S.mwrite 0 k 1 k a).2 := ⟨_, rfl⟩
        have HS1 := hide hS1
        rw [← hS1] at hl1 hw2
        have HL1 := hide hl1
        have HE1 := hide he1
        have HLL1 := hide hll
        have HW1 := hide (show S1.writes ≤ 2 * (i + 1) by have := HW.out; omega)
        clear hl1 he1 hw2 hll hS1 hv ha
        go_wp2_with (first
          | (go_at_call 23; (with_reducible refine (HA.out _).mono ?_); rintro _ y41 ⟨rfl, hlq⟩; have HS_y41 : Hid (Sit w y41 y1.heap.size y2.heap.size S [(y2.heap.size, 54, I64 M), (y3.heap.size, 54, I64 L)]) := hide (HS_z3.out.later hlq); clear hlq)
          | (go_at_call 22; (with_reducible refine (HS_y41.out.mwrite K (by have := HW.out; omega) (d := 0) (k := k) (d' := 1) (k' := k) rfl (nI_nat k) rfl (nI_nat k) a).mono ?_); rintro _ y42 ⟨rfl, hsq⟩; rw [← HS1.out] at hsq; rw [HE1.out]; have HS_y42 : Hid (Sit w y42 y1.heap.size y2.heap.size S1 [(y2.heap.size, 54, I64 M), (y3.heap.size, 54, I64 L)]) := hide (hsq); clear hsq)
          | ((with_reducible refine at_store 71 ?_); refine wpList_poke rfl 3 (.tmp 71) (.tmp 70) rfl y3.heap.size k 54 _ (HS_y42.out.own.blk 1 rfl) rfl (.int .i64 (((i : Int) + 1))) rfl rfl int_one1 (by rw [i64_size HLEN.out]; exact hk8) ?_; intro y43 hbz hg hs; rw [i64_set] at hbz; have HS_y43 : Hid (Sit w y43 y1.heap.size y2.heap.size S1 [(y2.heap.size, 54, I64 M), (y3.heap.size, 54, I64 (L.set k ((i : Int) + 1)))]) := hide (HS_y42.out.poke 1 rfl hbz hg); clear hs hg hbz))
        go_roundw
        case rel => exact ⟨i + 1, _, _, _, M, _, by simp, by omega, HL1, HM, HLL1, HW1, HS_y43⟩
        case measure => simp [intOf]; omega
    · have HAF : Hid (∃ c, Fel (S.crash mk) c ∧ AlkR M L c 0) := by
        obtain ⟨c, h1, h2⟩ := HCL.out.crash mk
        exact ⟨c, h1, AlkR.of HM.out HL.out HCL.out h2⟩
      obtain ⟨c, hF, hAR⟩ := HAF.out
      have HCS := hide hF.start
      have HAR := hide hAR
      have HLENM := hide HM.out.len
      have HLENL := hide HL.out.len
      have HWC := hide (show (S.crash mk).start.writes ≤ 160 by
        have h1 : (S.crash mk).writes = S.writes := crash_writes S mk
        show (S.crash mk).writes ≤ 160
        have := HW.out
        omega)
      clear hF hAR HAF HCL HM HL HW
      go_upto_region 7 with fail
      go_cut [39] (fun v39 wx => z3 = wx ∧ v39 = .bool false)
      case first =>
        by_cases hin : (i : Int) < (n : Int)
        · have h3 : ¬ ((i : Int) < 80) := fun h => h80 ⟨h, hin⟩
          go_wp2_with fail
          go_meet
          case rel => exact ⟨rfl, rfl⟩
        · go_wp2_with fail
          go_meet
          case rel => exact ⟨rfl, rfl⟩
      case rest =>
        obtain ⟨rfl, rfl⟩ := hcut
        go_wp2_with (first
          | (go_at_call 27; (with_reducible refine (HS_z3.out.crash mk hmk).mono ?_); rintro _ y61 ⟨rfl, hsq⟩; have HS_y61 : Hid (Sit w y61 y1.heap.size y2.heap.size (S.crash mk) [(y2.heap.size, 54, I64 M), (y3.heap.size, 54, I64 L)]) := hide (hsq); clear hsq)
          | (go_at_call 28; (with_reducible refine (HS_y61.out.start).mono ?_); rintro _ y62 ⟨rfl, hsq⟩; have HS_y62 : Hid (Sit w y62 y1.heap.size y2.heap.size ((S.crash mk).start) [(y2.heap.size, 54, I64 M), (y3.heap.size, 54, I64 L)]) := hide (hsq); clear hsq))
        obtain ⟨T, hT⟩ : ∃ T, T = (S.crash mk).start := ⟨_, rfl⟩
        rw [← hT] at HCS HWC HS_y62
        clear hT
        go_loopw [13] (fun s13 wr => ∃ (k : Nat) (S : Bank) (f g : Nat → Nat → Sec), s13 = .int .i64 (k : Int) ∧ k ≤ 8 ∧ Hid (Cal S 0 f g) ∧ Hid (AlkR M L g k) ∧ Hid (S.writes ≤ 160 + 2 * k) ∧ Hid (Sit w wr y1.heap.size y2.heap.size S [(y2.heap.size, 54, I64 M), (y3.heap.size, 54, I64 L)])) (fun s13 _ => 8 - (intOf s13).toNat)
        case atStart => exact ⟨0, T, _, _, rfl, by decide, HCS, HAR, HWC, HS_y62⟩
        case round =>
          obtain ⟨k, S, f, g, rfl, hk8, HCL, HAR, HW, HS_z5⟩ := hrel
          obtain ⟨z5, rfl⟩ : ∃ z5, z5 = wr := ⟨_, rfl⟩
          by_cases hkw : (k : Int) < 8
          · have hk8' : k < 8 := by omega
            go_upto_if 85 with (first
              | ((with_reducible refine at_slot 14 ?_); refine wpList_alloc_blk rfl 33 rfl _ (mplace_zero _) ?_; intro y81 hbq hl1 hs1; clear hs1)
              | ((with_reducible refine at_store 14 ?_); refine wpList_store_all rfl 33 (.tmp 14) (.tmp 82) rfl z5.heap.size 33 _ hbq rfl (plL (0) ((k : Int))) rfl mplace_info rfl (mplace_one _ _) ?_; intro y82 hbz hg hs; have HS_y82 : Hid (Sit w y82 y1.heap.size y2.heap.size S [(y2.heap.size, 54, I64 M), (y3.heap.size, 54, I64 L), (z5.heap.size, 33, plL (0) ((k : Int)))]) := hide (HS_z5.out.new hl1 hg hbz); clear hs hbq hl1 hg hbz)
              | ((with_reducible refine at_slot 15 ?_); refine wpList_alloc_blk rfl 33 rfl _ (mplace_zero _) ?_; intro y83 hbq hl1 hs1; clear hs1)
              | ((with_reducible refine at_store 15 ?_); refine wpList_store_all rfl 33 (.tmp 15) (.tmp 84) rfl y82.heap.size 33 _ hbq rfl (plL (1) ((k : Int))) rfl mplace_info rfl (mplace_one _ _) ?_; intro y84 hbz hg hs; have HS_y84 : Hid (Sit w y84 y1.heap.size y2.heap.size S [(y2.heap.size, 54, I64 M), (y3.heap.size, 54, I64 L), (z5.heap.size, 33, plL (0) ((k : Int))), (y82.heap.size, 33, plL (1) ((k : Int)))]) := hide (HS_y82.out.new hl1 hg hbz); clear hs hbq hl1 hg hbz))
            go_cut [] (fun wx => ∃ d d' : Nat, Hid (d < 2 ∧ d' < 2 ∧ d ≠ d') ∧ Hid (Sit w wx y1.heap.size y2.heap.size S [(y2.heap.size, 54, I64 M), (y3.heap.size, 54, I64 L), (z5.heap.size, 33, plL (d : Int) (k : Int)), (y82.heap.size, 33, plL (d' : Int) (k : Int))]))
            case first =>
              cases turned with
              | true =>
                go_wp2_with (first
                  | ((with_reducible refine at_slot 86 ?_); refine when_own rfl (.tmp 15) rfl HS_y84.out.own 3 rfl rfl Try.underlying33 rfl mplace_info ?_)
                  | ((with_reducible refine at_slot 87 ?_); refine when_own rfl (.tmp 14) rfl HS_y84.out.own 2 rfl rfl Try.underlying33 rfl mplace_info ?_)
                  | ((with_reducible refine at_store 14 ?_); refine wpList_store_all rfl 33 (.tmp 14) (.tmp 86) rfl z5.heap.size 33 _ (HS_y84.out.own.blk 2 rfl) rfl (plL 1 (k : Int)) rfl mplace_info rfl (mplace_one _ _) ?_; intro y85 hbz hg hs; have HS_y85 : Hid (Sit w y85 y1.heap.size y2.heap.size S [(y2.heap.size, 54, I64 M), (y3.heap.size, 54, I64 L), (z5.heap.size, 33, plL 1 (k : Int)), (y82.heap.size, 33, plL (1) ((k : Int)))]) := hide (HS_y84.out.poke 2 rfl hbz hg); clear hs hg hbz)
                  | ((with_reducible refine at_store 15 ?_); refine wpList_store_all rfl 33 (.tmp 15) (.tmp 87) rfl y82.heap.size 33 _ (HS_y85.out.own.blk 3 rfl) rfl (plL 0 (k : Int)) rfl mplace_info rfl (mplace_one _ _) ?_; intro y86 hbz hg hs; have HS_y86 : Hid (Sit w y86 y1.heap.size y2.heap.size S [(y2.heap.size, 54, I64 M), (y3.heap.size, 54, I64 L), (z5.heap.size, 33, plL 1 (k : Int)), (y82.heap.size, 33, plL 0 (k : Int))]) := hide (HS_y85.out.poke 3 rfl hbz hg); clear hs hg hbz))
                go_meet
                case rel => exact ⟨1, 0, hide (by decide), HS_y86⟩
              | false =>
                go_wp2_with fail
                go_meet
                case rel => exact ⟨0, 1, hide (by decide), HS_y84⟩
            case rest =>
              obtain ⟨d, d', HDD, HS_z6⟩ := hcut
              obtain ⟨z6, rfl⟩ : ∃ z6, z6 = wc := ⟨_, rfl⟩
              obtain ⟨hd, hd', hne⟩ := HDD.out
              obtain ⟨S2, S3, hC, hcal⟩ := alk_course HCL.out hd hd' hne hk8'
              have hnx := HAR.out.next d' (g d k) (g d k)
              obtain ⟨u, v, hu, hv, hsc⟩ := HAR.out k (Nat.le_refl _) hk8' d hd
              obtain ⟨u', v', hu', hv', htc⟩ := HAR.out k (Nat.le_refl _) hk8' d' hd'
              obtain rfl : u' = u := Option.some.inj (hu'.symm.trans hu)
              obtain rfl : v' = v := Option.some.inj (hv'.symm.trans hv)
              have HNX := hide (And.intro hcal hnx)
              clear hcal hnx hu' hv' HAR HCL HDD hd hd' hne
              obtain ⟨g3, hg3⟩ : ∃ g3, g3 = upd2 (upd2 g d' k (g d k)) d' k (g d k) := ⟨_, rfl⟩
              rw [← hg3] at HNX
              obtain ⟨s, hs⟩ : ∃ s, s = g d k := ⟨_, rfl⟩
              obtain ⟨t, ht⟩ : ∃ t, t = g d' k := ⟨_, rfl⟩
              rw [← hs] at hC hsc
              rw [← ht] at hC htc
              obtain ⟨a, ha⟩ : ∃ a, a = secOf u' := ⟨_, rfl⟩
              obtain ⟨b, hb⟩ : ∃ b, b = secOf v' := ⟨_, rfl⟩
              have HA := hide (fun w => ha ▸ sector_any u' w)
              have HB := hide (fun w => hb ▸ sector_any v' w)
              rw [← ha, ← hb] at hsc htc
              obtain ⟨β, hβ⟩ : ∃ β, (!decide (s = t)) = β := ⟨_, rfl⟩
              have HBE := hide hβ
              have HRX := hide hC.rx
              have HRY := hide hC.ry
              have HA1 := hide (show (S.malike d k d' k).1.1 = β ∧ (S.malike d k d' k).1.2 = 0 ∧ (S.malike d k d' k).2 = S2 from ⟨hC.a1.1.trans hβ, hC.a1.2⟩)
              have HA2 := hide hC.a2
              have HF2 := hide (show S2.writes ≤ 200 by have := hC.few2; have := HW.out; omega)
              have HF3 := hide (show S3.writes ≤ 160 + 2 * (k + 1) by have := hC.few3; have := HW.out; omega)
              have HFW := hide (show S.writes ≤ 200 by have := HW.out; omega)
              have HUX := hide hC.ux
              have HUY := hide hC.uy
              have HU := hide hu
              have HV := hide hv
              have HSC := hide hsc
              have HTC := hide htc
              clear hC hu hv hsc htc hs ht ha hb hβ hg3 HW
              go_upto_region 27 with (first
                | ((with_reducible refine at_slot 90 ?_); refine when_own rfl (.tmp 14) rfl HS_z6.out.own 2 rfl rfl Try.underlying33 rfl mplace_info ?_)
                | (go_at_call 17; (with_reducible refine (HS_z6.out.read (di := (d : Int)) (ki := (k : Int)) (d := d) (k := k) (nI_nat d) (nI_nat k)).mono ?_); rintro _ y101 ⟨rfl, hsq⟩; rw [HRX.out.1, HRX.out.2]; have HS_y101 : Hid (Sit w y101 y1.heap.size y2.heap.size S [(y2.heap.size, 54, I64 M), (y3.heap.size, 54, I64 L), (z5.heap.size, 33, plL (d : Int) (k : Int)), (y82.heap.size, 33, plL (d' : Int) (k : Int))]) := hide (hsq); clear hsq)
                | ((with_reducible refine at_slot 16 ?_); refine wpList_alloc_blk rfl 43 rfl _ (sec_zero _) ?_; intro y102 hbq hl1 hs1; clear hs1)
                | ((with_reducible refine at_store 16 ?_); refine wpList_store_all rfl 43 (.tmp 16) (.tmp 92) rfl y101.heap.size 43 _ hbq rfl (secL s) rfl (msec_size _) (msec_len _ _) (secL_one _) ?_; intro y103 hbz hg hs; have HS_y103 : Hid (Sit w y103 y1.heap.size y2.heap.size S [(y2.heap.size, 54, I64 M), (y3.heap.size, 54, I64 L), (z5.heap.size, 33, plL (d : Int) (k : Int)), (y82.heap.size, 33, plL (d' : Int) (k : Int)), (y101.heap.size, 43, secL s)]) := hide (HS_y101.out.new hl1 hg hbz); clear hs hbq hl1 hg hbz))
              go_upto_region 28 with (first
                | ((with_reducible refine at_slot 96 ?_); refine when_own rfl (.tmp 15) rfl HS_y103.out.own 3 rfl rfl Try.underlying33 rfl mplace_info ?_)
                | (go_at_call 17; (with_reducible refine (HS_y103.out.read (di := (d' : Int)) (ki := (k : Int)) (d := d') (k := k) (nI_nat d') (nI_nat k)).mono ?_); rintro _ y104 ⟨rfl, hsq⟩; rw [HRY.out.1, HRY.out.2]; have HS_y104 : Hid (Sit w y104 y1.heap.size y2.heap.size S [(y2.heap.size, 54, I64 M), (y3.heap.size, 54, I64 L), (z5.heap.size, 33, plL (d : Int) (k : Int)), (y82.heap.size, 33, plL (d' : Int) (k : Int)), (y101.heap.size, 43, secL s)]) := hide (hsq); clear hsq)
                | ((with_reducible refine at_slot 18 ?_); refine wpList_alloc_blk rfl 43 rfl _ (sec_zero _) ?_; intro y105 hbq hl1 hs1; clear hs1)
                | ((with_reducible refine at_store 18 ?_); refine wpList_store_all rfl 43 (.tmp 18) (.tmp 98) rfl y104.heap.size 43 _ hbq rfl (secL t) rfl (msec_size _) (msec_len _ _) (secL_one _) ?_; intro y106 hbz hg hs; have HS_y106 : Hid (Sit w y106 y1.heap.size y2.heap.size S [(y2.heap.size, 54, I64 M), (y3.heap.size, 54, I64 L), (z5.heap.size, 33, plL (d : Int) (k : Int)), (y82.heap.size, 33, plL (d' : Int) (k : Int)), (y101.heap.size, 43, secL s), (y104.heap.size, 43, secL t)]) := hide (HS_y104.out.new hl1 hg hbz); clear hs hbq hl1 hg hbz))
              go_cut [137] (fun v137 wx => v137 = .bool false ∧ Hid (Sit w wx y1.heap.size y2.heap.size S [(y2.heap.size, 54, I64 M), (y3.heap.size, 54, I64 L), (z5.heap.size, 33, plL (d : Int) (k : Int)), (y82.heap.size, 33, plL (d' : Int) (k : Int)), (y101.heap.size, 43, secL s), (y104.heap.size, 43, secL t)]))
              case first =>
                by_cases hsa : s = a
                · have HSA := hide hsa
                  clear hsa
                  by_cases hta : t = a
                  · have HTA := hide hta
                    clear hta
                    refine wp_region_held_drew (S := (fun W => OwnV W y2.heap.size [(y2.heap.size, 54, I64 M), (y3.heap.size, 54, I64 L), (z5.heap.size, 33, plL (d : Int) (k : Int)), (y82.heap.size, 33, plL (d' : Int) (k : Int)), (y101.heap.size, 43, secL s), (y104.heap.size, 43, secL t)])) (by kernel_rfl) ?_ (fun hHeld => ?_)
                    · exact HS_y106.out.drew.own
                    have HS_dy106 := hide (HS_y106.out.drew)
                    refine heldTake (i := 0) (v := ?_) rfl (by kernel_rfl) (by kernel_rfl) (by kernel_rfl) (fun _ _ _ h => h) (Or.inl ⟨by rfl, ?_⟩) (by assumption) ?_
                    rotate_left
                    · intro w hSw; (try dsimp only at hSw); go_simp <;> (with_reducible rfl)
                    try simp only [Act.put, List.setIfInBounds_toArray, List.set_cons_zero, List.set_cons_succ]
                    refine heldTake (i := 1) (v := ?_) rfl (by kernel_rfl) (by kernel_rfl) (by kernel_rfl) (fun _ _ _ h => h) (Or.inl ⟨by rfl, ?_⟩) (by assumption) ?_
                    rotate_left
                    · intro w hSw; (try dsimp only at hSw); go_simp <;> (with_reducible rfl)
                    try simp only [Act.put, List.setIfInBounds_toArray, List.set_cons_zero, List.set_cons_succ]
                    refine heldTake (i := 2) (v := ?_) rfl (by kernel_rfl) (by kernel_rfl) (by kernel_rfl) (fun _ _ _ h => h) (Or.inl ⟨by rfl, ?_⟩) (by assumption) ?_
                    rotate_left
                    · intro w hSw; (try dsimp only at hSw); go_simp <;> (with_reducible rfl)
                    try simp only [Act.put, List.setIfInBounds_toArray, List.set_cons_zero, List.set_cons_succ]
                    refine heldTake (i := 3) (v := ?_) rfl (by kernel_rfl) (by kernel_rfl) (by kernel_rfl) (fun _ _ _ h => h) (Or.inl ⟨by rfl, ?_⟩) (by assumption) ?_
                    rotate_left
                    · intro w hSw; (try dsimp only at hSw); go_simp <;> (with_reducible rfl)
                    try simp only [Act.put, List.setIfInBounds_toArray, List.set_cons_zero, List.set_cons_succ]
                    refine heldTake (i := 4) (v := ?_) rfl (by kernel_rfl) (by kernel_rfl) (by kernel_rfl) (fun _ _ _ h => h) (Or.inl ⟨by rfl, ?_⟩) (by assumption) ?_
                    rotate_left
                    · intro w hSw; (try dsimp only at hSw); go_simp <;> (with_reducible rfl)
                    try simp only [Act.put, List.setIfInBounds_toArray, List.set_cons_zero, List.set_cons_succ]
                    refine heldTake (i := 5) (v := ?_) rfl (by kernel_rfl) (by kernel_rfl) (by kernel_rfl) (fun _ _ _ h => h) (Or.inl ⟨by rfl, ?_⟩) (by assumption) ?_
                    rotate_left
                    · intro w hSw; (try dsimp only at hSw); go_simp <;> (with_reducible rfl)
                    try simp only [Act.put, List.setIfInBounds_toArray, List.set_cons_zero, List.set_cons_succ]
                    refine heldTake (i := 6) (v := ?_) rfl (by kernel_rfl) (by kernel_rfl) (by kernel_rfl) (fun _ _ _ h => h) (Or.inl ⟨by rfl, ?_⟩) (by assumption) ?_
                    rotate_left
                    · intro w hSw; (try dsimp only at hSw); go_simp <;> (with_reducible rfl)
                    try simp only [Act.put, List.setIfInBounds_toArray, List.set_cons_zero, List.set_cons_succ]
                    refine heldTake (i := 7) (v := .agg (secL s).toArray) rfl (by kernel_rfl) (by kernel_rfl) (by kernel_rfl) (fun _ _ _ h => h) (yieldsIf_load_mid (by rfl) _ _ rfl _ _ rfl (secL s) _ (fun W hW => hW.range 4 rfl) Try.underlying43 rfl (msec_size _)) (by assumption) ?_
                    try simp only [Act.put, List.setIfInBounds_toArray, List.set_cons_zero, List.set_cons_succ]
                    refine heldTake (i := 8) (v := ?_) rfl (by kernel_rfl) (by kernel_rfl) (by kernel_rfl) (fun _ _ _ h => h) (Or.inl ⟨by rfl, ?_⟩) (by assumption) ?_
                    rotate_left
                    · intro w hSw; (try dsimp only at hSw); go_simp <;> (with_reducible rfl)
                    try simp only [Act.put, List.setIfInBounds_toArray, List.set_cons_zero, List.set_cons_succ]
                    refine heldTake (i := 9) (v := ?_) rfl (by kernel_rfl) (by kernel_rfl) (by kernel_rfl) (fun _ _ _ h => h) (Or.inl ⟨by rfl, ?_⟩) (by assumption) ?_
                    rotate_left
                    · intro w hSw; (try dsimp only at hSw); go_simp <;> (with_reducible rfl)
                    try simp only [Act.put, List.setIfInBounds_toArray, List.set_cons_zero, List.set_cons_succ]
                    refine heldTake (i := 10) (v := .int .i64 (u')) rfl (by kernel_rfl) (by kernel_rfl) (by kernel_rfl) (fun _ _ _ h => h) (Or.inl ⟨by rfl, fun W hW => ?_⟩) (by assumption) ?_
                    · have hc : W.cell? ⟨y2.heap.size, k, none⟩ = some (.int .i64 (u')) := ((hW.blk 0 rfl).cell _).trans (i64_cell HU.out)
                      go_simp <;> rfl
                    try simp only [Act.put, List.setIfInBounds_toArray, List.set_cons_zero, List.set_cons_succ]
                    refine wpAnyH_ready (rs := [11]) (by kernel_rfl) (by simp) ?_
                    refine heldCons (i := 11) rfl (fun Kq hKq => ?_) AllReadyH.nil
                    go_simp
                    go_at_call 23
                    (with_reducible refine (HA.out _).mono ?_)
                    rintro _ y107 ⟨rfl, hlq⟩
                    have HS_y107 : Hid (Sit w y107 y1.heap.size y2.heap.size S [(y2.heap.size, 54, I64 M), (y3.heap.size, 54, I64 L), (z5.heap.size, 33, plL (d : Int) (k : Int)), (y82.heap.size, 33, plL (d' : Int) (k : Int)), (y101.heap.size, 43, secL s), (y104.heap.size, 43, secL t)]) := hide (HS_dy106.out.later hlq)
                    clear hlq
                    first | (refine hKq.out _ _ HS_y107.out.own (fun hHeld => ?_)) | (go_wp2_with fail; refine hKq.out _ _ HS_y107.out.own (fun hHeld => ?_))
                    clear hKq Kq
                    try simp only [Act.put, List.setIfInBounds_toArray, List.set_cons_zero, List.set_cons_succ]
                    refine heldTake (i := 12) (v := .bool false) rfl (by kernel_rfl) (by kernel_rfl) (by kernel_rfl) (fun _ _ _ h => h) (Or.inl ⟨by rfl, fun W hW => run_neS W _ (.tmp 107) (.tmp 111) _ rfl s a rfl rfl false (by simp [HSA.out])⟩) (by assumption) ?_
                    try simp only [Act.put, List.setIfInBounds_toArray, List.set_cons_zero, List.set_cons_succ]
                    refine heldTake (i := 13) (v := ?_) rfl (by kernel_rfl) (by kernel_rfl) (by kernel_rfl) (fun _ _ _ h => h) (Or.inl ⟨by rfl, ?_⟩) (by assumption) ?_
                    rotate_left
                    · intro w hSw; (try dsimp only at hSw); go_simp <;> (with_reducible rfl)
                    try simp only [Act.put, List.setIfInBounds_toArray, List.set_cons_zero, List.set_cons_succ]
                    refine heldTake (i := 14) (v := undef) rfl (by kernel_rfl) (by kernel_rfl) (by kernel_rfl) (fun _ _ _ h => h) (Or.inr ⟨by rfl, rfl⟩) (by assumption) ?_
                    try simp only [Act.put, List.setIfInBounds_toArray, List.set_cons_zero, List.set_cons_succ]
                    refine heldTake (i := 15) (v := undef) rfl (by kernel_rfl) (by kernel_rfl) (by kernel_rfl) (fun _ _ _ h => h) (Or.inr ⟨by rfl, rfl⟩) (by assumption) ?_
                    try simp only [Act.put, List.setIfInBounds_toArray, List.set_cons_zero, List.set_cons_succ]
                    refine heldTake (i := 16) (v := undef) rfl (by kernel_rfl) (by kernel_rfl) (by kernel_rfl) (fun _ _ _ h => h) (Or.inr ⟨by rfl, rfl⟩) (by assumption) ?_
                    try simp only [Act.put, List.setIfInBounds_toArray, List.set_cons_zero, List.set_cons_succ]
                    refine heldTake (i := 17) (v := undef) rfl (by kernel_rfl) (by kernel_rfl) (by kernel_rfl) (fun _ _ _ h => h) (Or.inr ⟨by rfl, rfl⟩) (by assumption) ?_
                    try simp only [Act.put, List.setIfInBounds_toArray, List.set_cons_zero, List.set_cons_succ]
                    refine heldTake (i := 18) (v := undef) rfl (by kernel_rfl) (by kernel_rfl) (by kernel_rfl) (fun _ _ _ h => h) (Or.inr ⟨by rfl, rfl⟩) (by assumption) ?_
                    try simp only [Act.put, List.setIfInBounds_toArray, List.set_cons_zero, List.set_cons_succ]
                    refine heldTake (i := 19) (v := undef) rfl (by kernel_rfl) (by kernel_rfl) (by kernel_rfl) (fun _ _ _ h => h) (Or.inr ⟨by rfl, rfl⟩) (by assumption) ?_
                    try simp only [Act.put, List.setIfInBounds_toArray, List.set_cons_zero, List.set_cons_succ]
                    refine heldTake (i := 20) (v := ?_) rfl (by kernel_rfl) (by kernel_rfl) (by kernel_rfl) (fun _ _ _ h => h) (Or.inl ⟨by rfl, ?_⟩) (by assumption) ?_
                    rotate_left
                    · intro w hSw; (try dsimp only at hSw); go_simp <;> (with_reducible rfl)
                    try simp only [Act.put, List.setIfInBounds_toArray, List.set_cons_zero, List.set_cons_succ]
                    refine heldTake (i := 21) (v := ?_) rfl (by kernel_rfl) (by kernel_rfl) (by kernel_rfl) (fun _ _ _ h => h) (Or.inl ⟨by rfl, ?_⟩) (by assumption) ?_
                    rotate_left
                    · intro w hSw; (try dsimp only at hSw); go_simp <;> (with_reducible rfl)
                    try simp only [Act.put, List.setIfInBounds_toArray, List.set_cons_zero, List.set_cons_succ]
                    refine heldTake (i := 22) (v := ?_) rfl (by kernel_rfl) (by kernel_rfl) (by kernel_rfl) (fun _ _ _ h => h) (Or.inl ⟨by rfl, ?_⟩) (by assumption) ?_
                    rotate_left
                    · intro w hSw; (try dsimp only at hSw); go_simp <;> (with_reducible rfl)
                    try simp only [Act.put, List.setIfInBounds_toArray, List.set_cons_zero, List.set_cons_succ]
                    refine heldTake (i := 23) (v := .agg (secL t).toArray) rfl (by kernel_rfl) (by kernel_rfl) (by kernel_rfl) (fun _ _ _ h => h) (yieldsIf_load_mid (by rfl) _ _ rfl _ _ rfl (secL t) _ (fun W hW => hW.range 5 rfl) Try.underlying43 rfl (msec_size _)) (by assumption) ?_
                    try simp only [Act.put, List.setIfInBounds_toArray, List.set_cons_zero, List.set_cons_succ]
                    refine heldTake (i := 24) (v := ?_) rfl (by kernel_rfl) (by kernel_rfl) (by kernel_rfl) (fun _ _ _ h => h) (Or.inl ⟨by rfl, ?_⟩) (by assumption) ?_
                    rotate_left
                    · intro w hSw; (try dsimp only at hSw); go_simp <;> (with_reducible rfl)
                    try simp only [Act.put, List.setIfInBounds_toArray, List.set_cons_zero, List.set_cons_succ]
                    refine heldTake (i := 25) (v := ?_) rfl (by kernel_rfl) (by kernel_rfl) (by kernel_rfl) (fun _ _ _ h => h) (Or.inl ⟨by rfl, ?_⟩) (by assumption) ?_
                    rotate_left
                    · intro w hSw; (try dsimp only at hSw); go_simp <;> (with_reducible rfl)
                    try simp only [Act.put, List.setIfInBounds_toArray, List.set_cons_zero, List.set_cons_succ]
                    refine heldTake (i := 26) (v := .int .i64 (u')) rfl (by kernel_rfl) (by kernel_rfl) (by kernel_rfl) (fun _ _ _ h => h) (Or.inl ⟨by rfl, fun W hW => ?_⟩) (by assumption) ?_
                    · have hc : W.cell? ⟨y2.heap.size, k, none⟩ = some (.int .i64 (u')) := ((hW.blk 0 rfl).cell _).trans (i64_cell HU.out)
                      go_simp <;> rfl
                    try simp only [Act.put, List.setIfInBounds_toArray, List.set_cons_zero, List.set_cons_succ]
                    refine wpAnyH_ready (rs := [27]) (by kernel_rfl) (by simp) ?_
                    refine heldCons (i := 27) rfl (fun Kq hKq => ?_) AllReadyH.nil
                    go_simp
                    go_at_call 23
                    (with_reducible refine (HA.out _).mono ?_)
                    rintro _ y108 ⟨rfl, hlq⟩
                    have HS_y108 : Hid (Sit w y108 y1.heap.size y2.heap.size S [(y2.heap.size, 54, I64 M), (y3.heap.size, 54, I64 L), (z5.heap.size, 33, plL (d : Int) (k : Int)), (y82.heap.size, 33, plL (d' : Int) (k : Int)), (y101.heap.size, 43, secL s), (y104.heap.size, 43, secL t)]) := hide (HS_y107.out.later hlq)
                    clear hlq
                    first | (refine hKq.out _ _ HS_y108.out.own (fun hHeld => ?_)) | (go_wp2_with fail; refine hKq.out _ _ HS_y108.out.own (fun hHeld => ?_))
                    clear hKq Kq
                    try simp only [Act.put, List.setIfInBounds_toArray, List.set_cons_zero, List.set_cons_succ]
                    refine heldTake (i := 28) (v := .bool false) rfl (by kernel_rfl) (by kernel_rfl) (by kernel_rfl) (fun _ _ _ h => h) (Or.inl ⟨by rfl, fun W hW => run_neS W _ (.tmp 123) (.tmp 127) _ rfl t a rfl rfl false (by simp [HTA.out])⟩) (by assumption) ?_
                    try simp only [Act.put, List.setIfInBounds_toArray, List.set_cons_zero, List.set_cons_succ]
                    refine heldTake (i := 29) (v := ?_) rfl (by kernel_rfl) (by kernel_rfl) (by kernel_rfl) (fun _ _ _ h => h) (Or.inl ⟨by rfl, ?_⟩) (by assumption) ?_
                    rotate_left
                    · intro w hSw; (try dsimp only at hSw); go_simp <;> (with_reducible rfl)
                    try simp only [Act.put, List.setIfInBounds_toArray, List.set_cons_zero, List.set_cons_succ]
                    refine heldTake (i := 30) (v := undef) rfl (by kernel_rfl) (by kernel_rfl) (by kernel_rfl) (fun _ _ _ h => h) (Or.inr ⟨by rfl, rfl⟩) (by assumption) ?_
                    try simp only [Act.put, List.setIfInBounds_toArray, List.set_cons_zero, List.set_cons_succ]
                    refine heldTake (i := 31) (v := undef) rfl (by kernel_rfl) (by kernel_rfl) (by kernel_rfl) (fun _ _ _ h => h) (Or.inr ⟨by rfl, rfl⟩) (by assumption) ?_
                    try simp only [Act.put, List.setIfInBounds_toArray, List.set_cons_zero, List.set_cons_succ]
                    refine heldTake (i := 32) (v := undef) rfl (by kernel_rfl) (by kernel_rfl) (by kernel_rfl) (fun _ _ _ h => h) (Or.inr ⟨by rfl, rfl⟩) (by assumption) ?_
                    try simp only [Act.put, List.setIfInBounds_toArray, List.set_cons_zero, List.set_cons_succ]
                    refine heldTake (i := 33) (v := undef) rfl (by kernel_rfl) (by kernel_rfl) (by kernel_rfl) (fun _ _ _ h => h) (Or.inr ⟨by rfl, rfl⟩) (by assumption) ?_
                    try simp only [Act.put, List.setIfInBounds_toArray, List.set_cons_zero, List.set_cons_succ]
                    refine heldTake (i := 34) (v := undef) rfl (by kernel_rfl) (by kernel_rfl) (by kernel_rfl) (fun _ _ _ h => h) (Or.inr ⟨by rfl, rfl⟩) (by assumption) ?_
                    try simp only [Act.put, List.setIfInBounds_toArray, List.set_cons_zero, List.set_cons_succ]
                    refine heldTake (i := 35) (v := undef) rfl (by kernel_rfl) (by kernel_rfl) (by kernel_rfl) (fun _ _ _ h => h) (Or.inr ⟨by rfl, rfl⟩) (by assumption) ?_
                    try simp only [Act.put, List.setIfInBounds_toArray, List.set_cons_zero, List.set_cons_succ]
                    refine heldTake (i := 36) (v := ?_) rfl (by kernel_rfl) (by kernel_rfl) (by kernel_rfl) (fun _ _ _ h => h) (Or.inl ⟨by rfl, ?_⟩) (by assumption) ?_
                    rotate_left
                    · intro w hSw; (try dsimp only at hSw); go_simp <;> (with_reducible rfl)
                    try simp only [Act.put, List.setIfInBounds_toArray, List.set_cons_zero, List.set_cons_succ]
                    refine heldTake (i := 37) (v := ?_) rfl (by kernel_rfl) (by kernel_rfl) (by kernel_rfl) (fun _ _ _ h => h) (Or.inl ⟨by rfl, ?_⟩) (by assumption) ?_
                    rotate_left
                    · intro w hSw; (try dsimp only at hSw); go_simp <;> (with_reducible rfl)
                    try simp only [Act.put, List.setIfInBounds_toArray, List.set_cons_zero, List.set_cons_succ]
                    refine wpAnyH_done (by kernel_rfl) ?_ _
                    go_wp2_with fail
                    go_meet
                    case rel => exact ⟨rfl, HS_y108⟩
                  · have HTB := hide (HTC.out.resolve_left hta)
                    have HTA := hide hta
                    clear hta
                    refine wp_region_held_drew (S := (fun W => OwnV W y2.heap.size [(y2.heap.size, 54, I64 M), (y3.heap.size, 54, I64 L), (z5.heap.size, 33, plL (d : Int) (k : Int)), (y82.heap.size, 33, plL (d' : Int) (k : Int)), (y101.heap.size, 43, secL s), (y104.heap.size, 43, secL t)])) (by kernel_rfl) ?_ (fun hHeld => ?_)
                    · exact HS_y106.out.drew.own
                    have HS_dy106 := hide (HS_y106.out.drew)
                    refine heldTake (i := 0) (v := ?_) rfl (by kernel_rfl) (by kernel_rfl) (by kernel_rfl) (fun _ _ _ h => h) (Or.inl ⟨by rfl, ?_⟩) (by assumption) ?_
                    rotate_left
                    · intro w hSw; (try dsimp only at hSw); go_simp <;> (with_reducible rfl)
                    try simp only [Act.put, List.setIfInBounds_toArray, List.set_cons_zero, List.set_cons_succ]
                    refine heldTake (i := 1) (v := ?_) rfl (by kernel_rfl) (by kernel_rfl) (by kernel_rfl) (fun _ _ _ h => h) (Or.inl ⟨by rfl, ?_⟩) (by assumption) ?_
                    rotate_left
                    · intro w hSw; (try dsimp only at hSw); go_simp <;> (with_reducible rfl)
                    try simp only [Act.put, List.setIfInBounds_toArray, List.set_cons_zero, List.set_cons_succ]
                    refine heldTake (i := 2) (v := ?_) rfl (by kernel_rfl) (by kernel_rfl) (by kernel_rfl) (fun _ _ _ h => h) (Or.inl ⟨by rfl, ?_⟩) (by assumption) ?_
                    rotate_left
                    · intro w hSw; (try dsimp only at hSw); go_simp <;> (with_reducible rfl)
                    try simp only [Act.put, List.setIfInBounds_toArray, List.set_cons_zero, List.set_cons_succ]
                    refine heldTake (i := 3) (v := ?_) rfl (by kernel_rfl) (by kernel_rfl) (by kernel_rfl) (fun _ _ _ h => h) (Or.inl ⟨by rfl, ?_⟩) (by assumption) ?_
                    rotate_left
                    · intro w hSw; (try dsimp only at hSw); go_simp <;> (with_reducible rfl)
                    try simp only [Act.put, List.setIfInBounds_toArray, List.set_cons_zero, List.set_cons_succ]
                    refine heldTake (i := 4) (v := ?_) rfl (by kernel_rfl) (by kernel_rfl) (by kernel_rfl) (fun _ _ _ h => h) (Or.inl ⟨by rfl, ?_⟩) (by assumption) ?_
                    rotate_left
                    · intro w hSw; (try dsimp only at hSw); go_simp <;> (with_reducible rfl)
                    try simp only [Act.put, List.setIfInBounds_toArray, List.set_cons_zero, List.set_cons_succ]
                    refine heldTake (i := 5) (v := ?_) rfl (by kernel_rfl) (by kernel_rfl) (by kernel_rfl) (fun _ _ _ h => h) (Or.inl ⟨by rfl, ?_⟩) (by assumption) ?_
                    rotate_left
                    · intro w hSw; (try dsimp only at hSw); go_simp <;> (with_reducible rfl)
                    try simp only [Act.put, List.setIfInBounds_toArray, List.set_cons_zero, List.set_cons_succ]
                    refine heldTake (i := 6) (v := ?_) rfl (by kernel_rfl) (by kernel_rfl) (by kernel_rfl) (fun _ _ _ h => h) (Or.inl ⟨by rfl, ?_⟩) (by assumption) ?_
                    rotate_left
                    · intro w hSw; (try dsimp only at hSw); go_simp <;> (with_reducible rfl)
                    try simp only [Act.put, List.setIfInBounds_toArray, List.set_cons_zero, List.set_cons_succ]
                    refine heldTake (i := 7) (v := .agg (secL s).toArray) rfl (by kernel_rfl) (by kernel_rfl) (by kernel_rfl) (fun _ _ _ h => h) (yieldsIf_load_mid (by rfl) _ _ rfl _ _ rfl (secL s) _ (fun W hW => hW.range 4 rfl) Try.underlying43 rfl (msec_size _)) (by assumption) ?_
                    try simp only [Act.put, List.setIfInBounds_toArray, List.set_cons_zero, List.set_cons_succ]
                    refine heldTake (i := 8) (v := ?_) rfl (by kernel_rfl) (by kernel_rfl) (by kernel_rfl) (fun _ _ _ h => h) (Or.inl ⟨by rfl, ?_⟩) (by assumption) ?_
                    rotate_left
                    · intro w hSw; (try dsimp only at hSw); go_simp <;> (with_reducible rfl)
                    try simp only [Act.put, List.setIfInBounds_toArray, List.set_cons_zero, List.set_cons_succ]
                    refine heldTake (i := 9) (v := ?_) rfl (by kernel_rfl) (by kernel_rfl) (by kernel_rfl) (fun _ _ _ h => h) (Or.inl ⟨by rfl, ?_⟩) (by assumption) ?_
                    rotate_left
                    · intro w hSw; (try dsimp only at hSw); go_simp <;> (with_reducible rfl)
                    try simp only [Act.put, List.setIfInBounds_toArray, List.set_cons_zero, List.set_cons_succ]
                    refine heldTake (i := 10) (v := .int .i64 (u')) rfl (by kernel_rfl) (by kernel_rfl) (by kernel_rfl) (fun _ _ _ h => h) (Or.inl ⟨by rfl, fun W hW => ?_⟩) (by assumption) ?_
                    · have hc : W.cell? ⟨y2.heap.size, k, none⟩ = some (.int .i64 (u')) := ((hW.blk 0 rfl).cell _).trans (i64_cell HU.out)
                      go_simp <;> rfl
                    try simp only [Act.put, List.setIfInBounds_toArray, List.set_cons_zero, List.set_cons_succ]
                    refine wpAnyH_ready (rs := [11]) (by kernel_rfl) (by simp) ?_
                    refine heldCons (i := 11) rfl (fun Kq hKq => ?_) AllReadyH.nil
                    go_simp
                    go_at_call 23
                    (with_reducible refine (HA.out _).mono ?_)
                    rintro _ y107 ⟨rfl, hlq⟩
                    have HS_y107 : Hid (Sit w y107 y1.heap.size y2.heap.size S [(y2.heap.size, 54, I64 M), (y3.heap.size, 54, I64 L), (z5.heap.size, 33, plL (d : Int) (k : Int)), (y82.heap.size, 33, plL (d' : Int) (k : Int)), (y101.heap.size, 43, secL s), (y104.heap.size, 43, secL t)]) := hide (HS_dy106.out.later hlq)
                    clear hlq
                    first | (refine hKq.out _ _ HS_y107.out.own (fun hHeld => ?_)) | (go_wp2_with fail; refine hKq.out _ _ HS_y107.out.own (fun hHeld => ?_))
                    clear hKq Kq
                    try simp only [Act.put, List.setIfInBounds_toArray, List.set_cons_zero, List.set_cons_succ]
                    refine heldTake (i := 12) (v := .bool false) rfl (by kernel_rfl) (by kernel_rfl) (by kernel_rfl) (fun _ _ _ h => h) (Or.inl ⟨by rfl, fun W hW => run_neS W _ (.tmp 107) (.tmp 111) _ rfl s a rfl rfl false (by simp [HSA.out])⟩) (by assumption) ?_
                    try simp only [Act.put, List.setIfInBounds_toArray, List.set_cons_zero, List.set_cons_succ]
                    refine heldTake (i := 13) (v := ?_) rfl (by kernel_rfl) (by kernel_rfl) (by kernel_rfl) (fun _ _ _ h => h) (Or.inl ⟨by rfl, ?_⟩) (by assumption) ?_
                    rotate_left
                    · intro w hSw; (try dsimp only at hSw); go_simp <;> (with_reducible rfl)
                    try simp only [Act.put, List.setIfInBounds_toArray, List.set_cons_zero, List.set_cons_succ]
                    refine heldTake (i := 14) (v := undef) rfl (by kernel_rfl) (by kernel_rfl) (by kernel_rfl) (fun _ _ _ h => h) (Or.inr ⟨by rfl, rfl⟩) (by assumption) ?_
                    try simp only [Act.put, List.setIfInBounds_toArray, List.set_cons_zero, List.set_cons_succ]
                    refine heldTake (i := 15) (v := undef) rfl (by kernel_rfl) (by kernel_rfl) (by kernel_rfl) (fun _ _ _ h => h) (Or.inr ⟨by rfl, rfl⟩) (by assumption) ?_
                    try simp only [Act.put, List.setIfInBounds_toArray, List.set_cons_zero, List.set_cons_succ]
                    refine heldTake (i := 16) (v := undef) rfl (by kernel_rfl) (by kernel_rfl) (by kernel_rfl) (fun _ _ _ h => h) (Or.inr ⟨by rfl, rfl⟩) (by assumption) ?_
                    try simp only [Act.put, List.setIfInBounds_toArray, List.set_cons_zero, List.set_cons_succ]
                    refine heldTake (i := 17) (v := undef) rfl (by kernel_rfl) (by kernel_rfl) (by kernel_rfl) (fun _ _ _ h => h) (Or.inr ⟨by rfl, rfl⟩) (by assumption) ?_
                    try simp only [Act.put, List.setIfInBounds_toArray, List.set_cons_zero, List.set_cons_succ]
                    refine heldTake (i := 18) (v := undef) rfl (by kernel_rfl) (by kernel_rfl) (by kernel_rfl) (fun _ _ _ h => h) (Or.inr ⟨by rfl, rfl⟩) (by assumption) ?_
                    try simp only [Act.put, List.setIfInBounds_toArray, List.set_cons_zero, List.set_cons_succ]
                    refine heldTake (i := 19) (v := undef) rfl (by kernel_rfl) (by kernel_rfl) (by kernel_rfl) (fun _ _ _ h => h) (Or.inr ⟨by rfl, rfl⟩) (by assumption) ?_
                    try simp only [Act.put, List.setIfInBounds_toArray, List.set_cons_zero, List.set_cons_succ]
                    refine heldTake (i := 20) (v := ?_) rfl (by kernel_rfl) (by kernel_rfl) (by kernel_rfl) (fun _ _ _ h => h) (Or.inl ⟨by rfl, ?_⟩) (by assumption) ?_
                    rotate_left
                    · intro w hSw; (try dsimp only at hSw); go_simp <;> (with_reducible rfl)
                    try simp only [Act.put, List.setIfInBounds_toArray, List.set_cons_zero, List.set_cons_succ]
                    refine heldTake (i := 21) (v := ?_) rfl (by kernel_rfl) (by kernel_rfl) (by kernel_rfl) (fun _ _ _ h => h) (Or.inl ⟨by rfl, ?_⟩) (by assumption) ?_
                    rotate_left
                    · intro w hSw; (try dsimp only at hSw); go_simp <;> (with_reducible rfl)
                    try simp only [Act.put, List.setIfInBounds_toArray, List.set_cons_zero, List.set_cons_succ]
                    refine heldTake (i := 22) (v := ?_) rfl (by kernel_rfl) (by kernel_rfl) (by kernel_rfl) (fun _ _ _ h => h) (Or.inl ⟨by rfl, ?_⟩) (by assumption) ?_
                    rotate_left
                    · intro w hSw; (try dsimp only at hSw); go_simp <;> (with_reducible rfl)
                    try simp only [Act.put, List.setIfInBounds_toArray, List.set_cons_zero, List.set_cons_succ]
                    refine heldTake (i := 23) (v := .agg (secL t).toArray) rfl (by kernel_rfl) (by kernel_rfl) (by kernel_rfl) (fun _ _ _ h => h) (yieldsIf_load_mid (by rfl) _ _ rfl _ _ rfl (secL t) _ (fun W hW => hW.range 5 rfl) Try.underlying43 rfl (msec_size _)) (by assumption) ?_
                    try simp only [Act.put, List.setIfInBounds_toArray, List.set_cons_zero, List.set_cons_succ]
                    refine heldTake (i := 24) (v := ?_) rfl (by kernel_rfl) (by kernel_rfl) (by kernel_rfl) (fun _ _ _ h => h) (Or.inl ⟨by rfl, ?_⟩) (by assumption) ?_
                    rotate_left
                    · intro w hSw; (try dsimp only at hSw); go_simp <;> (with_reducible rfl)
                    try simp only [Act.put, List.setIfInBounds_toArray, List.set_cons_zero, List.set_cons_succ]
                    refine heldTake (i := 25) (v := ?_) rfl (by kernel_rfl) (by kernel_rfl) (by kernel_rfl) (fun _ _ _ h => h) (Or.inl ⟨by rfl, ?_⟩) (by assumption) ?_
                    rotate_left
                    · intro w hSw; (try dsimp only at hSw); go_simp <;> (with_reducible rfl)
                    try simp only [Act.put, List.setIfInBounds_toArray, List.set_cons_zero, List.set_cons_succ]
                    refine heldTake (i := 26) (v := .int .i64 (u')) rfl (by kernel_rfl) (by kernel_rfl) (by kernel_rfl) (fun _ _ _ h => h) (Or.inl ⟨by rfl, fun W hW => ?_⟩) (by assumption) ?_
                    · have hc : W.cell? ⟨y2.heap.size, k, none⟩ = some (.int .i64 (u')) := ((hW.blk 0 rfl).cell _).trans (i64_cell HU.out)
                      go_simp <;> rfl
                    try simp only [Act.put, List.setIfInBounds_toArray, List.set_cons_zero, List.set_cons_succ]
                    refine wpAnyH_ready (rs := [27]) (by kernel_rfl) (by simp) ?_
                    refine heldCons (i := 27) rfl (fun Kq hKq => ?_) AllReadyH.nil
                    go_simp
                    go_at_call 23
                    (with_reducible refine (HA.out _).mono ?_)
                    rintro _ y108 ⟨rfl, hlq⟩
                    have HS_y108 : Hid (Sit w y108 y1.heap.size y2.heap.size S [(y2.heap.size, 54, I64 M), (y3.heap.size, 54, I64 L), (z5.heap.size, 33, plL (d : Int) (k : Int)), (y82.heap.size, 33, plL (d' : Int) (k : Int)), (y101.heap.size, 43, secL s), (y104.heap.size, 43, secL t)]) := hide (HS_y107.out.later hlq)
                    clear hlq
                    first | (refine hKq.out _ _ HS_y108.out.own (fun hHeld => ?_)) | (go_wp2_with fail; refine hKq.out _ _ HS_y108.out.own (fun hHeld => ?_))
                    clear hKq Kq
                    try simp only [Act.put, List.setIfInBounds_toArray, List.set_cons_zero, List.set_cons_succ]
                    refine heldTake (i := 28) (v := .bool true) rfl (by kernel_rfl) (by kernel_rfl) (by kernel_rfl) (fun _ _ _ h => h) (Or.inl ⟨by rfl, fun W hW => run_neS W _ (.tmp 123) (.tmp 127) _ rfl t a rfl rfl true (by simp [HTA.out])⟩) (by assumption) ?_
                    try simp only [Act.put, List.setIfInBounds_toArray, List.set_cons_zero, List.set_cons_succ]
                    refine heldTake (i := 29) (v := ?_) rfl (by kernel_rfl) (by kernel_rfl) (by kernel_rfl) (fun _ _ _ h => h) (Or.inl ⟨by rfl, ?_⟩) (by assumption) ?_
                    rotate_left
                    · intro w hSw; (try dsimp only at hSw); go_simp <;> (with_reducible rfl)
                    try simp only [Act.put, List.setIfInBounds_toArray, List.set_cons_zero, List.set_cons_succ]
                    refine heldTake (i := 30) (v := .agg (secL t).toArray) rfl (by kernel_rfl) (by kernel_rfl) (by kernel_rfl) (fun _ _ _ h => h) (yieldsIf_load_mid (by rfl) _ _ rfl _ _ rfl (secL t) _ (fun W hW => hW.range 5 rfl) Try.underlying43 rfl (msec_size _)) (by assumption) ?_
                    try simp only [Act.put, List.setIfInBounds_toArray, List.set_cons_zero, List.set_cons_succ]
                    refine heldTake (i := 31) (v := ?_) rfl (by kernel_rfl) (by kernel_rfl) (by kernel_rfl) (fun _ _ _ h => h) (Or.inl ⟨by rfl, ?_⟩) (by assumption) ?_
                    rotate_left
                    · intro w hSw; (try dsimp only at hSw); go_simp <;> (with_reducible rfl)
                    try simp only [Act.put, List.setIfInBounds_toArray, List.set_cons_zero, List.set_cons_succ]
                    refine heldTake (i := 32) (v := ?_) rfl (by kernel_rfl) (by kernel_rfl) (by kernel_rfl) (fun _ _ _ h => h) (Or.inl ⟨by rfl, ?_⟩) (by assumption) ?_
                    rotate_left
                    · intro w hSw; (try dsimp only at hSw); go_simp <;> (with_reducible rfl)
                    try simp only [Act.put, List.setIfInBounds_toArray, List.set_cons_zero, List.set_cons_succ]
                    refine heldTake (i := 33) (v := .int .i64 (v')) rfl (by kernel_rfl) (by kernel_rfl) (by kernel_rfl) (fun _ _ _ h => h) (Or.inl ⟨by rfl, fun W hW => ?_⟩) (by assumption) ?_
                    · have hc : W.cell? ⟨y3.heap.size, k, none⟩ = some (.int .i64 (v')) := ((hW.blk 1 rfl).cell _).trans (i64_cell HV.out)
                      go_simp <;> rfl
                    try simp only [Act.put, List.setIfInBounds_toArray, List.set_cons_zero, List.set_cons_succ]
                    refine wpAnyH_ready (rs := [34]) (by kernel_rfl) (by simp) ?_
                    refine heldCons (i := 34) rfl (fun Kq hKq => ?_) AllReadyH.nil
                    go_simp
                    go_at_call 23
                    (with_reducible refine (HB.out _).mono ?_)
                    rintro _ y109 ⟨rfl, hlq⟩
                    have HS_y109 : Hid (Sit w y109 y1.heap.size y2.heap.size S [(y2.heap.size, 54, I64 M), (y3.heap.size, 54, I64 L), (z5.heap.size, 33, plL (d : Int) (k : Int)), (y82.heap.size, 33, plL (d' : Int) (k : Int)), (y101.heap.size, 43, secL s), (y104.heap.size, 43, secL t)]) := hide (HS_y108.out.later hlq)
                    clear hlq
                    first | (refine hKq.out _ _ HS_y109.out.own (fun hHeld => ?_)) | (go_wp2_with fail; refine hKq.out _ _ HS_y109.out.own (fun hHeld => ?_))
                    clear hKq Kq
                    try simp only [Act.put, List.setIfInBounds_toArray, List.set_cons_zero, List.set_cons_succ]
                    refine heldTake (i := 35) (v := .bool false) rfl (by kernel_rfl) (by kernel_rfl) (by kernel_rfl) (fun _ _ _ h => h) (Or.inl ⟨by rfl, fun W hW => run_neS W _ (.tmp 130) (.tmp 134) _ rfl t b rfl rfl false (by simp [HTB.out])⟩) (by assumption) ?_
                    try simp only [Act.put, List.setIfInBounds_toArray, List.set_cons_zero, List.set_cons_succ]
                    refine heldTake (i := 36) (v := ?_) rfl (by kernel_rfl) (by kernel_rfl) (by kernel_rfl) (fun _ _ _ h => h) (Or.inl ⟨by rfl, ?_⟩) (by assumption) ?_
                    rotate_left
                    · intro w hSw; (try dsimp only at hSw); go_simp <;> (with_reducible rfl)
                    try simp only [Act.put, List.setIfInBounds_toArray, List.set_cons_zero, List.set_cons_succ]
                    refine heldTake (i := 37) (v := ?_) rfl (by kernel_rfl) (by kernel_rfl) (by kernel_rfl) (fun _ _ _ h => h) (Or.inl ⟨by rfl, ?_⟩) (by assumption) ?_
                    rotate_left
                    · intro w hSw; (try dsimp only at hSw); go_simp <;> (with_reducible rfl)
                    try simp only [Act.put, List.setIfInBounds_toArray, List.set_cons_zero, List.set_cons_succ]
                    refine wpAnyH_done (by kernel_rfl) ?_ _
                    go_wp2_with fail
                    go_meet
                    case rel => exact ⟨rfl, HS_y109⟩
                · have HSB := hide (HSC.out.resolve_left hsa)
                  have HSA := hide hsa
                  clear hsa
                  by_cases hta : t = a
                  · have HTA := hide hta
                    clear hta
                    refine wp_region_held_drew (S := (fun W => OwnV W y2.heap.size [(y2.heap.size, 54, I64 M), (y3.heap.size, 54, I64 L), (z5.heap.size, 33, plL (d : Int) (k : Int)), (y82.heap.size, 33, plL (d' : Int) (k : Int)), (y101.heap.size, 43, secL s), (y104.heap.size, 43, secL t)])) (by kernel_rfl) ?_ (fun hHeld => ?_)
                    · exact HS_y106.out.drew.own
                    have HS_dy106 := hide (HS_y106.out.drew)
                    refine heldTake (i := 0) (v := ?_) rfl (by kernel_rfl) (by kernel_rfl) (by kernel_rfl) (fun _ _ _ h => h) (Or.inl ⟨by rfl, ?_⟩) (by assumption) ?_
                    rotate_left
                    · intro w hSw; (try dsimp only at hSw); go_simp <;> (with_reducible rfl)
                    try simp only [Act.put, List.setIfInBounds_toArray, List.set_cons_zero, List.set_cons_succ]
                    refine heldTake (i := 1) (v := ?_) rfl (by kernel_rfl) (by kernel_rfl) (by kernel_rfl) (fun _ _ _ h => h) (Or.inl ⟨by rfl, ?_⟩) (by assumption) ?_
                    rotate_left
                    · intro w hSw; (try dsimp only at hSw); go_simp <;> (with_reducible rfl)
                    try simp only [Act.put, List.setIfInBounds_toArray, List.set_cons_zero, List.set_cons_succ]
                    refine heldTake (i := 2) (v := ?_) rfl (by kernel_rfl) (by kernel_rfl) (by kernel_rfl) (fun _ _ _ h => h) (Or.inl ⟨by rfl, ?_⟩) (by assumption) ?_
                    rotate_left
                    · intro w hSw; (try dsimp only at hSw); go_simp <;> (with_reducible rfl)
                    try simp only [Act.put, List.setIfInBounds_toArray, List.set_cons_zero, List.set_cons_succ]
                    refine heldTake (i := 3) (v := ?_) rfl (by kernel_rfl) (by kernel_rfl) (by kernel_rfl) (fun _ _ _ h => h) (Or.inl ⟨by rfl, ?_⟩) (by assumption) ?_
                    rotate_left
                    · intro w hSw; (try dsimp only at hSw); go_simp <;> (with_reducible rfl)
                    try simp only [Act.put, List.setIfInBounds_toArray, List.set_cons_zero, List.set_cons_succ]
                    refine heldTake (i := 4) (v := ?_) rfl (by kernel_rfl) (by kernel_rfl) (by kernel_rfl) (fun _ _ _ h => h) (Or.inl ⟨by rfl, ?_⟩) (by assumption) ?_
                    rotate_left
                    · intro w hSw; (try dsimp only at hSw); go_simp <;> (with_reducible rfl)
                    try simp only [Act.put, List.setIfInBounds_toArray, List.set_cons_zero, List.set_cons_succ]
                    refine heldTake (i := 5) (v := ?_) rfl (by kernel_rfl) (by kernel_rfl) (by kernel_rfl) (fun _ _ _ h => h) (Or.inl ⟨by rfl, ?_⟩) (by assumption) ?_
                    rotate_left
                    · intro w hSw; (try dsimp only at hSw); go_simp <;> (with_reducible rfl)
                    try simp only [Act.put, List.setIfInBounds_toArray, List.set_cons_zero, List.set_cons_succ]
                    refine heldTake (i := 6) (v := ?_) rfl (by kernel_rfl) (by kernel_rfl) (by kernel_rfl) (fun _ _ _ h => h) (Or.inl ⟨by rfl, ?_⟩) (by assumption) ?_
                    rotate_left
                    · intro w hSw; (try dsimp only at hSw); go_simp <;> (with_reducible rfl)
                    try simp only [Act.put, List.setIfInBounds_toArray, List.set_cons_zero, List.set_cons_succ]
                    refine heldTake (i := 7) (v := .agg (secL s).toArray) rfl (by kernel_rfl) (by kernel_rfl) (by kernel_rfl) (fun _ _ _ h => h) (yieldsIf_load_mid (by rfl) _ _ rfl _ _ rfl (secL s) _ (fun W hW => hW.range 4 rfl) Try.underlying43 rfl (msec_size _)) (by assumption) ?_
                    try simp only [Act.put, List.setIfInBounds_toArray, List.set_cons_zero, List.set_cons_succ]
                    refine heldTake (i := 8) (v := ?_) rfl (by kernel_rfl) (by kernel_rfl) (by kernel_rfl) (fun _ _ _ h => h) (Or.inl ⟨by rfl, ?_⟩) (by assumption) ?_
                    rotate_left
                    · intro w hSw; (try dsimp only at hSw); go_simp <;> (with_reducible rfl)
                    try simp only [Act.put, List.setIfInBounds_toArray, List.set_cons_zero, List.set_cons_succ]
                    refine heldTake (i := 9) (v := ?_) rfl (by kernel_rfl) (by kernel_rfl) (by kernel_rfl) (fun _ _ _ h => h) (Or.inl ⟨by rfl, ?_⟩) (by assumption) ?_
                    rotate_left
                    · intro w hSw; (try dsimp only at hSw); go_simp <;> (with_reducible rfl)
                    try simp only [Act.put, List.setIfInBounds_toArray, List.set_cons_zero, List.set_cons_succ]
                    refine heldTake (i := 10) (v := .int .i64 (u')) rfl (by kernel_rfl) (by kernel_rfl) (by kernel_rfl) (fun _ _ _ h => h) (Or.inl ⟨by rfl, fun W hW => ?_⟩) (by assumption) ?_
                    · have hc : W.cell? ⟨y2.heap.size, k, none⟩ = some (.int .i64 (u')) := ((hW.blk 0 rfl).cell _).trans (i64_cell HU.out)
                      go_simp <;> rfl
                    try simp only [Act.put, List.setIfInBounds_toArray, List.set_cons_zero, List.set_cons_succ]
                    refine wpAnyH_ready (rs := [11]) (by kernel_rfl) (by simp) ?_
                    refine heldCons (i := 11) rfl (fun Kq hKq => ?_) AllReadyH.nil
                    go_simp
                    go_at_call 23
                    (with_reducible refine (HA.out _).mono ?_)
                    rintro _ y107 ⟨rfl, hlq⟩
                    have HS_y107 : Hid (Sit w y107 y1.heap.size y2.heap.size S [(y2.heap.size, 54, I64 M), (y3.heap.size, 54, I64 L), (z5.heap.size, 33, plL (d : Int) (k : Int)), (y82.heap.size, 33, plL (d' : Int) (k : Int)), (y101.heap.size, 43, secL s), (y104.heap.size, 43, secL t)]) := hide (HS_dy106.out.later hlq)
                    clear hlq
                    first | (refine hKq.out _ _ HS_y107.out.own (fun hHeld => ?_)) | (go_wp2_with fail; refine hKq.out _ _ HS_y107.out.own (fun hHeld => ?_))
                    clear hKq Kq
                    try simp only [Act.put, List.setIfInBounds_toArray, List.set_cons_zero, List.set_cons_succ]
                    refine heldTake (i := 12) (v := .bool true) rfl (by kernel_rfl) (by kernel_rfl) (by kernel_rfl) (fun _ _ _ h => h) (Or.inl ⟨by rfl, fun W hW => run_neS W _ (.tmp 107) (.tmp 111) _ rfl s a rfl rfl true (by simp [HSA.out])⟩) (by assumption) ?_
                    try simp only [Act.put, List.setIfInBounds_toArray, List.set_cons_zero, List.set_cons_succ]
                    refine heldTake (i := 13) (v := ?_) rfl (by kernel_rfl) (by kernel_rfl) (by kernel_rfl) (fun _ _ _ h => h) (Or.inl ⟨by rfl, ?_⟩) (by assumption) ?_
                    rotate_left
                    · intro w hSw; (try dsimp only at hSw); go_simp <;> (with_reducible rfl)
                    try simp only [Act.put, List.setIfInBounds_toArray, List.set_cons_zero, List.set_cons_succ]
                    refine heldTake (i := 14) (v := .agg (secL s).toArray) rfl (by kernel_rfl) (by kernel_rfl) (by kernel_rfl) (fun _ _ _ h => h) (yieldsIf_load_mid (by rfl) _ _ rfl _ _ rfl (secL s) _ (fun W hW => hW.range 4 rfl) Try.underlying43 rfl (msec_size _)) (by assumption) ?_
                    try simp only [Act.put, List.setIfInBounds_toArray, List.set_cons_zero, List.set_cons_succ]
                    refine heldTake (i := 15) (v := ?_) rfl (by kernel_rfl) (by kernel_rfl) (by kernel_rfl) (fun _ _ _ h => h) (Or.inl ⟨by rfl, ?_⟩) (by assumption) ?_
                    rotate_left
                    · intro w hSw; (try dsimp only at hSw); go_simp <;> (with_reducible rfl)
                    try simp only [Act.put, List.setIfInBounds_toArray, List.set_cons_zero, List.set_cons_succ]
                    refine heldTake (i := 16) (v := ?_) rfl (by kernel_rfl) (by kernel_rfl) (by kernel_rfl) (fun _ _ _ h => h) (Or.inl ⟨by rfl, ?_⟩) (by assumption) ?_
                    rotate_left
                    · intro w hSw; (try dsimp only at hSw); go_simp <;> (with_reducible rfl)
                    try simp only [Act.put, List.setIfInBounds_toArray, List.set_cons_zero, List.set_cons_succ]
                    refine heldTake (i := 17) (v := .int .i64 (v')) rfl (by kernel_rfl) (by kernel_rfl) (by kernel_rfl) (fun _ _ _ h => h) (Or.inl ⟨by rfl, fun W hW => ?_⟩) (by assumption) ?_
                    · have hc : W.cell? ⟨y3.heap.size, k, none⟩ = some (.int .i64 (v')) := ((hW.blk 1 rfl).cell _).trans (i64_cell HV.out)
                      go_simp <;> rfl
                    try simp only [Act.put, List.setIfInBounds_toArray, List.set_cons_zero, List.set_cons_succ]
                    refine wpAnyH_ready (rs := [18]) (by kernel_rfl) (by simp) ?_
                    refine heldCons (i := 18) rfl (fun Kq hKq => ?_) AllReadyH.nil
                    go_simp
                    go_at_call 23
                    (with_reducible refine (HB.out _).mono ?_)
                    rintro _ y108 ⟨rfl, hlq⟩
                    have HS_y108 : Hid (Sit w y108 y1.heap.size y2.heap.size S [(y2.heap.size, 54, I64 M), (y3.heap.size, 54, I64 L), (z5.heap.size, 33, plL (d : Int) (k : Int)), (y82.heap.size, 33, plL (d' : Int) (k : Int)), (y101.heap.size, 43, secL s), (y104.heap.size, 43, secL t)]) := hide (HS_y107.out.later hlq)
                    clear hlq
                    first | (refine hKq.out _ _ HS_y108.out.own (fun hHeld => ?_)) | (go_wp2_with fail; refine hKq.out _ _ HS_y108.out.own (fun hHeld => ?_))
                    clear hKq Kq
                    try simp only [Act.put, List.setIfInBounds_toArray, List.set_cons_zero, List.set_cons_succ]
                    refine heldTake (i := 19) (v := .bool false) rfl (by kernel_rfl) (by kernel_rfl) (by kernel_rfl) (fun _ _ _ h => h) (Or.inl ⟨by rfl, fun W hW => run_neS W _ (.tmp 114) (.tmp 118) _ rfl s b rfl rfl false (by simp [HSB.out])⟩) (by assumption) ?_
                    try simp only [Act.put, List.setIfInBounds_toArray, List.set_cons_zero, List.set_cons_succ]
                    refine heldTake (i := 20) (v := ?_) rfl (by kernel_rfl) (by kernel_rfl) (by kernel_rfl) (fun _ _ _ h => h) (Or.inl ⟨by rfl, ?_⟩) (by assumption) ?_
                    rotate_left
                    · intro w hSw; (try dsimp only at hSw); go_simp <;> (with_reducible rfl)
                    try simp only [Act.put, List.setIfInBounds_toArray, List.set_cons_zero, List.set_cons_succ]
                    refine heldTake (i := 21) (v := ?_) rfl (by kernel_rfl) (by kernel_rfl) (by kernel_rfl) (fun _ _ _ h => h) (Or.inl ⟨by rfl, ?_⟩) (by assumption) ?_
                    rotate_left
                    · intro w hSw; (try dsimp only at hSw); go_simp <;> (with_reducible rfl)
                    try simp only [Act.put, List.setIfInBounds_toArray, List.set_cons_zero, List.set_cons_succ]
                    refine heldTake (i := 22) (v := ?_) rfl (by kernel_rfl) (by kernel_rfl) (by kernel_rfl) (fun _ _ _ h => h) (Or.inl ⟨by rfl, ?_⟩) (by assumption) ?_
                    rotate_left
                    · intro w hSw; (try dsimp only at hSw); go_simp <;> (with_reducible rfl)
                    try simp only [Act.put, List.setIfInBounds_toArray, List.set_cons_zero, List.set_cons_succ]
                    refine heldTake (i := 23) (v := .agg (secL t).toArray) rfl (by kernel_rfl) (by kernel_rfl) (by kernel_rfl) (fun _ _ _ h => h) (yieldsIf_load_mid (by rfl) _ _ rfl _ _ rfl (secL t) _ (fun W hW => hW.range 5 rfl) Try.underlying43 rfl (msec_size _)) (by assumption) ?_
                    try simp only [Act.put, List.setIfInBounds_toArray, List.set_cons_zero, List.set_cons_succ]
                    refine heldTake (i := 24) (v := ?_) rfl (by kernel_rfl) (by kernel_rfl) (by kernel_rfl) (fun _ _ _ h => h) (Or.inl ⟨by rfl, ?_⟩) (by assumption) ?_
                    rotate_left
                    · intro w hSw; (try dsimp only at hSw); go_simp <;> (with_reducible rfl)
                    try simp only [Act.put, List.setIfInBounds_toArray, List.set_cons_zero, List.set_cons_succ]
                    refine heldTake (i := 25) (v := ?_) rfl (by kernel_rfl) (by kernel_rfl) (by kernel_rfl) (fun _ _ _ h => h) (Or.inl ⟨by rfl, ?_⟩) (by assumption) ?_
                    rotate_left
                    · intro w hSw; (try dsimp only at hSw); go_simp <;> (with_reducible rfl)
                    try simp only [Act.put, List.setIfInBounds_toArray, List.set_cons_zero, List.set_cons_succ]
                    refine heldTake (i := 26) (v := .int .i64 (u')) rfl (by kernel_rfl) (by kernel_rfl) (by kernel_rfl) (fun _ _ _ h => h) (Or.inl ⟨by rfl, fun W hW => ?_⟩) (by assumption) ?_
                    · have hc : W.cell? ⟨y2.heap.size, k, none⟩ = some (.int .i64 (u')) := ((hW.blk 0 rfl).cell _).trans (i64_cell HU.out)
                      go_simp <;> rfl
                    try simp only [Act.put, List.setIfInBounds_toArray, List.set_cons_zero, List.set_cons_succ]
                    refine wpAnyH_ready (rs := [27]) (by kernel_rfl) (by simp) ?_
                    refine heldCons (i := 27) rfl (fun Kq hKq => ?_) AllReadyH.nil
                    go_simp
                    go_at_call 23
                    (with_reducible refine (HA.out _).mono ?_)
                    rintro _ y109 ⟨rfl, hlq⟩
                    have HS_y109 : Hid (Sit w y109 y1.heap.size y2.heap.size S [(y2.heap.size, 54, I64 M), (y3.heap.size, 54, I64 L), (z5.heap.size, 33, plL (d : Int) (k : Int)), (y82.heap.size, 33, plL (d' : Int) (k : Int)), (y101.heap.size, 43, secL s), (y104.heap.size, 43, secL t)]) := hide (HS_y108.out.later hlq)
                    clear hlq
                    first | (refine hKq.out _ _ HS_y109.out.own (fun hHeld => ?_)) | (go_wp2_with fail; refine hKq.out _ _ HS_y109.out.own (fun hHeld => ?_))
                    clear hKq Kq
                    try simp only [Act.put, List.setIfInBounds_toArray, List.set_cons_zero, List.set_cons_succ]
                    refine heldTake (i := 28) (v := .bool false) rfl (by kernel_rfl) (by kernel_rfl) (by kernel_rfl) (fun _ _ _ h => h) (Or.inl ⟨by rfl, fun W hW => run_neS W _ (.tmp 123) (.tmp 127) _ rfl t a rfl rfl false (by simp [HTA.out])⟩) (by assumption) ?_
                    try simp only [Act.put, List.setIfInBounds_toArray, List.set_cons_zero, List.set_cons_succ]
                    refine heldTake (i := 29) (v := ?_) rfl (by kernel_rfl) (by kernel_rfl) (by kernel_rfl) (fun _ _ _ h => h) (Or.inl ⟨by rfl, ?_⟩) (by assumption) ?_
                    rotate_left
                    · intro w hSw; (try dsimp only at hSw); go_simp <;> (with_reducible rfl)
                    try simp only [Act.put, List.setIfInBounds_toArray, List.set_cons_zero, List.set_cons_succ]
                    refine heldTake (i := 30) (v := undef) rfl (by kernel_rfl) (by kernel_rfl) (by kernel_rfl) (fun _ _ _ h => h) (Or.inr ⟨by rfl, rfl⟩) (by assumption) ?_
                    try simp only [Act.put, List.setIfInBounds_toArray, List.set_cons_zero, List.set_cons_succ]
                    refine heldTake (i := 31) (v := undef) rfl (by kernel_rfl) (by kernel_rfl) (by kernel_rfl) (fun _ _ _ h => h) (Or.inr ⟨by rfl, rfl⟩) (by assumption) ?_
                    try simp only [Act.put, List.setIfInBounds_toArray, List.set_cons_zero, List.set_cons_succ]
                    refine heldTake (i := 32) (v := undef) rfl (by kernel_rfl) (by kernel_rfl) (by kernel_rfl) (fun _ _ _ h => h) (Or.inr ⟨by rfl, rfl⟩) (by assumption) ?_
                    try simp only [Act.put, List.setIfInBounds_toArray, List.set_cons_zero, List.set_cons_succ]
                    refine heldTake (i := 33) (v := undef) rfl (by kernel_rfl) (by kernel_rfl) (by kernel_rfl) (fun _ _ _ h => h) (Or.inr ⟨by rfl, rfl⟩) (by assumption) ?_
                    try simp only [Act.put, List.setIfInBounds_toArray, List.set_cons_zero, List.set_cons_succ]
                    refine heldTake (i := 34) (v := undef) rfl (by kernel_rfl) (by kernel_rfl) (by kernel_rfl) (fun _ _ _ h => h) (Or.inr ⟨by rfl, rfl⟩) (by assumption) ?_
                    try simp only [Act.put, List.setIfInBounds_toArray, List.set_cons_zero, List.set_cons_succ]
                    refine heldTake (i := 35) (v := undef) rfl (by kernel_rfl) (by kernel_rfl) (by kernel_rfl) (fun _ _ _ h => h) (Or.inr ⟨by rfl, rfl⟩) (by assumption) ?_
                    try simp only [Act.put, List.setIfInBounds_toArray, List.set_cons_zero, List.set_cons_succ]
                    refine heldTake (i := 36) (v := ?_) rfl (by kernel_rfl) (by kernel_rfl) (by kernel_rfl) (fun _ _ _ h => h) (Or.inl ⟨by rfl, ?_⟩) (by assumption) ?_
                    rotate_left
                    · intro w hSw; (try dsimp only at hSw); go_simp <;> (with_reducible rfl)
                    try simp only [Act.put, List.setIfInBounds_toArray, List.set_cons_zero, List.set_cons_succ]
                    refine heldTake (i := 37) (v := ?_) rfl (by kernel_rfl) (by kernel_rfl) (by kernel_rfl) (fun _ _ _ h => h) (Or.inl ⟨by rfl, ?_⟩) (by assumption) ?_
                    rotate_left
                    · intro w hSw; (try dsimp only at hSw); go_simp <;> (with_reducible rfl)
                    try simp only [Act.put, List.setIfInBounds_toArray, List.set_cons_zero, List.set_cons_succ]
                    refine wpAnyH_done (by kernel_rfl) ?_ _
                    go_wp2_with fail
                    go_meet
                    case rel => exact ⟨rfl, HS_y109⟩
                  · have HTB := hide (HTC.out.resolve_left hta)
                    have HTA := hide hta
                    clear hta
                    refine wp_region_held_drew (S := (fun W => OwnV W y2.heap.size [(y2.heap.size, 54, I64 M), (y3.heap.size, 54, I64 L), (z5.heap.size, 33, plL (d : Int) (k : Int)), (y82.heap.size, 33, plL (d' : Int) (k : Int)), (y101.heap.size, 43, secL s), (y104.heap.size, 43, secL t)])) (by kernel_rfl) ?_ (fun hHeld => ?_)
                    · exact HS_y106.out.drew.own
                    have HS_dy106 := hide (HS_y106.out.drew)
                    refine heldTake (i := 0) (v := ?_) rfl (by kernel_rfl) (by kernel_rfl) (by kernel_rfl) (fun _ _ _ h => h) (Or.inl ⟨by rfl, ?_⟩) (by assumption) ?_
                    rotate_left
                    · intro w hSw; (try dsimp only at hSw); go_simp <;> (with_reducible rfl)
                    try simp only [Act.put, List.setIfInBounds_toArray, List.set_cons_zero, List.set_cons_succ]
                    refine heldTake (i := 1) (v := ?_) rfl (by kernel_rfl) (by kernel_rfl) (by kernel_rfl) (fun _ _ _ h => h) (Or.inl ⟨by rfl, ?_⟩) (by assumption) ?_
                    rotate_left
                    · intro w hSw; (try dsimp only at hSw); go_simp <;> (with_reducible rfl)
                    try simp only [Act.put, List.setIfInBounds_toArray, List.set_cons_zero, List.set_cons_succ]
                    refine heldTake (i := 2) (v := ?_) rfl (by kernel_rfl) (by kernel_rfl) (by kernel_rfl) (fun _ _ _ h => h) (Or.inl ⟨by rfl, ?_⟩) (by assumption) ?_
                    rotate_left
                    · intro w hSw; (try dsimp only at hSw); go_simp <;> (with_reducible rfl)
                    try simp only [Act.put, List.setIfInBounds_toArray, List.set_cons_zero, List.set_cons_succ]
                    refine heldTake (i := 3) (v := ?_) rfl (by kernel_rfl) (by kernel_rfl) (by kernel_rfl) (fun _ _ _ h => h) (Or.inl ⟨by rfl, ?_⟩) (by assumption) ?_
                    rotate_left
                    · intro w hSw; (try dsimp only at hSw); go_simp <;> (with_reducible rfl)
                    try simp only [Act.put, List.setIfInBounds_toArray, List.set_cons_zero, List.set_cons_succ]
                    refine heldTake (i := 4) (v := ?_) rfl (by kernel_rfl) (by kernel_rfl) (by kernel_rfl) (fun _ _ _ h => h) (Or.inl ⟨by rfl, ?_⟩) (by assumption) ?_
                    rotate_left
                    · intro w hSw; (try dsimp only at hSw); go_simp <;> (with_reducible rfl)
                    try simp only [Act.put, List.setIfInBounds_toArray, List.set_cons_zero, List.set_cons_succ]
                    refine heldTake (i := 5) (v := ?_) rfl (by kernel_rfl) (by kernel_rfl) (by kernel_rfl) (fun _ _ _ h => h) (Or.inl ⟨by rfl, ?_⟩) (by assumption) ?_
                    rotate_left
                    · intro w hSw; (try dsimp only at hSw); go_simp <;> (with_reducible rfl)
                    try simp only [Act.put, List.setIfInBounds_toArray, List.set_cons_zero, List.set_cons_succ]
                    refine heldTake (i := 6) (v := ?_) rfl (by kernel_rfl) (by kernel_rfl) (by kernel_rfl) (fun _ _ _ h => h) (Or.inl ⟨by rfl, ?_⟩) (by assumption) ?_
                    rotate_left
                    · intro w hSw; (try dsimp only at hSw); go_simp <;> (with_reducible rfl)
                    try simp only [Act.put, List.setIfInBounds_toArray, List.set_cons_zero, List.set_cons_succ]
                    refine heldTake (i := 7) (v := .agg (secL s).toArray) rfl (by kernel_rfl) (by kernel_rfl) (by kernel_rfl) (fun _ _ _ h => h) (yieldsIf_load_mid (by rfl) _ _ rfl _ _ rfl (secL s) _ (fun W hW => hW.range 4 rfl) Try.underlying43 rfl (msec_size _)) (by assumption) ?_
                    try simp only [Act.put, List.setIfInBounds_toArray, List.set_cons_zero, List.set_cons_succ]
                    refine heldTake (i := 8) (v := ?_) rfl (by kernel_rfl) (by kernel_rfl) (by kernel_rfl) (fun _ _ _ h => h) (Or.inl ⟨by rfl, ?_⟩) (by assumption) ?_
                    rotate_left
                    · intro w hSw; (try dsimp only at hSw); go_simp <;> (with_reducible rfl)
                    try simp only [Act.put, List.setIfInBounds_toArray, List.set_cons_zero, List.set_cons_succ]
                    refine heldTake (i := 9) (v := ?_) rfl (by kernel_rfl) (by kernel_rfl) (by kernel_rfl) (fun _ _ _ h => h) (Or.inl ⟨by rfl, ?_⟩) (by assumption) ?_
                    rotate_left
                    · intro w hSw; (try dsimp only at hSw); go_simp <;> (with_reducible rfl)
                    try simp only [Act.put, List.setIfInBounds_toArray, List.set_cons_zero, List.set_cons_succ]
                    refine heldTake (i := 10) (v := .int .i64 (u')) rfl (by kernel_rfl) (by kernel_rfl) (by kernel_rfl) (fun _ _ _ h => h) (Or.inl ⟨by rfl, fun W hW => ?_⟩) (by assumption) ?_
                    · have hc : W.cell? ⟨y2.heap.size, k, none⟩ = some (.int .i64 (u')) := ((hW.blk 0 rfl).cell _).trans (i64_cell HU.out)
                      go_simp <;> rfl
                    try simp only [Act.put, List.setIfInBounds_toArray, List.set_cons_zero, List.set_cons_succ]
                    refine wpAnyH_ready (rs := [11]) (by kernel_rfl) (by simp) ?_
                    refine heldCons (i := 11) rfl (fun Kq hKq => ?_) AllReadyH.nil
                    go_simp
                    go_at_call 23
                    (with_reducible refine (HA.out _).mono ?_)
                    rintro _ y107 ⟨rfl, hlq⟩
                    have HS_y107 : Hid (Sit w y107 y1.heap.size y2.heap.size S [(y2.heap.size, 54, I64 M), (y3.heap.size, 54, I64 L), (z5.heap.size, 33, plL (d : Int) (k : Int)), (y82.heap.size, 33, plL (d' : Int) (k : Int)), (y101.heap.size, 43, secL s), (y104.heap.size, 43, secL t)]) := hide (HS_dy106.out.later hlq)
                    clear hlq
                    first | (refine hKq.out _ _ HS_y107.out.own (fun hHeld => ?_)) | (go_wp2_with fail; refine hKq.out _ _ HS_y107.out.own (fun hHeld => ?_))
                    clear hKq Kq
                    try simp only [Act.put, List.setIfInBounds_toArray, List.set_cons_zero, List.set_cons_succ]
                    refine heldTake (i := 12) (v := .bool true) rfl (by kernel_rfl) (by kernel_rfl) (by kernel_rfl) (fun _ _ _ h => h) (Or.inl ⟨by rfl, fun W hW => run_neS W _ (.tmp 107) (.tmp 111) _ rfl s a rfl rfl true (by simp [HSA.out])⟩) (by assumption) ?_
                    try simp only [Act.put, List.setIfInBounds_toArray, List.set_cons_zero, List.set_cons_succ]
                    refine heldTake (i := 13) (v := ?_) rfl (by kernel_rfl) (by kernel_rfl) (by kernel_rfl) (fun _ _ _ h => h) (Or.inl ⟨by rfl, ?_⟩) (by assumption) ?_
                    rotate_left
                    · intro w hSw; (try dsimp only at hSw); go_simp <;> (with_reducible rfl)
                    try simp only [Act.put, List.setIfInBounds_toArray, List.set_cons_zero, List.set_cons_succ]
                    refine heldTake (i := 14) (v := .agg (secL s).toArray) rfl (by kernel_rfl) (by kernel_rfl) (by kernel_rfl) (fun _ _ _ h => h) (yieldsIf_load_mid (by rfl) _ _ rfl _ _ rfl (secL s) _ (fun W hW => hW.range 4 rfl) Try.underlying43 rfl (msec_size _)) (by assumption) ?_
                    try simp only [Act.put, List.setIfInBounds_toArray, List.set_cons_zero, List.set_cons_succ]
                    refine heldTake (i := 15) (v := ?_) rfl (by kernel_rfl) (by kernel_rfl) (by kernel_rfl) (fun _ _ _ h => h) (Or.inl ⟨by rfl, ?_⟩) (by assumption) ?_
                    rotate_left
                    · intro w hSw; (try dsimp only at hSw); go_simp <;> (with_reducible rfl)
                    try simp only [Act.put, List.setIfInBounds_toArray, List.set_cons_zero, List.set_cons_succ]
                    refine heldTake (i := 16) (v := ?_) rfl (by kernel_rfl) (by kernel_rfl) (by kernel_rfl) (fun _ _ _ h => h) (Or.inl ⟨by rfl, ?_⟩) (by assumption) ?_
                    rotate_left
                    · intro w hSw; (try dsimp only at hSw); go_simp <;> (with_reducible rfl)
                    try simp only [Act.put, List.setIfInBounds_toArray, List.set_cons_zero, List.set_cons_succ]
                    refine heldTake (i := 17) (v := .int .i64 (v')) rfl (by kernel_rfl) (by kernel_rfl) (by kernel_rfl) (fun _ _ _ h => h) (Or.inl ⟨by rfl, fun W hW => ?_⟩) (by assumption) ?_
                    · have hc : W.cell? ⟨y3.heap.size, k, none⟩ = some (.int .i64 (v')) := ((hW.blk 1 rfl).cell _).trans (i64_cell HV.out)
                      go_simp <;> rfl
                    try simp only [Act.put, List.setIfInBounds_toArray, List.set_cons_zero, List.set_cons_succ]
                    refine wpAnyH_ready (rs := [18]) (by kernel_rfl) (by simp) ?_
                    refine heldCons (i := 18) rfl (fun Kq hKq => ?_) AllReadyH.nil
                    go_simp
                    go_at_call 23
                    (with_reducible refine (HB.out _).mono ?_)
                    rintro _ y108 ⟨rfl, hlq⟩
                    have HS_y108 : Hid (Sit w y108 y1.heap.size y2.heap.size S [(y2.heap.size, 54, I64 M), (y3.heap.size, 54, I64 L), (z5.heap.size, 33, plL (d : Int) (k : Int)), (y82.heap.size, 33, plL (d' : Int) (k : Int)), (y101.heap.size, 43, secL s), (y104.heap.size, 43, secL t)]) := hide (HS_y107.out.later hlq)
                    clear hlq
                    first | (refine hKq.out _ _ HS_y108.out.own (fun hHeld => ?_)) | (go_wp2_with fail; refine hKq.out _ _ HS_y108.out.own (fun hHeld => ?_))
                    clear hKq Kq
                    try simp only [Act.put, List.setIfInBounds_toArray, List.set_cons_zero, List.set_cons_succ]
                    refine heldTake (i := 19) (v := .bool false) rfl (by kernel_rfl) (by kernel_rfl) (by kernel_rfl) (fun _ _ _ h => h) (Or.inl ⟨by rfl, fun W hW => run_neS W _ (.tmp 114) (.tmp 118) _ rfl s b rfl rfl false (by simp [HSB.out])⟩) (by assumption) ?_
                    try simp only [Act.put, List.setIfInBounds_toArray, List.set_cons_zero, List.set_cons_succ]
                    refine heldTake (i := 20) (v := ?_) rfl (by kernel_rfl) (by kernel_rfl) (by kernel_rfl) (fun _ _ _ h => h) (Or.inl ⟨by rfl, ?_⟩) (by assumption) ?_
                    rotate_left
                    · intro w hSw; (try dsimp only at hSw); go_simp <;> (with_reducible rfl)
                    try simp only [Act.put, List.setIfInBounds_toArray, List.set_cons_zero, List.set_cons_succ]
                    refine heldTake (i := 21) (v := ?_) rfl (by kernel_rfl) (by kernel_rfl) (by kernel_rfl) (fun _ _ _ h => h) (Or.inl ⟨by rfl, ?_⟩) (by assumption) ?_
                    rotate_left
                    · intro w hSw; (try dsimp only at hSw); go_simp <;> (with_reducible rfl)
                    try simp only [Act.put, List.setIfInBounds_toArray, List.set_cons_zero, List.set_cons_succ]
                    refine heldTake (i := 22) (v := ?_) rfl (by kernel_rfl) (by kernel_rfl) (by kernel_rfl) (fun _ _ _ h => h) (Or.inl ⟨by rfl, ?_⟩) (by assumption) ?_
                    rotate_left
                    · intro w hSw; (try dsimp only at hSw); go_simp <;> (with_reducible rfl)
                    try simp only [Act.put, List.setIfInBounds_toArray, List.set_cons_zero, List.set_cons_succ]
                    refine heldTake (i := 23) (v := .agg (secL t).toArray) rfl (by kernel_rfl) (by kernel_rfl) (by kernel_rfl) (fun _ _ _ h => h) (yieldsIf_load_mid (by rfl) _ _ rfl _ _ rfl (secL t) _ (fun W hW => hW.range 5 rfl) Try.underlying43 rfl (msec_size _)) (by assumption) ?_
                    try simp only [Act.put, List.setIfInBounds_toArray, List.set_cons_zero, List.set_cons_succ]
                    refine heldTake (i := 24) (v := ?_) rfl (by kernel_rfl) (by kernel_rfl) (by kernel_rfl) (fun _ _ _ h => h) (Or.inl ⟨by rfl, ?_⟩) (by assumption) ?_
                    rotate_left
                    · intro w hSw; (try dsimp only at hSw); go_simp <;> (with_reducible rfl)
                    try simp only [Act.put, List.setIfInBounds_toArray, List.set_cons_zero, List.set_cons_succ]
                    refine heldTake (i := 25) (v := ?_) rfl (by kernel_rfl) (by kernel_rfl) (by kernel_rfl) (fun _ _ _ h => h) (Or.inl ⟨by rfl, ?_⟩) (by assumption) ?_
                    rotate_left
                    · intro w hSw; (try dsimp only at hSw); go_simp <;> (with_reducible rfl)
                    try simp only [Act.put, List.setIfInBounds_toArray, List.set_cons_zero, List.set_cons_succ]
                    refine heldTake (i := 26) (v := .int .i64 (u')) rfl (by kernel_rfl) (by kernel_rfl) (by kernel_rfl) (fun _ _ _ h => h) (Or.inl ⟨by rfl, fun W hW => ?_⟩) (by assumption) ?_
                    · have hc : W.cell? ⟨y2.heap.size, k, none⟩ = some (.int .i64 (u')) := ((hW.blk 0 rfl).cell _).trans (i64_cell HU.out)
                      go_simp <;> rfl
                    try simp only [Act.put, List.setIfInBounds_toArray, List.set_cons_zero, List.set_cons_succ]
                    refine wpAnyH_ready (rs := [27]) (by kernel_rfl) (by simp) ?_
                    refine heldCons (i := 27) rfl (fun Kq hKq => ?_) AllReadyH.nil
                    go_simp
                    go_at_call 23
                    (with_reducible refine (HA.out _).mono ?_)
                    rintro _ y109 ⟨rfl, hlq⟩
                    have HS_y109 : Hid (Sit w y109 y1.heap.size y2.heap.size S [(y2.heap.size, 54, I64 M), (y3.heap.size, 54, I64 L), (z5.heap.size, 33, plL (d : Int) (k : Int)), (y82.heap.size, 33, plL (d' : Int) (k : Int)), (y101.heap.size, 43, secL s), (y104.heap.size, 43, secL t)]) := hide (HS_y108.out.later hlq)
                    clear hlq
                    first | (refine hKq.out _ _ HS_y109.out.own (fun hHeld => ?_)) | (go_wp2_with fail; refine hKq.out _ _ HS_y109.out.own (fun hHeld => ?_))
                    clear hKq Kq
                    try simp only [Act.put, List.setIfInBounds_toArray, List.set_cons_zero, List.set_cons_succ]
                    refine heldTake (i := 28) (v := .bool true) rfl (by kernel_rfl) (by kernel_rfl) (by kernel_rfl) (fun _ _ _ h => h) (Or.inl ⟨by rfl, fun W hW => run_neS W _ (.tmp 123) (.tmp 127) _ rfl t a rfl rfl true (by simp [HTA.out])⟩) (by assumption) ?_
                    try simp only [Act.put, List.setIfInBounds_toArray, List.set_cons_zero, List.set_cons_succ]
                    refine heldTake (i := 29) (v := ?_) rfl (by kernel_rfl) (by kernel_rfl) (by kernel_rfl) (fun _ _ _ h => h) (Or.inl ⟨by rfl, ?_⟩) (by assumption) ?_
                    rotate_left
                    · intro w hSw; (try dsimp only at hSw); go_simp <;> (with_reducible rfl)
                    try simp only [Act.put, List.setIfInBounds_toArray, List.set_cons_zero, List.set_cons_succ]
                    refine heldTake (i := 30) (v := .agg (secL t).toArray) rfl (by kernel_rfl) (by kernel_rfl) (by kernel_rfl) (fun _ _ _ h => h) (yieldsIf_load_mid (by rfl) _ _ rfl _ _ rfl (secL t) _ (fun W hW => hW.range 5 rfl) Try.underlying43 rfl (msec_size _)) (by assumption) ?_
                    try simp only [Act.put, List.setIfInBounds_toArray, List.set_cons_zero, List.set_cons_succ]
                    refine heldTake (i := 31) (v := ?_) rfl (by kernel_rfl) (by kernel_rfl) (by kernel_rfl) (fun _ _ _ h => h) (Or.inl ⟨by rfl, ?_⟩) (by assumption) ?_
                    rotate_left
                    · intro w hSw; (try dsimp only at hSw); go_simp <;> (with_reducible rfl)
                    try simp only [Act.put, List.setIfInBounds_toArray, List.set_cons_zero, List.set_cons_succ]
                    refine heldTake (i := 32) (v := ?_) rfl (by kernel_rfl) (by kernel_rfl) (by kernel_rfl) (fun _ _ _ h => h) (Or.inl ⟨by rfl, ?_⟩) (by assumption) ?_
                    rotate_left
                    · intro w hSw; (try dsimp only at hSw); go_simp <;> (with_reducible rfl)
                    try simp only [Act.put, List.setIfInBounds_toArray, List.set_cons_zero, List.set_cons_succ]
                    refine heldTake (i := 33) (v := .int .i64 (v')) rfl (by kernel_rfl) (by kernel_rfl) (by kernel_rfl) (fun _ _ _ h => h) (Or.inl ⟨by rfl, fun W hW => ?_⟩) (by assumption) ?_
                    · have hc : W.cell? ⟨y3.heap.size, k, none⟩ = some (.int .i64 (v')) := ((hW.blk 1 rfl).cell _).trans (i64_cell HV.out)
                      go_simp <;> rfl
                    try simp only [Act.put, List.setIfInBounds_toArray, List.set_cons_zero, List.set_cons_succ]
                    refine wpAnyH_ready (rs := [34]) (by kernel_rfl) (by simp) ?_
                    refine heldCons (i := 34) rfl (fun Kq hKq => ?_) AllReadyH.nil
                    go_simp
                    go_at_call 23
                    (with_reducible refine (HB.out _).mono ?_)
                    rintro _ y110 ⟨rfl, hlq⟩
                    have HS_y110 : Hid (Sit w y110 y1.heap.size y2.heap.size S [(y2.heap.size, 54, I64 M), (y3.heap.size, 54, I64 L), (z5.heap.size, 33, plL (d : Int) (k : Int)), (y82.heap.size, 33, plL (d' : Int) (k : Int)), (y101.heap.size, 43, secL s), (y104.heap.size, 43, secL t)]) := hide (HS_y109.out.later hlq)
                    clear hlq
                    first | (refine hKq.out _ _ HS_y110.out.own (fun hHeld => ?_)) | (go_wp2_with fail; refine hKq.out _ _ HS_y110.out.own (fun hHeld => ?_))
                    clear hKq Kq
                    try simp only [Act.put, List.setIfInBounds_toArray, List.set_cons_zero, List.set_cons_succ]
                    refine heldTake (i := 35) (v := .bool false) rfl (by kernel_rfl) (by kernel_rfl) (by kernel_rfl) (fun _ _ _ h => h) (Or.inl ⟨by rfl, fun W hW => run_neS W _ (.tmp 130) (.tmp 134) _ rfl t b rfl rfl false (by simp [HTB.out])⟩) (by assumption) ?_
                    try simp only [Act.put, List.setIfInBounds_toArray, List.set_cons_zero, List.set_cons_succ]
                    refine heldTake (i := 36) (v := ?_) rfl (by kernel_rfl) (by kernel_rfl) (by kernel_rfl) (fun _ _ _ h => h) (Or.inl ⟨by rfl, ?_⟩) (by assumption) ?_
                    rotate_left
                    · intro w hSw; (try dsimp only at hSw); go_simp <;> (with_reducible rfl)
                    try simp only [Act.put, List.setIfInBounds_toArray, List.set_cons_zero, List.set_cons_succ]
                    refine heldTake (i := 37) (v := ?_) rfl (by kernel_rfl) (by kernel_rfl) (by kernel_rfl) (fun _ _ _ h => h) (Or.inl ⟨by rfl, ?_⟩) (by assumption) ?_
                    rotate_left
                    · intro w hSw; (try dsimp only at hSw); go_simp <;> (with_reducible rfl)
                    try simp only [Act.put, List.setIfInBounds_toArray, List.set_cons_zero, List.set_cons_succ]
                    refine wpAnyH_done (by kernel_rfl) ?_ _
                    go_wp2_with fail
                    go_meet
                    case rel => exact ⟨rfl, HS_y110⟩
              case rest =>
                obtain ⟨rfl, HS_z7⟩ := hcut
                obtain ⟨z7, rfl⟩ : ∃ z7, z7 = wc := ⟨_, rfl⟩
                clear HA HB HSC HTC HU HV
                go_upto_region 31 with (first
                  | ((with_reducible refine at_slot 140 ?_); refine when_own rfl (.tmp 14) rfl HS_z7.out.own 2 rfl rfl Try.underlying33 rfl mplace_info ?_)
                  | ((with_reducible refine at_slot 141 ?_); refine when_own rfl (.tmp 15) rfl HS_z7.out.own 3 rfl rfl Try.underlying33 rfl mplace_info ?_)
                  | (go_at_call 25; (with_reducible refine (HS_z7.out.malike K (by have := HFW.out; omega) (d := d) (k := k) (d' := d') (k' := k) (nI_nat d) (nI_nat k) (nI_nat d') (nI_nat k)).mono ?_); rintro _ y201 ⟨rfl, hsq⟩; rw [HA1.out.2.2] at hsq; rw [HA1.out.1, HA1.out.2.1]; have HS_y201 : Hid (Sit w y201 y1.heap.size y2.heap.size S2 [(y2.heap.size, 54, I64 M), (y3.heap.size, 54, I64 L), (z5.heap.size, 33, plL (d : Int) (k : Int)), (y82.heap.size, 33, plL (d' : Int) (k : Int)), (y101.heap.size, 43, secL s), (y104.heap.size, 43, secL t)]) := hide (hsq); clear hsq))
                go_upto_region 32 with (first
                  | ((with_reducible refine at_slot 147 ?_); refine when_own rfl (.tmp 14) rfl HS_y201.out.own 2 rfl rfl Try.underlying33 rfl mplace_info ?_)
                  | ((with_reducible refine at_slot 148 ?_); refine when_own rfl (.tmp 15) rfl HS_y201.out.own 3 rfl rfl Try.underlying33 rfl mplace_info ?_)
                  | (go_at_call 25; (with_reducible refine (HS_y201.out.malike K (by have := HF2.out; omega) (d := d) (k := k) (d' := d') (k' := k) (nI_nat d) (nI_nat k) (nI_nat d') (nI_nat k)).mono ?_); rintro _ y202 ⟨rfl, hsq⟩; rw [HA2.out.2.2] at hsq; rw [HA2.out.1, HA2.out.2.1]; have HS_y202 : Hid (Sit w y202 y1.heap.size y2.heap.size S3 [(y2.heap.size, 54, I64 M), (y3.heap.size, 54, I64 L), (z5.heap.size, 33, plL (d : Int) (k : Int)), (y82.heap.size, 33, plL (d' : Int) (k : Int)), (y101.heap.size, 43, secL s), (y104.heap.size, 43, secL t)]) := hide (hsq); clear hsq))
                go_upto_region 33 with (first
                  | ((with_reducible refine at_slot 154 ?_); refine when_own rfl (.tmp 14) rfl HS_y202.out.own 2 rfl rfl Try.underlying33 rfl mplace_info ?_)
                  | (go_at_call 17; (with_reducible refine (HS_y202.out.read (di := (d : Int)) (ki := (k : Int)) (d := d) (k := k) (nI_nat d) (nI_nat k)).mono ?_); rintro _ y203 ⟨rfl, hsq⟩; rw [HUX.out.1, HUX.out.2]; have HS_y203 : Hid (Sit w y203 y1.heap.size y2.heap.size S3 [(y2.heap.size, 54, I64 M), (y3.heap.size, 54, I64 L), (z5.heap.size, 33, plL (d : Int) (k : Int)), (y82.heap.size, 33, plL (d' : Int) (k : Int)), (y101.heap.size, 43, secL s), (y104.heap.size, 43, secL t)]) := hide (hsq); clear hsq)
                  | ((with_reducible refine at_slot 24 ?_); refine wpList_alloc_blk rfl 43 rfl _ (sec_zero _) ?_; intro y204 hbq hl1 hs1; clear hs1)
                  | ((with_reducible refine at_store 24 ?_); refine wpList_store_all rfl 43 (.tmp 24) (.tmp 156) rfl y203.heap.size 43 _ hbq rfl (secL s) rfl (msec_size _) (msec_len _ _) (secL_one _) ?_; intro y205 hbz hg hs; have HS_y205 : Hid (Sit w y205 y1.heap.size y2.heap.size S3 [(y2.heap.size, 54, I64 M), (y3.heap.size, 54, I64 L), (z5.heap.size, 33, plL (d : Int) (k : Int)), (y82.heap.size, 33, plL (d' : Int) (k : Int)), (y101.heap.size, 43, secL s), (y104.heap.size, 43, secL t), (y203.heap.size, 43, secL s)]) := hide (HS_y203.out.new hl1 hg hbz); clear hs hbq hl1 hg hbz))
                go_upto_region 34 with (first
                  | ((with_reducible refine at_slot 160 ?_); refine when_own rfl (.tmp 15) rfl HS_y205.out.own 3 rfl rfl Try.underlying33 rfl mplace_info ?_)
                  | (go_at_call 17; (with_reducible refine (HS_y205.out.read (di := (d' : Int)) (ki := (k : Int)) (d := d') (k := k) (nI_nat d') (nI_nat k)).mono ?_); rintro _ y206 ⟨rfl, hsq⟩; rw [HUY.out.1, HUY.out.2]; have HS_y206 : Hid (Sit w y206 y1.heap.size y2.heap.size S3 [(y2.heap.size, 54, I64 M), (y3.heap.size, 54, I64 L), (z5.heap.size, 33, plL (d : Int) (k : Int)), (y82.heap.size, 33, plL (d' : Int) (k : Int)), (y101.heap.size, 43, secL s), (y104.heap.size, 43, secL t), (y203.heap.size, 43, secL s)]) := hide (hsq); clear hsq)
                  | ((with_reducible refine at_slot 26 ?_); refine wpList_alloc_blk rfl 43 rfl _ (sec_zero _) ?_; intro y207 hbq hl1 hs1; clear hs1)
                  | ((with_reducible refine at_store 26 ?_); refine wpList_store_all rfl 43 (.tmp 26) (.tmp 162) rfl y206.heap.size 43 _ hbq rfl (secL s) rfl (msec_size _) (msec_len _ _) (secL_one _) ?_; intro y208 hbz hg hs; have HS_y208 : Hid (Sit w y208 y1.heap.size y2.heap.size S3 [(y2.heap.size, 54, I64 M), (y3.heap.size, 54, I64 L), (z5.heap.size, 33, plL (d : Int) (k : Int)), (y82.heap.size, 33, plL (d' : Int) (k : Int)), (y101.heap.size, 43, secL s), (y104.heap.size, 43, secL t), (y203.heap.size, 43, secL s), (y206.heap.size, 43, secL s)]) := hide (HS_y206.out.new hl1 hg hbz); clear hs hbq hl1 hg hbz))
                cases β with
                | true =>
                  go_wp2_with (first
                    | ((with_reducible refine at_slot 165 ?_); refine when_own rfl (.tmp 16) rfl HS_y208.out.own 4 rfl rfl Try.underlying43 rfl (msec_size _) ?_)
                    | ((with_reducible refine at_slot 166 ?_); refine when_own rfl (.tmp 18) rfl HS_y208.out.own 5 rfl rfl Try.underlying43 rfl (msec_size _) ?_)
                    | ((with_reducible refine at_slot 167 ?_); refine when_neS rfl (.tmp 165) (.tmp 166) _ rfl s t rfl rfl true HBE.out ?_)
                    | ((with_reducible refine at_slot 181 ?_); refine when_own rfl (.tmp 24) rfl HS_y208.out.own 6 rfl rfl Try.underlying43 rfl (msec_size _) ?_)
                    | ((with_reducible refine at_slot 182 ?_); refine when_own rfl (.tmp 16) rfl HS_y208.out.own 4 rfl rfl Try.underlying43 rfl (msec_size _) ?_)
                    | ((with_reducible refine at_slot 183 ?_); refine when_neS rfl (.tmp 181) (.tmp 182) _ rfl s s rfl rfl false (by simp) ?_)
                    | ((with_reducible refine at_slot 186 ?_); refine when_own rfl (.tmp 26) rfl HS_y208.out.own 7 rfl rfl Try.underlying43 rfl (msec_size _) ?_)
                    | ((with_reducible refine at_slot 187 ?_); refine when_own rfl (.tmp 16) rfl HS_y208.out.own 4 rfl rfl Try.underlying43 rfl (msec_size _) ?_)
                    | ((with_reducible refine at_slot 188 ?_); refine when_neS rfl (.tmp 186) (.tmp 187) _ rfl s s rfl rfl false (by simp) ?_))
                  go_roundw
                  case rel => exact ⟨k + 1, S3, f, g3, by simp, by omega, hide HNX.out.1, hide HNX.out.2, HF3, hide (HS_y208.out.cut 2)⟩
                  case measure => simp [intOf]; omega
                | false =>
                  go_wp2_with (first
                    | ((with_reducible refine at_slot 165 ?_); refine when_own rfl (.tmp 16) rfl HS_y208.out.own 4 rfl rfl Try.underlying43 rfl (msec_size _) ?_)
                    | ((with_reducible refine at_slot 166 ?_); refine when_own rfl (.tmp 18) rfl HS_y208.out.own 5 rfl rfl Try.underlying43 rfl (msec_size _) ?_)
                    | ((with_reducible refine at_slot 167 ?_); refine when_neS rfl (.tmp 165) (.tmp 166) _ rfl s t rfl rfl false HBE.out ?_)
                    | ((with_reducible refine at_slot 181 ?_); refine when_own rfl (.tmp 24) rfl HS_y208.out.own 6 rfl rfl Try.underlying43 rfl (msec_size _) ?_)
                    | ((with_reducible refine at_slot 182 ?_); refine when_own rfl (.tmp 16) rfl HS_y208.out.own 4 rfl rfl Try.underlying43 rfl (msec_size _) ?_)
                    | ((with_reducible refine at_slot 183 ?_); refine when_neS rfl (.tmp 181) (.tmp 182) _ rfl s s rfl rfl false (by simp) ?_)
                    | ((with_reducible refine at_slot 186 ?_); refine when_own rfl (.tmp 26) rfl HS_y208.out.own 7 rfl rfl Try.underlying43 rfl (msec_size _) ?_)
                    | ((with_reducible refine at_slot 187 ?_); refine when_own rfl (.tmp 16) rfl HS_y208.out.own 4 rfl rfl Try.underlying43 rfl (msec_size _) ?_)
                    | ((with_reducible refine at_slot 188 ?_); refine when_neS rfl (.tmp 186) (.tmp 187) _ rfl s s rfl rfl false (by simp) ?_))
                  go_roundw
                  case rel => exact ⟨k + 1, S3, f, g3, by simp, by omega, hide HNX.out.1, hide HNX.out.2, HF3, hide (HS_y208.out.cut 2)⟩
                  case measure => simp [intOf]; omega
          · obtain rfl : k = 8 := by omega
            go_wp2_with fail
            go_ret
            exact ⟨rfl, HS_z5.out.low⟩
#print axioms mirrorAlike_walk
end Go.Proofs.Ytgfbndmdndpelaa
