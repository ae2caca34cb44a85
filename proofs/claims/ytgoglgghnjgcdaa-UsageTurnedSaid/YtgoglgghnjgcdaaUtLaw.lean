/- UsageTurned's walk: Block and Find are one another's turned round. -/
import Derived.Test.YtgoglgghnjgcdaaUtP
namespace Go.Proofs.Ytgoglgghnjgcdaa
open Go.RowKit Go.Maps

set_option maxRecDepth 100000 in
set_option maxHeartbeats 8000000 in
theorem usageTurned_walk (A0 : Option Addr) (n0 c0 : Nat) (l0 : List Int) (A1 : Option Addr) (n1 c1 : Nat) (f : Nat → OpU) (w : World) (hr0 : Reads w w.heap.size 1 A0 n0 (I64 l0)) (hr1 : OpsU w w.heap.size A1 n1 f) :
    Calls Try.prog 4 #[.slice A0 n0 c0, .slice A1 n1 c1] w fun e w' => e = .returned (.bool true) ∧ Below w.heap.size w w' := by
  have HSH := hide shown14_any
  have HR0 := hide hr0
  have HR1 := hide hr1
  have hnl := run_eql_tab
  obtain ⟨i0, hi0, hz0, hz1i, hz2i⟩ := info_parts usg_int_parts
  have HI := hide (And.intro hi0 (And.intro hz0 (And.intro hz1i hz2i)))
  obtain ⟨m, hm⟩ := masks31 l0
  have HM := hide hm
  clear hr0 hr1 hm hi0 hz0 hz1i hz2i
  obtain ⟨fs, hfs⟩ : ∃ fs : Nat → Int, ∀ i, fs i = 1 + ((m i : Nat) : Int) := ⟨fun i => 1 + ((m i : Nat) : Int), fun _ => rfl⟩
  have HFS := hide hfs
  clear hfs
  go_enter Try.func4, Try.ntmps4
  go_upto_block 0 with (first
    | (go_at_call 9; refine (HSH.out w).mono ?_; rintro _ w1 ⟨rfl, hl1⟩)
    | (go_at_call 10; refine (Tbl.make w w1 hl1).mono ?_; rintro _ w2 ⟨t, lo, rfl, ht2, _, _⟩; have HT2 := hide ht2; clear ht2 hl1))
  go_cut [7, 8] (fun s7 _ wx => ∃ (n : Nat) (S : Us), s7 = .int .i64 (n : Int) ∧ n ≤ 6 ∧ Hid (Tbl w wx t lo 6 S) ∧ Hid (Tu fs n S))
  case first =>
    go_wp2_with fail
    go_loopw [7, 8] (fun s7 s8 wr => ∃ k : Nat, s7 = .int .i64 (k : Int) ∧ s8 = .int .i64 (k : Int) ∧ k ≤ n0 ∧ k ≤ 6 ∧ Hid (Tbl w wr t lo k ⟨grp fs k, []⟩)) (fun _ s8 _ => 6 - (intOf s8).toNat)
    case atStart => exact ⟨0, rfl, rfl, Nat.zero_le _, Nat.zero_le _, HT2⟩
    case round =>
      obtain ⟨k, rfl, rfl, hk0, hk6, HTr⟩ := hrel
      obtain ⟨z4, rfl⟩ : ∃ z4, z4 = wr := ⟨_, rfl⟩
      by_cases hn' : (k : Int) < (n0 : Int)
      · by_cases h6 : (k : Int) < 6
        · obtain ⟨ad, x, hA, hab, hx, hcell0⟩ := (HR0.out.below HTr.out.low).i64_at (k := k) (by omega)
          subst hA
          have hM := (HM.out k).1
          rw [getD_of' hx] at hM
          have hm32 := (HM.out k).2
          have hfk := HFS.out k
          have ho := grp_open fs k [] (by omega) (by omega)
          rw [hfk] at ho
          have HO := hide ho
          have HKK : Hid (okI64 (k : Int)) := hide (by unfold okI64; omega)
          obtain ⟨M, hMM⟩ : ∃ M, m k = M := ⟨_, rfl⟩
          rw [hMM] at hM HO hm32
          clear hx hab ho hfk hMM
          go_wp2_with (first
            | (go_at_call 16; refine (HTr.out.open_ (k : Int) (1 + (M : Int)) HKK.out (by omega)).mono ?_; rw [HO.out.1, HO.out.2]; rintro _ z5 ⟨rfl, ht5, _⟩; have HT5 := hide ht5; clear ht5))
          go_roundw
          case rel => exact ⟨k + 1, by go_num, by go_num, by omega, by omega, HT5⟩
          case measure => simp [intOf]; omega
        · have hd5 : decide ((k : Int) < 6) = false := by simp; omega
          have HTm := hide (HTr.out.wider (m' := 6) (by omega) (by omega))
          have HTu : Hid (Tu fs k ⟨grp fs k, []⟩) := hide ⟨HTr.out.ok, rfl, fun x hx => by cases hx⟩
          go_wp2_with fail
          go_meet
          exact ⟨k, _, rfl, hk6, HTm, HTu⟩
      · have HTm := hide (HTr.out.wider (m' := 6) (by omega) (by omega))
        have HTu : Hid (Tu fs k ⟨grp fs k, []⟩) := hide ⟨HTr.out.ok, rfl, fun x hx => by cases hx⟩
        go_wp2_with fail
        go_meet
        exact ⟨k, _, rfl, hk6, HTm, HTu⟩
  case rest =>
    obtain ⟨n, S, rfl, hn6, HTc, HUc⟩ := hcut
    obtain ⟨z1, rfl⟩ : ∃ z1, z1 = wc := ⟨_, rfl⟩
    clear HT2
    go_upto_block 2 with fail
    go_cut [9, 10, 11] (fun _ _ _ wx => ∃ S : Us, Hid (Tbl w wx t lo 206 S) ∧ Hid (Tu fs n S))
    case first =>
      go_wp2_with fail
      go_loopw [9, 10, 11] (fun s9 _ _ wr => ∃ (k : Nat) (S : Us), s9 = .int .i64 (k : Int) ∧ k ≤ n1 ∧ k ≤ 200 ∧ Hid (Tbl w wr t lo (6 + k) S) ∧ Hid (Tu fs n S)) (fun s9 _ _ _ => 200 - (intOf s9).toNat)
      case atStart => exact ⟨0, S, rfl, Nat.zero_le _, Nat.zero_le _, HTc, HUc⟩
      case round =>
        obtain ⟨k, S, rfl, hkn, hk200, HTr, HUr⟩ := hrel
        obtain ⟨z4, rfl⟩ : ∃ z4, z4 = wr := ⟨_, rfl⟩
        have HTm := hide (HTr.out.wider (m' := 206) (by omega) (by omega))
        by_cases hn' : (k : Int) < (n1 : Int)
        · by_cases h200 : (k : Int) < 200
          · by_cases hnz : (0 : Int) < (n : Int)
            · obtain ⟨ad, hA, hab, hfit, hk0, hg1, hs1, hb1, _⟩ := (HR1.out.below HTr.out.low).cell (i := k) (by omega)
              subst hA
              obtain ⟨N, hN, hN2⟩ := mask_65535 (f k).g
              have hn0 : ¬ (n : Int) = 0 := by omega
              obtain ⟨g, hg⟩ : ∃ g : Nat, (N : Int) % (n : Int) = (g : Int) := ⟨N % n, by omega⟩
              have hgt : (N : Int).tmod (n : Int) = (g : Int) := by rw [Int.tmod_eq_emod_of_nonneg (by omega)]; exact hg
              have hgn : g < n := by have := Int.emod_lt_of_pos (N : Int) hnz; omega
              obtain ⟨Y, hY, hY2⟩ := mask_31 (f k).s
              obtain ⟨Z, hZ, hZ2⟩ := mask_63 (f k).b
              have HX : Hid (okI64 (g : Int)) := hide (by unfold okI64; omega)
              have HY : Hid (okI64 (Y : Int)) := hide (by unfold okI64; omega)
              have HZ : Hid (okI64 (Z : Int)) := hide (by unfold okI64; omega)
              have HUp := hide (HUr.out.put (g : Int) (Y : Int) (Z : Int) (by omega) (by omega))
              have HUl := hide (HUr.out.clear (g : Int) (Y : Int))
              clear hab hfit hN2 hY2 hZ2 hgn
              by_cases hk4 : (f k).k = 4
              · have hke : ((f k).k == 4) = true := by simpa using hk4
                rw [hk4] at hk0
                clear hke hk4
                go_wp2_with (first
                  | (go_at_call 17; refine (HTr.out.clear_ (g : Int) (Y : Int) HX.out HY.out).mono ?_; rintro _ z5 ⟨rfl, ht5, _⟩; have HT5 := hide (ht5.wider (m' := 6 + (k + 1)) (by omega) (by omega)); clear ht5))
                go_roundw
                case rel => exact ⟨k + 1, _, by go_num, by omega, by omega, HT5, HUl⟩
                case measure => simp [intOf]; omega
              · have hke : ((f k).k == 4) = false := by simpa using hk4
                go_wp2_with (first
                  | (go_at_call 18; refine (HTr.out.put_ (g : Int) (Y : Int) (Z : Int) HX.out HY.out HZ.out (by omega)).mono ?_; rintro _ z5 ⟨rfl, ht5, _⟩; have HT5 := hide (ht5.wider (m' := 6 + (k + 1)) (by omega) (by omega)); clear ht5))
                go_roundw
                case rel => exact ⟨k + 1, _, by go_num, by omega, by omega, HT5, HUp⟩
                case measure => simp [intOf]; omega
            · go_wp2_with fail
              go_meet
              exact ⟨S, HTm, HUr⟩
          · have hd5 : decide ((k : Int) < 200) = false := by simp; omega
            go_wp2_with fail
            go_meet
            exact ⟨S, HTm, HUr⟩
        · go_wp2_with fail
          go_meet
          exact ⟨S, HTm, HUr⟩
    case rest =>
      obtain ⟨S, HTc, HUc⟩ := hcut
      obtain ⟨z1, rfl⟩ : ∃ z1, z1 = wc := ⟨_, rfl⟩
      clear HR0 HR1 HM HFS
      go_upto_block 4 with (first
        | (refine wpList_alloc_blk rfl 36 rfl _ (arr64_zero _) ?_; intro z2 hb2 hl2 hs2; clear hs2; have HB2 : Hid (Blk z2 z1.heap.size 36 (bl (sn S 0 0) 64).toArray) := hide (by rw [sn_start HUc.out.ok]; exact hb2); have HT2 := hide (HTc.out.later hl2); have HB9 := hide HTc.out.room; clear hb2 hl2))
      obtain ⟨b9, hb9⟩ : ∃ b, b = z1.heap.size := ⟨_, rfl⟩
      rw [← hb9] at HB2 HB9 ⊢
      have HWB : Hid (w.heap.size ≤ b9 ∧ (b9 < lo ∨ lo + 4 ≤ b9)) := hide (by have := HT2.out.above; have := HB9.out; omega)
      clear hb9 HTc
      go_cut [13, 14, 15, 16, 17, 18, 19, 20, 21, 22, 23, 24] (fun _ _ _ _ _ _ _ _ _ _ _ _ wx => Hid (Tbl w wx t lo 206 S) ∧ Hid (Blk wx b9 36 (bl (sn S (n : Int) 0) 64).toArray))
      case first =>
        go_wp2_with fail
        go_loopw [13, 14, 15, 16, 17, 18, 19, 20, 21, 22, 23, 24] (fun s13 _ _ _ _ _ _ _ _ _ _ _ wr => ∃ g : Nat, s13 = .int .i64 (g : Int) ∧ g ≤ n ∧ Hid (Tbl w wr t lo 206 S) ∧ Hid (Blk wr b9 36 (bl (sn S (g : Int) 0) 64).toArray)) (fun s13 _ _ _ _ _ _ _ _ _ _ _ _ => n - (intOf s13).toNat)
        case atStart => exact ⟨0, rfl, Nat.zero_le _, HT2, HB2⟩
        case round => as_aux_lemma =>
          obtain ⟨g, rfl, hgn, HTr, HBr⟩ := hrel
          obtain ⟨z4, rfl⟩ : ∃ z4, z4 = wr := ⟨_, rfl⟩
          by_cases hg : (g : Int) < (n : Int)
          · have HKG : Hid (okI64 (g : Int)) := hide (by unfold okI64; omega)
            have hsl := Us.slots_le HUc.out.ok (g : Int)
            obtain ⟨N, hN⟩ : ∃ N : Nat, S.slots (g : Int) = (N : Int) := ⟨(S.slots (g : Int)).toNat, by omega⟩
            have hN4 : N ≤ 4096 := by omega
            have HN := hide hN
            have hb9lt := HBr.out.lt
            have HLB : Hid (lo + 4 ≤ z4.heap.size) := hide HTr.out.room
            clear hsl hN
            go_wp2_with fail
            go_loopw [14, 15, 16, 17, 18, 19, 20, 21] (fun s14 s15 s16 _ _ _ _ _ wr => ∃ (s : Nat) (H : Int), s15 = .int .i64 H ∧ s16 = .int .i64 (s : Int) ∧ s ≤ N ∧ Hid (H = hol S (g : Int) s) ∧ Hid (wr.ownsRow z4.heap.size 3 1 s14 (blocksTo S (g : Int) s).length (I64 (blocksTo S (g : Int) s))) ∧ Hid (Tbl w wr t lo 206 S) ∧ Hid (Blk wr b9 36 (bl (sn S (g : Int) (s : Int)) 64).toArray) ∧ z4.heap.size ≤ wr.heap.size) (fun _ _ s16 _ _ _ _ _ _ => N - (intOf s16).toNat)
            case atStart => exact ⟨0, -1, rfl, rfl, Nat.zero_le _, hide rfl, hide ⟨rfl, .inl ⟨rfl, rfl⟩⟩, HTr, HBr, Nat.le_refl _⟩
            case round => as_aux_lemma =>
              obtain ⟨s, H, rfl, rfl, hsN, HH, HO, HTs, HBs, hzs⟩ := hrel
              obtain ⟨z5, rfl⟩ : ∃ z5, z5 = wr := ⟨_, rfl⟩
              have HSL : Hid (S.slots (g : Int) = (N : Int)) := HN
              by_cases hs : (s : Int) < (N : Int)
              · have HKS : Hid (okI64 (s : Int)) := hide (by unfold okI64; omega)
                cases ha : S.at_ (g : Int) (s : Int) with
                | none =>
                  have hlv : S.live (g : Int) s = false := by unfold Us.live; rw [ha]; rfl
                  have HO2 : Hid (z5.ownsRow z4.heap.size 3 1 u14 (blocksTo S (g : Int) (s + 1)).length (I64 (blocksTo S (g : Int) (s + 1)))) := hide (by rw [show blocksTo S (g : Int) (s + 1) = blocksTo S (g : Int) s by rw [blocksTo_succ, ha]; simp]; exact HO.out)
                  have HB2 : Hid (Blk z5 b9 36 (bl (sn S (g : Int) ((s + 1 : Nat) : Int)) 64).toArray) := hide (by rw [show ((s + 1 : Nat) : Int) = (s : Int) + 1 by omega, sn_dead HUc.out.ok ha]; exact HBs.out)
                  have HA := hide ha
                  by_cases hH : H < 0
                  · have HH2 : Hid ((s : Int) = hol S (g : Int) (s + 1)) := hide (by rw [hol_dead hlv, ← HH.out, if_pos hH])
                    clear ha hlv
                    go_wp2_with (first
                      | (go_at_call 19; refine (HTs.out.slots_ (g : Int) HKG.out).mono ?_; rw [HSL.out]; rintro _ _ ⟨rfl, rfl⟩)
                      | (go_at_call 20; refine (HTs.out.block_ (g : Int) (s : Int) HKG.out HKS.out).mono ?_; rw [HA.out]; rintro _ _ ⟨rfl, rfl⟩))
                    go_roundw
                    case rel => exact ⟨s + 1, _, rfl, by go_num, by omega, HH2, HO2, HTs, HB2, hzs⟩
                    case measure => simp [intOf]; omega
                  · have HH2 : Hid (H = hol S (g : Int) (s + 1)) := hide (by rw [hol_dead hlv, ← HH.out, if_neg hH])
                    clear ha hlv
                    go_wp2_with (first
                      | (go_at_call 19; refine (HTs.out.slots_ (g : Int) HKG.out).mono ?_; rw [HSL.out]; rintro _ _ ⟨rfl, rfl⟩)
                      | (go_at_call 20; refine (HTs.out.block_ (g : Int) (s : Int) HKG.out HKS.out).mono ?_; rw [HA.out]; rintro _ _ ⟨rfl, rfl⟩))
                    go_roundw
                    case rel => exact ⟨s + 1, H, rfl, by go_num, by omega, HH2, HO2, HTs, HB2, hzs⟩
                    case measure => simp [intOf]; omega
                | some bb =>
                  have hbb := Us.at_has HUc.out.ok ha
                  have hb64 := HUc.out.b _ (Us.at_some ha)
                  obtain ⟨b, rfl⟩ := Int.eq_ofNat_of_zero_le hbb.2.2.2.1
                  have hb64 : (b : Int) < 64 := hb64
                  have hlv : S.live (g : Int) s = true := by unfold Us.live; rw [ha]; rfl
                  have HH2 : Hid (H = hol S (g : Int) (s + 1)) := hide (by rw [hol_live hlv]; exact HH.out)
                  have hsn := sn_live HUc.out.ok ha
                  have HSN := hide hsn
                  have HA := hide ha
                  have HF := hide ((Us.at_fnd HUc.out.ok).1 ha)
                  have HKB : Hid (okI64 (b : Int)) := hide (by unfold okI64; omega)
                  have HQ : Hid (blocksTo S (g : Int) (s + 1) = blocksTo S (g : Int) s ++ [(b : Int)]) := hide (by rw [blocksTo_succ, ha]; rfl)
                  have hln := blocksTo_len (S := S) (g : Int) s
                  obtain ⟨L, hL⟩ : ∃ L, L = blocksTo S (g : Int) s := ⟨_, rfl⟩
                  rw [← hL] at HO HQ hln
                  have HMX := hide (show L.length + 1 ≤ maxLen ∧ (L.length + 1) * 8 ≤ 140737488355328 by simp only [maxLen]; omega)
                  have hd1 : decide ((b : Int) < 0) = false := by simp
                  have hd2 : decide ((63 : Int) < (b : Int)) = false := by simp; omega
                  clear ha hlv hL hbb hln hsn
                  go_wp2_with (first
                    | (go_at_call 19; refine (HTs.out.slots_ (g : Int) HKG.out).mono ?_; rw [HSL.out]; rintro _ _ ⟨rfl, rfl⟩)
                    | (go_at_call 20; refine (HTs.out.block_ (g : Int) (s : Int) HKG.out HKS.out).mono ?_; rw [HA.out]; rintro _ _ ⟨rfl, rfl⟩)
                    | (go_at_call 21; refine (HTs.out.find_ (b : Int) HKB.out).mono ?_; rw [HF.out]; rintro _ z6 ⟨rfl, ht6, hl6⟩; have HT6 := hide ht6; have HB6 := hide (HBs.out.below hl6 HBs.out.lt); have HO6 := hide (own_later HO.out hl6); have hz6 := Nat.le_trans hzs hl6.size; have q6 : z6.cell? ⟨b9, b, none⟩ = some (.bool false) := (by rw [HB6.out.bit (by omega), HSN.out.2]); clear ht6 hl6)
                    | (refine wpList_poke rfl 4 (.tmp 160) (.const (.bool true)) rfl b9 b 36 _ HB6.out rfl (.bool true) rfl rfl bool_one (by simp [bl]; omega) ?_; intro z7 hb7 hg7 hs7; rw [bl_set] at hb7; have HB7 := hide hb7; have HT7 := hide (HT6.out.grown hg7 (fun g e => (by injection e with e; subst e; exact HWB.out))); have HO7 := hide (own_aside HO6.out hg7 hb9lt); have hz7 : z4.heap.size ≤ z7.heap.size := (by omega); clear hb7 hg7 hs7)
                    | ((with_reducible refine at_slot 164 ?_); refine wpList_append_any _ rfl (.tmp 161) (.tmp 163) _ rfl z4.heap.size 3 i0 _ 1 8 Try.underlying32 HI.out.1 HI.out.2.1 HI.out.2.2.1 HI.out.2.2.2 rfl (by decide) _ L.length _ rfl (own_later HO7.out ((Below.refl _ z7).alloc (Nat.le_refl _) _)) (z7.heap.size + 1) (some ⟨z7.heap.size, 0, none⟩) 1 1 [.int .i64 (b : Int)] rfl (Reads.one _ _ _ _ (by omega)) (by intro x hx; simp at hx; subst hx; rfl) HMX.out.1 HMX.out.2 (by rw [World.size_alloc]; omega) ?_; intro v8 z8 hown8 hl8))
                  have hba := Below.alloc (Below.refl z7.heap.size z7) (Nat.le_refl _) (.cells #[.int .i64 (b : Int)] 3)
                  have hl9 : Below z4.heap.size z7 z8 := (hba.mono hz7).trans hl8
                  have HO2 : Hid (z8.ownsRow z4.heap.size 3 1 v8 (blocksTo S (g : Int) (s + 1)).length (I64 (blocksTo S (g : Int) (s + 1)))) := hide (by rw [HQ.out, List.length_append, I64_append]; exact hown8)
                  have HT8 := hide (HT7.out.above_ hl9 HLB.out)
                  have HB8 : Hid (Blk z8 b9 36 (bl (sn S (g : Int) ((s + 1 : Nat) : Int)) 64).toArray) := hide (by rw [show ((s + 1 : Nat) : Int) = (s : Int) + 1 by omega, HSN.out.1]; exact HB7.out.below hl9 hb9lt)
                  have hz8 := Nat.le_trans hz7 hl9.size
                  clear hba hown8 hl8 hl9
                  go_roundw
                  case rel => exact ⟨s + 1, H, rfl, by go_num, by omega, HH2, HO2, HT8, HB8, hz8⟩
                  case measure => simp [intOf]; omega
              · obtain rfl : s = N := by omega
                have hNt : (S.slots (g : Int)).toNat = s := by rw [HN.out]; omega
                have hbt : blocksTo S (g : Int) s = S.blocks (g : Int) := by rw [← hNt]; exact blocksTo_all _
                have hcb := Us.blocks_len HUc.out.ok (g : Int)
                have hO := HO.out
                rw [hbt, hcb] at hO
                obtain ⟨AR, cR, hAR, hcR1, hcR2⟩ := own_shape hO
                rw [hAR] at hO
                have HO3 := hide hO
                have HCB := hide hcb
                have hHe : H = match S.hole (g : Int) with | none => -1 | some j => (j : Int) := by rw [HH.out, ← hNt]; exact hol_end _ _
                have HB2 : Hid (Blk z5 b9 36 (bl (sn S ((g + 1 : Nat) : Int) 0) 64).toArray) := hide (by rw [show ((g + 1 : Nat) : Int) = (g : Int) + 1 by omega, ← sn_next HUc.out.ok, HN.out]; exact HBs.out)
                obtain ⟨Cn, hCn⟩ : ∃ Cn, S.cnt (g : Int) = Cn := ⟨_, rfl⟩
                rw [hCn] at HO3 HCB hAR hcR1
                have HCN := hide hCn
                have hCm : Cn ≤ maxLen := by omega
                subst hAR
                clear hO hcb hbt hNt hCn HO
                cases hh : S.hole (g : Int) with
                | none =>
                  rw [hh] at hHe
                  dsimp only at hHe
                  subst hHe
                  have HHO := hide hh
                  clear hh
                  go_wp2_with (first
                    | (go_at_call 19; refine (HTs.out.slots_ (g : Int) HKG.out).mono ?_; rw [HSL.out]; rintro _ _ ⟨rfl, rfl⟩)
                    | (go_at_call 22; refine (HTs.out.hole_ (g : Int) HKG.out).mono ?_; rw [HHO.out]; rintro _ _ ⟨rfl, rfl⟩)
                    | (go_at_call 25; refine (HT7.out.count_ (g : Int) HKG.out).mono ?_; rw [HCN.out]; rintro _ _ ⟨rfl, rfl⟩)
                    | (go_at_call 24; refine (HTs.out.blocks_ (g : Int) HKG.out).mono ?_; rintro _ z6 ⟨v6, rfl, hown6, ht6, hl6⟩; rw [HCB.out] at hown6; obtain ⟨A6, c6, rfl, _, _⟩ := own_shape hown6; have HR6 := hide (own_reads hown6); have HR7 := hide (own_reads (own_later HO3.out hl6)); have HT6 := hide ht6; have HB6 := hide (HB2.out.below hl6 HB2.out.lt); clear ht6 hl6 hown6)
                    | (go_at_call 23; refine (numbers_any A6 AR Cn Cn c6 cR (S.blocks (g : Int)) (S.blocks (g : Int)) z6.heap.size z6 HR6.out HR7.out hCm hCm).mono ?_; rw [decide_eq_true rfl]; rintro _ z7 ⟨rfl, q7, hz7⟩; have HT7 : Hid (Tbl w z7 t lo 206 S) := hide (by rw [hz7]; exact HT6.out.drewN q7); have HB7 : Hid (Blk z7 b9 36 (bl (sn S ((g + 1 : Nat) : Int) 0) 64).toArray) := hide (by rw [hz7]; exact HB6.out.drewN q7); clear hz7))
                  go_roundw
                  case rel => exact ⟨g + 1, by go_num, by omega, HT7, HB7⟩
                  case measure => simp [intOf]; omega
                | some j =>
                  rw [hh] at hHe
                  dsimp only at hHe
                  subst hHe
                  have HHO := hide hh
                  clear hh
                  go_wp2_with (first
                    | (go_at_call 19; refine (HTs.out.slots_ (g : Int) HKG.out).mono ?_; rw [HSL.out]; rintro _ _ ⟨rfl, rfl⟩)
                    | (go_at_call 22; refine (HTs.out.hole_ (g : Int) HKG.out).mono ?_; rw [HHO.out]; rintro _ _ ⟨rfl, rfl⟩)
                    | (go_at_call 25; refine (HT7.out.count_ (g : Int) HKG.out).mono ?_; rw [HCN.out]; rintro _ _ ⟨rfl, rfl⟩)
                    | (go_at_call 24; refine (HTs.out.blocks_ (g : Int) HKG.out).mono ?_; rintro _ z6 ⟨v6, rfl, hown6, ht6, hl6⟩; rw [HCB.out] at hown6; obtain ⟨A6, c6, rfl, _, _⟩ := own_shape hown6; have HR6 := hide (own_reads hown6); have HR7 := hide (own_reads (own_later HO3.out hl6)); have HT6 := hide ht6; have HB6 := hide (HB2.out.below hl6 HB2.out.lt); clear ht6 hl6 hown6)
                    | (go_at_call 23; refine (numbers_any A6 AR Cn Cn c6 cR (S.blocks (g : Int)) (S.blocks (g : Int)) z6.heap.size z6 HR6.out HR7.out hCm hCm).mono ?_; rw [decide_eq_true rfl]; rintro _ z7 ⟨rfl, q7, hz7⟩; have HT7 : Hid (Tbl w z7 t lo 206 S) := hide (by rw [hz7]; exact HT6.out.drewN q7); have HB7 : Hid (Blk z7 b9 36 (bl (sn S ((g + 1 : Nat) : Int) 0) 64).toArray) := hide (by rw [hz7]; exact HB6.out.drewN q7); clear hz7))
                  go_roundw
                  case rel => exact ⟨g + 1, by go_num, by omega, HT7, HB7⟩
                  case measure => simp [intOf]; omega
          · obtain rfl : g = n := by omega
            go_wp2_with fail
            go_meet
            exact ⟨HTr, HBr⟩
      case rest =>
        obtain ⟨HT3, HB3⟩ := hcut
        obtain ⟨z3, rfl⟩ : ∃ z3, z3 = wc := ⟨_, rfl⟩
        clear HT2 HB2
        go_wp2_with fail
        go_loopw [25, 26, 27, 28] (fun s25 _ _ _ wr => ∃ b : Nat, s25 = .int .i64 (b : Int) ∧ b ≤ 64 ∧ Hid (Tbl w wr t lo 206 S) ∧ Hid (Blk wr b9 36 (bl (sn S (n : Int) 0) 64).toArray)) (fun s25 _ _ _ _ => 64 - (intOf s25).toNat)
        case atStart => exact ⟨0, rfl, Nat.zero_le _, HT3, HB3⟩
        case round =>
          obtain ⟨b, rfl, hb, HTr, HBr⟩ := hrel
          obtain ⟨z7, rfl⟩ : ∃ z7, z7 = wr := ⟨_, rfl⟩
          by_cases hb64 : (b : Int) < 64
          · have HKB : Hid (okI64 (b : Int)) := hide (by unfold okI64; omega)
            have hse := sn_end HUc.out b
            cases hf : S.fnd (b : Int) with
            | none =>
              rw [hf] at hse
              have HSE := hide hse
              have HF := hide hf
              clear hse hf
              go_wp2_with (first
                | (go_at_call 21; refine (HTr.out.find_ (b : Int) HKB.out).mono ?_; rw [HF.out]; rintro _ z8 ⟨rfl, ht8, hl8⟩; have HT8 := hide ht8; have HB8 := hide (HBr.out.below hl8 HBr.out.lt); have q8 : z8.cell? ⟨b9, b, none⟩ = some (.bool false) := (by rw [HB8.out.bit (by omega), HSE.out]; rfl); clear ht8 hl8))
              go_roundw
              case rel => exact ⟨b + 1, by go_num, by omega, HT8, HB8⟩
              case measure => simp [intOf]; omega
            | some p =>
              rw [hf] at hse
              have HSE := hide hse
              have HF := hide hf
              clear hse hf
              go_wp2_with (first
                | (go_at_call 21; refine (HTr.out.find_ (b : Int) HKB.out).mono ?_; rw [HF.out]; rintro _ z8 ⟨rfl, ht8, hl8⟩; have HT8 := hide ht8; have HB8 := hide (HBr.out.below hl8 HBr.out.lt); have q8 : z8.cell? ⟨b9, b, none⟩ = some (.bool true) := (by rw [HB8.out.bit (by omega), HSE.out]; rfl); clear ht8 hl8))
              go_roundw
              case rel => exact ⟨b + 1, by go_num, by omega, HT8, HB8⟩
              case measure => simp [intOf]; omega
          · go_wp2_with fail
            go_ret
            exact ⟨rfl, HTr.out.low⟩
#print axioms usageTurned_walk
end Go.Proofs.Ytgoglgghnjgcdaa
