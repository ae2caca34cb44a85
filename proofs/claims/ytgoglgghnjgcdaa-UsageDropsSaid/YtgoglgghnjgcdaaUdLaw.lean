/- UsageDrops' walk: what is dropped is nowhere, and nothing else is. -/
import Derived.Test.YtgoglgghnjgcdaaUsgB
namespace Go.Proofs.Ytgoglgghnjgcdaa
open Go.RowKit Go.Maps

section
variable {S : Us}
/-- Four groups of sixteen. -/
theorem four_has (h : S.G = grp (fun _ => 16) 4) (q : Int) : S.has q = decide (0 ≤ q ∧ q < 4) := by
  have := grp_has (fun _ => 16) 4 S.L q
  rw [← h] at this
  exact this
theorem four_dropped (h : S.G = grp (fun _ => 16) 4) {q : Int} (h0 : 0 ≤ q) (h4 : q < 4) : (S.dropped q).G.length = 3 := by
  unfold Us.dropped
  dsimp only
  rw [h]
  rcases (show q = 0 ∨ q = 1 ∨ q = 2 ∨ q = 3 by omega) with rfl | rfl | rfl | rfl <;> rfl
theorem drop_good {q : Int} (h : S.has q = true) : S.dropE q = 0 ∧ S.drop' q = S.dropped q := by
  have e : S.dropE q = 0 := by unfold Us.dropE; rw [h]; rfl
  exact ⟨e, by unfold Us.drop'; rw [if_pos e]⟩
theorem drop_bad {q : Int} (h : S.has q = false) : S.dropE q = 8 ∧ S.drop' q = S := by
  have e : S.dropE q = 8 := by unfold Us.dropE; rw [h]; rfl
  exact ⟨e, by unfold Us.drop'; rw [e]; rfl⟩
theorem put_none {g s b : Int} (h : S.has g = false) : S.putE g s b = 8 ∧ S.put' g s b = S := by
  have e1 : S.inE g s = 8 := by unfold Us.inE; rw [h]; rfl
  have e : S.putE g s b = 8 := by unfold Us.putE; rw [e1]; rfl
  exact ⟨e, put_bad (by rw [e]; decide)⟩
end
set_option maxRecDepth 100000 in
set_option maxHeartbeats 8000000 in
theorem usageDrops_walk (A : Option Addr) (n c : Nat) (f : Nat → OpU) (who : Int) (w : World) (hr : OpsU w w.heap.size A n f) :
    Calls Try.prog 5 #[.slice A n c, .int .i64 who] w fun e w' => e = .returned (.bool true) ∧ Below w.heap.size w w' := by
  have HSH := hide shown14_any
  have HR := hide hr
  have hnl := run_eql_tab
  obtain ⟨Q, hQ, hQ4⟩ := mask_3 who
  obtain ⟨q, hq⟩ : ∃ q : Int, (Q : Int) = q := ⟨_, rfl⟩
  rw [hq] at hQ
  have hq0 : 0 ≤ q := by omega
  have hq4 : q < 4 := by omega
  clear hr hq hQ4
  go_enter Try.func5, Try.ntmps5
  go_wp2_with (first
    | (go_at_call 9; refine (HSH.out w).mono ?_; rintro _ w1 ⟨rfl, hl1⟩)
    | (go_at_call 10; refine (Tbl.make w w1 hl1).mono ?_; rintro _ w2 ⟨t, lo, rfl, ht2, _, _⟩; have HT2 := hide ht2; clear ht2 hl1))
  go_loopw [7] (fun s7 wr => ∃ k : Nat, s7 = .int .i64 (k : Int) ∧ k ≤ 4 ∧ Hid (Tbl w wr t lo k ⟨grp (fun _ => 16) k, []⟩)) (fun s7 _ => 4 - (intOf s7).toNat)
  case atStart => exact ⟨0, rfl, by decide, HT2⟩
  case round =>
    obtain ⟨k, rfl, hk, HT⟩ := hrel
    by_cases hk4 : (k : Int) < 4
    · have HO := hide (grp_open (fun _ => 16) k [] (by decide) (by decide))
      have hok : okI64 (k : Int) := by unfold okI64; omega
      go_wp2_with (first
        | (go_at_call 16; refine (HT.out.open_ (k : Int) 16 hok (by omega)).mono ?_; rw [HO.out.1, HO.out.2]; rintro _ w3 ⟨rfl, ht3, _⟩; have HT3 := hide ht3; clear ht3))
      go_roundw
      case rel => exact ⟨k + 1, by go_num, by omega, HT3⟩
      case measure => simp [intOf]; omega
    · obtain rfl : k = 4 := by omega
      obtain ⟨z3, rfl⟩ : ∃ z3, z3 = wr := ⟨_, rfl⟩
      clear HT2
      go_upto_block 2 with fail
      go_cut [8] (fun _ wx => ∃ S : Us, Hid (Tbl w wx t lo 104 S) ∧ Hid (S.G = grp (fun _ => 16) 4))
      case first =>
        go_wp2_with fail
        go_loopw [8] (fun s8 wr => ∃ (k : Nat) (S : Us), s8 = .int .i64 (k : Int) ∧ k ≤ n ∧ k ≤ 100 ∧ Hid (Tbl w wr t lo (4 + k) S) ∧ Hid (S.G = grp (fun _ => 16) 4)) (fun s8 _ => 100 - (intOf s8).toNat)
        case atStart => exact ⟨0, _, rfl, Nat.zero_le _, Nat.zero_le _, HT, hide rfl⟩
        case round =>
          obtain ⟨k, S, rfl, hkn, hk100, HTr, HGr⟩ := hrel
          obtain ⟨z4, rfl⟩ : ∃ z4, z4 = wr := ⟨_, rfl⟩
          by_cases hn' : (k : Int) < (n : Int)
          · by_cases h100 : (k : Int) < 100
            · obtain ⟨ad, hA, hab, hfit, _, hg1, hs1, hb1, _⟩ := (HR.out.below HTr.out.low).cell (i := k) (by omega)
              subst hA
              obtain ⟨X, hX, hX2⟩ := mask_3 (f k).g
              obtain ⟨Y, hY, hY2⟩ := mask_15 (f k).s
              obtain ⟨Z, hZ, hZ2⟩ := mask_31 (f k).b
              have HX : Hid (okI64 (X : Int)) := hide (by unfold okI64; omega)
              have HY : Hid (okI64 (Y : Int)) := hide (by unfold okI64; omega)
              have HZ : Hid (okI64 (Z : Int)) := hide (by unfold okI64; omega)
              have hg1 : z4.drew.cell? _ = _ := hg1
              have hs1 : z4.drew.cell? _ = _ := hs1
              have hb1 : z4.drew.cell? _ = _ := hb1
              have HTd := hide HTr.out.drew
              clear hX2 hY2 hZ2 hfit hab
              go_upto_region 13 with fail
              refine wp_region_still_tail 19 (by kernel_rfl) (by kernel_rfl) ?_
              change wpStill _ _ z4.drew _ _ _
              simp only [List.take_succ_cons, List.take_zero, List.drop_succ_cons, List.drop_zero]
              iterate 19 still_step
              refine wpStill_nil ?_
              change wpList _ _ _ _ _ z4.drew
              go_wp2_with (first
                | (go_at_call 18; refine (HTd.out.put_ (X : Int) (Y : Int) (Z : Int) HX.out HY.out HZ.out (by omega)).mono ?_; rintro _ z5 ⟨rfl, ht5, _⟩; have HT5 := hide ht5; clear ht5))
              have HG5 : Hid ((S.put' (X : Int) (Y : Int) (Z : Int)).G = grp (fun _ => 16) 4) := hide ((S.put_len' _ _ _).1.trans HGr.out)
              have HT6 : Hid (Tbl w z5 t lo (4 + (k + 1)) (S.put' (X : Int) (Y : Int) (Z : Int))) := HT5
              go_roundw
              case rel => exact ⟨k + 1, _, by go_num, by omega, by omega, HT6, HG5⟩
              case measure => simp [intOf]; omega
            · have hd5 : decide ((k : Int) < 100) = false := by simp; omega
              have HTm := hide (HTr.out.wider (m' := 104) (by omega) (by omega))
              go_wp2_with fail
              go_meet
              exact ⟨S, HTm, HGr⟩
          · have HTm := hide (HTr.out.wider (m' := 104) (by omega) (by omega))
            go_wp2_with fail
            go_meet
            exact ⟨S, HTm, HGr⟩
      case rest =>
        obtain ⟨S, HTc, HGc⟩ := hcut
        obtain ⟨z1, rfl⟩ : ∃ z1, z1 = wc := ⟨_, rfl⟩
        have hok := HTc.out.ok
        have hh : S.has q = true := by rw [four_has HGc.out]; simp; omega
        have hh2 : (S.dropped q).has q = false := by rw [Us.dropped_has]; simp
        have HQ : Hid (okI64 q) := hide (by unfold okI64; omega)
        have H0 : Hid (okI64 0) := hide (by unfold okI64; omega)
        have H1 : Hid (okI64 1) := hide (by unfold okI64; omega)
        have HD1 := hide (drop_good hh)
        have HD2 := hide (drop_bad hh2)
        have HP := hide (put_none (s := 0) (b := 1) hh2)
        have HSL : Hid ((S.dropped q).slots q = 0) := hide (Us.slots_none hh2)
        have HGL : Hid ((S.dropped q).groups.length = 3) := hide (by rw [Us.groups_len]; exact four_dropped HGc.out hq0 hq4)
        have HF := hide (Us.dropped_fnd hok q)
        have hoE : (S.dropped q).openE q 16 = 0 := by unfold Us.openE; rw [if_neg (by omega), hh2]; rfl
        have HOE := hide hoE
        have HC0 : Hid (((S.dropped q).open' q 16).cnt q = 0) := hide (by unfold Us.open'; rw [if_pos hoE, Us.opened_cnt, Us.dropped_cnt, if_pos rfl])
        have HBL := hide (Us.blocks_len hok q)
        clear hok hh hh2 hoE HT
        go_wp2_with (first
          | (go_at_call 13; refine HTc.out.twin.mono ?_; rintro _ z2 ⟨t2, lo2, rfl, ht2, hlo2, hl2⟩; have HT2 := hide (HTc.out.later hl2); have HW2 := hide ht2; have HLO : Hid (lo + 4 ≤ lo2) := hide (Nat.le_trans HTc.out.room hlo2); clear ht2 hlo2 hl2)
          | (go_at_call 19; refine (HT5.out.slots_ q HQ.out).mono ?_; rw [HSL.out]; rintro _ _ ⟨rfl, rfl⟩)
          | (go_at_call 27; refine HT5.out.groups_.mono ?_; rintro _ z6 ⟨v, rfl, hown, ht6, hl6⟩; rw [HGL.out] at hown; obtain ⟨A6, c6, rfl, _, _⟩ := own_shape hown; have HT6 := hide ht6; have HW6 := hide (HW5.out.later hl6); clear ht6 hown hl6)
          | (go_at_call 18; refine (HT4.out.put_ q 0 1 HQ.out H0.out H1.out (by omega)).mono ?_; rw [HP.out.1, HP.out.2]; rintro _ z5 ⟨rfl, ht5, hu5⟩; have HT5 := hide ht5; have HW5 := hide (HW4.out.upto hu5 HT4.out.above (.inl HLO.out)); clear ht5 hu5)
          | (go_at_call 26; refine (HT3.out.drop_ q HQ.out).mono ?_; rw [HD2.out.1, HD2.out.2]; rintro _ z4 ⟨rfl, ht4, hu4⟩; have HT4 := hide ht4; have HW4 := hide (HW3.out.upto hu4 HT3.out.above (.inl HLO.out)); clear ht4 hu4)
          | (go_at_call 26; refine (HT2.out.drop_ q HQ.out).mono ?_; rw [HD1.out.1, HD1.out.2]; rintro _ z3 ⟨rfl, ht3, hu3⟩; have HT3 := hide ht3; have HW3 := hide (HW2.out.upto hu3 HT2.out.above (.inl HLO.out)); clear ht3 hu3))
        go_loopw [10, 11, 12, 13, 14, 15, 16] (fun s10 _ _ _ _ _ _ wr => ∃ b : Nat, s10 = .int .i64 (b : Int) ∧ b ≤ 32 ∧ Hid (Tbl w wr t lo 105 (S.dropped q)) ∧ Hid (Tbl w wr t2 lo2 104 S)) (fun s10 _ _ _ _ _ _ _ => 32 - (intOf s10).toNat)
        case atStart => exact ⟨0, rfl, Nat.zero_le _, HT6, HW6⟩
        case round =>
          obtain ⟨b, rfl, hb, HTr, HWr⟩ := hrel
          obtain ⟨z7, rfl⟩ : ∃ z7, z7 = wr := ⟨_, rfl⟩
          by_cases hb32 : (b : Int) < 32
          · have HKB : Hid (okI64 (b : Int)) := hide (by unfold okI64; omega)
            have hF := HF.out (b : Int)
            cases hf : S.fnd (b : Int) with
            | none =>
              rw [hf] at hF
              have HF1 := hide hf
              have HF2 : Hid ((S.dropped q).fnd (b : Int) = none) := hide hF
              clear hf hF
              go_wp2_with (first
                | (go_at_call 21; with_reducible refine (HT8.out.find_ (b : Int) HKB.out).mono ?_; rw [HF2.out]; rintro _ z9 ⟨rfl, ht9, hl9⟩; have HT9 := hide ht9; have HW9 := hide (HW8.out.later hl9); clear ht9 hl9)
                | (go_at_call 21; with_reducible refine (HWr.out.find_ (b : Int) HKB.out).mono ?_; rw [HF1.out]; rintro _ z8 ⟨rfl, hw8, hl8⟩; have HW8 := hide hw8; have HT8 := hide (HTr.out.later hl8); clear hw8 hl8))
              go_roundw
              case rel => exact ⟨b + 1, by go_num, by omega, HT9, HW9⟩
              case measure => simp [intOf]; omega
            | some p =>
              obtain ⟨g, s⟩ := p
              rw [hf] at hF
              dsimp only at hF
              have HF1 := hide hf
              by_cases hg : g = q
              · rw [if_pos hg] at hF
                have HF2 := hide hF
                subst hg
                clear hf hF
                go_wp2_with (first
                  | (go_at_call 21; with_reducible refine (HT8.out.find_ (b : Int) HKB.out).mono ?_; rw [HF2.out]; rintro _ z9 ⟨rfl, ht9, hl9⟩; have HT9 := hide ht9; have HW9 := hide (HW8.out.later hl9); clear ht9 hl9)
                  | (go_at_call 21; with_reducible refine (HWr.out.find_ (b : Int) HKB.out).mono ?_; rw [HF1.out]; rintro _ z8 ⟨rfl, hw8, hl8⟩; have HW8 := hide hw8; have HT8 := hide (HTr.out.later hl8); clear hw8 hl8))
                go_roundw
                case rel => exact ⟨b + 1, by go_num, by omega, HT9, HW9⟩
                case measure => simp [intOf]; omega
              · rw [if_neg hg] at hF
                have HF2 := hide hF
                have hne : (g != q) = true := by simpa using hg
                clear hf hF
                go_wp2_with (first
                  | (go_at_call 21; with_reducible refine (HT8.out.find_ (b : Int) HKB.out).mono ?_; rw [HF2.out]; rintro _ z9 ⟨rfl, ht9, hl9⟩; have HT9 := hide ht9; have HW9 := hide (HW8.out.later hl9); clear ht9 hl9)
                  | (go_at_call 21; with_reducible refine (HWr.out.find_ (b : Int) HKB.out).mono ?_; rw [HF1.out]; rintro _ z8 ⟨rfl, hw8, hl8⟩; have HW8 := hide hw8; have HT8 := hide (HTr.out.later hl8); clear hw8 hl8))
                go_roundw
                case rel => exact ⟨b + 1, by go_num, by omega, HT9, HW9⟩
                case measure => simp [intOf]; omega
          · obtain rfl : b = 32 := by omega
            go_wp2_with (first
              | (go_at_call 24; refine (HW8.out.blocks_ q HQ.out).mono ?_; rintro _ z9 ⟨v, rfl, hown, ht9, _⟩; rw [HBL.out] at hown; obtain ⟨A9, c9, rfl, _, _⟩ := own_shape hown; have HT9 := hide ht9; clear ht9 hown)
              | (go_at_call 25; with_reducible refine (HW8.out.count_ q HQ.out).mono ?_; rintro _ _ ⟨rfl, rfl⟩)
              | (go_at_call 25; with_reducible refine (HT8.out.count_ q HQ.out).mono ?_; rw [HC0.out]; rintro _ _ ⟨rfl, rfl⟩)
              | (go_at_call 16; refine (HTr.out.open_ q 16 HQ.out (by omega)).mono ?_; rw [HOE.out]; rintro _ z8 ⟨rfl, ht8, hu8⟩; have HT8 := hide ht8; have HW8 := hide (HWr.out.upto hu8 HTr.out.above (.inl HLO.out)); clear ht8 hu8))
            go_ret
            exact ⟨by simp, HT9.out.low⟩
#print axioms usageDrops_walk
end Go.Proofs.Ytgoglgghnjgcdaa
