/- BitsPlays, walked for every number up to two thousand. -/
import Derived.Test.YtpakipacclmimaaDoorBitsPlaysL
import Derived.Test.YtpakipacclmimaaDoorCards
import Derived.Test.YtpakipacclmimaaDoorTie
import Derived.Deep.DeepCutAuto
import Derived.Deep.CutBlock
namespace Go.Proofs.YtpakipacclmimaaDoor.BitsPlays
open Go.ChangeShapes Go.WideShapes Go.ChangeAt Go.RowKit
set_option linter.unusedVariables false
set_option maxRecDepth 100000 in
set_option maxHeartbeats 8000000 in
theorem walk_all (n : Int) (A : Option Addr) (nt c : Nat) (f g : Nat → Int) (w : World) (hT : Tab w) (hops : Ops w w.heap.size A nt f g) (hc : nt ≤ c) (hcc : c ≤ 9223372036854775807) (hs : n ≤ 2000) :
    Calls Tryd.prog 3 #[.int .i64 n, .slice A nt c] w fun e w' => e = .returned (.bool true) ∧ Below w.heap.size w w' := by
  have hd : decide (n ≤ (2000 : Int)) = true := by simp; omega
  have hpos := hT.pos
  go_enter Tryd.func3, Tryd.ntmps3
  go_wp2_with fail
  refine (shown_any w hT).mono ?_
  rintro e w1 ⟨rfl, hb1⟩
  have hT1 := hT.later hb1
  go_wp2_with fail
  refine (new_any n w1).mono ?_
  rintro e w2 ⟨rfl, hm2, hb2⟩
  obtain ⟨N, hN⟩ : ∃ N, N = clamp n := ⟨_, rfl⟩
  rw [← hN] at hm2
  have HN := hide hN
  have hT2 := hT1.later hb2
  have hbel2 : Below w.heap.size w w2 := hb1.trans (hb2.mono hb1.size)
  obtain ⟨b0, hbb⟩ : ∃ b0, b0 = w1.heap.size := ⟨_, rfl⟩
  rw [← hbb] at hm2 ⊢
  have HB : Hid (w.heap.size ≤ b0) := by show _ ≤ _; rw [hbb]; exact hb1.size
  clear hN hbb hb1 hb2 hT1
  go_wp2_with fail
  refine (rnew_any n w2).mono ?_
  rintro e w3 ⟨p, AL, cL, rfl, hr3, hb3⟩
  rw [← HN.out] at hr3
  have hr3m := hr3.mono hbel2.size
  have hm3 := hm2.later hb3
  have hT3 := hT2.later hb3
  have hbel3 := hbel2.trans (hb3.mono hbel2.size)
  have hNb : N ≤ 65536 := hm2.le
  clear hr3 hm2 hT2 hbel2 hb3
  go_wp2_with fail
  refine (rclone_any hr3m).mono ?_
  rintro e w4 ⟨p4, A4, c4, rfl, hz4, hb4⟩
  have HN4 := hide (hr3m.apart hz4 (Nat.le_refl _))
  have hz4m := hz4.mono hbel3.size
  have hm4 := hm3.later hb4
  have hr4 := hr3m.later hb4
  have hbel4 := hbel3.trans (hb4.mono hbel3.size)
  have hT4 := hT3.later hb4
  clear hm3 hr3m hbel3 hT3 hz4 hb4
  go_upto_block 0 with fail
  go_cut [6, 8, 9, 10, 11, 12, 13] (fun m o z _ _ _ _ wx => ∃ (b bo po : Nat) (Ao : Option Addr) (co : Nat) (t tp : Nat → Bool), m = .pointer (some ⟨b, 0, none⟩) ∧ o = .pointer (some ⟨bo, 0, none⟩) ∧ z = .pointer (some ⟨po, 0, none⟩) ∧ MapAt wx b N t ∧ MapAt wx bo N tp ∧ RefAt wx w.heap.size p AL cL N t ∧ RefAt wx w.heap.size po Ao co N tp ∧ Hid ((Value.slice Ao N co).ownBlock = none ∨ (Value.slice Ao N co).ownBlock ≠ (Value.slice AL N cL).ownBlock) ∧ Hid (w.heap.size ≤ b) ∧ Below w.heap.size w wx ∧ Tab wx)
  case first =>
    go_wp2_with fail
    go_loopw [6, 8, 9, 10] (fun m o z a wr => ∃ k : Nat, k ≤ nt ∧ k ≤ 300 ∧ a = .int .i64 (k : Int) ∧ ∃ (b bo po : Nat) (Ao : Option Addr) (co : Nat) (t tp : Nat → Bool), m = .pointer (some ⟨b, 0, none⟩) ∧ o = .pointer (some ⟨bo, 0, none⟩) ∧ z = .pointer (some ⟨po, 0, none⟩) ∧ MapAt wr b N t ∧ MapAt wr bo N tp ∧ RefAt wr w.heap.size p AL cL N t ∧ RefAt wr w.heap.size po Ao co N tp ∧ Hid ((Value.slice Ao N co).ownBlock = none ∨ (Value.slice Ao N co).ownBlock ≠ (Value.slice AL N cL).ownBlock) ∧ Hid (w.heap.size ≤ b) ∧ Below w.heap.size w wr ∧ Tab wr) (fun _ _ _ a _ => 300 - (intOf a).toNat)
    case atStart => exact ⟨0, by omega, by omega, rfl, _, _, _, _, _, _, _, rfl, rfl, rfl, hm4, hm4, hr4, hz4m, HN4, HB, hbel4, hT4⟩
    case round =>
      clear hm4 hr4 hz4m HN4 HB hbel4 hT4
      obtain ⟨k, hk, hk3, rfl, b, bo, po, Ao, co, t, tp, rfl, rfl, rfl, hm, ho, hr, hw, HNE, HBB, hbel, hTr⟩ := hrel
      by_cases h1 : k < nt
      · by_cases h2 : k < 300
        · obtain ⟨ad, rfl, hab, hcell⟩ := (hops.below hbel) (by omega)
          have hc1 := (hcell k h1).1
          have hc2 := (hcell k h1).2
          by_cases hk5 : f k = 5
          · have hd5 : (f k == (5 : Int)) = true := by simpa using hk5
            clear hk5
            go_wp2_with fail
            refine (rclone_any hr).mono ?_
            rintro e w5 ⟨p5, A5, c5, rfl, hz5, hb5⟩
            have HN5 := hide (hr.apart hz5 (Nat.le_refl _))
            have hz5m := hz5.mono hbel.size
            have hm5 := hm.later hb5
            have hr5 := hr.later hb5
            have hbel5 := hbel.trans (hb5.mono hbel.size)
            have hT5 := hTr.later hb5
            clear hm ho hr hw hbel hTr hz5 hb5
            go_wp2_with fail
            refine (clone_any hm5).mono ?_
            rintro e w6 ⟨rfl, hm6, hb6⟩
            have ho6 := hm5.later hb6
            have hr6 := hr5.later hb6
            have hw6 := hz5m.later hb6
            have hbel6 := hbel5.trans (hb6.mono hbel5.size)
            have hT6 := hT5.later hb6
            have HBB6 : Hid (w.heap.size ≤ w5.heap.size) := hbel5.size
            clear hm5 hr5 hz5m hbel5 hT5 hb6
            have hq0 := hr6.cell0
            clear hcell hc1 hc2
            go_wp2_with fail
            go_quiet (first | (go_at_call 15; exact quiet_as (len_any (hm6.drewN _))) | (go_at_call 18; exact quiet_as (count_any (hm6.drewN _))) | (go_at_call 19; exact quiet_as (rcount_any (hr6.drewN _))))
            clear hq0
            go_wp2_with fail
            go_roundw
            case rel => exact ⟨k + 1, by omega, by omega, by go_num, _, _, _, _, _, _, _, rfl, rfl, rfl, hm6.drewN _, ho6.drewN _, hr6.drewN _, hw6.drewN _, HN5, HBB6, below_drewN hbel6 _, hT6⟩
            case measure => simp [intOf]; omega
          · have hd5 : (f k == (5 : Int)) = false := by simpa using hk5
            by_cases hk6 : f k = 6
            · have hd6 : (f k == (6 : Int)) = true := by simpa using hk6
              clear hk5 hk6
              go_wp2_with fail
              refine (rclone_any hr).mono ?_
              rintro e w5 ⟨p5, A5, c5, rfl, hz5, hb5⟩
              have HN5 := hide (hr.apart hz5 (Nat.le_refl _))
              have hz5m := hz5.mono hbel.size
              have hm5 := hm.later hb5
              have hr5 := hr.later hb5
              have hbel5 := hbel.trans (hb5.mono hbel.size)
              have hT5 := hTr.later hb5
              clear hm ho hr hw hbel hTr hz5 hb5
              go_wp2_with fail
              refine (len_any hm5).mono ?_
              rintro e w6 ⟨rfl, rfl⟩
              go_wp2_with fail
              refine (bytes_any hm5).mono ?_
              rintro e w6 ⟨A6, n6, c6, rfl, hn6, hcc6, hown6, hb6⟩
              have hm6 := hm5.later hb6
              have hr6 := hr5.later hb6
              have hw6 := hz5m.later hb6
              have hbel6 := hbel5.trans (hb6.mono hbel5.size)
              have hT6 := hT5.later hb6
              have HZ6 : Hid (ofCode N (bytesOf N t) = 0) := of_bytesOf hm5.le hm5.out
              have HBIT : Hid (bitAt (bytesOf N t) = t) := funext (bitAt_bytesOf hm5.out)
              clear hm5 hr5 hz5m hbel5 hT5 hb6
              go_wp2_with fail
              refine (of_any (w := w6) N _ _ _ (bytesOf N t) (Reads.of_own hown6)).mono ?_
              rintro e w7 ⟨hb7, hcode⟩
              rcases hcode with ⟨h0, _⟩ | ⟨_, rfl, hm7⟩
              · exact absurd HZ6.out h0
              rw [Int.toNat_natCast, HBIT.out] at hm7
              have ho7 := hm6.later hb7
              have hr7 := hr6.later hb7
              have hw7 := hw6.later hb7
              have hbel7 := hbel6.trans (hb7.mono hbel6.size)
              have hT7 := hT6.later hb7
              have HBB7 : Hid (w.heap.size ≤ w6.heap.size) := hbel6.size
              clear hm6 hr6 hw6 hbel6 hT6 hb7 hown6 hn6 hcc6
              have hq0 := hr7.cell0
              clear hcell hc1 hc2
              go_wp2_with fail
              go_quiet (first | (go_at_call 15; exact quiet_as (len_any (hm7.drewN _))) | (go_at_call 18; exact quiet_as (count_any (hm7.drewN _))) | (go_at_call 19; exact quiet_as (rcount_any (hr7.drewN _))))
              clear hq0
              go_wp2_with fail
              go_roundw
              case rel => exact ⟨k + 1, by omega, by omega, by go_num, _, _, _, _, _, _, _, rfl, rfl, rfl, hm7.drewN _, ho7.drewN _, hr7.drewN _, hw7.drewN _, HN5, HBB7, below_drewN hbel7 _, hT7⟩
              case measure => simp [intOf]; omega
            · have hd6 : (f k == (6 : Int)) = false := by simpa using hk6
              clear hk5 hk6
              by_cases hbo : bo = b
              · subst hbo
                have heq := eql_same wr bo
                clear ho hw
                go_wp2_with fail
                refine (clone_any hm).mono ?_
                rintro e w5 ⟨rfl, hq5, hb5⟩
                have hm5 := hm.later hb5
                have hr5 := hr.later hb5
                have hbel5 := hbel.trans (hb5.mono hbel.size)
                have hT5 := hTr.later hb5
                have HBO : Hid (wr.heap.size ≠ bo) := by show _ ≠ _; have := hm.lt; omega
                clear heq hm hr hbel hTr hb5 hcell hc1 hc2
                go_wp2_with fail
                refine (rclone_any hr5).mono ?_
                rintro e w6 ⟨p6, A6, c6, rfl, hz6, hb6⟩
                have HN6 := hide (hr5.apart hz6 (Nat.le_refl _))
                have hz6m := hz6.mono hbel5.size
                have hm6 := hm5.later hb6
                have hr6 := hr5.later hb6
                have hbel6 := hbel5.trans (hb6.mono hbel5.size)
                have hT6 := hT5.later hb6
                have ho6 := hq5.later hb6
                obtain ⟨ad', he, _, hcell⟩ := (hops.below hbel6) (by omega)
                injection he with he
                subst he
                have hc1 := (hcell k h1).1
                have hc2 := (hcell k h1).2
                clear hq5 hm5 hr5 hbel5 hT5 hz6 hb6
                have HLD : Hid (∀ j v, ([Value.int .i64 (f k), Value.int .i64 (g k)] : List Value)[j]? = some v → w6.cell? ((ad.add (k * 2)).add j) = some v) := op_load hc1 hc2
                go_wp2_with (first | (refine wpList_load_at rfl 30 (.tmp 52) rfl (ad.add (k * 2)) rfl [Value.int .i64 (f k), Value.int .i64 (g k)] _ HLD.out Tryd.underlying30 rfl op_info ?_))
                refine (does_any (f k) (g k) hm6 hr6 hT6).mono ?_
                rintro e w8 ⟨rfl, t8, hm8, hr8, hd8⟩
                have ho8 := hd8.map ho6 HBO.out (own_map_ne hr6.row ho6 (by decide))
                have hz8 := hd8.ref hz6m (map_blk_ne hm6 hz6m.blk (by decide)) (own_blk_ne hr6.row hz6m.blk (by decide)) HN6.out (.inr (fun e => own_map_ne hz6m.row hm6 (by decide) e.symm))
                have hT8 := hd8.tab hT6 (fun e => by have := HBB.out; omega) (fun e => by have := (hr6.row.lt 0 e.symm).1; omega)
                have hbel8 := hd8.base hbel6 hbel6.size HBB.out (fun k hk => (hr6.row.lt k hk).1)
                have hq0 := hr8.cell0
                clear hcell hc1 hc2
                go_wp2_with fail
                go_quiet (first | (go_at_call 15; exact quiet_as (len_any (hm8.drewN _))) | (go_at_call 18; exact quiet_as (count_any (hm8.drewN _))) | (go_at_call 19; exact quiet_as (rcount_any (hr8.drewN _))))
                clear hq0
                go_wp2_with fail
                go_roundw
                case rel => exact ⟨k + 1, by omega, by omega, by go_num, _, _, _, _, _, _, _, rfl, rfl, rfl, hm8.drewN _, ho8.drewN _, hr8.drewN _, hz8.drewN _, HN6, HBB, below_drewN hbel8 _, hT8⟩
                case measure => simp [intOf]; omega
              · have heq := eql_other hm ho hbo
                have HBO := hide hbo
                clear hbo
                have HLD : Hid (∀ j v, ([Value.int .i64 (f k), Value.int .i64 (g k)] : List Value)[j]? = some v → wr.cell? ((ad.add (k * 2)).add j) = some v) := op_load hc1 hc2
                go_wp2_with (first | (refine wpList_load_at rfl 30 (.tmp 52) rfl (ad.add (k * 2)) rfl [Value.int .i64 (f k), Value.int .i64 (g k)] _ HLD.out Tryd.underlying30 rfl op_info ?_))
                refine (does_any (f k) (g k) hm hr hTr).mono ?_
                rintro e w8 ⟨rfl, t8, hm8, hr8, hd8⟩
                have ho8 := hd8.map ho HBO.out (own_map_ne hr.row ho (by decide))
                have hz8 := hd8.ref hw (map_blk_ne hm hw.blk (by decide)) (own_blk_ne hr.row hw.blk (by decide)) HNE.out (.inr (fun e => own_map_ne hw.row hm (by decide) e.symm))
                have hT8 := hd8.tab hTr (fun e => by have := HBB.out; omega) (fun e => by have := (hr.row.lt 0 e.symm).1; omega)
                have hbel8 := hd8.base hbel hbel.size HBB.out (fun k hk => (hr.row.lt k hk).1)
                have hq0 := hr8.cell0
                clear hcell hc1 hc2
                go_wp2_with fail
                go_quiet (first | (go_at_call 15; exact quiet_as (len_any (hm8.drewN _))) | (go_at_call 18; exact quiet_as (count_any (hm8.drewN _))) | (go_at_call 19; exact quiet_as (rcount_any (hr8.drewN _))))
                clear hq0
                go_wp2_with fail
                go_roundw
                case rel => exact ⟨k + 1, by omega, by omega, by go_num, _, _, _, _, _, _, _, rfl, rfl, rfl, hm8.drewN _, ho8.drewN _, hr8.drewN _, hz8.drewN _, HNE, HBB, below_drewN hbel8 _, hT8⟩
                case measure => simp [intOf]; omega
        · have hd5 : decide ((k : Int) < 300) = false := by simp; omega
          go_wp2_with fail
          go_meet
          exact ⟨b, bo, po, Ao, co, t, tp, rfl, rfl, rfl, hm, ho, hr, hw, HNE, HBB, hbel, hTr⟩
      · have hd5 : decide (k < nt) = false := by simpa using h1
        go_wp2_with fail
        go_meet
        exact ⟨b, bo, po, Ao, co, t, tp, rfl, rfl, rfl, hm, ho, hr, hw, HNE, HBB, hbel, hTr⟩
  case rest =>
    obtain ⟨b, bo, po, Ao, co, t, tp, rfl, rfl, rfl, hm, ho, hr, hw, HNE, HBB, hbel, hTr⟩ := hcut
    have hsz := hbel.size
    have hmo := hm.out
    have hoo := ho.out
    have HM1 := hide (fun (W' : World) (h : Below wc.heap.size wc W') => (bytes_any (hm.later h)).mono fun _ _ => made_in h)
    have HM2 := hide (fun (W' : World) (h : Below wc.heap.size wc W') => (bytes_any (ho.later h)).mono fun _ _ => made_in h)
    have HR1 := hide (fun (W' : World) (h : Below wc.heap.size wc W') => (rbytes_any (hr.later h) hmo).mono fun _ _ => made_in h)
    have HR2 := hide (fun (W' : World) (h : Below wc.heap.size wc W') => (rbytes_any (hw.later h) hoo).mono fun _ _ => made_in h)
    have HBEL := hide hbel
    obtain ⟨Y, hY⟩ : ∃ Y, Y = bytesOf N t := ⟨_, rfl⟩
    obtain ⟨Z, hZ⟩ : ∃ Z, Z = bytesOf N tp := ⟨_, rfl⟩
    rw [← hY] at HM1 HR1
    rw [← hZ] at HM2 HR2
    clear hY hZ hm ho hr hw hbel hTr hmo hoo HNE HBB
    go_wp2_with fail
    go_region_held (fun W' => Below wc.heap.size wc W') (first | assumption | exact (Below.refl _ _).drew)
      ((first
      | (go_at_call 16; ((with_reducible refine (HM1.out _ (by assumption)).mono ?_); rintro e w6 ⟨A6, n6, c6, rfl, hown6, hb6, hbel6⟩; have hk6 := conv_at hown6; (try (have hl6 := conv_later hown7 hb6))))
      | (go_at_call 20; ((with_reducible refine (HR1.out _ (by assumption)).mono ?_); rintro e w7 ⟨A7, n7, c7, rfl, hown7, hb7, hbel7⟩; have hk7 := conv_at hown7; (try (have hl7 := conv_later hown6 hb7))))
      | (go_at_call 16; ((with_reducible refine (HM2.out _ (by assumption)).mono ?_); rintro e w8 ⟨A8, n8, c8, rfl, hown8, hb8, hbel8⟩; have hk8 := conv_at hown8; (try (have hl8 := conv_later hown9 hb8))))
      | (go_at_call 20; ((with_reducible refine (HR2.out _ (by assumption)).mono ?_); rintro e w9 ⟨A9, n9, c9, rfl, hown9, hb9, hbel9⟩; have hk9 := conv_at hown9; (try (have hl9 := conv_later hown8 hb9))))))
    all_goals
      have hfin := HBEL.out.trans (hbel9.mono hsz)
      clear hk6 hk7 hk8 hk9 hown6 hown7 hown8 hown9 hb6 hb7 hb8 hb9
      go_wp2
      go_ret
      exact ⟨rfl, hfin⟩
end Go.Proofs.YtpakipacclmimaaDoor.BitsPlays
