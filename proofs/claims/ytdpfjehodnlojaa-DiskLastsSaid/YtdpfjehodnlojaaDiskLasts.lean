/- DiskLasts holds: for all steps, every place and every number: on three disks of eight sectors, one sector written and flushed, and then at most eighty steps (flushes, crashes, starts, failures of the other disks, arming, writes to other sectors): whenever power is there, and in the end behind Start, that sector is read as it was written; no condition. -/
import Derived.Test.YtdpfjehodnlojaaDuo
import Derived.Test.YtdpfjehodnlojaaLast
import Derived.Deep.CutRange
import Derived.Test.YtdpfjehodnlojaaChecked
import Derived.Test.YtdpfjehodnlojaaRows
import Derived.Deep.DeepCutAuto
import Derived.Deep.CutBlock
import Derived.Deep.RegionHeld3
namespace Go.Proofs.Ytdpfjehodnlojaa.DiskLasts
open Go.ChangeShapes Go.WideShapes Go.ChangeAt Go.RowKit Go.Proofs.Ytdpfjehodnlojaa
set_option linter.unusedVariables false

set_option maxRecDepth 100000 in
set_option maxHeartbeats 4000000 in
theorem walk (A : Option Addr) (nl c : Nat) (f : Nat → Step) (v1 v2 : Int) (w : World) (hst : Steps w w.heap.size A nl f) (hnc : nl ≤ c) (hc63 : c ≤ 9223372036854775807) (b0 : -9223372036854775808 ≤ v1) (b1 : v1 ≤ 9223372036854775807) (b2 : -9223372036854775808 ≤ v2) (b3 : v2 ≤ 9223372036854775807) :
    Calls Try.prog 6 #[.slice A nl c, .int .i64 v1, .int .i64 v2] w fun e w' => e = .returned (.bool true) ∧ Below w.heap.size w w' := by
  obtain ⟨m1, hm1, hm1l⟩ := mask16 v1
  obtain ⟨kk, hm2, hkk⟩ := mask3 (v1 / 65536)
  have HST := hide hst
  clear hst
  go_enter Try.func6, Try.ntmps6
  go_wp2_with (first
    | (go_at_call 9; refine (shown_any _).mono ?_; rintro _ w1 ⟨rfl, hl1⟩))
  refine (laid_any _).mono ?_
  rintro _ w2 ⟨rfl, hB2, hl2⟩
  have hs1 := hl1.size
  have hs2 := hl2.size
  have hblt : w1.heap.size < w2.heap.size := bank_lt hB2
  have HB2 := hide hB2
  clear hB2
  go_wp2_with (first
    | (refine wpList_alloc_blk rfl 37 rfl _ (place_zero _) ?_; intro w3 hb3 hl3 hs3; clear hs3)
    | (refine wpList_store_all rfl 37 (.tmp 9) (.tmp 26) rfl w2.heap.size 37 _ hb3 rfl [.int .i64 ((m1 : Int) % 3), .int .i64 (kk : Int)] rfl (by kernel_rfl) rfl (by intro v hv; simp at hv; rcases hv with rfl | rfl <;> rfl) ?_; intro w4 hb4 hg4 hs4; clear hs4))
  obtain ⟨kd, hkd⟩ : ∃ d, d = m1 % 3 := ⟨_, rfl⟩
  rw [show (m1 : Int) % 3 = (kd : Int) by omega] at hb4 ⊢
  have hkd3 : kd < 3 := by omega
  clear hkd hm1 hm2
  have hbel4 : Below w2.heap.size w2 w4 := hl3.grown hg4 hl3.size (fun g e => by injection e with e; omega)
  have hl04 : Below w.heap.size w w4 := (hl1.trans (hl2.mono hs1)).trans (hbel4.mono (by omega))
  have hs4 := hbel4.size
  have hltk : w2.heap.size < w4.heap.size := hb4.lt
  have HB4 := hide (HB2.out.later hbel4)
  have HP4 := hide hb4
  obtain ⟨X, hX⟩ : ∃ X, X = secOf v2 := ⟨_, rfl⟩
  obtain ⟨U, hU⟩ : ∃ U, U = secL X := ⟨_, rfl⟩
  have hneq : ∀ W', (binOp .neq 28 (.agg U.toArray) (.agg U.toArray)).run Try.prog W' = .ok (.bool false) W' := fun W' => by
    have h := run_neq_bytes (P := Try.prog) W' 28 5 64 _ Try.underlying28 Try.underlying5 u8_info (by kernel_rfl) X.1 X.1 X.2 X.2
    rw [show (Value.agg (B8 X.1).toArray) = .agg U.toArray by rw [hU]; rfl] at h
    simpa using h
  have heql : ∀ W', (binOp .eql 28 (.agg U.toArray) (.agg U.toArray)).run Try.prog W' = .ok (.bool true) W' := fun W' => by
    have h := run_eql_bytes (P := Try.prog) W' 28 5 64 _ Try.underlying28 Try.underlying5 u8_info (by kernel_rfl) X.1 X.1 X.2 X.2
    rw [show (Value.agg (B8 X.1).toArray) = .agg U.toArray by rw [hU]; rfl] at h
    simpa using h
  have HNEQ := hide hneq
  have HEQL := hide heql
  have hux : secV X = .agg U.toArray := by rw [hU]; rfl
  have HUX := hide hux
  have HSECK := fun W : World => sector_held (w := W) v2 X hX hU
  have HSEC := hide HSECK
  have hwk := write_held HB4.out (by decide) kd kk X hU
  rw [calm_laid.write hkd3 hkk] at hwk
  have HWK := hide hwk
  have hfk : ∀ W', BankAt W' w1.heap.size w1.heap.size w2.heap.size (Laid.wrote.put kd kk X) → Calls Try.prog 11 #[.pointer (some ⟨w1.heap.size, 0, none⟩), .int .i64 (kd : Int)] W' fun e w' => e = .returned (.int .i64 0) ∧ BankAt w' w1.heap.size w1.heap.size w2.heap.size ((Laid.wrote.put kd kk X).flush kd) ∧ Upto w1.heap.size w2.heap.size W' w' := fun W' h => by
    have h2 := bank_flush h kd
    rw [(calm_laid.wrote.put kd kk X).may hkd3, if_pos rfl] at h2
    exact h2
  have HFK := hide hfk
  have hlast := last_laid hkd3 hkk X
  have hwr1 : ((Laid.wrote.put kd kk X).flush kd).writes = 1 := rfl
  obtain ⟨S1, hS1⟩ : ∃ S1, S1 = (Laid.wrote.put kd kk X).flush kd := ⟨_, rfl⟩
  rw [← hS1] at hlast hwr1 HFK
  obtain ⟨S0, hS0⟩ : ∃ S0, S0 = Laid.wrote.put kd kk X := ⟨_, rfl⟩
  rw [← hS0] at HWK HFK
  have HLAST := hide hlast
  have HF_w4 : Hid (∀ W', Upto w1.heap.size w2.heap.size w4 W' → W'.cell? ⟨w2.heap.size, 0, none⟩ = some (.int .i64 (kd : Int)) ∧ W'.cell? ⟨w2.heap.size, 1, none⟩ = some (.int .i64 (kk : Int)) ∧ Upto w1.heap.size w2.heap.size w4 W') := fun W' hu => by
    have hP := HP4.out.upto hu (.inl (Nat.le_refl _))
    exact ⟨hP.cell 0, hP.cell 1, hu⟩
  have hUl : U.length = 64 := by rw [hU, secL_length]
  have hUo : ∀ v ∈ U, v.oneCell' = true := by rw [hU]; exact secL_one _
  have hiU : (Try.prog.info? 28).map (·.size) = some U.length := by rw [hUl]; exact sec_info
  have hEX : Value.agg U.toArray = .agg (B8 X.1).toArray := by rw [hU]; rfl
  have HULU := hide hUl
  have HUOU := hide hUo
  have HIUU := hide hiU
  have HEXU := hide hEX
  clear hUl hUo hiU hEX hU
  clear hS1 hS0 hX hwk hfk hlast HSECK hux hneq heql hb3 hb4 hl3 hg4
  go_region_held3 (fun W' => (W'.cell? ⟨w2.heap.size, 0, none⟩ = some (.int .i64 (kd : Int)) ∧ W'.cell? ⟨w2.heap.size, 1, none⟩ = some (.int .i64 (kk : Int)) ∧ Upto w1.heap.size w2.heap.size w4 W')) (first | assumption | exact HF_w4.out _ (hu6.trans hu7) | exact HF_w4.out _ (by assumption) | exact HF_w4.out _ (Upto.of_below (by assumption)) | exact HF_w4.out _ ((Upto.refl _ _ _).drew) | exact HF_w4.out _ (Upto.refl _ _ _))
    ((first
      | (go_at_call 13; ((with_reducible refine (HSEC.out w4 _ ((Below.refl _ _).drew)).mono ?_); rintro _ w5 ⟨rfl, hl_w5⟩))
      | (go_at_call 12; ((with_reducible refine (HWK.out _ (by assumption)).mono ?_); rintro _ w6 ⟨rfl, hB6, hu6⟩))
      | (go_at_call 11; ((with_reducible refine (HFK.out _ (by assumption)).mono ?_); rintro _ w7 ⟨rfl, hB7, hu7⟩))))
  have HP7 := hide (HP4.out.upto (hu6.trans hu7) (.inl (Nat.le_refl _)))
  clear HP4
  have hl07 : Below w.heap.size w w7 := hl04.trans ((hu6.trans hu7).low hs1 (by omega))
  have HB7 := hide hB7
  clear hB6 hB7 HF_w4 HWK HFK
  go_upto_block 0 with fail
  go_cut [10, 11, 12, 13] (fun _ _ _ _ wx => ∃ S : Bank, BankAt wx w1.heap.size w1.heap.size w2.heap.size S ∧ Last S kd kk X ∧ Blk wx w2.heap.size 37 #[.int .i64 (kd : Int), .int .i64 (kk : Int)] ∧ Below w.heap.size w wx)
  case first =>
    go_wp2_with fail
    go_loopw [10, 11, 12, 13] (fun s10 _ _ _ wr => ∃ (i : Nat) (S : Bank), s10 = .int .i64 (i : Int) ∧ i ≤ nl ∧ i ≤ 80 ∧ S.writes ≤ i + 1 ∧ BankAt wr w1.heap.size w1.heap.size w2.heap.size S ∧ Last S kd kk X ∧ Blk wr w2.heap.size 37 #[.int .i64 (kd : Int), .int .i64 (kk : Int)] ∧ Below w.heap.size w wr) (fun s10 _ _ _ _ => 80 - (intOf s10).toNat)
    case atStart => exact ⟨0, S1, rfl, Nat.zero_le _, by decide, by omega, HB7.out, HLAST.out, HP7.out, hl07⟩
    case round =>
      obtain ⟨i, S, rfl, hin, hi80, hwr, hB, hlast, hkept, hlr⟩ := hrel
      obtain ⟨wo, rfl⟩ : ∃ wo, wo = wr := ⟨_, rfl⟩
      have HL := hide hlast
      have HKO := hide hkept
      have HB := hide hB
      have hwlo : w2.heap.size < wo.heap.size := hkept.lt
      clear hlast hkept hB
      by_cases hlt : i < nl ∧ i < 80
      · have hg1 : (i : Int) < (nl : Int) := by omega
        have hg2 : (i : Int) < 80 := by omega
        obtain ⟨ad, rfl, hadb, hcells⟩ := (HST.out.below hlr) (by omega)
        have hcn : ∀ w', Below w.heap.size w w' → w'.cell? (ad.add (i * 5)) = some (.int .i64 (f i).k) ∧ w'.cell? ⟨(ad.add (i * 5)).block, (ad.add (i * 5)).off + 1, none⟩ = some (.int .i64 (f i).d) ∧ w'.cell? ⟨(ad.add (i * 5)).block, (ad.add (i * 5)).off + 2, none⟩ = some (.int .i64 (f i).a) ∧ w'.cell? ⟨(ad.add (i * 5)).block, (ad.add (i * 5)).off + 3, none⟩ = some (.int .i64 (f i).n) := fun w' hb => ((HST.out.below hb) (by omega)).elim fun ad' h => by
          obtain ⟨e, _, hc⟩ := h
          injection e with e
          subst e
          exact ⟨(hc i hlt.1).1, (hc i hlt.1).2.1, (hc i hlt.1).2.2.1, (hc i hlt.1).2.2.2.1⟩
        have HCN := hide hcn
        clear hcells hcn
        obtain ⟨md, hd, hdl⟩ := mask16 (f i).d
        obtain ⟨k, hk, hkl⟩ := mask3 (f i).a
        have cdr : wo.cell? ⟨(ad.add (i * 5)).block, (ad.add (i * 5)).off + 1, none⟩ = some (.int .i64 (f i).d) := (HCN.out wo hlr).2.1
        have car : wo.cell? ⟨(ad.add (i * 5)).block, (ad.add (i * 5)).off + 2, none⟩ = some (.int .i64 (f i).a) := (HCN.out wo hlr).2.2.1
        go_wp2_with fail
        have HFP : Hid (∀ W', Below wo.heap.size wo W' → W'.cell? ⟨(ad.add (i * 5)).block, (ad.add (i * 5)).off + 1, none⟩ = some (.int .i64 (f i).d) ∧ W'.cell? ⟨(ad.add (i * 5)).block, (ad.add (i * 5)).off + 2, none⟩ = some (.int .i64 (f i).a) ∧ Below wo.heap.size wo W') := fun W' hb => ⟨(hb.cell (by show (ad.add (i * 5)).block < _; rw [block_of_add]; have := hlr.size; omega)).trans cdr, (hb.cell (by show (ad.add (i * 5)).block < _; rw [block_of_add]; have := hlr.size; omega)).trans car, hb⟩
        go_region_held3 (fun W' => (W'.cell? ⟨(ad.add (i * 5)).block, (ad.add (i * 5)).off + 1, none⟩ = some (.int .i64 (f i).d) ∧ W'.cell? ⟨(ad.add (i * 5)).block, (ad.add (i * 5)).off + 2, none⟩ = some (.int .i64 (f i).a) ∧ Below wo.heap.size wo W')) (first | assumption | exact HFP.out _ ((Below.refl _ _).drew) | exact HFP.out _ (((Below.refl _ _).drew).alloc (Nat.le_refl _) _) | exact HFP.out _ ((((Below.refl _ _).drew).alloc (Nat.le_refl _) _).setCell _ (Nat.le_refl _) _)) (fail)
        clear HFP cdr car
        generalize hw6 : World.drew _ = w6
        have hbel6 : Below wo.heap.size wo w6 := by rw [← hw6]; exact ((Below.refl _ _).alloc (Nat.le_refl _) _).drew
        have hb_w6 : Blk w6 wo.heap.size 37 #[.int .i64 ((md : Int) % 3), .int .i64 (k : Int)] := by rw [← hw6]; exact (Blk.new _ _ _).drew
        clear hw6
        obtain ⟨d, hdd⟩ : ∃ d, d = md % 3 := ⟨_, rfl⟩
        rw [show (md : Int) % 3 = (d : Int) by omega] at hb_w6
        have hd3 : d < 3 := by omega
        clear hd hdl hdd
        have hl6 : Below w.heap.size w w6 := hlr.trans (hbel6.mono hlr.size)
        obtain ⟨ck6, _, _, cn6⟩ := HCN.out w6 hl6
        have p0 : w6.cell? ⟨wo.heap.size, 0, none⟩ = some (.int .i64 (d : Int)) := hb_w6.cell 0
        have p1 : w6.cell? ⟨wo.heap.size, 1, none⟩ = some (.int .i64 (k : Int)) := hb_w6.cell 1
        have hsz6 := hl6.size
        have hsw : wo.heap.size < w6.heap.size := hb_w6.lt
        have HB6 := hide (HB.out.later hbel6)
        have HP6 := hide hb_w6
        have HK6 := hide (HKO.out.below hbel6 hwlo)
        clear hb_w6
        go_upto_block 2 with fail
        go_cut [] from 48 to 140 (fun wx => ∃ S' : Bank, BankAt wx w1.heap.size w1.heap.size w2.heap.size S' ∧ Last S' kd kk X ∧ S'.writes ≤ i + 2 ∧ Blk wx w2.heap.size 37 #[.int .i64 (kd : Int), .int .i64 (kk : Int)] ∧ Below w.heap.size w wx)
        case first =>
          have hcm : ∀ w', Below w.heap.size w w' → w'.cell? ⟨(ad.add (i * 5)).block, (ad.add (i * 5)).off + 4, none⟩ = some (.int .u64 ((f i).m : Int)) := fun w' hb => ((HST.out.below hb) (by omega)).elim fun ad' h => by
            obtain ⟨e, _, hc⟩ := h
            injection e with e
            subst e
            exact (hc i hlt.1).2.2.2.2.1
          have hfit : (f i).fits := ((HST.out.below hlr) (by omega)).elim fun ad' h => (h.2.2 i hlt.1).2.2.2.2.2
          obtain ⟨hfn, hfm⟩ := hfit
          have HCM := hide hcm
          clear hcm
          by_cases k2 : (f i).k = 2
          · have hke := k2
            go_wp2_with fail
            refine (bank_flush HB6.out d).mono ?_
            rintro _ w8 ⟨rfl, hB8, hu8⟩
            have hres : ∃ S' : Bank, S' = (if S.may d = 0 then S.flush d else S) := ⟨_, rfl⟩
            obtain ⟨S', hS'⟩ := hres
            rw [← hS'] at hB8
            have HB8 := hide hB8
            have HL8 : Hid (Last S' kd kk X) := by show Last _ _ _ _; rw [hS']; exact HL.out.flush d
            have hw8 : S'.writes ≤ i + 2 := by rw [hS']; split <;> (show S.writes ≤ _; omega)
            have HS' := hide hS'
            clear hB8 hS'
            go_wp2_with fail
            go_meet
            exact ⟨S', HB8.out, HL8.out, hw8, HK6.out.upto hu8 (.inl (Nat.le_refl _)), hl6.trans (hu8.low hs1 (by omega))⟩
          · by_cases k4 : (f i).k = 4
            · have cm6 := HCM.out w6 hl6
              go_wp2_with fail
              refine (bank_crash HB6.out (f i).m hfm).mono ?_
              rintro _ w8 ⟨rfl, hB8, hu8⟩
              have HB8 := hide hB8
              have hw8 : (S.crash (f i).m).writes ≤ i + 2 := by rw [crash_writes]; omega
              clear hB8
              go_wp2_with fail
              go_meet
              exact ⟨_, HB8.out, HL.out.crash _, hw8, HK6.out.upto hu8 (.inl (Nat.le_refl _)), hl6.trans (hu8.low hs1 (by omega))⟩
            · by_cases k5 : (f i).k = 5
              · go_wp2_with fail
                refine (bank_start HB6.out).mono ?_
                rintro _ w8 ⟨rfl, hB8, hu8⟩
                have HB8 := hide hB8
                have hw8 : S.start.writes ≤ i + 2 := by show S.writes ≤ _; omega
                clear hB8
                go_wp2_with fail
                go_meet
                exact ⟨_, HB8.out, HL.out.start, hw8, HK6.out.upto hu8 (.inl (Nat.le_refl _)), hl6.trans (hu8.low hs1 (by omega))⟩
              · by_cases k6 : (f i).k = 6
                · have q0 : w6.cell? ⟨w2.heap.size, 0, none⟩ = some (.int .i64 (kd : Int)) := HK6.out.cell 0
                  by_cases hdk : d = kd
                  · have hdi : (d : Int) = (kd : Int) := by omega
                    go_wp2_with fail
                    go_meet
                    exact ⟨S, HB6.out, HL.out, by omega, HK6.out, hl6⟩
                  · have hdi : ¬ ((d : Int) = (kd : Int)) := by omega
                    go_wp2_with fail
                    refine (bank_fail HB6.out d (by rw [HL.out.num]; exact hd3)).mono ?_
                    rintro _ w8 ⟨rfl, hB8, hu8⟩
                    have HB8 := hide hB8
                    have hw8 : (S.fail d).writes ≤ i + 2 := by show S.writes ≤ _; omega
                    clear hB8
                    go_wp2_with fail
                    go_meet
                    exact ⟨_, HB8.out, HL.out.dies hdk, hw8, HK6.out.upto hu8 (.inl (Nat.le_refl _)), hl6.trans (hu8.low hs1 (by omega))⟩
                · by_cases k7 : (f i).k = 7
                  · obtain ⟨a, ha, ha2⟩ : ∃ a : Nat, (a : Int) = (if 0 < (f i).n then (f i).n else 0) ∧ a < 9223372036854775808 := by
                      refine ⟨(if 0 < (f i).n then (f i).n else 0).toNat, ?_, ?_⟩
                      · split
                        · rw [Int.toNat_of_nonneg (by omega)]
                        · rfl
                      · split
                        · omega
                        · decide
                    have HAR : Hid (∀ W', BankAt W' w1.heap.size w1.heap.size w2.heap.size S → Calls Try.prog 19 #[.pointer (some ⟨w1.heap.size, 0, none⟩), .int .i64 (f i).n, .int .u64 ((f i).m : Int)] W' fun e w' => e = .returned (.tuple #[]) ∧ BankAt w' w1.heap.size w1.heap.size w2.heap.size (S.arm a (f i).m) ∧ Upto w1.heap.size w2.heap.size W' w') := fun W' h => bank_arm h (f i).n a (f i).m ha ha2 hfm
                    have HF_w6 : Hid (∀ W', Upto w1.heap.size w2.heap.size w6 W' → W'.cell? ⟨(ad.add (i * 5)).block, (ad.add (i * 5)).off + 3, none⟩ = some (.int .i64 (f i).n) ∧ W'.cell? ⟨(ad.add (i * 5)).block, (ad.add (i * 5)).off + 4, none⟩ = some (.int .u64 ((f i).m : Int)) ∧ Upto w1.heap.size w2.heap.size w6 W') := fun W' hu => by
                      have hb := hl6.trans (hu.low hs1 (by omega))
                      exact ⟨(HCN.out W' hb).2.2.2, HCM.out W' hb, hu⟩
                    clear ha
                    have hB6d : BankAt w6.drew w1.heap.size w1.heap.size w2.heap.size S := HB6.out.drew
                    have hu6d : Upto w1.heap.size w2.heap.size w6 w6.drew := (Upto.refl _ _ _).drew
                    go_wp2_with fail
                    go_region_held3 (fun W' => (W'.cell? ⟨(ad.add (i * 5)).block, (ad.add (i * 5)).off + 3, none⟩ = some (.int .i64 (f i).n) ∧ W'.cell? ⟨(ad.add (i * 5)).block, (ad.add (i * 5)).off + 4, none⟩ = some (.int .u64 ((f i).m : Int)) ∧ Upto w1.heap.size w2.heap.size w6 W')) (first | assumption | exact HF_w6.out _ (hu6d.trans hu8) | exact HF_w6.out _ (by assumption) | exact HF_w6.out _ (Upto.refl _ _ _))
                      ((first
                        | (go_at_call 19; ((with_reducible refine (HAR.out _ (by assumption)).mono ?_); rintro _ w8 ⟨rfl, hB8, hu8⟩))))
                    have hu68 := hu6d.trans hu8
                    have HB8 := hide hB8
                    have hw8 : (S.arm a (f i).m).writes ≤ i + 2 := by show S.writes ≤ _; omega
                    clear hB8 hB6d hu6d
                    go_wp2_with fail
                    go_meet
                    exact ⟨_, HB8.out, HL.out.arm _ _, hw8, HK6.out.upto hu68 (.inl (Nat.le_refl _)), hl6.trans (hu68.low hs1 (by omega))⟩
                  · have q0 : w6.cell? ⟨w2.heap.size, 0, none⟩ = some (.int .i64 (kd : Int)) := HK6.out.cell 0
                    have q1 : w6.cell? ⟨w2.heap.size, 1, none⟩ = some (.int .i64 (kk : Int)) := HK6.out.cell 1
                    by_cases hdk : d = kd ∧ k = kk
                    · have hnp : ∀ W', (binOp .neq 37 (.agg #[.int .i64 (d : Int), .int .i64 (k : Int)]) (.agg #[.int .i64 (kd : Int), .int .i64 (kk : Int)])).run Try.prog W' = .ok (.bool false) W' := fun W' => by rw [hdk.1, hdk.2]; exact place_neq W' _ _ _ _ false (by simp)
                      go_wp2_with fail
                      go_meet
                      exact ⟨S, HB6.out, HL.out, by omega, HK6.out, hl6⟩
                    · have hnp : ∀ W', (binOp .neq 37 (.agg #[.int .i64 (d : Int), .int .i64 (k : Int)]) (.agg #[.int .i64 (kd : Int), .int .i64 (kk : Int)])).run Try.prog W' = .ok (.bool true) W' := fun W' => place_neq W' _ _ _ _ true (by simp; omega)
                      obtain ⟨V, hV⟩ : ∃ V, V = secL (secOf (f i).n) := ⟨_, rfl⟩
                      have HSEC6 := hide (sector_held (w := w6) (f i).n _ rfl hV)
                      have HWA := hide (write_held HB6.out (by omega) d k _ hV)
                      have hww := write_writes S d k (secOf (f i).n)
                      have HV := hide hV
                      clear hV
                      have HF_w6 : Hid (∀ W', Upto w1.heap.size w2.heap.size w6 W' → W'.cell? ⟨wo.heap.size, 0, none⟩ = some (.int .i64 (d : Int)) ∧ W'.cell? ⟨wo.heap.size, 1, none⟩ = some (.int .i64 (k : Int)) ∧ W'.cell? ⟨(ad.add (i * 5)).block, (ad.add (i * 5)).off + 3, none⟩ = some (.int .i64 (f i).n) ∧ Upto w1.heap.size w2.heap.size w6 W') := fun W' hu => by
                        have hP := HP6.out.upto hu (.inl (by omega))
                        exact ⟨hP.cell 0, hP.cell 1, (HCN.out W' (hl6.trans (hu.low hs1 (by omega)))).2.2.2, hu⟩
                      go_wp2_with fail
                      clear p0 p1 cn6 q0 q1 hnp
                      go_region_held3 (fun W' => (W'.cell? ⟨wo.heap.size, 0, none⟩ = some (.int .i64 (d : Int)) ∧ W'.cell? ⟨wo.heap.size, 1, none⟩ = some (.int .i64 (k : Int)) ∧ W'.cell? ⟨(ad.add (i * 5)).block, (ad.add (i * 5)).off + 3, none⟩ = some (.int .i64 (f i).n) ∧ Upto w1.heap.size w2.heap.size w6 W')) (first | assumption | exact HF_w6.out _ (by assumption) | exact HF_w6.out _ (Upto.of_below (by assumption)) | exact HF_w6.out _ ((Upto.refl _ _ _).drew) | exact HF_w6.out _ (Upto.refl _ _ _))
                        ((first
                          | (go_at_call 13; ((with_reducible refine (HSEC6.out _ ((Below.refl _ _).drew)).mono ?_); rintro _ w7 ⟨rfl, hl_w7⟩))
                          | (go_at_call 12; ((with_reducible refine (HWA.out _ (by assumption)).mono ?_); rintro _ w8 ⟨rfl, hB8, hu8⟩))))
                      have HB8 := hide hB8
                      have hw8 : (S.write d k (secOf (f i).n)).2.writes ≤ i + 2 := by omega
                      clear hB8
                      go_wp2_with fail
                      go_meet
                      exact ⟨_, HB8.out, HL.out.write hdk _, hw8, HK6.out.upto hu8 (.inl (Nat.le_refl _)), hl6.trans (hu8.low hs1 (by omega))⟩
        case rest =>
          obtain ⟨S', hB, hL, hwr', hkept, hlc⟩ := hcut
          have HB := hide hB
          have HL := hide hL
          have HKC := hide hkept
          have hkl := hkept.lt
          clear hB hL hkept
          by_cases hup : S'.down = true
          · have HUP := hide (bank_up HB.out)
            rw [hup] at HUP
            go_wp2_with fail
            refine HUP.out.mono ?_
            rintro _ _ ⟨rfl, rfl⟩
            go_wp2_with fail
            go_roundw
            case rel => exact ⟨i + 1, S', by simp, by omega, by omega, by omega, HB.out, HL.out, HKC.out, hlc⟩
            case measure => simp only [intOf]; omega
          · have hup' : S'.down = false := by simpa using hup
            have HUP := hide (bank_up HB.out)
            rw [hup'] at HUP
            have hrd := bank_read HB.out kd kk
            rw [HL.out.reads hup', HUX.out] at hrd
            have HRD := hide hrd
            have k0 : wc.cell? ⟨w2.heap.size, 0, none⟩ = some (.int .i64 (kd : Int)) := HKC.out.cell 0
            have k1 : wc.cell? ⟨w2.heap.size, 1, none⟩ = some (.int .i64 (kk : Int)) := HKC.out.cell 1
            clear hrd hup hup'
            go_wp2_with fail
            refine HUP.out.mono ?_
            rintro _ _ ⟨rfl, rfl⟩
            go_wp2_with fail
            refine HRD.out.mono ?_
            rintro _ w8 ⟨rfl, hl8⟩
            have hsz8 := hl8.size
            go_wp2_with (first
            | (refine wpList_alloc_blk rfl 28 rfl _ (sec_zero _) ?_; intro w9 hb_w9 hl_w9 hs_w9; clear hs_w9)
              | (refine wpList_store_all rfl 28 (.tmp 12) (.tmp 131) rfl w8.heap.size 28 _ hb_w9 rfl U rfl HIUU.out (HULU.out.trans (secL_length zeroSec).symm) HUOU.out ?_; intro w10 hb_w10 hg_w10 hs_w10; clear hs_w10))
            have hle : Below wc.heap.size wc w10 := (hl8.trans (hl_w9.mono hsz8)).grown hg_w10 (by have := hl_w9.size; omega) (fun g e => by injection e with e; omega)
            have HX10 := hide hb_w10
            have hxl := HX10.out.lt
            have hu : Try.prog.underlying 28 = some (.array 64 5) := Try.underlying28
            have hi := HIUU.out
            have hne10 := HNEQ.out
            have HF_w10 : Hid (∀ W', Below w10.heap.size w10 W' → W'.rangeAt w8.heap.size 0 U ∧ Below w10.heap.size w10 W') := fun W' hb => by
              refine ⟨fun j v hj => ?_, hb⟩
              rw [Nat.zero_add, (HX10.out.below hb hxl).cell j]
              simpa using hj
            clear hb_w9 hb_w10 hl_w9 hg_w10 k0 k1
            go_region_held3 (fun W' => (W'.rangeAt w8.heap.size 0 U ∧ Below w10.heap.size w10 W')) (first | assumption | exact HF_w10.out _ (by assumption) | exact HF_w10.out _ ((Below.refl _ _).drew) | exact HF_w10.out _ (Below.refl _ _))
              ((first
                | (go_at_call 13; ((with_reducible refine (HSEC.out w10 _ ((Below.refl _ _).drew)).mono ?_); rintro _ w11 ⟨rfl, hl_w11⟩))))
            clear hu hi hne10
            have hlf : Below wc.heap.size wc w11 := hle.trans (hl_w11.mono hle.size)
            go_wp2_with fail
            go_roundw
            case rel => exact ⟨i + 1, S', by simp, by omega, by omega, by omega, HB.out.later hlf, HL.out, HKC.out.below hlf hkl, hlc.trans (hlf.mono hlc.size)⟩
            case measure => simp only [intOf]; omega
      · by_cases h1 : i < nl
        · have hd5 : decide ((i : Int) < 80) = false := by simp; omega
          go_wp2_with fail
          go_meet
          exact ⟨S, HB.out, HL.out, HKO.out, hlr⟩
        · have hd5 : decide ((i : Int) < (nl : Int)) = false := by simp; omega
          go_wp2_with fail
          go_meet
          exact ⟨S, HB.out, HL.out, HKO.out, hlr⟩
  case rest =>
    obtain ⟨S, hB, hL, hkept, hlr⟩ := hcut
    have HB := hide hB
    have HL := hide hL
    have HKC := hide hkept
    have hkl := hkept.lt
    clear hB hL hkept
    go_wp2_with fail
    refine (bank_start HB.out).mono ?_
    rintro _ w8 ⟨rfl, hB8, hu8⟩
    have hl8' : Below w.heap.size w w8 := hlr.trans (hu8.low hs1 (by omega))
    have HB8 := hide hB8
    have HK8 := hide (HKC.out.upto hu8 (.inl (Nat.le_refl _)))
    have hrd := bank_read HB8.out kd kk
    rw [HL.out.start.reads rfl, HUX.out] at hrd
    have HRD := hide hrd
    have k0 : w8.cell? ⟨w2.heap.size, 0, none⟩ = some (.int .i64 (kd : Int)) := HK8.out.cell 0
    have k1 : w8.cell? ⟨w2.heap.size, 1, none⟩ = some (.int .i64 (kk : Int)) := HK8.out.cell 1
    clear hrd hB8
    go_wp2_with fail
    refine HRD.out.mono ?_
    rintro _ wa ⟨rfl, hla⟩
    have hsza := hla.size
    go_wp2_with (first
      | (refine wpList_alloc_blk rfl 28 rfl _ (sec_zero _) ?_; intro w9 hb_w9 hl_w9 hs_w9; clear hs_w9)
          | (refine wpList_store_all rfl 28 (.tmp 14) (.tmp 147) rfl wa.heap.size 28 _ hb_w9 rfl U rfl HIUU.out (HULU.out.trans (secL_length zeroSec).symm) HUOU.out ?_; intro w10 hb_w10 hg_w10 hs_w10; clear hs_w10))
    have hle : Below w8.heap.size w8 w10 := (hla.trans (hl_w9.mono hsza)).grown hg_w10 (by have := hl_w9.size; omega) (fun g e => by injection e with e; omega)
    have HX10 := hide hb_w10
    have hxl := HX10.out.lt
    have hu : Try.prog.underlying 28 = some (.array 64 5) := Try.underlying28
    have hi := HIUU.out
    have hne10 := HEQL.out
    have HF_w10 : Hid (∀ W', Below w10.heap.size w10 W' → W'.rangeAt wa.heap.size 0 U ∧ Below w10.heap.size w10 W') := fun W' hb => by
      refine ⟨fun j v hj => ?_, hb⟩
      rw [Nat.zero_add, (HX10.out.below hb hxl).cell j]
      simpa using hj
    clear hb_w9 hb_w10 hl_w9 hg_w10 k0 k1
    go_region_held3 (fun W' => (W'.rangeAt wa.heap.size 0 U ∧ Below w10.heap.size w10 W')) (first | assumption | exact HF_w10.out _ (by assumption) | exact HF_w10.out _ ((Below.refl _ _).drew) | exact HF_w10.out _ (Below.refl _ _))
      ((first
        | (go_at_call 13; ((with_reducible refine (HSEC.out w10 _ ((Below.refl _ _).drew)).mono ?_); rintro _ w11 ⟨rfl, hl_w11⟩))))
    clear hu hi hne10
    go_wp2_with fail
    go_ret
    exact ⟨rfl, hl8'.trans ((hle.trans (hl_w11.mono hle.size)).mono hl8'.size)⟩

/-! The row's frame, by program: how the walk above proves the statement. -/
set_option maxRecDepth 100000 in
theorem lifted (os : Os) (started : os.Started) (H : Type) (enc : TypeId × Value → H) :
    ReturnsInHanded {} Try.checked os 6 .any (Rows.diskLastsSpec.pre6 enc Try.prog Try.f6 Rows.diskLastsRow.domain false) (Rows.diskLastsSpec.post enc Try.prog Try.f6 false true false false) := by
  refine returnsInHanded_of_change (C := Try.checked) own started (by kernel_rfl) Try.func6
    (ChangeSpec.witness6 (enc := enc) (C := Try.checked) false ⟨#[], #[.slice none 0 0, .int .i64 0, .int .i64 0], []⟩ 8 (by kernel_rfl) (by kernel_rfl) (by kernel_rfl) (by kernel_rfl)) ?_
  intro W base args ds gs before hval0 hW hcnd _
  have hval : ∀ (j : Nat) t v, Try.f6.params[j]? = some t → args[j]? = some v → Value.okWide Try.prog W .any base t v := hval0
  have hW' := hW
  obtain ⟨p, q, hA0, hV, rfl, hfz, hnd⟩ := hW
  have hA : DataW.TrodAll enc Try.prog W 0 (fun _ => true) true Try.f6.params.toList args.toList ds p := hA0
  rw [Try.params6] at hA hval
  obtain ⟨v0, vs0, d0, ds0, p0, q0, hargs, rfl, rfl, h0, r0⟩ := trodAll_cons hA
  obtain ⟨v1, vs1, d1, ds1, p1, q1, rfl, rfl, rfl, h1, r1⟩ := trodAll_cons r0
  obtain ⟨v2, vs2, d2, ds2, p2, q2, rfl, rfl, rfl, h2, r2⟩ := trodAll_cons r1
  obtain ⟨rfl, rfl, rfl⟩ := trodAll_nil r2
  obtain rfl : args = #[v0, v1, v2] := by cases args; simp_all
  obtain ⟨rfl, rfl⟩ := trodVars_none hV
  obtain ⟨A0, n0, c0, rfl⟩ := okWide_slice Try.underlying22 (hval 0 22 v0 rfl rfl)
  have k0 := h0
  have lt0 : ∀ x ∈ p0, x.block < W.heap.size := by obtain ⟨m, hm⟩ := k0; exact DataW.trod_lt m _ _ _ hm
  obtain ⟨l0, x0, g0, z0⟩ := arg_steps h0
  obtain ⟨a1, rfl, rfl, rfl, w1⟩ := open_int Try.underlying3 (hval 1 3 v1 rfl rfl) h1
  have b1 := bounds_i64 w1
  obtain ⟨a2, rfl, rfl, rfl, w2⟩ := open_int Try.underlying3 (hval 2 3 v2 rfl rfl) h2
  have b2 := bounds_i64 w2
  clear hA0 hval0
  refine (walk A0 n0 c0 l0 a1 a2 W x0 g0 z0 b1.1 b1.2 b2.1 b2.2).mono fun e W' ⟨he, bel⟩ => ?_
  subst he
  exact ⟨_, rfl, _, _, _, [], _, [], hW', trodAll_mk1 (shut_bool Try.underlying4 _), (trodAll_cons_mk (Below.trod laidOut (by kernel_rfl) (of_decide_eq_true (by kernel_rfl)) k0 bel lt0) (trodAll_cons_mk (shut_int Try.underlying3 w1) (trodAll_cons_mk (shut_int Try.underlying3 w2) trodAll_mk0))), rfl, bel.frame _, fun h => by cases h⟩

theorem over : Rows.diskLastsRow.holds Try.pinned (OpenSpec.ofChange Rows.diskLastsSpec) :=
  OpenClaim.holds_of_wide 6 Try.f6 rfl rfl rfl rfl rfl rfl rfl ⟨rfl, rfl, rfl, rfl, rfl⟩ rfl rfl rfl rfl rfl (by kernel_rfl) Try.func6 (by kernel_rfl)
    (of_decide_eq_true (by kernel_rfl)) (by unfold Func.isWrapper; first | (rw [if_pos (by decide +kernel)]; kernel_rfl) | (rw [if_neg (by decide +kernel)]; exact ⟨rfl, rfl⟩))
    (fun os started H enc _ => lifted os started H enc)

/-- The statement. -/
theorem proved : Rows.DiskLastsSaid := over
#print axioms proved
end Go.Proofs.Ytdpfjehodnlojaa.DiskLasts
