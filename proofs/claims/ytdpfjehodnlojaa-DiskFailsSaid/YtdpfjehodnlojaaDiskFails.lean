/- DiskFails holds: for all steps, every disk and every number: of two banks of three disks of eight sectors, to which the same writes and flushes (at most eighty) are done, on the one of which a disk fails at the n-th write: that disk answers ErrDead from then on, all else answers the same; the other disks' sectors are the same, and behind a flush of all, a crash that keeps nothing and Start still are; no condition. -/
import Derived.Test.YtdpfjehodnlojaaDuo
import Derived.Test.YtdpfjehodnlojaaLame
import Derived.Test.YtdpfjehodnlojaaChecked
import Derived.Test.YtdpfjehodnlojaaRows
import Derived.Deep.DeepCutAuto
import Derived.Deep.CutBlock
import Derived.Deep.RegionHeld3
namespace Go.Proofs.Ytdpfjehodnlojaa.DiskFails
open Go.ChangeShapes Go.WideShapes Go.ChangeAt Go.RowKit Go.Proofs.Ytdpfjehodnlojaa
set_option linter.unusedVariables false

set_option maxRecDepth 100000 in
set_option maxHeartbeats 4000000 in
theorem walk (A : Option Addr) (nl c : Nat) (f : Nat → Step) (v1 v2 : Int) (w : World) (hst : Steps w w.heap.size A nl f) (hnc : nl ≤ c) (hc63 : c ≤ 9223372036854775807) (b0 : -9223372036854775808 ≤ v1) (b1 : v1 ≤ 9223372036854775807) (b2 : -9223372036854775808 ≤ v2) (b3 : v2 ≤ 9223372036854775807) :
    Calls Try.prog 5 #[.slice A nl c, .int .i64 v1, .int .i64 v2] w fun e w' => e = .returned (.bool true) ∧ Below w.heap.size w w' := by
  obtain ⟨m1, hm1, hm1l⟩ := mask16 v1
  obtain ⟨n0, hn0, hn0l⟩ := mask5 v2
  have HST := hide hst
  clear hst
  go_enter Try.func5, Try.ntmps5
  go_wp2_with (first
    | (go_at_call 9; refine (shown_any _).mono ?_; rintro _ w1 ⟨rfl, hl1⟩))
  refine (laid_any _).mono ?_
  rintro _ w2 ⟨rfl, hB2, hl2⟩
  go_wp2_with fail
  refine (laid_any _).mono ?_
  rintro _ w3 ⟨rfl, hB3, hl3⟩
  have hs1 := hl1.size
  have hs2 := hl2.size
  have hs3 := hl3.size
  have hA3 := hB2.later hl3
  have hl03 : Below w.heap.size w w3 := (hl1.trans (hl2.mono hs1)).trans (hl3.mono (by omega))
  have HA3 := hide hA3
  have HB3 := hide hB3
  have hblt : w1.heap.size < w2.heap.size := bank_lt hB2
  have hblt3 : w2.heap.size < w3.heap.size := bank_lt hB3
  clear hB2 hB3 hA3
  go_wp2_with fail
  obtain ⟨who, hwho⟩ : ∃ d, d = m1 % 3 := ⟨_, rfl⟩
  obtain ⟨n, hn⟩ : ∃ n, n = n0 + 1 := ⟨_, rfl⟩
  rw [show (m1 : Int) % 3 = (who : Int) by omega, show 1 + (n0 : Int) = (n : Int) by omega]
  have hw3 : who < 3 := by omega
  have hn1 : 1 ≤ n := by omega
  have hn32 : n ≤ 32 := by omega
  clear hm1 hn0
  refine (bank_failAt HA3.out who hw3 (n : Int) n (by rw [if_pos (by omega)]) (by omega)).mono ?_
  rintro _ w4 ⟨rfl, hA4, hu4⟩
  have hs4 := hu4.size
  have hl04 : Below w.heap.size w w4 := hl03.trans (hu4.low hs1 (by omega))
  have HA4 := hide hA4
  have HB4 := hide (HB3.out.kept hu4 (.inr (Nat.le_refl _)))
  clear hA4 hwho hn
  go_upto_block 0 with fail
  go_cut [10, 11, 12, 13, 14, 15] (fun s10 _ _ _ _ _ wx => ∃ (t : Nat) (SA SB : Bank), s10 = .int .i64 (t : Int) ∧ t ≤ 80 ∧ BankAt wx w1.heap.size w1.heap.size w2.heap.size SA ∧ BankAt wx w2.heap.size w2.heap.size w3.heap.size SB ∧ Lame SA SB who t n ∧ Below w.heap.size w wx)
  case first =>
    go_wp2_with fail
    go_loopw [10, 11, 12, 13, 14, 15] (fun s10 s11 _ _ _ _ wr => ∃ (i t : Nat) (SA SB : Bank), s11 = .int .i64 (i : Int) ∧ s10 = .int .i64 (t : Int) ∧ i ≤ nl ∧ i ≤ 80 ∧ t ≤ i ∧ SB.writes ≤ i ∧ BankAt wr w1.heap.size w1.heap.size w2.heap.size SA ∧ BankAt wr w2.heap.size w2.heap.size w3.heap.size SB ∧ Lame SA SB who t n ∧ Below w.heap.size w wr) (fun _ s11 _ _ _ _ _ => 80 - (intOf s11).toNat)
    case atStart => exact ⟨0, 0, _, _, rfl, rfl, Nat.zero_le _, by decide, by decide, Nat.le_refl _, HA4.out, HB4.out, lame_laid hw3 hn1, hl04⟩
    case round =>
      obtain ⟨i, t, SA, SB, rfl, rfl, hin, hi80, hti, hwb, hA, hB, harm, hlr⟩ := hrel
      obtain ⟨wo, rfl⟩ : ∃ wo, wo = wr := ⟨_, rfl⟩
      have HARM := hide harm
      have hwa : SA.writes = t := harm.writes
      by_cases hlt : i < nl ∧ i < 80
      · have hg1 : (i : Int) < (nl : Int) := by omega
        have hg2 : (i : Int) < 80 := by omega
        obtain ⟨ad, rfl, hadb, hcells⟩ := (HST.out.below hlr) (by omega)
        have hcn : ∀ w', Below w.heap.size w w' → w'.cell? (ad.add (i * 5)) = some (.int .i64 (f i).k) ∧ w'.cell? ⟨(ad.add (i * 5)).block, (ad.add (i * 5)).off + 1, none⟩ = some (.int .i64 (f i).d) ∧ w'.cell? ⟨(ad.add (i * 5)).block, (ad.add (i * 5)).off + 2, none⟩ = some (.int .i64 (f i).a) ∧ w'.cell? ⟨(ad.add (i * 5)).block, (ad.add (i * 5)).off + 3, none⟩ = some (.int .i64 (f i).n) := fun w' hb => ((HST.out.below hb) (by omega)).elim fun ad' h => by
          obtain ⟨e, _, hc⟩ := h
          injection e with e
          subst e
          exact ⟨(hc i hlt.1).1, (hc i hlt.1).2.1, (hc i hlt.1).2.2.1, (hc i hlt.1).2.2.2.1⟩
        have HCN := hide hcn
        clear hcells hcn
        obtain ⟨md, hd, hdl⟩ := mask16 (f i).d
        obtain ⟨k, hk, hkl⟩ := mask3 (f i).a
        have cdr : wo.cell? ⟨(ad.add (i * 5)).block, (ad.add (i * 5)).off + 1, none⟩ = some (.int .i64 (f i).d) := (HCN.out wo hlr).2.1
        have car : wo.cell? ⟨(ad.add (i * 5)).block, (ad.add (i * 5)).off + 2, none⟩ = some (.int .i64 (f i).a) := (HCN.out wo hlr).2.2.1
        have hwlo : w3.heap.size ≤ wo.heap.size := by have := hB.1; omega
        have HA := hide hA
        have HB := hide hB
        clear hA hB harm
        by_cases hk2 : (f i).k = 2
        · have hke : (f i).k = 2 := hk2
          go_wp2_with fail
          have HFP : Hid (∀ W', Below wo.heap.size wo W' → W'.cell? ⟨(ad.add (i * 5)).block, (ad.add (i * 5)).off + 1, none⟩ = some (.int .i64 (f i).d) ∧ W'.cell? ⟨(ad.add (i * 5)).block, (ad.add (i * 5)).off + 2, none⟩ = some (.int .i64 (f i).a) ∧ Below wo.heap.size wo W') := fun W' hb => ⟨(hb.cell (by show (ad.add (i * 5)).block < _; rw [block_of_add]; have := hlr.size; omega)).trans cdr, (hb.cell (by show (ad.add (i * 5)).block < _; rw [block_of_add]; have := hlr.size; omega)).trans car, hb⟩
          go_region_held3 (fun W' => (W'.cell? ⟨(ad.add (i * 5)).block, (ad.add (i * 5)).off + 1, none⟩ = some (.int .i64 (f i).d) ∧ W'.cell? ⟨(ad.add (i * 5)).block, (ad.add (i * 5)).off + 2, none⟩ = some (.int .i64 (f i).a) ∧ Below wo.heap.size wo W')) (first | assumption | exact HFP.out _ ((Below.refl _ _).drew) | exact HFP.out _ (((Below.refl _ _).drew).alloc (Nat.le_refl _) _) | exact HFP.out _ ((((Below.refl _ _).drew).alloc (Nat.le_refl _) _).setCell _ (Nat.le_refl _) _)) (fail)
          clear HFP cdr car
          generalize hw6 : World.drew _ = w6
          have hbel6 : Below wo.heap.size wo w6 := by rw [← hw6]; exact ((Below.refl _ _).alloc (Nat.le_refl _) _).drew
          have hb_w6 : Blk w6 wo.heap.size 37 #[.int .i64 ((md : Int) % 3), .int .i64 (k : Int)] := by rw [← hw6]; exact (Blk.new _ _ _).drew
          clear hw6
          obtain ⟨d, hdd⟩ : ∃ d, d = md % 3 := ⟨_, rfl⟩
          rw [show (md : Int) % 3 = (d : Int) by omega] at hb_w6
          have hd3 : d < 3 := by omega
          clear hd hdl hdd
          have hl6 : Below w.heap.size w w6 := hlr.trans (hbel6.mono hlr.size)
          obtain ⟨ck6, _, _, cn6⟩ := HCN.out w6 hl6
          have p0 : w6.cell? ⟨wo.heap.size, 0, none⟩ = some (.int .i64 (d : Int)) := hb_w6.cell 0
          have p1 : w6.cell? ⟨wo.heap.size, 1, none⟩ = some (.int .i64 (k : Int)) := hb_w6.cell 1
          go_wp2_with fail
          have hsz6 := hl6.size
          have hsw : wo.heap.size < w6.heap.size := hb_w6.lt
          have HA6 := hide (HA.out.later hbel6)
          have HB6 := hide (HB.out.later hbel6)
          have HP6 := hide hb_w6
          clear hb_w6
          have hf := bank_flush HA6.out d
          have HE1 : Hid (SA.may d = if d = who ∧ n ≤ t then 7 else 0) := HARM.out.may hd3
          have HFL := hide hf
          have harm8 := HARM.out.flush hd3
          have hfb := bank_flush (HB6.out) d
          rw [HARM.out.calm.may hd3, if_pos rfl] at hfb
          obtain ⟨SA', hSA⟩ : ∃ X, X = if SA.may d = 0 then SA.flush d else SA := ⟨_, rfl⟩
          rw [← hSA] at harm8
          have HARM8 := hide harm8
          have HSA := hide hSA
          clear hf harm8 hSA hfb
          refine HFL.out.mono ?_
          rintro _ w7 ⟨rfl, hA7, hu7⟩
          rw [← HSA.out] at hA7
          have hl7 : Below w.heap.size w w7 := hl6.trans (hu7.low hs1 (by omega))
          have HA7 := hide hA7
          have HB7 := hide (HB6.out.kept hu7 (.inr (Nat.le_refl _)))
          have hP7 := HP6.out.upto hu7 (.inl (by omega))
          have p07 : w7.cell? ⟨wo.heap.size, 0, none⟩ = some (.int .i64 (d : Int)) := hP7.cell 0
          have hsz7 := hu7.size
          have HP7 := hide hP7
          clear hA7 hP7
          go_wp2_with fail
          have hfb := bank_flush HB7.out d
          rw [HARM.out.calm.may hd3, if_pos rfl] at hfb
          refine hfb.mono ?_
          rintro _ w8 ⟨rfl, hB8, hu8⟩
          clear hfb
          have hl8 : Below w.heap.size w w8 := hl7.trans (hu8.low (by omega) (by omega))
          have p08 : w8.cell? ⟨wo.heap.size, 0, none⟩ = some (.int .i64 (d : Int)) := (HP7.out.upto hu8 (.inl (by omega))).cell 0
          have HB8 := hide hB8
          have HA8 := hide (HA7.out.kept hu8 (.inl (Nat.le_refl _)))
          clear hB8
          by_cases hdead : n ≤ t
          · by_cases hdw : d = who
            · rw [HE1.out, if_pos ⟨hdw, hdead⟩]
              have hge : (n : Int) ≤ (t : Int) := by omega
              have hdi : (d : Int) = (who : Int) := by omega
              have HD1 : Hid (Calls Try.prog 21 #[.pointer (some ⟨w1.heap.size, 0, none⟩), .int .i64 (who : Int)] w8 fun e w' => e = .returned (.bool true) ∧ w8 = w') := by
                have h := bank_dead HA8.out who (by rw [HARM8.out.num]; exact hw3)
                rw [HARM8.out.dead who hw3, show decide (who = who ∧ n ≤ t) = true by simp; omega] at h
                exact h
              have HD2 : Hid (Calls Try.prog 21 #[.pointer (some ⟨w1.heap.size, 0, none⟩), .int .i64 (((who : Int) + 1) % 3)] w8 fun e w' => e = .returned (.bool false) ∧ w8 = w') := by
                have h := bank_dead HA8.out ((who + 1) % 3) (by rw [HARM8.out.num]; omega)
                rw [HARM8.out.dead _ (by omega), show decide ((who + 1) % 3 = who ∧ n ≤ t) = false by simp; omega, show ((((who + 1) % 3 : Nat)) : Int) = ((who : Int) + 1) % 3 by omega] at h
                exact h
              go_wp2_with (first
                | (go_at_call 21; ((with_reducible refine HD1.out.mono ?_); rintro _ _ ⟨rfl, rfl⟩))
                | (go_at_call 21; ((with_reducible refine HD2.out.mono ?_); rintro _ _ ⟨rfl, rfl⟩)))
              go_roundw
              case rel => exact ⟨i + 1, t, SA', SB.flush d, by simp, rfl, by omega, by omega, by omega, by show SB.writes ≤ _; omega, HA8.out, HB8.out, HARM8.out, hl8⟩
              case measure => simp only [intOf]; omega
            · rw [HE1.out, if_neg (fun e => hdw e.1)]
              have hge : (n : Int) ≤ (t : Int) := by omega
              have hdi : ¬ ((d : Int) = (who : Int)) := by omega
              have HD1 : Hid (Calls Try.prog 21 #[.pointer (some ⟨w1.heap.size, 0, none⟩), .int .i64 (who : Int)] w8 fun e w' => e = .returned (.bool true) ∧ w8 = w') := by
                have h := bank_dead HA8.out who (by rw [HARM8.out.num]; exact hw3)
                rw [HARM8.out.dead who hw3, show decide (who = who ∧ n ≤ t) = true by simp; omega] at h
                exact h
              have HD2 : Hid (Calls Try.prog 21 #[.pointer (some ⟨w1.heap.size, 0, none⟩), .int .i64 (((who : Int) + 1) % 3)] w8 fun e w' => e = .returned (.bool false) ∧ w8 = w') := by
                have h := bank_dead HA8.out ((who + 1) % 3) (by rw [HARM8.out.num]; omega)
                rw [HARM8.out.dead _ (by omega), show decide ((who + 1) % 3 = who ∧ n ≤ t) = false by simp; omega, show ((((who + 1) % 3 : Nat)) : Int) = ((who : Int) + 1) % 3 by omega] at h
                exact h
              go_wp2_with (first
                | (go_at_call 21; ((with_reducible refine HD1.out.mono ?_); rintro _ _ ⟨rfl, rfl⟩))
                | (go_at_call 21; ((with_reducible refine HD2.out.mono ?_); rintro _ _ ⟨rfl, rfl⟩)))
              go_roundw
              case rel => exact ⟨i + 1, t, SA', SB.flush d, by simp, rfl, by omega, by omega, by omega, by show SB.writes ≤ _; omega, HA8.out, HB8.out, HARM8.out, hl8⟩
              case measure => simp only [intOf]; omega
          · rw [HE1.out, if_neg (fun e => hdead e.2)]
            have hge : ¬ ((n : Int) ≤ (t : Int)) := by omega
            have HD1 : Hid (Calls Try.prog 21 #[.pointer (some ⟨w1.heap.size, 0, none⟩), .int .i64 (who : Int)] w8 fun e w' => e = .returned (.bool false) ∧ w8 = w') := by
              have h := bank_dead HA8.out who (by rw [HARM8.out.num]; exact hw3)
              rw [HARM8.out.dead who hw3, show decide (who = who ∧ n ≤ t) = false by simp; omega] at h
              exact h
            have HD2 : Hid (Calls Try.prog 21 #[.pointer (some ⟨w1.heap.size, 0, none⟩), .int .i64 (((who : Int) + 1) % 3)] w8 fun e w' => e = .returned (.bool false) ∧ w8 = w') := by
              have h := bank_dead HA8.out ((who + 1) % 3) (by rw [HARM8.out.num]; omega)
              rw [HARM8.out.dead _ (by omega), show decide ((who + 1) % 3 = who ∧ n ≤ t) = false by simp; omega, show ((((who + 1) % 3 : Nat)) : Int) = ((who : Int) + 1) % 3 by omega] at h
              exact h
            go_wp2_with (first
              | (go_at_call 21; ((with_reducible refine HD1.out.mono ?_); rintro _ _ ⟨rfl, rfl⟩))
              | (go_at_call 21; ((with_reducible refine HD2.out.mono ?_); rintro _ _ ⟨rfl, rfl⟩)))
            go_roundw
            case rel => exact ⟨i + 1, t, SA', SB.flush d, by simp, rfl, by omega, by omega, by omega, by show SB.writes ≤ _; omega, HA8.out, HB8.out, HARM8.out, hl8⟩
            case measure => simp only [intOf]; omega
        · have hke : ¬ ((f i).k = 2) := hk2
          go_wp2_with fail
          have HFP : Hid (∀ W', Below wo.heap.size wo W' → W'.cell? ⟨(ad.add (i * 5)).block, (ad.add (i * 5)).off + 1, none⟩ = some (.int .i64 (f i).d) ∧ W'.cell? ⟨(ad.add (i * 5)).block, (ad.add (i * 5)).off + 2, none⟩ = some (.int .i64 (f i).a) ∧ Below wo.heap.size wo W') := fun W' hb => ⟨(hb.cell (by show (ad.add (i * 5)).block < _; rw [block_of_add]; have := hlr.size; omega)).trans cdr, (hb.cell (by show (ad.add (i * 5)).block < _; rw [block_of_add]; have := hlr.size; omega)).trans car, hb⟩
          go_region_held3 (fun W' => (W'.cell? ⟨(ad.add (i * 5)).block, (ad.add (i * 5)).off + 1, none⟩ = some (.int .i64 (f i).d) ∧ W'.cell? ⟨(ad.add (i * 5)).block, (ad.add (i * 5)).off + 2, none⟩ = some (.int .i64 (f i).a) ∧ Below wo.heap.size wo W')) (first | assumption | exact HFP.out _ ((Below.refl _ _).drew) | exact HFP.out _ (((Below.refl _ _).drew).alloc (Nat.le_refl _) _) | exact HFP.out _ ((((Below.refl _ _).drew).alloc (Nat.le_refl _) _).setCell _ (Nat.le_refl _) _)) (fail)
          clear HFP cdr car
          generalize hw6 : World.drew _ = w6
          have hbel6 : Below wo.heap.size wo w6 := by rw [← hw6]; exact ((Below.refl _ _).alloc (Nat.le_refl _) _).drew
          have hb_w6 : Blk w6 wo.heap.size 37 #[.int .i64 ((md : Int) % 3), .int .i64 (k : Int)] := by rw [← hw6]; exact (Blk.new _ _ _).drew
          clear hw6
          obtain ⟨d, hdd⟩ : ∃ d, d = md % 3 := ⟨_, rfl⟩
          rw [show (md : Int) % 3 = (d : Int) by omega] at hb_w6
          have hd3 : d < 3 := by omega
          clear hd hdl hdd
          have hl6 : Below w.heap.size w w6 := hlr.trans (hbel6.mono hlr.size)
          obtain ⟨ck6, _, _, cn6⟩ := HCN.out w6 hl6
          have p0 : w6.cell? ⟨wo.heap.size, 0, none⟩ = some (.int .i64 (d : Int)) := hb_w6.cell 0
          have p1 : w6.cell? ⟨wo.heap.size, 1, none⟩ = some (.int .i64 (k : Int)) := hb_w6.cell 1
          go_wp2_with fail
          have hsz6 := hl6.size
          have hsw : wo.heap.size < w6.heap.size := hb_w6.lt
          have HA6 := hide (HA.out.later hbel6)
          have HB6 := hide (HB.out.later hbel6)
          have HP6 := hide hb_w6
          clear hb_w6
          obtain ⟨U, hU⟩ : ∃ U, U = secL (secOf (f i).n) := ⟨_, rfl⟩
          have HSEC := hide (sector_held (w := w6) (f i).n _ rfl hU)
          have HWA := hide (write_held HA6.out (by omega) d k _ hU)
          have hwwb := write_writes SB d k (secOf (f i).n)
          have HU := hide hU
          clear hU
          have HF_w6 : Hid (∀ W', Upto w1.heap.size w2.heap.size w6 W' → W'.cell? ⟨wo.heap.size, 0, none⟩ = some (.int .i64 (d : Int)) ∧ W'.cell? ⟨wo.heap.size, 1, none⟩ = some (.int .i64 (k : Int)) ∧ W'.cell? ⟨(ad.add (i * 5)).block, (ad.add (i * 5)).off + 3, none⟩ = some (.int .i64 (f i).n) ∧ Upto w1.heap.size w2.heap.size w6 W') := fun W' hu => by
            have hP := HP6.out.upto hu (.inl (by omega))
            exact ⟨hP.cell 0, hP.cell 1, (HCN.out W' (hl6.trans (hu.low hs1 (by omega)))).2.2.2, hu⟩
          clear p0 p1 cn6 ck6
          go_region_held3 (fun W' => (W'.cell? ⟨wo.heap.size, 0, none⟩ = some (.int .i64 (d : Int)) ∧ W'.cell? ⟨wo.heap.size, 1, none⟩ = some (.int .i64 (k : Int)) ∧ W'.cell? ⟨(ad.add (i * 5)).block, (ad.add (i * 5)).off + 3, none⟩ = some (.int .i64 (f i).n) ∧ Upto w1.heap.size w2.heap.size w6 W')) (first | assumption | exact HF_w6.out _ (by assumption) | exact HF_w6.out _ (Upto.of_below (by assumption)) | exact HF_w6.out _ ((Upto.refl _ _ _).drew) | exact HF_w6.out _ (Upto.refl _ _ _))
            ((first
              | (go_at_call 13; ((with_reducible refine (HSEC.out _ ((Below.refl _ _).drew)).mono ?_); rintro _ w7 ⟨rfl, hl_w7⟩))
              | (go_at_call 12; ((with_reducible refine (HWA.out _ (by assumption)).mono ?_); rintro _ w8 ⟨rfl, hA8, hu8⟩))))
          have hbel8 : Below w.heap.size w w8 := hl6.trans (hu8.low hs1 (by omega))
          have hP8 := HP6.out.upto hu8 (.inl (by omega))
          have HA8 := hide hA8
          have HB8 := hide (HB6.out.kept hu8 (.inr (Nat.le_refl _)))
          have hsz8 := hu8.size
          have HP8 := hide hP8
          clear hA8 hP8
          obtain ⟨e1, e2, harm9⟩ := HARM.out.write hd3 hkl (secOf (f i).n)
          have HE1 := hide e1
          have HE2 := hide e2
          have HARM9 := hide harm9
          clear e1 e2 harm9
          have HSEC8 := hide (sector_held (w := w8) (f i).n _ rfl HU.out)
          have HWB := hide (write_held HB8.out (by omega) d k _ HU.out)
          have HF_w8 : Hid (∀ W', Upto w2.heap.size w3.heap.size w8 W' → W'.cell? ⟨wo.heap.size, 0, none⟩ = some (.int .i64 (d : Int)) ∧ W'.cell? ⟨wo.heap.size, 1, none⟩ = some (.int .i64 (k : Int)) ∧ W'.cell? ⟨(ad.add (i * 5)).block, (ad.add (i * 5)).off + 3, none⟩ = some (.int .i64 (f i).n) ∧ Upto w2.heap.size w3.heap.size w8 W') := fun W' hu => by
            have hP := HP8.out.upto hu (.inl (by omega))
            exact ⟨hP.cell 0, hP.cell 1, (HCN.out W' (hbel8.trans (hu.low (by omega) (by omega)))).2.2.2, hu⟩
          go_wp2_with fail
          go_region_held3 (fun W' => (W'.cell? ⟨wo.heap.size, 0, none⟩ = some (.int .i64 (d : Int)) ∧ W'.cell? ⟨wo.heap.size, 1, none⟩ = some (.int .i64 (k : Int)) ∧ W'.cell? ⟨(ad.add (i * 5)).block, (ad.add (i * 5)).off + 3, none⟩ = some (.int .i64 (f i).n) ∧ Upto w2.heap.size w3.heap.size w8 W')) (first | assumption | exact HF_w8.out _ (by assumption) | exact HF_w8.out _ (Upto.of_below (by assumption)) | exact HF_w8.out _ ((Upto.refl _ _ _).drew) | exact HF_w8.out _ (Upto.refl _ _ _))
            ((first
              | (go_at_call 13; ((with_reducible refine (HSEC8.out _ ((Below.refl _ _).drew)).mono ?_); rintro _ w9 ⟨rfl, hl_w9⟩))
              | (go_at_call 12; ((with_reducible refine (HWB.out _ (by assumption)).mono ?_); rintro _ w10 ⟨rfl, hB10, hu10⟩))))
          have hbel10 : Below w.heap.size w w10 := hbel8.trans (hu10.low (by omega) (by omega))
          have p010 : w10.cell? ⟨wo.heap.size, 0, none⟩ = some (.int .i64 (d : Int)) := (HP8.out.upto hu10 (.inl (by omega))).cell 0
          have HB10 := hide hB10
          have HA10 := hide (HA8.out.kept hu10 (.inl (Nat.le_refl _)))
          clear hB10
          rw [HE2.out]
          obtain ⟨SA', hSA⟩ : ∃ X, X = (SA.write d k (secOf (f i).n)).2 := ⟨_, rfl⟩
          obtain ⟨SB', hSB⟩ : ∃ X, X = (SB.write d k (secOf (f i).n)).2 := ⟨_, rfl⟩
          rw [← hSA] at HARM9 HA10
          rw [← hSB] at HARM9 HB10 hwwb
          clear hSA hSB
          by_cases hdead : n ≤ t + 1
          · by_cases hdw : d = who
            · rw [HE1.out, if_pos ⟨hdw, hdead⟩]
              have hge : (n : Int) ≤ (t : Int) + 1 := by omega
              have hdi : (d : Int) = (who : Int) := by omega
              have HD1 : Hid (Calls Try.prog 21 #[.pointer (some ⟨w1.heap.size, 0, none⟩), .int .i64 (who : Int)] w10 fun e w' => e = .returned (.bool true) ∧ w10 = w') := by
                have h := bank_dead HA10.out who (by rw [HARM9.out.num]; exact hw3)
                rw [HARM9.out.dead who hw3, show decide (who = who ∧ n ≤ t + 1) = true by simp; omega] at h
                exact h
              have HD2 : Hid (Calls Try.prog 21 #[.pointer (some ⟨w1.heap.size, 0, none⟩), .int .i64 (((who : Int) + 1) % 3)] w10 fun e w' => e = .returned (.bool false) ∧ w10 = w') := by
                have h := bank_dead HA10.out ((who + 1) % 3) (by rw [HARM9.out.num]; omega)
                rw [HARM9.out.dead _ (by omega), show decide ((who + 1) % 3 = who ∧ n ≤ t + 1) = false by simp; omega, show ((((who + 1) % 3 : Nat)) : Int) = ((who : Int) + 1) % 3 by omega] at h
                exact h
              go_wp2_with (first
                | (go_at_call 21; ((with_reducible refine HD1.out.mono ?_); rintro _ _ ⟨rfl, rfl⟩))
                | (go_at_call 21; ((with_reducible refine HD2.out.mono ?_); rintro _ _ ⟨rfl, rfl⟩)))
              go_roundw
              case rel => exact ⟨i + 1, t + 1, SA', SB', by simp, by simp, by omega, by omega, by omega, by omega, HA10.out, HB10.out, HARM9.out, hbel10⟩
              case measure => simp only [intOf]; omega
            · rw [HE1.out, if_neg (fun e => hdw e.1)]
              have hge : (n : Int) ≤ (t : Int) + 1 := by omega
              have hdi : ¬ ((d : Int) = (who : Int)) := by omega
              have HD1 : Hid (Calls Try.prog 21 #[.pointer (some ⟨w1.heap.size, 0, none⟩), .int .i64 (who : Int)] w10 fun e w' => e = .returned (.bool true) ∧ w10 = w') := by
                have h := bank_dead HA10.out who (by rw [HARM9.out.num]; exact hw3)
                rw [HARM9.out.dead who hw3, show decide (who = who ∧ n ≤ t + 1) = true by simp; omega] at h
                exact h
              have HD2 : Hid (Calls Try.prog 21 #[.pointer (some ⟨w1.heap.size, 0, none⟩), .int .i64 (((who : Int) + 1) % 3)] w10 fun e w' => e = .returned (.bool false) ∧ w10 = w') := by
                have h := bank_dead HA10.out ((who + 1) % 3) (by rw [HARM9.out.num]; omega)
                rw [HARM9.out.dead _ (by omega), show decide ((who + 1) % 3 = who ∧ n ≤ t + 1) = false by simp; omega, show ((((who + 1) % 3 : Nat)) : Int) = ((who : Int) + 1) % 3 by omega] at h
                exact h
              go_wp2_with (first
                | (go_at_call 21; ((with_reducible refine HD1.out.mono ?_); rintro _ _ ⟨rfl, rfl⟩))
                | (go_at_call 21; ((with_reducible refine HD2.out.mono ?_); rintro _ _ ⟨rfl, rfl⟩)))
              go_roundw
              case rel => exact ⟨i + 1, t + 1, SA', SB', by simp, by simp, by omega, by omega, by omega, by omega, HA10.out, HB10.out, HARM9.out, hbel10⟩
              case measure => simp only [intOf]; omega
          · rw [HE1.out, if_neg (fun e => hdead e.2)]
            have hge : ¬ ((n : Int) ≤ (t : Int) + 1) := by omega
            have HD1 : Hid (Calls Try.prog 21 #[.pointer (some ⟨w1.heap.size, 0, none⟩), .int .i64 (who : Int)] w10 fun e w' => e = .returned (.bool false) ∧ w10 = w') := by
              have h := bank_dead HA10.out who (by rw [HARM9.out.num]; exact hw3)
              rw [HARM9.out.dead who hw3, show decide (who = who ∧ n ≤ t + 1) = false by simp; omega] at h
              exact h
            have HD2 : Hid (Calls Try.prog 21 #[.pointer (some ⟨w1.heap.size, 0, none⟩), .int .i64 (((who : Int) + 1) % 3)] w10 fun e w' => e = .returned (.bool false) ∧ w10 = w') := by
              have h := bank_dead HA10.out ((who + 1) % 3) (by rw [HARM9.out.num]; omega)
              rw [HARM9.out.dead _ (by omega), show decide ((who + 1) % 3 = who ∧ n ≤ t + 1) = false by simp; omega, show ((((who + 1) % 3 : Nat)) : Int) = ((who : Int) + 1) % 3 by omega] at h
              exact h
            go_wp2_with (first
              | (go_at_call 21; ((with_reducible refine HD1.out.mono ?_); rintro _ _ ⟨rfl, rfl⟩))
              | (go_at_call 21; ((with_reducible refine HD2.out.mono ?_); rintro _ _ ⟨rfl, rfl⟩)))
            go_roundw
            case rel => exact ⟨i + 1, t + 1, SA', SB', by simp, by simp, by omega, by omega, by omega, by omega, HA10.out, HB10.out, HARM9.out, hbel10⟩
            case measure => simp only [intOf]; omega
      · have HAX := hide hA
        have HBX := hide hB
        clear hA hB harm
        by_cases h1 : i < nl
        · have hd5 : decide ((i : Int) < 80) = false := by simp; omega
          go_wp2_with fail
          go_meet
          exact ⟨t, SA, SB, rfl, by omega, HAX.out, HBX.out, HARM.out, hlr⟩
        · have hd5 : decide ((i : Int) < (nl : Int)) = false := by simp; omega
          go_wp2_with fail
          go_meet
          exact ⟨t, SA, SB, rfl, by omega, HAX.out, HBX.out, HARM.out, hlr⟩
  case rest =>
    obtain ⟨t, SA, SB, rfl, ht80, hA, hB, harm, hlr⟩ := hcut
    have HL := hide harm
    have HA := hide hA
    have HB := hide hB
    have hzlo := HB.out.1
    have HWR : Hid (Calls Try.prog 22 #[.pointer (some ⟨w1.heap.size, 0, none⟩)] wc fun e w' => e = .returned (.int .i64 (t : Int)) ∧ wc = w') := by
      have h := bank_writes hA
      rw [harm.writes] at h
      exact h
    clear harm hA hB
    go_wp2_with (first
      | (go_at_call 22; refine HWR.out.mono ?_; rintro _ _ ⟨rfl, rfl⟩))
    go_loopw [16, 17, 18, 19, 20, 21] (fun s16 _ _ _ _ _ wr => ∃ i : Nat, s16 = .int .i64 (i : Int) ∧ i ≤ 24 ∧ BankAt wr w1.heap.size w1.heap.size w2.heap.size SA ∧ BankAt wr w2.heap.size w2.heap.size w3.heap.size SB ∧ Below w.heap.size w wr) (fun s16 _ _ _ _ _ _ => 24 - (intOf s16).toNat)
    case atStart => exact ⟨0, rfl, by decide, HA.out, HB.out, hlr⟩
    case round =>
      obtain ⟨i, rfl, hi24, hA, hB, hlr⟩ := hrel
      obtain ⟨wo, rfl⟩ : ∃ wo, wo = wr := ⟨_, rfl⟩
      have HA := hide hA
      have HB := hide hB
      have hzl := HB.out.1
      clear hA hB
      by_cases hlt : i < 24
      · have hg1 : (i : Int) < 24 := by omega
        have hk := mask_nat i
        obtain ⟨XB, hXB⟩ : ∃ X : Sec, X = SB.newest (i / 8) (i % 8) := ⟨_, rfl⟩
        have hrb := readV_calm HL.out.calm (show i / 8 < 3 by omega) (show i % 8 < 8 by omega)
        have hra := HL.out.reads (show i / 8 < 3 by omega) (show i % 8 < 8 by omega)
        rw [← hXB] at hra hrb
        clear hXB
        by_cases hdd : i / 8 = who ∧ n ≤ t
        · rw [if_pos hdd, if_pos hdd] at hra
          obtain ⟨XA, hXA⟩ : ∃ X : Sec, X = zeroSec := ⟨_, rfl⟩
          rw [← hXA] at hra
          have HXZ := hide hXA
          have hdi : (i : Int) / 8 = (who : Int) := by omega
          have hge : (n : Int) ≤ (t : Int) := by omega
          obtain ⟨UA, hU⟩ : ∃ U, U = secL XA := ⟨_, rfl⟩
          have huUA : secV XA = .agg UA.toArray := by rw [hU]; rfl
          have hUl : UA.length = 64 := by rw [hU, secL_length]
          have hUo : ∀ v ∈ UA, v.oneCell' = true := by rw [hU]; exact secL_one _
          have hiU : (Try.prog.info? 28).map (·.size) = some UA.length := by rw [hUl]; exact sec_info
          have hEX : Value.agg UA.toArray = .agg (B8 XA.1).toArray := by rw [hU]; rfl
          have HULUA := hide hUl
          have HUOUA := hide hUo
          have HIUUA := hide hiU
          have HEXUA := hide hEX
          clear hUl hUo hiU hEX hU
          obtain ⟨UB, hU⟩ : ∃ U, U = secL XB := ⟨_, rfl⟩
          have huUB : secV XB = .agg UB.toArray := by rw [hU]; rfl
          have hUl : UB.length = 64 := by rw [hU, secL_length]
          have hUo : ∀ v ∈ UB, v.oneCell' = true := by rw [hU]; exact secL_one _
          have hiU : (Try.prog.info? 28).map (·.size) = some UB.length := by rw [hUl]; exact sec_info
          have hEX : Value.agg UB.toArray = .agg (B8 XB.1).toArray := by rw [hU]; rfl
          have HULUB := hide hUl
          have HUOUB := hide hUo
          have HIUUB := hide hiU
          have HEXUB := hide hEX
          clear hUl hUo hiU hEX hU
          rw [huUA] at hra
          rw [huUB] at hrb
          have HRA0 := hide hra
          have HRB0 := hide hrb
          clear hra hrb huUA huUB hXA
          have HRA : Hid (∀ w', BankAt w' w1.heap.size w1.heap.size w2.heap.size SA → Calls Try.prog 16 #[.pointer (some ⟨w1.heap.size, 0, none⟩), .agg #[.int .i64 ((who : Int)), .int .i64 ((i : Int) % 8)]] w' fun e w'' => e = .returned (.tuple #[.agg UA.toArray, .int .i64 7]) ∧ Below w'.heap.size w' w'') := fun w' h => by
            have hr := bank_read h (i / 8) (i % 8)
            rw [HRA0.out, show (((i / 8 : Nat)) : Int) = (who : Int) by omega, show (((i % 8 : Nat)) : Int) = (i : Int) % 8 by omega] at hr
            exact hr
          have HRB : Hid (∀ w', BankAt w' w2.heap.size w2.heap.size w3.heap.size SB → Calls Try.prog 16 #[.pointer (some ⟨w2.heap.size, 0, none⟩), .agg #[.int .i64 ((who : Int)), .int .i64 ((i : Int) % 8)]] w' fun e w'' => e = .returned (.tuple #[.agg UB.toArray, .int .i64 0]) ∧ Below w'.heap.size w' w'') := fun w' h => by
            have hr := bank_read h (i / 8) (i % 8)
            rw [HRB0.out, show (((i / 8 : Nat)) : Int) = (who : Int) by omega, show (((i % 8 : Nat)) : Int) = (i : Int) % 8 by omega] at hr
            exact hr
          have HBZ : Hid (Try.prog.built 28 [] = some UA.toArray) := by
            have h := HEXUA.out
            rw [HXZ.out] at h
            have h2 : UA.toArray = (secL zeroSec).toArray := by injection h
            show _ = _
            rw [h2]
            exact built_zero
          go_wp2_with (first
            | (refine wpList_alloc_blk rfl 37 rfl _ (place_zero _) ?_; intro wa hb_wa hl_wa hs_wa; clear hs_wa)
            | (refine wpList_store_all rfl 37 (.tmp 17) (.tmp 160) rfl wo.heap.size 37 _ hb_wa rfl [.int .i64 ((who : Int)), .int .i64 ((i : Int) % 8)] rfl (by kernel_rfl) rfl (by intro v hv; simp at hv; rcases hv with rfl | rfl <;> rfl) ?_; intro wb hb_wb hg_wb hs_wb; clear hs_wb; have p0_wb : wb.cell? ⟨wo.heap.size, 0, none⟩ = some (.int .i64 ((who : Int))) := hb_wb.cell 0; have p1_wb : wb.cell? ⟨wo.heap.size, 1, none⟩ = some (.int .i64 ((i : Int) % 8)) := hb_wb.cell 1))
          have hlb : Below wo.heap.size wo wb := hl_wa.grown hg_wb hl_wa.size (fun g e => by injection e with e; omega)
          have hszb := hlb.size
          have HPB := hide hb_wb
          have hpblt := HPB.out.lt
          clear hb_wa hb_wb hl_wa hg_wb
          refine (HRA.out wb (HA.out.later hlb)).mono ?_
          rintro _ wc ⟨rfl, hlc⟩
          have hszc := hlc.size
          have HPC := hide (HPB.out.below hlc hpblt)
          go_wp2_with (first
            | (refine wpList_alloc_blk rfl 28 rfl _ (sec_zero _) ?_; intro wd hb_wd hl_wd hs_wd; clear hs_wd)
            | (refine wpList_store_all rfl 28 (.tmp 18) (.tmp 165) rfl wc.heap.size 28 _ hb_wd rfl UA rfl HIUUA.out (HULUA.out.trans (secL_length zeroSec).symm) HUOUA.out ?_; intro we hb_we hg_we hs_we; clear hs_we; have hpe := (HPC.out.below hl_wd (by have := HPC.out.lt; omega)).grown hg_we (fun e => by injection e with e; omega); have q0 : we.cell? ⟨wo.heap.size, 0, none⟩ = some (.int .i64 ((who : Int))) := hpe.cell 0; have q1 : we.cell? ⟨wo.heap.size, 1, none⟩ = some (.int .i64 ((i : Int) % 8)) := hpe.cell 1))
          have hle : Below wo.heap.size wo we := ((hlb.trans (hlc.mono hszb)).trans (hl_wd.mono (by omega))).grown hg_we (by have := hl_wd.size; omega) (fun g e => by injection e with e; omega)
          have HXE := hide hb_we
          have HPE := hide hpe
          have hsze := hle.size
          have hxlt := HXE.out.lt
          clear hb_wd hb_we hpe hg_we hl_wd
          refine (HRB.out we (HB.out.later hle)).mono ?_
          rintro _ wf ⟨rfl, hlf⟩
          have hszf := hlf.size
          have HXF := hide (HXE.out.below hlf hxlt)
          have HPF := hide (HPE.out.below hlf (by have := HPE.out.lt; omega))
          go_wp2_with (first
            | (refine wpList_alloc_blk rfl 28 rfl _ (sec_zero _) ?_; intro wg hb_wg hl_wg hs_wg; clear hs_wg)
            | (refine wpList_store_all rfl 28 (.tmp 20) (.tmp 171) rfl wf.heap.size 28 _ hb_wg rfl UB rfl HIUUB.out (HULUB.out.trans (secL_length zeroSec).symm) HUOUB.out ?_; intro wh hb_wh hg_wh hs_wh; clear hs_wh; have hxh := (HXF.out.below hl_wg (by have := HXF.out.lt; omega)).grown hg_wh (fun e => by injection e with e; omega); have hph := (HPF.out.below hl_wg (by have := HPF.out.lt; omega)).grown hg_wh (fun e => by injection e with e; omega); have r0 : wh.cell? ⟨wo.heap.size, 0, none⟩ = some (.int .i64 ((who : Int))) := hph.cell 0)
            | (refine when_load rfl 28 (.tmp 18) rfl wc.heap.size 0 28 _ hxh rfl UA _ (fun j v hj => by rw [Nat.zero_add]; simpa using hj) Try.underlying28 rfl HIUUA.out ?_)
            | (refine when_build rfl 28 #[] rfl [] (by simp) UA.toArray HBZ.out ?_)
            | (refine when_neq rfl 28 5 _ (.tmp 185) (.tmp 186) rfl 64 _ Try.underlying28 Try.underlying5 u8_info (by kernel_rfl) (by kernel_rfl) XA.1 XA.1 XA.2 XA.2 HEXUA.out HEXUA.out false (by simp) ?_))
          have hlh : Below wo.heap.size wo wh := ((hle.trans (hlf.mono hsze)).trans (hl_wg.mono (by omega))).grown hg_wh (by have := hl_wg.size; omega) (fun g e => by injection e with e; omega)
          go_roundw
          case rel => exact ⟨i + 1, by simp, by omega, HA.out.later hlh, HB.out.later hlh, hlr.trans (hlh.mono hlr.size)⟩
          case measure => simp only [intOf]; omega
        · rw [if_neg hdd, if_neg hdd] at hra
          obtain ⟨UB, hU⟩ : ∃ U, U = secL XB := ⟨_, rfl⟩
          have huUB : secV XB = .agg UB.toArray := by rw [hU]; rfl
          have hUl : UB.length = 64 := by rw [hU, secL_length]
          have hUo : ∀ v ∈ UB, v.oneCell' = true := by rw [hU]; exact secL_one _
          have hiU : (Try.prog.info? 28).map (·.size) = some UB.length := by rw [hUl]; exact sec_info
          have hEX : Value.agg UB.toArray = .agg (B8 XB.1).toArray := by rw [hU]; rfl
          have HULUB := hide hUl
          have HUOUB := hide hUo
          have HIUUB := hide hiU
          have HEXUB := hide hEX
          clear hUl hUo hiU hEX hU
          rw [huUB] at hra hrb
          have HRA0 := hide hra
          have HRB0 := hide hrb
          clear hra hrb huUB
          by_cases hdw : i / 8 = who
          · have hdi : (i : Int) / 8 = (who : Int) := by omega
            have hge : ¬ ((n : Int) ≤ (t : Int)) := by omega
            have HRA : Hid (∀ w', BankAt w' w1.heap.size w1.heap.size w2.heap.size SA → Calls Try.prog 16 #[.pointer (some ⟨w1.heap.size, 0, none⟩), .agg #[.int .i64 ((who : Int)), .int .i64 ((i : Int) % 8)]] w' fun e w'' => e = .returned (.tuple #[.agg UB.toArray, .int .i64 0]) ∧ Below w'.heap.size w' w'') := fun w' h => by
              have hr := bank_read h (i / 8) (i % 8)
              rw [HRA0.out, show (((i / 8 : Nat)) : Int) = (who : Int) by omega, show (((i % 8 : Nat)) : Int) = (i : Int) % 8 by omega] at hr
              exact hr
            have HRB : Hid (∀ w', BankAt w' w2.heap.size w2.heap.size w3.heap.size SB → Calls Try.prog 16 #[.pointer (some ⟨w2.heap.size, 0, none⟩), .agg #[.int .i64 ((who : Int)), .int .i64 ((i : Int) % 8)]] w' fun e w'' => e = .returned (.tuple #[.agg UB.toArray, .int .i64 0]) ∧ Below w'.heap.size w' w'') := fun w' h => by
              have hr := bank_read h (i / 8) (i % 8)
              rw [HRB0.out, show (((i / 8 : Nat)) : Int) = (who : Int) by omega, show (((i % 8 : Nat)) : Int) = (i : Int) % 8 by omega] at hr
              exact hr
            go_wp2_with (first
              | (refine wpList_alloc_blk rfl 37 rfl _ (place_zero _) ?_; intro wa hb_wa hl_wa hs_wa; clear hs_wa)
              | (refine wpList_store_all rfl 37 (.tmp 17) (.tmp 160) rfl wo.heap.size 37 _ hb_wa rfl [.int .i64 ((who : Int)), .int .i64 ((i : Int) % 8)] rfl (by kernel_rfl) rfl (by intro v hv; simp at hv; rcases hv with rfl | rfl <;> rfl) ?_; intro wb hb_wb hg_wb hs_wb; clear hs_wb; have p0_wb : wb.cell? ⟨wo.heap.size, 0, none⟩ = some (.int .i64 ((who : Int))) := hb_wb.cell 0; have p1_wb : wb.cell? ⟨wo.heap.size, 1, none⟩ = some (.int .i64 ((i : Int) % 8)) := hb_wb.cell 1))
            have hlb : Below wo.heap.size wo wb := hl_wa.grown hg_wb hl_wa.size (fun g e => by injection e with e; omega)
            have hszb := hlb.size
            have HPB := hide hb_wb
            have hpblt := HPB.out.lt
            clear hb_wa hb_wb hl_wa hg_wb
            refine (HRA.out wb (HA.out.later hlb)).mono ?_
            rintro _ wc ⟨rfl, hlc⟩
            have hszc := hlc.size
            have HPC := hide (HPB.out.below hlc hpblt)
            go_wp2_with (first
              | (refine wpList_alloc_blk rfl 28 rfl _ (sec_zero _) ?_; intro wd hb_wd hl_wd hs_wd; clear hs_wd)
              | (refine wpList_store_all rfl 28 (.tmp 18) (.tmp 165) rfl wc.heap.size 28 _ hb_wd rfl UB rfl HIUUB.out (HULUB.out.trans (secL_length zeroSec).symm) HUOUB.out ?_; intro we hb_we hg_we hs_we; clear hs_we; have hpe := (HPC.out.below hl_wd (by have := HPC.out.lt; omega)).grown hg_we (fun e => by injection e with e; omega); have q0 : we.cell? ⟨wo.heap.size, 0, none⟩ = some (.int .i64 ((who : Int))) := hpe.cell 0; have q1 : we.cell? ⟨wo.heap.size, 1, none⟩ = some (.int .i64 ((i : Int) % 8)) := hpe.cell 1))
            have hle : Below wo.heap.size wo we := ((hlb.trans (hlc.mono hszb)).trans (hl_wd.mono (by omega))).grown hg_we (by have := hl_wd.size; omega) (fun g e => by injection e with e; omega)
            have HXE := hide hb_we
            have HPE := hide hpe
            have hsze := hle.size
            have hxlt := HXE.out.lt
            clear hb_wd hb_we hpe hg_we hl_wd
            refine (HRB.out we (HB.out.later hle)).mono ?_
            rintro _ wf ⟨rfl, hlf⟩
            have hszf := hlf.size
            have HXF := hide (HXE.out.below hlf hxlt)
            have HPF := hide (HPE.out.below hlf (by have := HPE.out.lt; omega))
            go_wp2_with (first
              | (refine wpList_alloc_blk rfl 28 rfl _ (sec_zero _) ?_; intro wg hb_wg hl_wg hs_wg; clear hs_wg)
              | (refine wpList_store_all rfl 28 (.tmp 20) (.tmp 171) rfl wf.heap.size 28 _ hb_wg rfl UB rfl HIUUB.out (HULUB.out.trans (secL_length zeroSec).symm) HUOUB.out ?_; intro wh hb_wh hg_wh hs_wh; clear hs_wh; have hxh := (HXF.out.below hl_wg (by have := HXF.out.lt; omega)).grown hg_wh (fun e => by injection e with e; omega); have hph := (HPF.out.below hl_wg (by have := HPF.out.lt; omega)).grown hg_wh (fun e => by injection e with e; omega); have r0 : wh.cell? ⟨wo.heap.size, 0, none⟩ = some (.int .i64 ((who : Int))) := hph.cell 0)
              | (refine wpList_load_blk rfl 28 (.tmp 18) rfl wc.heap.size 0 28 _ hxh rfl UB _ (fun j v hj => by rw [Nat.zero_add]; simpa using hj) Try.underlying28 rfl HIUUB.out ?_)
              | (refine wpList_load_blk rfl 28 (.tmp 20) rfl wf.heap.size 0 28 _ hb_wh rfl UB _ (fun j v hj => by rw [Nat.zero_add]; simpa using hj) Try.underlying28 rfl HIUUB.out ?_)
              | (refine wpList_neq_bytes rfl 28 5 _ (.tmp 189) (.tmp 190) rfl 64 _ Try.underlying28 Try.underlying5 u8_info (by kernel_rfl) (by kernel_rfl) XB.1 XB.1 XB.2 XB.2 HEXUB.out HEXUB.out false (by simp) ?_))
            have hlh : Below wo.heap.size wo wh := ((hle.trans (hlf.mono hsze)).trans (hl_wg.mono (by omega))).grown hg_wh (by have := hl_wg.size; omega) (fun g e => by injection e with e; omega)
            go_roundw
            case rel => exact ⟨i + 1, by simp, by omega, HA.out.later hlh, HB.out.later hlh, hlr.trans (hlh.mono hlr.size)⟩
            case measure => simp only [intOf]; omega
          · have hdi : ¬ ((i : Int) / 8 = (who : Int)) := by omega
            have HRA : Hid (∀ w', BankAt w' w1.heap.size w1.heap.size w2.heap.size SA → Calls Try.prog 16 #[.pointer (some ⟨w1.heap.size, 0, none⟩), .agg #[.int .i64 ((i : Int) / 8), .int .i64 ((i : Int) % 8)]] w' fun e w'' => e = .returned (.tuple #[.agg UB.toArray, .int .i64 0]) ∧ Below w'.heap.size w' w'') := fun w' h => by
              have hr := bank_read h (i / 8) (i % 8)
              rw [HRA0.out, show (((i / 8 : Nat)) : Int) = (i : Int) / 8 by omega, show (((i % 8 : Nat)) : Int) = (i : Int) % 8 by omega] at hr
              exact hr
            have HRB : Hid (∀ w', BankAt w' w2.heap.size w2.heap.size w3.heap.size SB → Calls Try.prog 16 #[.pointer (some ⟨w2.heap.size, 0, none⟩), .agg #[.int .i64 ((i : Int) / 8), .int .i64 ((i : Int) % 8)]] w' fun e w'' => e = .returned (.tuple #[.agg UB.toArray, .int .i64 0]) ∧ Below w'.heap.size w' w'') := fun w' h => by
              have hr := bank_read h (i / 8) (i % 8)
              rw [HRB0.out, show (((i / 8 : Nat)) : Int) = (i : Int) / 8 by omega, show (((i % 8 : Nat)) : Int) = (i : Int) % 8 by omega] at hr
              exact hr
            go_wp2_with (first
              | (refine wpList_alloc_blk rfl 37 rfl _ (place_zero _) ?_; intro wa hb_wa hl_wa hs_wa; clear hs_wa)
              | (refine wpList_store_all rfl 37 (.tmp 17) (.tmp 160) rfl wo.heap.size 37 _ hb_wa rfl [.int .i64 ((i : Int) / 8), .int .i64 ((i : Int) % 8)] rfl (by kernel_rfl) rfl (by intro v hv; simp at hv; rcases hv with rfl | rfl <;> rfl) ?_; intro wb hb_wb hg_wb hs_wb; clear hs_wb; have p0_wb : wb.cell? ⟨wo.heap.size, 0, none⟩ = some (.int .i64 ((i : Int) / 8)) := hb_wb.cell 0; have p1_wb : wb.cell? ⟨wo.heap.size, 1, none⟩ = some (.int .i64 ((i : Int) % 8)) := hb_wb.cell 1))
            have hlb : Below wo.heap.size wo wb := hl_wa.grown hg_wb hl_wa.size (fun g e => by injection e with e; omega)
            have hszb := hlb.size
            have HPB := hide hb_wb
            have hpblt := HPB.out.lt
            clear hb_wa hb_wb hl_wa hg_wb
            refine (HRA.out wb (HA.out.later hlb)).mono ?_
            rintro _ wc ⟨rfl, hlc⟩
            have hszc := hlc.size
            have HPC := hide (HPB.out.below hlc hpblt)
            go_wp2_with (first
              | (refine wpList_alloc_blk rfl 28 rfl _ (sec_zero _) ?_; intro wd hb_wd hl_wd hs_wd; clear hs_wd)
              | (refine wpList_store_all rfl 28 (.tmp 18) (.tmp 165) rfl wc.heap.size 28 _ hb_wd rfl UB rfl HIUUB.out (HULUB.out.trans (secL_length zeroSec).symm) HUOUB.out ?_; intro we hb_we hg_we hs_we; clear hs_we; have hpe := (HPC.out.below hl_wd (by have := HPC.out.lt; omega)).grown hg_we (fun e => by injection e with e; omega); have q0 : we.cell? ⟨wo.heap.size, 0, none⟩ = some (.int .i64 ((i : Int) / 8)) := hpe.cell 0; have q1 : we.cell? ⟨wo.heap.size, 1, none⟩ = some (.int .i64 ((i : Int) % 8)) := hpe.cell 1))
            have hle : Below wo.heap.size wo we := ((hlb.trans (hlc.mono hszb)).trans (hl_wd.mono (by omega))).grown hg_we (by have := hl_wd.size; omega) (fun g e => by injection e with e; omega)
            have HXE := hide hb_we
            have HPE := hide hpe
            have hsze := hle.size
            have hxlt := HXE.out.lt
            clear hb_wd hb_we hpe hg_we hl_wd
            refine (HRB.out we (HB.out.later hle)).mono ?_
            rintro _ wf ⟨rfl, hlf⟩
            have hszf := hlf.size
            have HXF := hide (HXE.out.below hlf hxlt)
            have HPF := hide (HPE.out.below hlf (by have := HPE.out.lt; omega))
            go_wp2_with (first
              | (refine wpList_alloc_blk rfl 28 rfl _ (sec_zero _) ?_; intro wg hb_wg hl_wg hs_wg; clear hs_wg)
              | (refine wpList_store_all rfl 28 (.tmp 20) (.tmp 171) rfl wf.heap.size 28 _ hb_wg rfl UB rfl HIUUB.out (HULUB.out.trans (secL_length zeroSec).symm) HUOUB.out ?_; intro wh hb_wh hg_wh hs_wh; clear hs_wh; have hxh := (HXF.out.below hl_wg (by have := HXF.out.lt; omega)).grown hg_wh (fun e => by injection e with e; omega); have hph := (HPF.out.below hl_wg (by have := HPF.out.lt; omega)).grown hg_wh (fun e => by injection e with e; omega); have r0 : wh.cell? ⟨wo.heap.size, 0, none⟩ = some (.int .i64 ((i : Int) / 8)) := hph.cell 0)
              | (refine wpList_load_blk rfl 28 (.tmp 18) rfl wc.heap.size 0 28 _ hxh rfl UB _ (fun j v hj => by rw [Nat.zero_add]; simpa using hj) Try.underlying28 rfl HIUUB.out ?_)
              | (refine wpList_load_blk rfl 28 (.tmp 20) rfl wf.heap.size 0 28 _ hb_wh rfl UB _ (fun j v hj => by rw [Nat.zero_add]; simpa using hj) Try.underlying28 rfl HIUUB.out ?_)
              | (refine wpList_neq_bytes rfl 28 5 _ (.tmp 189) (.tmp 190) rfl 64 _ Try.underlying28 Try.underlying5 u8_info (by kernel_rfl) (by kernel_rfl) XB.1 XB.1 XB.2 XB.2 HEXUB.out HEXUB.out false (by simp) ?_))
            have hlh : Below wo.heap.size wo wh := ((hle.trans (hlf.mono hsze)).trans (hl_wg.mono (by omega))).grown hg_wh (by have := hl_wg.size; omega) (fun g e => by injection e with e; omega)
            go_roundw
            case rel => exact ⟨i + 1, by simp, by omega, HA.out.later hlh, HB.out.later hlh, hlr.trans (hlh.mono hlr.size)⟩
            case measure => simp only [intOf]; omega
      · have hge24 : ¬ ((i : Int) < 24) := by omega
        go_wp2_with fail
        go_loopw [22] (fun s22 wr => ∃ (j : Nat) (SA SB : Bank), s22 = .int .i64 (j : Int) ∧ j ≤ 3 ∧ BankAt wr w1.heap.size w1.heap.size w2.heap.size SA ∧ BankAt wr w2.heap.size w2.heap.size w3.heap.size SB ∧ Lame SA SB who t n ∧ Below w.heap.size w wr) (fun s22 _ => 3 - (intOf s22).toNat)
        case atStart => exact ⟨0, SA, SB, rfl, by decide, HA.out, HB.out, HL.out, hlr⟩
        case round =>
          obtain ⟨j, SA, SB, rfl, hj3, hA, hB, hL, hlr⟩ := hrel
          obtain ⟨wo2, rfl⟩ : ∃ wo2, wo2 = wr := ⟨_, rfl⟩
          have HA := hide hA
          have HB := hide hB
          have HL := hide hL
          have hzl := HB.out.1
          clear hA hB hL
          by_cases hlt3 : j < 3
          · have hg1 : (j : Int) < 3 := by omega
            have hfb := fun w' (h : BankAt w' w2.heap.size w2.heap.size w3.heap.size SB) => bank_flush h j
            rw [HL.out.calm.may hlt3, if_pos rfl] at hfb
            have HFB := hide hfb
            have HFA := hide (bank_flush HA.out j)
            clear hfb
            go_wp2_with fail
            refine HFA.out.mono ?_
            rintro _ wa ⟨rfl, hAa, hua⟩
            have hla : Below w.heap.size w wa := hlr.trans (hua.low hs1 (by omega))
            have hsa := hua.size
            have HAa := hide hAa
            have HBa := hide (HB.out.kept hua (.inr (Nat.le_refl _)))
            clear hAa
            go_wp2_with fail
            refine (HFB.out wa HBa.out).mono ?_
            rintro _ wb ⟨rfl, hBb, hub⟩
            have hlb : Below w.heap.size w wb := hla.trans (hub.low (by omega) (by omega))
            have HBb := hide hBb
            have HAb := hide (HAa.out.kept hub (.inl (Nat.le_refl _)))
            clear hBb
            go_wp2_with fail
            go_roundw
            case rel => exact ⟨j + 1, _, _, by simp, by omega, HAb.out, HBb.out, HL.out.flush hlt3, hlb⟩
            case measure => simp only [intOf]; omega
          · have hge3 : ¬ ((j : Int) < 3) := by omega
            go_wp2_with fail
            refine (bank_crash HA.out 0 (by decide)).mono ?_
            rintro _ w5 ⟨rfl, hA5, hu5⟩
            have hl5 : Below w.heap.size w w5 := hlr.trans (hu5.low hs1 (by omega))
            have hs5 := hu5.size
            have HA5 := hide hA5
            have HB5 := hide (HB.out.kept hu5 (.inr (Nat.le_refl _)))
            clear hA5
            go_wp2_with fail
            refine (bank_crash HB5.out 0 (by decide)).mono ?_
            rintro _ w6 ⟨rfl, hB6, hu6⟩
            have hl6 : Below w.heap.size w w6 := hl5.trans (hu6.low (by omega) (by omega))
            have hs6 := hu6.size
            have HB6 := hide hB6
            have HA6 := hide (HA5.out.kept hu6 (.inl (Nat.le_refl _)))
            clear hB6
            go_wp2_with fail
            refine (bank_start HA6.out).mono ?_
            rintro _ w7 ⟨rfl, hA7, hu7⟩
            have hl7 : Below w.heap.size w w7 := hl6.trans (hu7.low hs1 (by omega))
            have hs7 := hu7.size
            have HA7 := hide hA7
            have HB7 := hide (HB6.out.kept hu7 (.inr (Nat.le_refl _)))
            clear hA7
            go_wp2_with fail
            refine (bank_start HB7.out).mono ?_
            rintro _ w8 ⟨rfl, hB8, hu8⟩
            have hl8 : Below w.heap.size w w8 := hl7.trans (hu8.low (by omega) (by omega))
            have hs8 := hu8.size
            have HB8 := hide hB8
            have HA8 := hide (HA7.out.kept hu8 (.inl (Nat.le_refl _)))
            clear hB8
            have hk := mask_nat n
            obtain ⟨hra, hrb⟩ := HL.out.fallen (show (who + 1) % 3 < 3 by omega) (show n % 8 < 8 by omega) (show (who + 1) % 3 ≠ who by omega)
            obtain ⟨XB, hXB⟩ : ∃ X : Sec, X = SB.flushed ((who + 1) % 3) (n % 8) := ⟨_, rfl⟩
            rw [← hXB] at hra hrb
            clear hXB
            obtain ⟨UB, hU⟩ : ∃ U, U = secL XB := ⟨_, rfl⟩
            have huUB : secV XB = .agg UB.toArray := by rw [hU]; rfl
            have hUl : UB.length = 64 := by rw [hU, secL_length]
            have hUo : ∀ v ∈ UB, v.oneCell' = true := by rw [hU]; exact secL_one _
            have hiU : (Try.prog.info? 28).map (·.size) = some UB.length := by rw [hUl]; exact sec_info
            have hEX : Value.agg UB.toArray = .agg (B8 XB.1).toArray := by rw [hU]; rfl
            have HULUB := hide hUl
            have HUOUB := hide hUo
            have HIUUB := hide hiU
            have HEXUB := hide hEX
            clear hUl hUo hiU hEX hU
            rw [huUB] at hra hrb
            have HRA0 := hide hra
            have HRB0 := hide hrb
            clear hra hrb huUB
            have HRA : Hid (∀ w', BankAt w' w1.heap.size w1.heap.size w2.heap.size (SA.crash 0).start → Calls Try.prog 16 #[.pointer (some ⟨w1.heap.size, 0, none⟩), .agg #[.int .i64 (((who : Int) + 1) % 3), .int .i64 ((n : Int) % 8)]] w' fun e w'' => e = .returned (.tuple #[.agg UB.toArray, .int .i64 0]) ∧ Below w'.heap.size w' w'') := fun w' h => by
              have hr := bank_read h ((who + 1) % 3) (n % 8)
              rw [HRA0.out, show ((((who + 1) % 3 : Nat)) : Int) = ((who : Int) + 1) % 3 by omega, show (((n % 8 : Nat)) : Int) = (n : Int) % 8 by omega] at hr
              exact hr
            have HRB : Hid (∀ w', BankAt w' w2.heap.size w2.heap.size w3.heap.size (SB.crash 0).start → Calls Try.prog 16 #[.pointer (some ⟨w2.heap.size, 0, none⟩), .agg #[.int .i64 (((who : Int) + 1) % 3), .int .i64 ((n : Int) % 8)]] w' fun e w'' => e = .returned (.tuple #[.agg UB.toArray, .int .i64 0]) ∧ Below w'.heap.size w' w'') := fun w' h => by
              have hr := bank_read h ((who + 1) % 3) (n % 8)
              rw [HRB0.out, show ((((who + 1) % 3 : Nat)) : Int) = ((who : Int) + 1) % 3 by omega, show (((n % 8 : Nat)) : Int) = (n : Int) % 8 by omega] at hr
              exact hr
            go_wp2_with (first
              | (refine wpList_alloc_blk rfl 37 rfl _ (place_zero _) ?_; intro wa hb_wa hl_wa hs_wa; clear hs_wa)
              | (refine wpList_store_all rfl 37 (.tmp 23) (.tmp 220) rfl w8.heap.size 37 _ hb_wa rfl [.int .i64 (((who : Int) + 1) % 3), .int .i64 ((n : Int) % 8)] rfl (by kernel_rfl) rfl (by intro v hv; simp at hv; rcases hv with rfl | rfl <;> rfl) ?_; intro wb hb_wb hg_wb hs_wb; clear hs_wb; have p0_wb : wb.cell? ⟨w8.heap.size, 0, none⟩ = some (.int .i64 (((who : Int) + 1) % 3)) := hb_wb.cell 0; have p1_wb : wb.cell? ⟨w8.heap.size, 1, none⟩ = some (.int .i64 ((n : Int) % 8)) := hb_wb.cell 1))
            have hlb : Below w8.heap.size w8 wb := hl_wa.grown hg_wb hl_wa.size (fun g e => by injection e with e; omega)
            have hszb := hlb.size
            have HPB := hide hb_wb
            have hpblt := HPB.out.lt
            clear hb_wa hb_wb hl_wa hg_wb
            refine (HRA.out wb (HA8.out.later hlb)).mono ?_
            rintro _ wc ⟨rfl, hlc⟩
            have hszc := hlc.size
            have HPC := hide (HPB.out.below hlc hpblt)
            go_wp2_with (first
              | (refine wpList_alloc_blk rfl 28 rfl _ (sec_zero _) ?_; intro wd hb_wd hl_wd hs_wd; clear hs_wd)
              | (refine wpList_store_all rfl 28 (.tmp 24) (.tmp 225) rfl wc.heap.size 28 _ hb_wd rfl UB rfl HIUUB.out (HULUB.out.trans (secL_length zeroSec).symm) HUOUB.out ?_; intro we hb_we hg_we hs_we; clear hs_we; have hpe := (HPC.out.below hl_wd (by have := HPC.out.lt; omega)).grown hg_we (fun e => by injection e with e; omega); have q0 : we.cell? ⟨w8.heap.size, 0, none⟩ = some (.int .i64 (((who : Int) + 1) % 3)) := hpe.cell 0; have q1 : we.cell? ⟨w8.heap.size, 1, none⟩ = some (.int .i64 ((n : Int) % 8)) := hpe.cell 1))
            have hle : Below w8.heap.size w8 we := ((hlb.trans (hlc.mono hszb)).trans (hl_wd.mono (by omega))).grown hg_we (by have := hl_wd.size; omega) (fun g e => by injection e with e; omega)
            have HXE := hide hb_we
            have HPE := hide hpe
            have hsze := hle.size
            have hxlt := HXE.out.lt
            clear hb_wd hb_we hpe hg_we hl_wd
            refine (HRB.out we (HB8.out.later hle)).mono ?_
            rintro _ wf ⟨rfl, hlf⟩
            have hszf := hlf.size
            have HXF := hide (HXE.out.below hlf hxlt)
            have HPF := hide (HPE.out.below hlf (by have := HPE.out.lt; omega))
            go_wp2_with (first
              | (refine wpList_alloc_blk rfl 28 rfl _ (sec_zero _) ?_; intro wg hb_wg hl_wg hs_wg; clear hs_wg)
              | (refine wpList_store_all rfl 28 (.tmp 26) (.tmp 231) rfl wf.heap.size 28 _ hb_wg rfl UB rfl HIUUB.out (HULUB.out.trans (secL_length zeroSec).symm) HUOUB.out ?_; intro wh hb_wh hg_wh hs_wh; clear hs_wh; have hxh := (HXF.out.below hl_wg (by have := HXF.out.lt; omega)).grown hg_wh (fun e => by injection e with e; omega); have hph := (HPF.out.below hl_wg (by have := HPF.out.lt; omega)).grown hg_wh (fun e => by injection e with e; omega); have r0 : wh.cell? ⟨w8.heap.size, 0, none⟩ = some (.int .i64 (((who : Int) + 1) % 3)) := hph.cell 0)
              | (refine when_load rfl 28 (.tmp 24) rfl wc.heap.size 0 28 _ hxh rfl UB _ (fun j v hj => by rw [Nat.zero_add]; simpa using hj) Try.underlying28 rfl HIUUB.out ?_)
              | (refine when_load rfl 28 (.tmp 26) rfl wf.heap.size 0 28 _ hb_wh rfl UB _ (fun j v hj => by rw [Nat.zero_add]; simpa using hj) Try.underlying28 rfl HIUUB.out ?_)
              | (refine when_eql rfl 28 5 _ (.tmp 235) (.tmp 236) rfl 64 _ Try.underlying28 Try.underlying5 u8_info (by kernel_rfl) (by kernel_rfl) XB.1 XB.1 XB.2 XB.2 HEXUB.out HEXUB.out true (by simp) ?_))
            have hlh : Below w8.heap.size w8 wh := ((hle.trans (hlf.mono hsze)).trans (hl_wg.mono (by omega))).grown hg_wh (by have := hl_wg.size; omega) (fun g e => by injection e with e; omega)
            go_ret
            exact ⟨rfl, hl8.trans (hlh.mono hl8.size)⟩

/-! The row's frame, by program: how the walk above proves the statement. -/
set_option maxRecDepth 100000 in
theorem lifted (os : Os) (started : os.Started) (H : Type) (enc : TypeId × Value → H) :
    ReturnsInHanded {} Try.checked os 5 .any (Rows.diskFailsSpec.pre6 enc Try.prog Try.f5 Rows.diskFailsRow.domain false) (Rows.diskFailsSpec.post enc Try.prog Try.f5 false true false false) := by
  refine returnsInHanded_of_change (C := Try.checked) own started (by kernel_rfl) Try.func5
    (ChangeSpec.witness6 (enc := enc) (C := Try.checked) false ⟨#[], #[.slice none 0 0, .int .i64 0, .int .i64 0], []⟩ 8 (by kernel_rfl) (by kernel_rfl) (by kernel_rfl) (by kernel_rfl)) ?_
  intro W base args ds gs before hval0 hW hcnd _
  have hval : ∀ (j : Nat) t v, Try.f5.params[j]? = some t → args[j]? = some v → Value.okWide Try.prog W .any base t v := hval0
  have hW' := hW
  obtain ⟨p, q, hA0, hV, rfl, hfz, hnd⟩ := hW
  have hA : DataW.TrodAll enc Try.prog W 0 (fun _ => true) true Try.f5.params.toList args.toList ds p := hA0
  rw [Try.params5] at hA hval
  obtain ⟨v0, vs0, d0, ds0, p0, q0, hargs, rfl, rfl, h0, r0⟩ := trodAll_cons hA
  obtain ⟨v1, vs1, d1, ds1, p1, q1, rfl, rfl, rfl, h1, r1⟩ := trodAll_cons r0
  obtain ⟨v2, vs2, d2, ds2, p2, q2, rfl, rfl, rfl, h2, r2⟩ := trodAll_cons r1
  obtain ⟨rfl, rfl, rfl⟩ := trodAll_nil r2
  obtain rfl : args = #[v0, v1, v2] := by cases args; simp_all
  obtain ⟨rfl, rfl⟩ := trodVars_none hV
  obtain ⟨A0, n0, c0, rfl⟩ := okWide_slice Try.underlying22 (hval 0 22 v0 rfl rfl)
  have k0 := h0
  have lt0 : ∀ x ∈ p0, x.block < W.heap.size := by obtain ⟨m, hm⟩ := k0; exact DataW.trod_lt m _ _ _ hm
  obtain ⟨l0, x0, g0, z0⟩ := arg_steps h0
  obtain ⟨a1, rfl, rfl, rfl, w1⟩ := open_int Try.underlying3 (hval 1 3 v1 rfl rfl) h1
  have b1 := bounds_i64 w1
  obtain ⟨a2, rfl, rfl, rfl, w2⟩ := open_int Try.underlying3 (hval 2 3 v2 rfl rfl) h2
  have b2 := bounds_i64 w2
  clear hA0 hval0
  refine (walk A0 n0 c0 l0 a1 a2 W x0 g0 z0 b1.1 b1.2 b2.1 b2.2).mono fun e W' ⟨he, bel⟩ => ?_
  subst he
  exact ⟨_, rfl, _, _, _, [], _, [], hW', trodAll_mk1 (shut_bool Try.underlying4 _), (trodAll_cons_mk (Below.trod laidOut (by kernel_rfl) (of_decide_eq_true (by kernel_rfl)) k0 bel lt0) (trodAll_cons_mk (shut_int Try.underlying3 w1) (trodAll_cons_mk (shut_int Try.underlying3 w2) trodAll_mk0))), rfl, bel.frame _, fun h => by cases h⟩

theorem over : Rows.diskFailsRow.holds Try.pinned (OpenSpec.ofChange Rows.diskFailsSpec) :=
  OpenClaim.holds_of_wide 5 Try.f5 rfl rfl rfl rfl rfl rfl rfl ⟨rfl, rfl, rfl, rfl, rfl⟩ rfl rfl rfl rfl rfl (by kernel_rfl) Try.func5 (by kernel_rfl)
    (of_decide_eq_true (by kernel_rfl)) (by unfold Func.isWrapper; first | (rw [if_pos (by decide +kernel)]; kernel_rfl) | (rw [if_neg (by decide +kernel)]; exact ⟨rfl, rfl⟩))
    (fun os started H enc _ => lifted os started H enc)

/-- The statement. -/
theorem proved : Rows.DiskFailsSaid := over
#print axioms proved
end Go.Proofs.Ytdpfjehodnlojaa.DiskFails
