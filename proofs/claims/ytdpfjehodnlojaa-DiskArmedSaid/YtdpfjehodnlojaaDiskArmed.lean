/- DiskArmed holds: for all steps, every number and every mask: of two banks of three disks of eight sectors, to which the same writes and flushes (at most eighty) are done, the one armed, the other crashed itself in the place of the n-th write: the writes and flushes answer the same, the n-th write ErrDown, and behind Start both tell the same of all sectors; no condition. -/
import Derived.Test.YtdpfjehodnlojaaDuo
import Derived.Test.YtdpfjehodnlojaaChecked
import Derived.Test.YtdpfjehodnlojaaRows
import Derived.Deep.DeepCutAuto
import Derived.Deep.CutBlock
import Derived.StillTailTactics
import Derived.Deep.RegionHeld3
namespace Go.Proofs.Ytdpfjehodnlojaa.DiskArmed
open Go.ChangeShapes Go.WideShapes Go.ChangeAt Go.RowKit Go.Proofs.Ytdpfjehodnlojaa
set_option linter.unusedVariables false

set_option maxRecDepth 100000 in
set_option maxHeartbeats 4000000 in
theorem walk (A : Option Addr) (nl c : Nat) (f : Nat → Step) (v1 v2 : Int) (w : World) (hst : Steps w w.heap.size A nl f) (hnc : nl ≤ c) (hc63 : c ≤ 9223372036854775807) (b0 : -9223372036854775808 ≤ v1) (b1 : v1 ≤ 9223372036854775807) (b2 : 0 ≤ v2) (b3 : v2 ≤ 18446744073709551615) :
    Calls Try.prog 4 #[.slice A nl c, .int .i64 v1, .int .u64 v2] w fun e w' => e = .returned (.bool true) ∧ Below w.heap.size w w' := by
  obtain ⟨n0, hn0, hn0l⟩ := mask5 v1
  obtain ⟨m, rfl⟩ : ∃ m : Nat, v2 = (m : Int) := ⟨v2.toNat, by omega⟩
  have hm64 : m < 18446744073709551616 := by omega
  have HST := hide hst
  clear hst
  go_enter Try.func4, Try.ntmps4
  go_wp2_with (first
    | (go_at_call 9; refine (shown_any _).mono ?_; rintro _ w1 ⟨rfl, hl1⟩))
  refine (laid_any _).mono ?_
  rintro _ w2 ⟨rfl, hB2, hl2⟩
  go_wp2_with fail
  refine (laid_any _).mono ?_
  rintro _ w3 ⟨rfl, hB3, hl3⟩
  have hs1 := hl1.size
  have hs2 := hl2.size
  have hs3 := hl3.size
  have hA3 := hB2.later hl3
  have hl03 : Below w.heap.size w w3 := (hl1.trans (hl2.mono hs1)).trans (hl3.mono (by omega))
  have HA3 := hide hA3
  have HB3 := hide hB3
  have hblt : w1.heap.size < w2.heap.size := bank_lt hB2
  have hblt3 : w2.heap.size < w3.heap.size := bank_lt hB3
  clear hB2 hB3 hA3
  go_wp2_with fail
  refine (bank_arm HA3.out (1 + (n0 : Int)) (n0 + 1) m (by rw [if_pos (by omega)]; omega) (by omega) hm64).mono ?_
  rintro _ w4 ⟨rfl, hA4, hu4⟩
  obtain ⟨n, hn⟩ : ∃ n, n = n0 + 1 := ⟨_, rfl⟩
  rw [show 1 + (n0 : Int) = (n : Int) by omega]
  rw [← hn] at hA4
  have hn1 : 1 ≤ n := by omega
  have hs4 := hu4.size
  have hl04 : Below w.heap.size w w4 := hl03.trans (hu4.low hs1 (by omega))
  have HA4 := hide hA4
  have HB4 := hide (HB3.out.kept hu4 (.inr (Nat.le_refl _)))
  clear hA4 hn0 hn
  go_upto_block 0 with fail
  go_cut [10, 11, 12, 13, 14] (fun _ _ _ _ _ wx => ∃ (t : Nat) (SA SB : Bank), BankAt wx w1.heap.size w1.heap.size w2.heap.size SA ∧ BankAt wx w2.heap.size w2.heap.size w3.heap.size SB ∧ Armed SA SB t n m ∧ Below w.heap.size w wx)
  case first =>
    go_wp2_with fail
    go_loopw [10, 11, 12, 13, 14] (fun s10 s11 _ _ _ wr => ∃ (i t : Nat) (SA SB : Bank), s11 = .int .i64 (i : Int) ∧ s10 = .int .i64 (t : Int) ∧ i ≤ nl ∧ i ≤ 80 ∧ t ≤ i ∧ SA.writes ≤ i ∧ SB.writes ≤ i ∧ BankAt wr w1.heap.size w1.heap.size w2.heap.size SA ∧ BankAt wr w2.heap.size w2.heap.size w3.heap.size SB ∧ Armed SA SB t n m ∧ Below w.heap.size w wr) (fun _ s11 _ _ _ _ => 80 - (intOf s11).toNat)
    case atStart => exact ⟨0, 0, _, _, rfl, rfl, Nat.zero_le _, by decide, by decide, Nat.le_refl _, Nat.le_refl _, HA4.out, HB4.out, armed_laid n m (by omega), hl04⟩
    case round =>
      obtain ⟨i, t, SA, SB, rfl, rfl, hin, hi80, hti, hwa, hwb, hA, hB, harm, hlr⟩ := hrel
      obtain ⟨wo, rfl⟩ : ∃ wo, wo = wr := ⟨_, rfl⟩
      have HARM := hide harm
      by_cases hlt : i < nl ∧ i < 80
      · have hg1 : (i : Int) < (nl : Int) := by omega
        have hg2 : (i : Int) < 80 := by omega
        obtain ⟨ad, rfl, hadb, hcells⟩ := (HST.out.below hlr) (by omega)
        have hcn : ∀ w', Below w.heap.size w w' → w'.cell? (ad.add (i * 5)) = some (.int .i64 (f i).k) ∧ w'.cell? ⟨(ad.add (i * 5)).block, (ad.add (i * 5)).off + 1, none⟩ = some (.int .i64 (f i).d) ∧ w'.cell? ⟨(ad.add (i * 5)).block, (ad.add (i * 5)).off + 2, none⟩ = some (.int .i64 (f i).a) ∧ w'.cell? ⟨(ad.add (i * 5)).block, (ad.add (i * 5)).off + 3, none⟩ = some (.int .i64 (f i).n) := fun w' hb => ((HST.out.below hb) (by omega)).elim fun ad' h => by
          obtain ⟨e, _, hc⟩ := h
          injection e with e
          subst e
          exact ⟨(hc i hlt.1).1, (hc i hlt.1).2.1, (hc i hlt.1).2.2.1, (hc i hlt.1).2.2.2.1⟩
        have HCN := hide hcn
        clear hcells hcn
        obtain ⟨d, hd, hdl⟩ := mask2 (f i).d
        obtain ⟨k, hk, hkl⟩ := mask4 (f i).a
        have cdr : wo.cell? ⟨(ad.add (i * 5)).block, (ad.add (i * 5)).off + 1, none⟩ = some (.int .i64 (f i).d) := (HCN.out wo hlr).2.1
        have car : wo.cell? ⟨(ad.add (i * 5)).block, (ad.add (i * 5)).off + 2, none⟩ = some (.int .i64 (f i).a) := (HCN.out wo hlr).2.2.1
        have hwlo : w3.heap.size ≤ wo.heap.size := by have := hB.1; omega
        have HA := hide hA
        have HB := hide hB
        clear hA hB harm
        by_cases hk2 : (f i).k = 2
        · have hmay : SA.may d = SB.may d := HARM.out.may d
          have hke : (f i).k = 2 := hk2
          go_wp2_with fail
          have HFP : Hid (∀ W', Below wo.heap.size wo W' → W'.cell? ⟨(ad.add (i * 5)).block, (ad.add (i * 5)).off + 1, none⟩ = some (.int .i64 (f i).d) ∧ W'.cell? ⟨(ad.add (i * 5)).block, (ad.add (i * 5)).off + 2, none⟩ = some (.int .i64 (f i).a) ∧ Below wo.heap.size wo W') := fun W' hb => ⟨(hb.cell (by show (ad.add (i * 5)).block < _; rw [block_of_add]; have := hlr.size; omega)).trans cdr, (hb.cell (by show (ad.add (i * 5)).block < _; rw [block_of_add]; have := hlr.size; omega)).trans car, hb⟩
          go_region_held3 (fun W' => (W'.cell? ⟨(ad.add (i * 5)).block, (ad.add (i * 5)).off + 1, none⟩ = some (.int .i64 (f i).d) ∧ W'.cell? ⟨(ad.add (i * 5)).block, (ad.add (i * 5)).off + 2, none⟩ = some (.int .i64 (f i).a) ∧ Below wo.heap.size wo W')) (first | assumption | exact HFP.out _ ((Below.refl _ _).drew) | exact HFP.out _ (((Below.refl _ _).drew).alloc (Nat.le_refl _) _) | exact HFP.out _ ((((Below.refl _ _).drew).alloc (Nat.le_refl _) _).setCell _ (Nat.le_refl _) _)) (fail)
          clear HFP cdr car
          have hbel6 : Below wo.heap.size wo (wo.alloc (.cells #[.int .i64 (d : Int), .int .i64 (k : Int)] 37)).drew := ((Below.refl _ _).alloc (Nat.le_refl _) _).drew
          have hb_w6 : Blk (wo.alloc (.cells #[.int .i64 (d : Int), .int .i64 (k : Int)] 37)).drew wo.heap.size 37 #[.int .i64 (d : Int), .int .i64 (k : Int)] := (Blk.new _ _ _).drew
          generalize (wo.alloc (.cells #[.int .i64 (d : Int), .int .i64 (k : Int)] 37)).drew = w6 at hbel6 hb_w6 ⊢
          have hl6 : Below w.heap.size w w6 := hlr.trans (hbel6.mono hlr.size)
          obtain ⟨ck6, _, _, cn6⟩ := HCN.out w6 hl6
          have p0 : w6.cell? ⟨wo.heap.size, 0, none⟩ = some (.int .i64 (d : Int)) := hb_w6.cell 0
          have p1 : w6.cell? ⟨wo.heap.size, 1, none⟩ = some (.int .i64 (k : Int)) := hb_w6.cell 1
          go_wp2_with fail
          have hsz6 := hl6.size
          have hsw : wo.heap.size < w6.heap.size := hb_w6.lt
          have HA6 := hide (HA.out.later hbel6)
          have HB6 := hide (HB.out.later hbel6)
          have HP6 := hide hb_w6
          clear hb_w6
          have hf := bank_flush HA6.out d
          rw [hmay] at hf
          have HFL := hide hf
          have harm8 := HARM.out.flush d
          rw [hmay] at harm8
          obtain ⟨SA', hSA⟩ : ∃ X, X = if SB.may d = 0 then SA.flush d else SA := ⟨_, rfl⟩
          obtain ⟨SB', hSB⟩ : ∃ X, X = if SB.may d = 0 then SB.flush d else SB := ⟨_, rfl⟩
          rw [← hSA, ← hSB] at harm8
          have hwa' : SA'.writes ≤ i := by rw [hSA]; split <;> exact hwa
          have hwb' : SB'.writes ≤ i := by rw [hSB]; split <;> exact hwb
          have HARM8 := hide harm8
          have HSA := hide hSA
          have HSB := hide hSB
          clear hf harm8 hSA hSB hmay
          refine HFL.out.mono ?_
          rintro _ w7 ⟨rfl, hA7, hu7⟩
          rw [← HSA.out] at hA7
          have hl7 : Below w.heap.size w w7 := hl6.trans (hu7.low hs1 (by omega))
          have HA7 := hide hA7
          have HB7 := hide (HB6.out.kept hu7 (.inr (Nat.le_refl _)))
          have hP7 := HP6.out.upto hu7 (.inl (by omega))
          have p07 : w7.cell? ⟨wo.heap.size, 0, none⟩ = some (.int .i64 (d : Int)) := hP7.cell 0
          have hsz7 := hu7.size
          clear hA7 hP7
          go_wp2_with fail
          refine (bank_flush HB7.out d).mono ?_
          rintro _ w8 ⟨rfl, hB8, hu8⟩
          rw [← HSB.out] at hB8
          have hl8 : Below w.heap.size w w8 := hl7.trans (hu8.low (by omega) (by omega))
          have HB8 := hide hB8
          have HA8 := hide (HA7.out.kept hu8 (.inl (Nat.le_refl _)))
          clear hB8
          have hsame := (HARM8.out).same
          have hU := bank_up HA8.out
          have hV := bank_up HB8.out
          have hX := bank_loose HA8.out
          have hY := bank_loose HB8.out
          rw [hsame.1] at hU
          rw [hsame.2] at hX
          have HU := hide hU
          have HV := hide hV
          have HX := hide hX
          have HY := hide hY
          clear hU hV hX hY hsame
          go_wp2_with (first
            | (go_at_call 17; ((with_reducible refine HU.out.mono ?_); rintro _ _ ⟨rfl, rfl⟩))
            | (go_at_call 17; ((with_reducible refine HV.out.mono ?_); rintro _ _ ⟨rfl, rfl⟩))
            | (go_at_call 14; ((with_reducible refine HX.out.mono ?_); rintro _ _ ⟨rfl, rfl⟩))
            | (go_at_call 14; ((with_reducible refine HY.out.mono ?_); rintro _ _ ⟨rfl, rfl⟩)))
          go_roundw
          case rel => exact ⟨i + 1, t, SA', SB', by simp, rfl, by omega, by omega, by omega, by omega, by omega, HA8.out, HB8.out, HARM8.out, hl8⟩
          case measure => simp only [intOf]; omega
        · go_wp2_with fail
          have hke : ¬ ((f i).k = 2) := hk2
          have HFP : Hid (∀ W', Below wo.heap.size wo W' → W'.cell? ⟨(ad.add (i * 5)).block, (ad.add (i * 5)).off + 1, none⟩ = some (.int .i64 (f i).d) ∧ W'.cell? ⟨(ad.add (i * 5)).block, (ad.add (i * 5)).off + 2, none⟩ = some (.int .i64 (f i).a) ∧ Below wo.heap.size wo W') := fun W' hb => ⟨(hb.cell (by show (ad.add (i * 5)).block < _; rw [block_of_add]; have := hlr.size; omega)).trans cdr, (hb.cell (by show (ad.add (i * 5)).block < _; rw [block_of_add]; have := hlr.size; omega)).trans car, hb⟩
          go_region_held3 (fun W' => (W'.cell? ⟨(ad.add (i * 5)).block, (ad.add (i * 5)).off + 1, none⟩ = some (.int .i64 (f i).d) ∧ W'.cell? ⟨(ad.add (i * 5)).block, (ad.add (i * 5)).off + 2, none⟩ = some (.int .i64 (f i).a) ∧ Below wo.heap.size wo W')) (first | assumption | exact HFP.out _ ((Below.refl _ _).drew) | exact HFP.out _ (((Below.refl _ _).drew).alloc (Nat.le_refl _) _) | exact HFP.out _ ((((Below.refl _ _).drew).alloc (Nat.le_refl _) _).setCell _ (Nat.le_refl _) _)) (fail)
          clear HFP cdr car
          have hbel6 : Below wo.heap.size wo (wo.alloc (.cells #[.int .i64 (d : Int), .int .i64 (k : Int)] 37)).drew := ((Below.refl _ _).alloc (Nat.le_refl _) _).drew
          have hb_w6 : Blk (wo.alloc (.cells #[.int .i64 (d : Int), .int .i64 (k : Int)] 37)).drew wo.heap.size 37 #[.int .i64 (d : Int), .int .i64 (k : Int)] := (Blk.new _ _ _).drew
          generalize (wo.alloc (.cells #[.int .i64 (d : Int), .int .i64 (k : Int)] 37)).drew = w6 at hbel6 hb_w6 ⊢
          have hl6 : Below w.heap.size w w6 := hlr.trans (hbel6.mono hlr.size)
          obtain ⟨ck6, _, _, cn6⟩ := HCN.out w6 hl6
          have p0 : w6.cell? ⟨wo.heap.size, 0, none⟩ = some (.int .i64 (d : Int)) := hb_w6.cell 0
          have p1 : w6.cell? ⟨wo.heap.size, 1, none⟩ = some (.int .i64 (k : Int)) := hb_w6.cell 1
          go_wp2_with fail
          have hsz6 := hl6.size
          have hsw : wo.heap.size < w6.heap.size := hb_w6.lt
          have HA6 := hide (HA.out.later hbel6)
          have HB6 := hide (HB.out.later hbel6)
          have HP6 := hide hb_w6
          clear hb_w6
          obtain ⟨U, hU⟩ : ∃ U, U = secL (secOf (f i).n) := ⟨_, rfl⟩
          have HSEC := hide (sector_held (w := w6) (f i).n _ rfl hU)
          have HWA := hide (write_held HA6.out (by omega) d k _ hU)
          have hwwa := write_writes SA d k (secOf (f i).n)
          have hwwb := write_writes SB d k (secOf (f i).n)
          have HU := hide hU
          clear hU
          have HF_w6 : Hid (∀ W', Upto w1.heap.size w2.heap.size w6 W' → W'.cell? ⟨wo.heap.size, 0, none⟩ = some (.int .i64 (d : Int)) ∧ W'.cell? ⟨wo.heap.size, 1, none⟩ = some (.int .i64 (k : Int)) ∧ W'.cell? ⟨(ad.add (i * 5)).block, (ad.add (i * 5)).off + 3, none⟩ = some (.int .i64 (f i).n) ∧ Upto w1.heap.size w2.heap.size w6 W') := fun W' hu => by
            have hP := HP6.out.upto hu (.inl (by omega))
            exact ⟨hP.cell 0, hP.cell 1, (HCN.out W' (hl6.trans (hu.low hs1 (by omega)))).2.2.2, hu⟩
          clear p0 p1 cn6 ck6
          go_region_held3 (fun W' => (W'.cell? ⟨wo.heap.size, 0, none⟩ = some (.int .i64 (d : Int)) ∧ W'.cell? ⟨wo.heap.size, 1, none⟩ = some (.int .i64 (k : Int)) ∧ W'.cell? ⟨(ad.add (i * 5)).block, (ad.add (i * 5)).off + 3, none⟩ = some (.int .i64 (f i).n) ∧ Upto w1.heap.size w2.heap.size w6 W')) (first | assumption | exact HF_w6.out _ (by assumption) | exact HF_w6.out _ (Upto.of_below (by assumption)) | exact HF_w6.out _ ((Upto.refl _ _ _).drew) | exact HF_w6.out _ (Upto.refl _ _ _))
            ((first
              | (go_at_call 13; ((with_reducible refine (HSEC.out _ ((Below.refl _ _).drew)).mono ?_); rintro _ w7 ⟨rfl, hl_w7⟩))
              | (go_at_call 12; ((with_reducible refine (HWA.out _ (by assumption)).mono ?_); rintro _ w8 ⟨rfl, hA8, hu8⟩))))
          have hbel8 : Below w.heap.size w w8 := hl6.trans (hu8.low hs1 (by omega))
          have hP8 := HP6.out.upto hu8 (.inl (by omega))
          have HA8 := hide hA8
          have HB8 := hide (HB6.out.kept hu8 (.inr (Nat.le_refl _)))
          have hsz8 := hu8.size
          have HP8 := hide hP8
          clear hA8 hP8
          by_cases hhit : t + 1 = n
          · obtain ⟨e1, harm9⟩ := HARM.out.hit hhit d k (secOf (f i).n)
            have HE1 := hide e1
            have HARM9 := hide harm9
            rw [HE1.out]
            clear e1 harm9
            have heq : (t : Int) + 1 = (n : Int) := by omega
            go_wp2_with fail
            refine (bank_crash HB8.out m hm64).mono ?_
            rintro _ w9 ⟨rfl, hB9, hu9⟩
            have hl9 : Below w.heap.size w w9 := hbel8.trans (hu9.low (by omega) (by omega))
            have HB9 := hide hB9
            have HA9 := hide (HA8.out.kept hu9 (.inl (Nat.le_refl _)))
            have hcw := crash_writes SB m
            clear hB9
            go_wp2_with fail
            go_roundw
            case rel => exact ⟨i + 1, t + 1, _, _, by simp, by congr 1; omega, by omega, by omega, by omega, by omega, by omega, HA9.out, HB9.out, HARM9.out, hl9⟩
            case measure => simp only [intOf]; omega
          · obtain ⟨e1, harm9⟩ := HARM.out.write hhit d k (secOf (f i).n)
            have HE1 := hide e1
            have HARM9 := hide harm9
            rw [HE1.out]
            clear e1 harm9
            have heq : ¬ ((t : Int) + 1 = (n : Int)) := by omega
            have cn8 := (HCN.out w8 hbel8).2.2.2
            have p08 : w8.cell? ⟨wo.heap.size, 0, none⟩ = some (.int .i64 (d : Int)) := HP8.out.cell 0
            have p18 : w8.cell? ⟨wo.heap.size, 1, none⟩ = some (.int .i64 (k : Int)) := HP8.out.cell 1
            have HSEC8 := hide (sector_held (w := w8) (f i).n _ rfl HU.out)
            have HWB := hide (write_held HB8.out (by omega) d k _ HU.out)
            have HF_w8 : Hid (∀ W', Upto w2.heap.size w3.heap.size w8 W' → W'.cell? ⟨wo.heap.size, 0, none⟩ = some (.int .i64 (d : Int)) ∧ W'.cell? ⟨wo.heap.size, 1, none⟩ = some (.int .i64 (k : Int)) ∧ W'.cell? ⟨(ad.add (i * 5)).block, (ad.add (i * 5)).off + 3, none⟩ = some (.int .i64 (f i).n) ∧ Upto w2.heap.size w3.heap.size w8 W') := fun W' hu => by
              have hP := HP8.out.upto hu (.inl (by omega))
              exact ⟨hP.cell 0, hP.cell 1, (HCN.out W' (hbel8.trans (hu.low (by omega) (by omega)))).2.2.2, hu⟩
            clear p08 p18 cn8
            go_wp2_with fail
            go_region_held3 (fun W' => (W'.cell? ⟨wo.heap.size, 0, none⟩ = some (.int .i64 (d : Int)) ∧ W'.cell? ⟨wo.heap.size, 1, none⟩ = some (.int .i64 (k : Int)) ∧ W'.cell? ⟨(ad.add (i * 5)).block, (ad.add (i * 5)).off + 3, none⟩ = some (.int .i64 (f i).n) ∧ Upto w2.heap.size w3.heap.size w8 W')) (first | assumption | exact HF_w8.out _ (by assumption) | exact HF_w8.out _ (Upto.of_below (by assumption)) | exact HF_w8.out _ ((Upto.refl _ _ _).drew) | exact HF_w8.out _ (Upto.refl _ _ _))
              ((first
                | (go_at_call 13; ((with_reducible refine (HSEC8.out _ ((Below.refl _ _).drew)).mono ?_); rintro _ w9 ⟨rfl, hl_w9⟩))
                | (go_at_call 12; ((with_reducible refine (HWB.out _ (by assumption)).mono ?_); rintro _ w10 ⟨rfl, hB10, hu10⟩))))
            have hbel10 : Below w.heap.size w w10 := hbel8.trans (hu10.low (by omega) (by omega))
            have HB10 := hide hB10
            have HA10 := hide (HA8.out.kept hu10 (.inl (Nat.le_refl _)))
            clear hB10
            obtain ⟨SA', hSA⟩ : ∃ X, X = (SA.write d k (secOf (f i).n)).2 := ⟨_, rfl⟩
            obtain ⟨SB', hSB⟩ : ∃ X, X = (SB.write d k (secOf (f i).n)).2 := ⟨_, rfl⟩
            rw [← hSA] at HARM9 HA10 hwwa
            rw [← hSB] at HARM9 HB10 hwwb
            have HSA := hide hSA
            have HSB := hide hSB
            clear hSA hSB
            have hsame := (HARM9.out).same
            have hU := bank_up HA10.out
            have hV := bank_up HB10.out
            have hX := bank_loose HA10.out
            have hY := bank_loose HB10.out
            rw [hsame.1] at hU
            rw [hsame.2] at hX
            have HU := hide hU
            have HV := hide hV
            have HX := hide hX
            have HY := hide hY
            clear hU hV hX hY hsame
            go_wp2_with (first
              | (go_at_call 17; ((with_reducible refine HU.out.mono ?_); rintro _ _ ⟨rfl, rfl⟩))
              | (go_at_call 17; ((with_reducible refine HV.out.mono ?_); rintro _ _ ⟨rfl, rfl⟩))
              | (go_at_call 14; ((with_reducible refine HX.out.mono ?_); rintro _ _ ⟨rfl, rfl⟩))
              | (go_at_call 14; ((with_reducible refine HY.out.mono ?_); rintro _ _ ⟨rfl, rfl⟩)))
            go_roundw
            case rel => exact ⟨i + 1, t + 1, SA', SB', by simp, by simp, by omega, by omega, by omega, by omega, by omega, HA10.out, HB10.out, HARM9.out, hbel10⟩
            case measure => simp only [intOf]; omega
      · have HAX := hide hA
        have HBX := hide hB
        clear hA hB harm
        by_cases h1 : i < nl
        · have hd5 : decide ((i : Int) < 80) = false := by simp; omega
          go_wp2_with fail
          go_meet
          exact ⟨t, SA, SB, HAX.out, HBX.out, HARM.out, hlr⟩
        · have hd5 : decide ((i : Int) < (nl : Int)) = false := by simp; omega
          go_wp2_with fail
          go_meet
          exact ⟨t, SA, SB, HAX.out, HBX.out, HARM.out, hlr⟩
  case rest =>
    obtain ⟨t, SA, SB, hA, hB, harm, hlr⟩ := hcut
    have hrd : ∀ d k, readV SA.start d k = readV SB.start d k := fun d k => harm.reads d k
    have HRD := hide hrd
    have HA := hide hA
    have HB := hide hB
    have hzlo := HB.out.1
    clear hrd hA hB harm
    go_wp2_with fail
    refine (bank_start HA.out).mono ?_
    rintro _ w5 ⟨rfl, hA5, hu5⟩
    have hl5 : Below w.heap.size w w5 := hlr.trans (hu5.low hs1 (by omega))
    have hs5 := hu5.size
    have HA5 := hide hA5
    have HB5 := hide (HB.out.kept hu5 (.inr (Nat.le_refl _)))
    clear hA5
    go_wp2_with fail
    refine (bank_start HB5.out).mono ?_
    rintro _ w6 ⟨rfl, hB6, hu6⟩
    have hl6 : Below w.heap.size w w6 := hl5.trans (hu6.low (by omega) (by omega))
    have hs6 := hu6.size
    have HB6 := hide hB6
    have HA6 := hide (HA5.out.kept hu6 (.inl (Nat.le_refl _)))
    clear hB6
    go_wp2_with fail
    go_loopw [15, 16, 17, 18, 19, 20] (fun s15 _ _ _ _ _ wr => ∃ i : Nat, s15 = .int .i64 (i : Int) ∧ i ≤ 24 ∧ BankAt wr w1.heap.size w1.heap.size w2.heap.size SA.start ∧ BankAt wr w2.heap.size w2.heap.size w3.heap.size SB.start ∧ Below w.heap.size w wr) (fun s15 _ _ _ _ _ _ => 24 - (intOf s15).toNat)
    case atStart => exact ⟨0, rfl, by decide, HA6.out, HB6.out, hl6⟩
    case round =>
      obtain ⟨i, rfl, hi24, hA, hB, hlr⟩ := hrel
      obtain ⟨wo, rfl⟩ : ∃ wo, wo = wr := ⟨_, rfl⟩
      have HA := hide hA
      have HB := hide hB
      have hzl := HB.out.1
      clear hA hB
      by_cases hlt : i < 24
      · have hg1 : (i : Int) < 24 := by omega
        have hk := mask_nat i
        obtain ⟨X, hX⟩ : ∃ X : Sec, X = (if SB.start.place (i / 8) (i % 8) = 0 then SB.start.newest (i / 8) (i % 8) else zeroSec) := ⟨_, rfl⟩
        obtain ⟨pl, hpl⟩ : ∃ pl, pl = SB.start.place (i / 8) (i % 8) := ⟨_, rfl⟩
        obtain ⟨U, hU⟩ : ∃ U, U = secL X := ⟨_, rfl⟩
        have hrb : readV SB.start (i / 8) (i % 8) = .tuple #[.agg U.toArray, .int .i64 (pl : Int)] := by rw [hU, hX, hpl]; rfl
        have HRA : Hid (∀ w', BankAt w' w1.heap.size w1.heap.size w2.heap.size SA.start → Calls Try.prog 16 #[.pointer (some ⟨w1.heap.size, 0, none⟩), .agg #[.int .i64 ((i : Int) / 8), .int .i64 ((i : Int) % 8)]] w' fun e w'' => e = .returned (.tuple #[.agg U.toArray, .int .i64 (pl : Int)]) ∧ Below w'.heap.size w' w'') := fun w' h => by
          have hr := bank_read h (i / 8) (i % 8)
          rw [HRD.out, hrb] at hr
          exact hr
        have HRB : Hid (∀ w', BankAt w' w2.heap.size w2.heap.size w3.heap.size SB.start → Calls Try.prog 16 #[.pointer (some ⟨w2.heap.size, 0, none⟩), .agg #[.int .i64 ((i : Int) / 8), .int .i64 ((i : Int) % 8)]] w' fun e w'' => e = .returned (.tuple #[.agg U.toArray, .int .i64 (pl : Int)]) ∧ Below w'.heap.size w' w'') := fun w' h => by
          have hr := bank_read h (i / 8) (i % 8)
          rw [hrb] at hr
          exact hr
        have hUl : U.length = 64 := by rw [hU, secL_length]
        have hUo : ∀ v ∈ U, v.oneCell' = true := by rw [hU]; exact secL_one _
        have hiU : (Try.prog.info? 28).map (·.size) = some U.length := by rw [hUl]; exact sec_info
        have hEX : Value.agg U.toArray = .agg (B8 X.1).toArray := by rw [hU]; rfl
        have HUL := hide hUl
        have HUO := hide hUo
        have HIU := hide hiU
        have HEX := hide hEX
        clear hrb hUl hUo hiU hEX hU hX hpl
        go_wp2_with (first
          | (refine wpList_alloc_blk rfl 37 rfl _ (place_zero _) ?_; intro wa hba hla hsa; clear hsa)
          | (refine wpList_store_all rfl 37 (.tmp 16) (.tmp 131) rfl wo.heap.size 37 _ hba rfl [.int .i64 ((i : Int) / 8), .int .i64 ((i : Int) % 8)] rfl (by kernel_rfl) rfl (by intro v hv; simp at hv; rcases hv with rfl | rfl <;> rfl) ?_; intro wb hbb hgb hsb; clear hsb; have p0 : wb.cell? ⟨wo.heap.size, 0, none⟩ = some (.int .i64 ((i : Int) / 8)) := hbb.cell 0; have p1 : wb.cell? ⟨wo.heap.size, 1, none⟩ = some (.int .i64 ((i : Int) % 8)) := hbb.cell 1))
        have hlb : Below wo.heap.size wo wb := hla.grown hgb hla.size (fun g e => by injection e with e; omega)
        have hszb := hlb.size
        have HPB := hide hbb
        have hpblt := HPB.out.lt
        clear hba hbb hla hgb
        refine (HRA.out wb (HA.out.later hlb)).mono ?_
        rintro _ wc ⟨rfl, hlc⟩
        have hszc := hlc.size
        have HPC := hide (HPB.out.below hlc hpblt)
        go_wp2_with (first
          | (refine wpList_alloc_blk rfl 28 rfl _ (sec_zero _) ?_; intro wd hbd hld hsd; clear hsd)
          | (refine wpList_store_all rfl 28 (.tmp 17) (.tmp 136) rfl wc.heap.size 28 _ hbd rfl U rfl HIU.out (HUL.out.trans (secL_length zeroSec).symm) HUO.out ?_; intro we hbe hge hse; clear hse; have hpe := (HPC.out.below hld (by have := HPC.out.lt; omega)).grown hge (fun e => by injection e with e; omega); have q0 : we.cell? ⟨wo.heap.size, 0, none⟩ = some (.int .i64 ((i : Int) / 8)) := hpe.cell 0; have q1 : we.cell? ⟨wo.heap.size, 1, none⟩ = some (.int .i64 ((i : Int) % 8)) := hpe.cell 1))
        have hle : Below wo.heap.size wo we := ((hlb.trans (hlc.mono hszb)).trans (hld.mono (by omega))).grown hge (by have := hld.size; omega) (fun g e => by injection e with e; omega)
        have HXE := hide hbe
        have hsze := hle.size
        have hxlt := HXE.out.lt
        clear hbd hbe hpe hge hld
        refine (HRB.out we (HB.out.later hle)).mono ?_
        rintro _ wf ⟨rfl, hlf⟩
        have hszf := hlf.size
        have HXF := hide (HXE.out.below hlf hxlt)
        go_wp2_with (first
          | (refine wpList_alloc_blk rfl 28 rfl _ (sec_zero _) ?_; intro wg hbg hlg hsg; clear hsg)
          | (refine wpList_store_all rfl 28 (.tmp 19) (.tmp 142) rfl wf.heap.size 28 _ hbg rfl U rfl HIU.out (HUL.out.trans (secL_length zeroSec).symm) HUO.out ?_; intro wh hbh hgh hsh; clear hsh; have hxh := (HXF.out.below hlg (by have := HXF.out.lt; omega)).grown hgh (fun e => by injection e with e; omega))
          | (refine wpList_load_blk rfl 28 (.tmp 17) rfl wc.heap.size 0 28 _ hxh rfl U _ (fun j v hj => by rw [Nat.zero_add]; simpa using hj) Try.underlying28 rfl HIU.out ?_)
          | (refine wpList_load_blk rfl 28 (.tmp 19) rfl wf.heap.size 0 28 _ hbh rfl U _ (fun j v hj => by rw [Nat.zero_add]; simpa using hj) Try.underlying28 rfl HIU.out ?_)
          | (refine wpList_neq_bytes rfl 28 5 _ (.tmp 144) (.tmp 145) rfl 64 _ Try.underlying28 Try.underlying5 u8_info (by kernel_rfl) (by kernel_rfl) X.1 X.1 X.2 X.2 HEX.out HEX.out false (by simp) ?_))
        have hlh : Below wo.heap.size wo wh := ((hle.trans (hlf.mono hsze)).trans (hlg.mono (by omega))).grown hgh (by have := hlg.size; omega) (fun g e => by injection e with e; omega)
        go_roundw
        case rel => exact ⟨i + 1, by simp, by omega, HA.out.later hlh, HB.out.later hlh, hlr.trans (hlh.mono hlr.size)⟩
        case measure => simp only [intOf]; omega
      · obtain rfl : i = 24 := by omega
        go_wp2_with fail
        go_ret
        exact ⟨rfl, hlr⟩

/-! The row's frame, by program: how the walk above proves the statement. -/
set_option maxRecDepth 100000 in
theorem lifted (os : Os) (started : os.Started) (H : Type) (enc : TypeId × Value → H) :
    ReturnsInHanded {} Try.checked os 4 .any (Rows.diskArmedSpec.pre6 enc Try.prog Try.f4 Rows.diskArmedRow.domain false) (Rows.diskArmedSpec.post enc Try.prog Try.f4 false true false false) := by
  refine returnsInHanded_of_change (C := Try.checked) own started (by kernel_rfl) Try.func4
    (ChangeSpec.witness6 (enc := enc) (C := Try.checked) false ⟨#[], #[.slice none 0 0, .int .i64 0, .int .u64 0], []⟩ 8 (by kernel_rfl) (by kernel_rfl) (by kernel_rfl) (by kernel_rfl)) ?_
  intro W base args ds gs before hval0 hW hcnd _
  have hval : ∀ (j : Nat) t v, Try.f4.params[j]? = some t → args[j]? = some v → Value.okWide Try.prog W .any base t v := hval0
  have hW' := hW
  obtain ⟨p, q, hA0, hV, rfl, hfz, hnd⟩ := hW
  have hA : DataW.TrodAll enc Try.prog W 0 (fun _ => true) true Try.f4.params.toList args.toList ds p := hA0
  rw [Try.params4] at hA hval
  obtain ⟨v0, vs0, d0, ds0, p0, q0, hargs, rfl, rfl, h0, r0⟩ := trodAll_cons hA
  obtain ⟨v1, vs1, d1, ds1, p1, q1, rfl, rfl, rfl, h1, r1⟩ := trodAll_cons r0
  obtain ⟨v2, vs2, d2, ds2, p2, q2, rfl, rfl, rfl, h2, r2⟩ := trodAll_cons r1
  obtain ⟨rfl, rfl, rfl⟩ := trodAll_nil r2
  obtain rfl : args = #[v0, v1, v2] := by cases args; simp_all
  obtain ⟨rfl, rfl⟩ := trodVars_none hV
  obtain ⟨A0, n0, c0, rfl⟩ := okWide_slice Try.underlying22 (hval 0 22 v0 rfl rfl)
  have k0 := h0
  have lt0 : ∀ x ∈ p0, x.block < W.heap.size := by obtain ⟨m, hm⟩ := k0; exact DataW.trod_lt m _ _ _ hm
  obtain ⟨l0, x0, g0, z0⟩ := arg_steps h0
  obtain ⟨a1, rfl, rfl, rfl, w1⟩ := open_int Try.underlying3 (hval 1 3 v1 rfl rfl) h1
  have b1 := bounds_i64 w1
  obtain ⟨a2, rfl, rfl, rfl, w2⟩ := open_int Try.underlying23 (hval 2 23 v2 rfl rfl) h2
  have b2 := bounds_u64 w2
  clear hA0 hval0
  refine (walk A0 n0 c0 l0 a1 a2 W x0 g0 z0 b1.1 b1.2 b2.1 b2.2).mono fun e W' ⟨he, bel⟩ => ?_
  subst he
  exact ⟨_, rfl, _, _, _, [], _, [], hW', trodAll_mk1 (shut_bool Try.underlying4 _), (trodAll_cons_mk (Below.trod laidOut (by kernel_rfl) (of_decide_eq_true (by kernel_rfl)) k0 bel lt0) (trodAll_cons_mk (shut_int Try.underlying3 w1) (trodAll_cons_mk (shut_int Try.underlying23 w2) trodAll_mk0))), rfl, bel.frame _, fun h => by cases h⟩

theorem over : Rows.diskArmedRow.holds Try.pinned (OpenSpec.ofChange Rows.diskArmedSpec) :=
  OpenClaim.holds_of_wide 4 Try.f4 rfl rfl rfl rfl rfl rfl rfl ⟨rfl, rfl, rfl, rfl, rfl⟩ rfl rfl rfl rfl rfl (by kernel_rfl) Try.func4 (by kernel_rfl)
    (of_decide_eq_true (by kernel_rfl)) (by unfold Func.isWrapper; first | (rw [if_pos (by decide +kernel)]; kernel_rfl) | (rw [if_neg (by decide +kernel)]; exact ⟨rfl, rfl⟩))
    (fun os started H enc _ => lifted os started H enc)

/-- The statement. -/
theorem proved : Rows.DiskArmedSaid := over
#print axioms proved
end Go.Proofs.Ytdpfjehodnlojaa.DiskArmed
