/- DiskAgain holds: for all writes and both masks: behind at most sixty writes to three disks of eight sectors and a crash, another crash, and Start of a bank that is up, change nothing, a write to a bank that is down does not count, nor does FailAt that was taken back, and a clone that falls likewise reads the same; no condition. -/
import Derived.Test.YtdpfjehodnlojaaDuo
import Derived.Test.YtdpfjehodnlojaaCloneB
import Derived.Test.YtdpfjehodnlojaaChecked
import Derived.Test.YtdpfjehodnlojaaRows
import Derived.Deep.DeepCutAuto
import Derived.Deep.CutBlock
import Derived.Deep.RegionHeld3
namespace Go.Proofs.Ytdpfjehodnlojaa.DiskAgain
open Go.ChangeShapes Go.WideShapes Go.ChangeAt Go.RowKit Go.Proofs.Ytdpfjehodnlojaa
set_option linter.unusedVariables false

theorem le_24 {S : Bank} (hok : S.Ok) (hc : Calm S) : S.order.length ≤ 24 := by
  have hsub : S.order ⊆ (List.range 3).flatMap fun d => (List.range 8).map fun k => (d, k) := by
    intro p hp
    obtain ⟨h1, h2, _⟩ := hok.loose p hp
    rw [hc.n] at h1
    rw [hc.size p.1 h1] at h2
    exact List.mem_flatMap.2 ⟨p.1, List.mem_range.2 h1, List.mem_map.2 ⟨p.2, List.mem_range.2 h2, rfl⟩⟩
  have := List.Nodup.length_le_of_subset hok.nodup hsub
  have hl : ((List.range 3).flatMap fun d => (List.range 8).map fun k => (d, k)).length = 24 := by decide
  omega
theorem start_up {S : Bank} (h : S.down = false) : S.start = S := by
  cases S
  simp only at h
  subst h
  rfl
set_option maxRecDepth 100000 in
set_option maxHeartbeats 4000000 in
theorem walk (A : Option Addr) (nl c : Nat) (f : Nat → Step) (v1 v2 : Int) (w : World) (hst : Steps w w.heap.size A nl f) (hnc : nl ≤ c) (hc63 : c ≤ 9223372036854775807) (b0 : 0 ≤ v1) (b1 : v1 ≤ 18446744073709551615) (b2 : 0 ≤ v2) (b3 : v2 ≤ 18446744073709551615) :
    Calls Try.prog 8 #[.slice A nl c, .int .u64 v1, .int .u64 v2] w fun e w' => e = .returned (.bool true) ∧ Below w.heap.size w w' := by
  obtain ⟨m, rfl⟩ : ∃ m : Nat, v1 = (m : Int) := ⟨v1.toNat, by omega⟩
  obtain ⟨m2, rfl⟩ : ∃ m : Nat, v2 = (m : Int) := ⟨v2.toNat, by omega⟩
  have hm64 : m < 18446744073709551616 := by omega
  have hm264 : m2 < 18446744073709551616 := by omega
  have HST := hide hst
  clear hst
  go_enter Try.func8, Try.ntmps8
  go_upto_block 0 with (first
    | (go_at_call 9; refine (shown_any _).mono ?_; rintro _ w1 ⟨rfl, hl1⟩)
    | (go_at_call 10; refine (laid_any _).mono ?_; rintro _ w2 ⟨rfl, hB2, hl2⟩))
  have hs1 := hl1.size
  have hs2 := hl2.size
  have hl02 : Below w.heap.size w w2 := hl1.trans (hl2.mono hs1)
  have hblt : w1.heap.size < w2.heap.size := bank_lt hB2
  have HB2 := hide hB2
  clear hB2
  go_cut [9] (fun _ wx => ∃ S : Bank, BankAt wx w1.heap.size w1.heap.size w2.heap.size S ∧ Calm S ∧ S.writes ≤ 60 ∧ Below w.heap.size w wx)
  case first =>
    go_wp2_with fail
    go_loopw [9] (fun s9 wr => ∃ (i : Nat) (S : Bank), s9 = .int .i64 (i : Int) ∧ i ≤ nl ∧ i ≤ 60 ∧ S.writes ≤ i ∧ BankAt wr w1.heap.size w1.heap.size w2.heap.size S ∧ Calm S ∧ Below w.heap.size w wr) (fun s9 _ => 60 - (intOf s9).toNat)
    case atStart => exact ⟨0, Laid, rfl, Nat.zero_le _, by decide, Nat.le_refl _, HB2.out, calm_laid, hl02⟩
    case round =>
      obtain ⟨i, S, rfl, hin, hi60, hwr, hB, hcalm, hlr⟩ := hrel
      obtain ⟨wo, rfl⟩ : ∃ wo, wo = wr := ⟨_, rfl⟩
      have HC := hide hcalm
      have HB := hide hB
      have hhl := hB.1
      clear hcalm hB
      by_cases hlt : i < nl ∧ i < 60
      · have hg1 : (i : Int) < (nl : Int) := by omega
        have hg2 : (i : Int) < 60 := by omega
        obtain ⟨ad, rfl, hadb, hcells⟩ := (HST.out.below hlr) (by omega)
        have hcn : ∀ w', Below w.heap.size w w' → w'.cell? ⟨(ad.add (i * 5)).block, (ad.add (i * 5)).off + 1, none⟩ = some (.int .i64 (f i).d) ∧ w'.cell? ⟨(ad.add (i * 5)).block, (ad.add (i * 5)).off + 2, none⟩ = some (.int .i64 (f i).a) ∧ w'.cell? ⟨(ad.add (i * 5)).block, (ad.add (i * 5)).off + 3, none⟩ = some (.int .i64 (f i).n) := fun w' hb => ((HST.out.below hb) (by omega)).elim fun ad' h => by
          obtain ⟨e, _, hc⟩ := h
          injection e with e
          subst e
          exact ⟨(hc i hlt.1).2.1, (hc i hlt.1).2.2.1, (hc i hlt.1).2.2.2.1⟩
        have HCN := hide hcn
        clear hcells hcn
        obtain ⟨md, hd, hdl⟩ := mask16 (f i).d
        obtain ⟨k, hk, hkl⟩ := mask3 (f i).a
        obtain ⟨d, hdd⟩ : ∃ d, d = md % 3 := ⟨_, rfl⟩
        have hd3 : d < 3 := by omega
        have hdm : (md : Int).tmod 3 = (d : Int) := by rw [Int.tmod_eq_emod_of_nonneg (by omega)]; omega
        obtain ⟨U, hU⟩ : ∃ U, U = secL (secOf (f i).n) := ⟨_, rfl⟩
        have HSEC := hide (sector_held (w := wo) (f i).n _ rfl hU)
        have hwa : ∀ w', Below wo.heap.size wo w' → Calls Try.prog 12 #[.pointer (some ⟨w1.heap.size, 0, none⟩), .agg #[.int .i64 ((md : Int).tmod 3), .int .i64 (k : Int)], .agg U.toArray] w' fun e w'' => e = .returned (.int .i64 0) ∧ BankAt w'' w1.heap.size w1.heap.size w2.heap.size (S.wrote.put d k (secOf (f i).n)) ∧ Upto w1.heap.size w2.heap.size wo w'' := fun w' hb => by
          rw [hdm]
          have h := write_held HB.out (by omega) d k _ hU w' hb
          rw [HC.out.write hd3 hkl] at h
          exact h
        have HWA := hide hwa
        have HF : Hid (∀ W', Upto w1.heap.size w2.heap.size wo W' → W'.cell? ⟨(ad.add (i * 5)).block, (ad.add (i * 5)).off + 1, none⟩ = some (.int .i64 (f i).d) ∧ W'.cell? ⟨(ad.add (i * 5)).block, (ad.add (i * 5)).off + 2, none⟩ = some (.int .i64 (f i).a) ∧ W'.cell? ⟨(ad.add (i * 5)).block, (ad.add (i * 5)).off + 3, none⟩ = some (.int .i64 (f i).n) ∧ Upto w1.heap.size w2.heap.size wo W') := fun W' hu => by
          obtain ⟨h1, h2, h3⟩ := HCN.out W' (hlr.trans (hu.low hs1 (by omega)))
          exact ⟨h1, h2, h3, hu⟩
        clear hwa hU hdd hdm
        go_wp2_with fail
        go_region_held3 (fun W' => (W'.cell? ⟨(ad.add (i * 5)).block, (ad.add (i * 5)).off + 1, none⟩ = some (.int .i64 (f i).d) ∧ W'.cell? ⟨(ad.add (i * 5)).block, (ad.add (i * 5)).off + 2, none⟩ = some (.int .i64 (f i).a) ∧ W'.cell? ⟨(ad.add (i * 5)).block, (ad.add (i * 5)).off + 3, none⟩ = some (.int .i64 (f i).n) ∧ Upto w1.heap.size w2.heap.size wo W')) (first | assumption | exact HF.out _ (by assumption) | exact HF.out _ (Upto.of_below (by assumption)) | exact HF.out _ ((Upto.refl _ _ _).drew) | exact HF.out _ (Upto.refl _ _ _))
          ((first
            | (go_at_call 13; ((with_reducible refine (HSEC.out _ ((Below.refl _ _).drew)).mono ?_); rintro _ w5 ⟨rfl, hl_w5⟩))
            | (go_at_call 12; ((with_reducible refine (HWA.out _ (by assumption)).mono ?_); rintro _ w6 ⟨rfl, hB6, hu6⟩))))
        have hl06 : Below w.heap.size w w6 := hlr.trans (hu6.low hs1 (by omega))
        have HB6 := hide hB6
        have hc6 : Calm (S.wrote.put d k (secOf (f i).n)) := (HC.out.wrote).put _ _ _
        have HC6 := hide hc6
        clear hB6 hc6
        go_wp2_with fail
        go_roundw
        case rel => exact ⟨i + 1, S.wrote.put d k (secOf (f i).n), by simp, by omega, by omega, by show S.writes + 1 ≤ _; omega, HB6.out, HC6.out, hl06⟩
        case measure => simp only [intOf]; omega
      · by_cases h1 : i < nl
        · have hd5 : decide ((i : Int) < 60) = false := by simp; omega
          go_wp2_with fail
          go_meet
          exact ⟨S, HB.out, HC.out, by omega, hlr⟩
        · have hd5 : decide ((i : Int) < (nl : Int)) = false := by simp; omega
          go_wp2_with fail
          go_meet
          exact ⟨S, HB.out, HC.out, by omega, hlr⟩
  case rest =>
    obtain ⟨S, hB, hcalm, hwr, hlr⟩ := hcut
    have HB := hide hB
    have HC := hide hcalm
    have hok := hB.ok
    have hle := le_24 hok hcalm
    have hhl := hB.1
    have hst := start_up hcalm.up
    -- S1: behind the crash; S2: FailAt 1; S3: FailAt 0; b's last is S3.start, c's S1.start
    obtain ⟨S1, hS1⟩ : ∃ X, X = S.crash m := ⟨_, rfl⟩
    obtain ⟨S2, hS2⟩ : ∃ X, X = S1.willFail 0 1 := ⟨_, rfl⟩
    obtain ⟨S3, hS3⟩ : ∃ X, X = S2.willFail 0 0 := ⟨_, rfl⟩
    have hcr := hcalm.crashed m
    rw [← hS1] at hcr
    have hd1 : S1.down = true := by rw [hcr]
    have hcr1 : S1.crash m2 = S1 := by unfold Bank.crash; rw [if_pos hd1]
    have hn1 : S1.n = 3 := by rw [hcr]; exact hcalm.n
    have hw1 : S1.writes = S.writes := by rw [hcr]
    have hdead1 : S1.dead 0 = false := by rw [hcr]; exact hcalm.live 0 (by decide)
    have hd2 : S2.down = true := by rw [hS2]; exact hd1
    have hn2 : S2.n = 3 := by rw [hS2]; exact hn1
    have hw2 : S2.writes = S.writes := by rw [hS2]; exact hw1
    have hdead2 : S2.dead 0 = false := by rw [hS2]; exact hdead1
    have hmay2 : S2.may 0 = 6 := by
      unfold Bank.may
      rw [if_neg (by omega), hdead2, hd2]
      rfl
    have hwr2 : ∀ s, S2.write 0 0 s = (6, S2) := by
      intro s
      have hpl : S2.place 0 0 = 6 := by unfold Bank.place; rw [hmay2]; rfl
      unfold Bank.write
      rw [count_down hd2]
      simp only [Bool.false_eq_true, if_false, hpl]
      rfl
    have hcs1 : Calm S1.start := by rw [hS1]; exact hcalm.restart m
    have hcs3 : Calm S3.start := by
      refine ⟨by rw [hS3]; exact hn2, fun d hd => ?_, fun d hd => ?_, rfl, ?_, fun d hd => ?_⟩
      · rw [hS3, hS2]; exact hcs1.size d hd
      · rw [hS3, hS2]; exact hcs1.live d hd
      · rw [hS3, hS2]; exact hcs1.arm
      · rw [hS3, hS2]
        show upd (upd S1.failAt 0 1) 0 0 d = 0
        by_cases e : d = 0
        · subst e; exact upd_self _ _ _
        · rw [upd_ne _ _ e, upd_ne _ _ e]; exact hcs1.fail d hd
    have hnew : S3.start.newest = S1.start.newest := by rw [hS3, hS2]; rfl
    have hw3 : S3.start.writes = S.writes := by rw [hS3]; exact hw2
    have hn3 : S3.n = 3 := by rw [hS3]; exact hn2
    obtain ⟨U1, hU1⟩ : ∃ U, U = secL (secOf 1) := ⟨_, rfl⟩
    have hbp : Try.prog.built 37 [] = some #[.int .i64 0, .int .i64 0] := by kernel_rfl
    have HBP := hide hbp
    have HSEC1 : Hid (∀ W : World, Calls Try.prog 13 #[.int .i64 1] W fun e w'' => e = .returned (.agg U1.toArray) ∧ Below W.heap.size W w'') := fun W => by
      have h := sector_any 1 W
      rw [show secV (secOf 1) = .agg U1.toArray by rw [hU1]; rfl] at h
      exact h
    have HW2 : Hid (∀ w', BankAt w' w1.heap.size w1.heap.size w2.heap.size S2 → Calls Try.prog 12 #[.pointer (some ⟨w1.heap.size, 0, none⟩), .agg #[.int .i64 0, .int .i64 0], .agg U1.toArray] w' fun e w'' => e = .returned (.int .i64 6) ∧ BankAt w'' w1.heap.size w1.heap.size w2.heap.size S2 ∧ Upto w1.heap.size w2.heap.size w' w'') := fun w' h => by
      have h2 := bank_write h (by omega) 0 0 (secOf 1)
      rw [hwr2, show secV (secOf 1) = .agg U1.toArray by rw [hU1]; rfl] at h2
      exact h2
    have HN2 : Hid (∀ w', BankAt w' w1.heap.size w1.heap.size w2.heap.size S2 → Calls Try.prog 22 #[.pointer (some ⟨w1.heap.size, 0, none⟩)] w' fun e w'' => e = .returned (.int .i64 (S.writes : Int)) ∧ w' = w'') := fun w' h => by
      have h2 := bank_writes h
      rw [hw2] at h2
      exact h2
    have HD2 : Hid (∀ w', BankAt w' w1.heap.size w1.heap.size w2.heap.size S2 → Calls Try.prog 21 #[.pointer (some ⟨w1.heap.size, 0, none⟩), .int .i64 0] w' fun e w'' => e = .returned (.bool false) ∧ w' = w'') := fun w' h => by
      have h2 := bank_dead h 0 (by omega)
      rw [hdead2] at h2
      exact h2
    have HW3 : Hid (∀ w', BankAt w' w1.heap.size w1.heap.size w2.heap.size S3.start → Calls Try.prog 12 #[.pointer (some ⟨w1.heap.size, 0, none⟩), .agg #[.int .i64 0, .int .i64 0], .agg U1.toArray] w' fun e w'' => e = .returned (.int .i64 0) ∧ BankAt w'' w1.heap.size w1.heap.size w2.heap.size (S3.start.wrote.put 0 0 (secOf 1)) ∧ Upto w1.heap.size w2.heap.size w' w'') := fun w' h => by
      have h2 := bank_write h (by omega) 0 0 (secOf 1)
      rw [hcs3.write (by decide) (by decide), show secV (secOf 1) = .agg U1.toArray by rw [hU1]; rfl] at h2
      exact h2
    have HN3 : Hid (∀ w', BankAt w' w1.heap.size w1.heap.size w2.heap.size (S3.start.wrote.put 0 0 (secOf 1)) → Calls Try.prog 22 #[.pointer (some ⟨w1.heap.size, 0, none⟩)] w' fun e w'' => e = .returned (.int .i64 (((S.writes + 1 : Nat)) : Int)) ∧ w' = w'') := fun w' h => by
      have h2 := bank_writes h
      rw [show (S3.start.wrote.put 0 0 (secOf 1)).writes = S.writes + 1 from congrArg (· + 1) hw3] at h2
      exact h2
    have HWR := hide (bank_writes hB)
    have HSR := hide (bank_start hB)
    rw [hst] at HSR
    have HCS1 := hide hcs1
    have HCS3 := hide hcs3
    have HNEW := hide hnew
    have HS1 := hide hS1
    have HS2 := hide hS2
    have HS3 := hide hS3
    have HCR1 := hide hcr1
    have HNUM : Hid (S.n = 3 ∧ S1.n = 3 ∧ S2.n = 3 ∧ S3.n = 3) := ⟨hcalm.n, hn1, hn2, hn3⟩
    clear hB hcalm hok hst hS1 hS2 hS3 hcr hd1 hcr1 hn1 hw1 hdead1 hd2 hn2 hw2 hdead2 hmay2 hwr2 hcs1 hcs3 hnew hw3 hn3 hU1 hbp
    go_wp2_with fail
    refine HWR.out.mono ?_
    rintro _ _ ⟨rfl, rfl⟩
    go_wp2_with fail
    refine HSR.out.mono ?_
    rintro _ w3 ⟨rfl, hB3, hu3⟩
    have hl3 : Below w.heap.size w w3 := hlr.trans (hu3.low hs1 (by omega))
    have hs3 := hu3.size
    have HB3 := hide hB3
    clear hB3
    go_wp2_with fail
    refine (bank_loose HB3.out).mono ?_
    rintro _ _ ⟨rfl, rfl⟩
    go_wp2_with fail
    refine (bank_clone HB3.out (by rw [HNUM.out.1]; decide)).mono ?_
    rintro _ w4 ⟨rfl, hC4, hl4⟩
    have hl04 : Below w.heap.size w w4 := hl3.trans (hl4.mono hl3.size)
    have hs4 := hl4.size
    have hclt : w3.heap.size < w4.heap.size := bank_lt hC4
    have HB4 := hide (HB3.out.later hl4)
    have HC4 := hide hC4
    clear hC4
    go_wp2_with fail
    refine (bank_crash HB4.out m hm64).mono ?_
    rintro _ w5 ⟨rfl, hB5, hu5⟩
    rw [← HS1.out] at hB5
    have hl5 : Below w.heap.size w w5 := hl04.trans (hu5.low hs1 (by omega))
    have hs5 := hu5.size
    have HB5 := hide hB5
    have HC5 := hide (HC4.out.kept hu5 (.inr (by omega)))
    clear hB5
    go_wp2_with fail
    refine (bank_crash HC5.out m hm64).mono ?_
    rintro _ w6 ⟨rfl, hC6, hu6⟩
    rw [← HS1.out] at hC6
    have hl6 : Below w.heap.size w w6 := hl5.trans (hu6.low (by omega) (by omega))
    have hs6 := hu6.size
    have HC6 := hide hC6
    have HB6 := hide (HB5.out.kept hu6 (.inl (by omega)))
    clear hC6
    go_wp2_with fail
    refine (bank_crash HB6.out m2 hm264).mono ?_
    rintro _ w7 ⟨rfl, hB7, hu7⟩
    rw [HCR1.out] at hB7
    have hl7 : Below w.heap.size w w7 := hl6.trans (hu7.low hs1 (by omega))
    have hs7 := hu7.size
    have HB7 := hide hB7
    have HC7 := hide (HC6.out.kept hu7 (.inr (by omega)))
    clear hB7
    go_wp2_with fail
    refine (bank_failAt HB7.out 0 (by rw [HNUM.out.2.1]; decide) 1 1 rfl (by decide)).mono ?_
    rintro _ w8 ⟨rfl, hB8, hu8⟩
    rw [← HS2.out] at hB8
    have hl8 : Below w.heap.size w w8 := hl7.trans (hu8.low hs1 (by omega))
    have hs8 := hu8.size
    have HB8 := hide hB8
    have HC8 := hide (HC7.out.kept hu8 (.inr (by omega)))
    clear hB8
    have hgt : ¬ (24 : Int) < ((S.order.length : Nat) : Int) := by omega
    go_wp2_with (first
      | (refine wpList_build_is rfl 37 #[] rfl [] (by simp) #[.int .i64 0, .int .i64 0] HBP.out ?_)
      | (go_at_call 13; ((with_reducible refine (HSEC1.out w8).mono ?_); rintro _ w9 ⟨rfl, hl9⟩))
      | (go_at_call 12; ((with_reducible refine (HW2.out w9 (HB8.out.later hl9)).mono ?_); rintro _ w10 ⟨rfl, hB10, hu10⟩))
      | (go_at_call 22; ((with_reducible refine (HN2.out w10 hB10).mono ?_); rintro _ _ ⟨rfl, rfl⟩))
      | (go_at_call 21; ((with_reducible refine (HD2.out w10 hB10).mono ?_); rintro _ _ ⟨rfl, rfl⟩)))
    have hl10 : Below w.heap.size w w10 := (hl8.trans (hl9.mono hl8.size)).trans (hu10.low hs1 (by have := hl9.size; omega))
    have hs10 : w8.heap.size ≤ w10.heap.size := Nat.le_trans hl9.size hu10.size
    have HB10 := hide hB10
    have HC10 := hide ((HC8.out.later hl9).kept hu10 (.inr (by omega)))
    clear hB10 hu10 hl9
    refine (bank_failAt HB10.out 0 (by rw [HNUM.out.2.2.1]; decide) 0 0 rfl (by decide)).mono ?_
    rintro _ w11 ⟨rfl, hB11, hu11⟩
    rw [← HS3.out] at hB11
    have hl11 : Below w.heap.size w w11 := hl10.trans (hu11.low hs1 (by omega))
    have hs11 := hu11.size
    have HB11 := hide hB11
    have HC11 := hide (HC10.out.kept hu11 (.inr (by omega)))
    clear hB11
    go_wp2_with fail
    refine (bank_start HB11.out).mono ?_
    rintro _ w12 ⟨rfl, hB12, hu12⟩
    have hl12 : Below w.heap.size w w12 := hl11.trans (hu12.low hs1 (by omega))
    have hs12 := hu12.size
    have HB12 := hide hB12
    have HC12 := hide (HC11.out.kept hu12 (.inr (by omega)))
    clear hB12
    go_wp2_with fail
    refine (bank_start HC12.out).mono ?_
    rintro _ w13 ⟨rfl, hC13, hu13⟩
    have hl13 : Below w.heap.size w w13 := hl12.trans (hu13.low (by omega) (by omega))
    have hs13 := hu13.size
    have HC13 := hide hC13
    have HB13 := hide (HB12.out.kept hu13 (.inl (by omega)))
    clear hC13
    go_wp2_with fail
    go_loopw [13, 14, 15, 16, 17] (fun s13 _ _ _ _ wr => ∃ i : Nat, s13 = .int .i64 (i : Int) ∧ i ≤ 24 ∧ BankAt wr w1.heap.size w1.heap.size w2.heap.size S3.start ∧ BankAt wr w3.heap.size w3.heap.size w4.heap.size S1.start ∧ Below w.heap.size w wr) (fun s13 _ _ _ _ _ => 24 - (intOf s13).toNat)
    case atStart => exact ⟨0, rfl, by decide, HB13.out, HC13.out, hl13⟩
    case round =>
      obtain ⟨i, rfl, hi24, hB, hC, hlr2⟩ := hrel
      obtain ⟨wo, rfl⟩ : ∃ wo, wo = wr := ⟨_, rfl⟩
      have HBo := hide hB
      have HCo := hide hC
      have hwo := hlr2.size
      have hwb := hB.1
      clear hB hC
      by_cases hlt : i < 24
      · have hg1 : (i : Int) < 24 := by omega
        have hk := mask_nat i
        obtain ⟨X, hX⟩ : ∃ X, X = S1.start.newest (i / 8) (i % 8) := ⟨_, rfl⟩
        obtain ⟨U, hU⟩ : ∃ U, U = secL X := ⟨_, rfl⟩
        have hR := bank_read HBo.out (i / 8) (i % 8)
        rw [readV_calm HCS3.out (by omega) (by omega), HNEW.out, ← hX, show secV X = .agg U.toArray by rw [hU]; rfl, show (((i / 8 : Nat)) : Int) = (i : Int) / 8 by omega, show (((i % 8 : Nat)) : Int) = (i : Int) % 8 by omega] at hR
        have HR := hide hR
        have hRC : ∀ W, Below wo.heap.size wo W → Calls Try.prog 16 #[.pointer (some ⟨w3.heap.size, 0, none⟩), .agg #[.int .i64 ((i : Int) / 8), .int .i64 ((i : Int) % 8)]] W fun e w' => e = .returned (.tuple #[.agg U.toArray, .int .i64 0]) ∧ Below W.heap.size W w' := fun W hW => by
          have h := bank_read (HCo.out.later hW) (i / 8) (i % 8)
          rw [readV_calm HCS1.out (by omega) (by omega), ← hX, show secV X = .agg U.toArray by rw [hU]; rfl, show (((i / 8 : Nat)) : Int) = (i : Int) / 8 by omega, show (((i % 8 : Nat)) : Int) = (i : Int) % 8 by omega] at h
          exact h
        have HRC := hide hRC
        have hUl : U.length = 64 := by rw [hU, secL_length]
        have hUo : ∀ v ∈ U, v.oneCell' = true := by rw [hU]; exact secL_one _
        have hiU : (Try.prog.info? 28).map (·.size) = some U.length := by rw [hUl]; exact sec_info
        have hEX : Value.agg U.toArray = .agg (B8 X.1).toArray := by rw [hU]; rfl
        have HULU := hide hUl
        have HUOU := hide hUo
        have HIUU := hide hiU
        have HEXU := hide hEX
        clear hUl hUo hiU hEX hU hR hRC hX
        go_wp2_with fail
        refine HR.out.mono ?_
        rintro _ w14 ⟨rfl, hl14⟩
        have hsz14 := hl14.size
        go_wp2_with (first
          | (refine wpList_alloc_blk rfl 28 rfl _ (sec_zero _) ?_; intro w15 hb15 hl15 hs15)
          | (refine wpList_store_all rfl 28 (.tmp 14) (.tmp 112) rfl w14.heap.size 28 _ hb15 rfl U rfl HIUU.out (HULU.out.trans (secL_length zeroSec).symm) HUOU.out ?_; intro w16 hb16 hg16 hs16))
        have hl16 : Below wo.heap.size wo w16 := (hl14.trans (hl15.mono hsz14)).grown hg16 (by omega) (fun g e => by injection e with e; omega)
        have HB16 := hide hb16
        have hlt16 := hb16.lt
        clear hb15 hb16 hg16 hl15 hl14
        refine (HRC.out w16 hl16).mono ?_
        rintro _ w17 ⟨rfl, hl17⟩
        have hsz17 := hl17.size
        go_wp2_with (first
          | (refine wpList_alloc_blk rfl 28 rfl _ (sec_zero _) ?_; intro w18 hb18 hl18 hs18)
          | (refine wpList_store_all rfl 28 (.tmp 16) (.tmp 122) rfl w17.heap.size 28 _ hb18 rfl U rfl HIUU.out (HULU.out.trans (secL_length zeroSec).symm) HUOU.out ?_; intro w19 hb19 hg19 hs19; have hx19 := ((HB16.out.below hl17 hlt16).below hl18 (by omega)).grown hg19 (fun e => by injection e with e; omega))
          | (refine wpList_load_blk rfl 28 (.tmp 14) rfl w14.heap.size 0 28 _ hx19 rfl U _ (fun j v hj => by rw [Nat.zero_add]; simpa using hj) Try.underlying28 rfl HIUU.out ?_)
          | (refine wpList_load_blk rfl 28 (.tmp 16) rfl w17.heap.size 0 28 _ hb19 rfl U _ (fun j v hj => by rw [Nat.zero_add]; simpa using hj) Try.underlying28 rfl HIUU.out ?_)
          | (refine wpList_neq_bytes rfl 28 5 _ (.tmp 124) (.tmp 125) rfl 64 _ Try.underlying28 Try.underlying5 u8_info (by kernel_rfl) (by kernel_rfl) X.1 X.1 X.2 X.2 HEXU.out HEXU.out false (by simp) ?_))
        have hl19 : Below wo.heap.size wo w19 := ((hl16.trans (hl17.mono hl16.size)).trans (hl18.mono (by have := hl16.size; omega))).grown hg19 (by have := hl16.size; omega) (fun g e => by injection e with e; have := hl16.size; omega)
        clear hb18 hb19 hg19 hl18 hl17 hl16 hx19
        go_roundw
        case rel => exact ⟨i + 1, by simp, by omega, HBo.out.later hl19, HCo.out.later hl19, hlr2.trans (hl19.mono hwo)⟩
        case measure => simp only [intOf]; omega
      · have hge : ¬ ((i : Int) < 24) := by omega
        go_wp2_with (first
          | (refine when_build rfl 37 #[] rfl [] (by simp) #[.int .i64 0, .int .i64 0] HBP.out ?_)
          | (go_at_call 13; ((with_reducible refine (HSEC1.out wo).mono ?_); rintro _ w14 ⟨rfl, hl14⟩))
          | (go_at_call 12; ((with_reducible refine (HW3.out w14 (HBo.out.later hl14)).mono ?_); rintro _ w15 ⟨rfl, hB15, hu15⟩))
          | (go_at_call 22; ((with_reducible refine (HN3.out w15 hB15).mono ?_); rintro _ _ ⟨rfl, rfl⟩)))
        go_ret
        exact ⟨rfl, (hlr2.trans (hl14.mono hwo)).trans (hu15.low hs1 (by have := hl14.size; omega))⟩
/-! The row's frame, by program: how the walk above proves the statement. -/
set_option maxRecDepth 100000 in
theorem lifted (os : Os) (started : os.Started) (H : Type) (enc : TypeId × Value → H) :
    ReturnsInHanded {} Try.checked os 8 .any (Rows.diskAgainSpec.pre6 enc Try.prog Try.f8 Rows.diskAgainRow.domain false) (Rows.diskAgainSpec.post enc Try.prog Try.f8 false true false false) := by
  refine returnsInHanded_of_change (C := Try.checked) own started (by kernel_rfl) Try.func8
    (ChangeSpec.witness6 (enc := enc) (C := Try.checked) false ⟨#[], #[.slice none 0 0, .int .u64 0, .int .u64 0], []⟩ 8 (by kernel_rfl) (by kernel_rfl) (by kernel_rfl) (by kernel_rfl)) ?_
  intro W base args ds gs before hval0 hW hcnd _
  have hval : ∀ (j : Nat) t v, Try.f8.params[j]? = some t → args[j]? = some v → Value.okWide Try.prog W .any base t v := hval0
  have hW' := hW
  obtain ⟨p, q, hA0, hV, rfl, hfz, hnd⟩ := hW
  have hA : DataW.TrodAll enc Try.prog W 0 (fun _ => true) true Try.f8.params.toList args.toList ds p := hA0
  rw [Try.params8] at hA hval
  obtain ⟨v0, vs0, d0, ds0, p0, q0, hargs, rfl, rfl, h0, r0⟩ := trodAll_cons hA
  obtain ⟨v1, vs1, d1, ds1, p1, q1, rfl, rfl, rfl, h1, r1⟩ := trodAll_cons r0
  obtain ⟨v2, vs2, d2, ds2, p2, q2, rfl, rfl, rfl, h2, r2⟩ := trodAll_cons r1
  obtain ⟨rfl, rfl, rfl⟩ := trodAll_nil r2
  obtain rfl : args = #[v0, v1, v2] := by cases args; simp_all
  obtain ⟨rfl, rfl⟩ := trodVars_none hV
  obtain ⟨A0, n0, c0, rfl⟩ := okWide_slice Try.underlying22 (hval 0 22 v0 rfl rfl)
  have k0 := h0
  have lt0 : ∀ x ∈ p0, x.block < W.heap.size := by obtain ⟨m, hm⟩ := k0; exact DataW.trod_lt m _ _ _ hm
  obtain ⟨l0, x0, g0, z0⟩ := arg_steps h0
  obtain ⟨a1, rfl, rfl, rfl, w1⟩ := open_int Try.underlying23 (hval 1 23 v1 rfl rfl) h1
  have b1 := bounds_u64 w1
  obtain ⟨a2, rfl, rfl, rfl, w2⟩ := open_int Try.underlying23 (hval 2 23 v2 rfl rfl) h2
  have b2 := bounds_u64 w2
  clear hA0 hval0
  refine (walk A0 n0 c0 l0 a1 a2 W x0 g0 z0 b1.1 b1.2 b2.1 b2.2).mono fun e W' ⟨he, bel⟩ => ?_
  subst he
  exact ⟨_, rfl, _, _, _, [], _, [], hW', trodAll_mk1 (shut_bool Try.underlying4 _), (trodAll_cons_mk (Below.trod laidOut (by kernel_rfl) (of_decide_eq_true (by kernel_rfl)) k0 bel lt0) (trodAll_cons_mk (shut_int Try.underlying23 w1) (trodAll_cons_mk (shut_int Try.underlying23 w2) trodAll_mk0))), rfl, bel.frame _, fun h => by cases h⟩

theorem over : Rows.diskAgainRow.holds Try.pinned (OpenSpec.ofChange Rows.diskAgainSpec) :=
  OpenClaim.holds_of_wide 8 Try.f8 rfl rfl rfl rfl rfl rfl rfl ⟨rfl, rfl, rfl, rfl, rfl⟩ rfl rfl rfl rfl rfl (by kernel_rfl) Try.func8 (by kernel_rfl)
    (of_decide_eq_true (by kernel_rfl)) (by unfold Func.isWrapper; first | (rw [if_pos (by decide +kernel)]; kernel_rfl) | (rw [if_neg (by decide +kernel)]; exact ⟨rfl, rfl⟩))
    (fun os started H enc _ => lifted os started H enc)

/-- The statement. -/
theorem proved : Rows.DiskAgainSaid := over
#print axioms proved
end Go.Proofs.Ytdpfjehodnlojaa.DiskAgain
