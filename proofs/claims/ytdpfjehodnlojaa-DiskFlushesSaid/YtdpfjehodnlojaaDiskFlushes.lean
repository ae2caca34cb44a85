/- DiskFlushes holds: for all steps and every disk: of at most sixty writes to three disks of eight sectors, one of the disks flushed, and a crash that keeps nothing, that disk has all that was written, the others nothing of it; no condition. -/
import Derived.Test.YtdpfjehodnlojaaCalm
import Derived.Test.YtdpfjehodnlojaaChecked
import Derived.Test.YtdpfjehodnlojaaRows
import Derived.Test.YtdpfjehodnlojaaWhenQ
import Derived.Deep.DeepCutAuto
import Derived.Deep.CutBlock
namespace Go.Proofs.Ytdpfjehodnlojaa.DiskFlushes
open Go.ChangeShapes Go.WideShapes Go.ChangeAt Go.RowKit Go.Proofs.Ytdpfjehodnlojaa
set_option linter.unusedVariables false

theorem mask16 (v : Int) : ∃ m : Nat, bits .and .i64 v 65535 = (m : Int) ∧ m < 65536 := by
  have h := i64_mask v 16 (by decide)
  have h0 := Int.emod_nonneg v (show (2 : Int) ^ 16 ≠ 0 by decide)
  have h1 := Int.emod_lt_of_pos v (show (0 : Int) < 2 ^ 16 by decide)
  refine ⟨(v % 2 ^ 16).toNat, ?_, by omega⟩
  rw [Int.toNat_of_nonneg h0]
  exact h
theorem mask3 (v : Int) : ∃ m : Nat, bits .and .i64 v 7 = (m : Int) ∧ m < 8 := by
  have h := i64_mask v 3 (by decide)
  have h0 := Int.emod_nonneg v (show (2 : Int) ^ 3 ≠ 0 by decide)
  have h1 := Int.emod_lt_of_pos v (show (0 : Int) < 2 ^ 3 by decide)
  refine ⟨(v % 2 ^ 3).toNat, ?_, by omega⟩
  rw [Int.toNat_of_nonneg h0]
  exact h
theorem lt64 {U : List Value} (h : U.length = 64) {j : Nat} {v : Value} (hj : U[j]? = some v) : j < 64 := by
  rcases Nat.lt_or_ge j U.length with h1 | h1
  · omega
  · rw [List.getElem?_eq_none h1] at hj
    cases hj
set_option maxRecDepth 100000 in
set_option maxHeartbeats 2000000 in
theorem walk (A : Option Addr) (n c : Nat) (f : Nat → Step) (v1 : Int) (w : World) (hst : Steps w w.heap.size A n f) (hnc : n ≤ c) (hc63 : c ≤ 9223372036854775807) (b0 : -9223372036854775808 ≤ v1) (b1 : v1 ≤ 9223372036854775807) :
    Calls Try.prog 7 #[.slice A n c, .int .i64 v1] w fun e w' => e = .returned (.bool true) ∧ Below w.heap.size w w' := by
  obtain ⟨m1, hm1, hm1l⟩ := mask16 v1
  have HST := hide hst
  clear hst
  go_enter Try.func7, Try.ntmps7
  go_upto_block 0 with (first
    | (go_at_call 9; refine (shown_any _).mono ?_; rintro _ w1 ⟨rfl, hl1⟩)
    | (go_at_call 10; refine (laid_any _).mono ?_; rintro _ w2 ⟨rfl, hB2, hl2⟩)
    | (refine wpList_alloc_blk rfl 29 rfl _ (table_zero _) ?_; intro w3 hb3 hl3 hs3; clear hs3))
  have hs1 := hl1.size
  have hs2 := hl2.size
  have hs3 := hl3.size
  have hb3' : Blk w3 w2.heap.size 29 (arrL (fun _ => zeroSec) 24).toArray := hb3
  have hB3 := hB2.later hl3
  have hl03 : Below w.heap.size w w3 := (hl1.trans (hl2.mono hs1)).trans (hl3.mono (by omega))
  have HB3 := hide hb3'
  have HBK := hide hB3
  have hfz : ∀ d k, Laid.flushed d k = zeroSec := by
    intro d k
    exact laid_zero d k
  have hblt : w1.heap.size < w2.heap.size := bank_lt hB2
  clear hb3 hb3' hB3 hB2
  go_cut [8, 9, 10] (fun _ _ _ wx => ∃ (T : Nat → Sec) (S : Bank), BankAt wx w1.heap.size w1.heap.size w2.heap.size S ∧ Calm S ∧ (∀ d k, S.flushed d k = zeroSec) ∧ (∀ d k, d < 3 → k < 8 → S.newest d k = T (8 * d + k)) ∧ Blk wx w2.heap.size 29 (arrL T 24).toArray ∧ Below w.heap.size w wx)
  case first =>
    go_wp2_with fail
    go_loopw [8, 9, 10] (fun s8 _ _ wr => ∃ (i : Nat) (T : Nat → Sec) (S : Bank), s8 = .int .i64 (i : Int) ∧ i ≤ n ∧ i ≤ 60 ∧ BankAt wr w1.heap.size w1.heap.size w2.heap.size S ∧ Calm S ∧ S.writes = i ∧ (∀ d k, S.flushed d k = zeroSec) ∧ (∀ d k, d < 3 → k < 8 → S.newest d k = T (8 * d + k)) ∧ Blk wr w2.heap.size 29 (arrL T 24).toArray ∧ Below w.heap.size w wr) (fun s8 _ _ _ => 60 - (intOf s8).toNat)
    case atStart => exact ⟨0, _, Laid, rfl, Nat.zero_le _, by decide, HBK.out, calm_laid, rfl, hfz, fun d k _ _ => laid_newest d k, HB3.out, hl03⟩
    case round =>
      obtain ⟨i, T, S, rfl, hin, hi60, hB, hcalm, hwr, hfl, hnew, hT, hlr⟩ := hrel
      obtain ⟨wo, rfl⟩ : ∃ wo, wo = wr := ⟨_, rfl⟩
      by_cases hlt : i < n ∧ i < 60
      · have hg1 : (i : Int) < (n : Int) := by omega
        have hg2 : (i : Int) < 60 := by omega
        obtain ⟨ad, rfl, hadb, hcells⟩ := (HST.out.below hlr) (by omega)
        obtain ⟨_, cd, ca, cn, _, _⟩ := hcells i hlt.1
        obtain ⟨md, hmd, hmdl⟩ := mask16 (f i).d
        obtain ⟨k, hk, hkl⟩ := mask3 (f i).a
        have hcn : ∀ w', Below w.heap.size w w' → w'.cell? ⟨(ad.add (i * 5)).block, (ad.add (i * 5)).off + 3, none⟩ = some (.int .i64 (f i).n) := fun w' hb => ((HST.out.below hb) (by omega)).elim fun ad' h => by
          obtain ⟨e, _, hc⟩ := h
          injection e with e
          subst e
          exact (hc i hlt.1).2.2.2.1
        have HCN := hide hcn
        obtain ⟨U, hU⟩ : ∃ U, U = secL (secOf (f i).n) := ⟨_, rfl⟩
        have hUs : secV (secOf (f i).n) = .agg U.toArray := by rw [hU]; rfl
        have hUl : U.length = 64 := by rw [hU, secL_length]
        have hUo : ∀ v ∈ U, v.oneCell' = true := by rw [hU]; exact secL_one _
        have hiU : (Try.prog.info? 28).map (·.size) = some U.length := by rw [hUl]; exact sec_info
        have HSEC : Hid (∀ w', Calls Try.prog 13 #[.int .i64 (f i).n] w' fun e w'' => e = .returned (.agg U.toArray) ∧ Below w'.heap.size w' w'') := fun w' => by rw [← hUs]; exact sector_any (f i).n w'
        have hd3 : md % 3 < 3 := Nat.mod_lt _ (by decide)
        have hW : ∀ w', Below wo.heap.size wo w' → Calls Try.prog 12 #[.pointer (some ⟨w1.heap.size, 0, none⟩), .agg #[.int .i64 ((md % 3 : Nat) : Int), .int .i64 (k : Int)], .agg U.toArray] w' fun e w'' => e = .returned (.int .i64 0) ∧ BankAt w'' w1.heap.size w1.heap.size w2.heap.size (S.wrote.put (md % 3) k (secOf (f i).n)) ∧ Upto w1.heap.size w2.heap.size w' w'' := fun w' hb => by
          have h := bank_write (hB.later hb) (by rw [hwr]; omega) (md % 3) k (secOf (f i).n)
          rw [hcalm.write hd3 hkl, hUs] at h
          exact h
        have HWR := hide hW
        have HUL := hide hUl
        have HUO := hide hUo
        have HIU := hide hiU
        have HT := hide hT
        have HU := hide hU
        clear hU hUs hUl hUo hiU hW hB hT hcells hcn
        have hwlo : w1.heap.size ≤ wo.heap.size := by have := hlr.size; have := HT.out.lt; omega
        have hcomm : 8 * (md % 3) + k < 24 := by omega
        go_wp2_with fail
        refine (HSEC.out wo).mono ?_
        rintro _ w5 ⟨rfl, hl5⟩
        go_wp2_with fail
        refine (HWR.out w5 hl5).mono ?_
        rintro _ w6 ⟨rfl, hB6, hu6⟩
        have hl05 : Below w.heap.size w w5 := hlr.trans (hl5.mono hlr.size)
        have hl06 : Below w.heap.size w w6 := hl05.trans (hu6.low hs1 (by have := hl5.size; omega))
        have cn6 := HCN.out w6 hl06
        have hT6 := (HT.out.below hl5 HT.out.lt).upto hu6 (.inl (Nat.le_refl _))
        have HB6 := hide hB6
        clear hB6
        go_wp2_with fail
        refine (HSEC.out w6).mono ?_
        rintro _ w7 ⟨rfl, hl7⟩
        have hT7 := hT6.below hl7 hT6.lt
        have HB7 := hide (HB6.out.later hl7)
        have hl07 : Below w.heap.size w w7 := hl06.trans (hl7.mono hl06.size)
        go_wp2_with (first
          | (refine wpList_store_blk rfl 28 (.tmp 66) (.tmp 65) rfl w2.heap.size _ 29 _ hT7 rfl U rfl HIU.out (by rw [HUL.out, arrL_24]; omega) HUO.out ?_; intro w8 hb8 hg8 hs8; clear hs8))
        go_roundw
        case rel =>
          refine ⟨i + 1, upd T (8 * (md % 3) + k) (secOf (f i).n), S.wrote.put (md % 3) k (secOf (f i).n), rfl, by omega, by omega, ?_, (hcalm.wrote).put _ _ _, ?_, hfl, ?_, ?_, ?_⟩
          · exact HB7.out.grown hg8 (fun g e => .inr (by injection e with e; omega))
          · show S.writes + 1 = i + 1
            omega
          · intro d' k' hd' hk'
            show upd2 S.newest (md % 3) k (secOf (f i).n) d' k' = _
            by_cases e1 : d' = md % 3
            · subst e1
              by_cases e2 : k' = k
              · subst e2
                rw [upd2_self, upd_self]
              · rw [upd2_ne _ _ (fun h => e2 h.2), upd_ne _ _ (by omega)]
                exact hnew _ _ hd' hk'
            · rw [upd2_ne _ _ (fun h => e1 h.1), upd_ne _ _ (by omega)]
              exact hnew _ _ hd' hk'
          · have hb9 := hb8
            rw [HU.out] at hb9
            rw [← arrL_put T (secOf (f i).n) _ 24 hcomm]
            exact hb9
          · exact hl07.grown hg8 (by have := hl07.size; omega) (fun g e => by injection e with e; omega)
        case measure => simp only [intOf]; omega
      · have HBX := hide hB
        have HTX := hide hT
        clear hB
        by_cases h1 : i < n
        · have hd5 : decide ((i : Int) < 60) = false := by simp; omega
          clear hT
          go_wp2_with fail
          go_meet
          exact ⟨T, S, HBX.out, hcalm, hfl, hnew, HTX.out, hlr⟩
        · have hd5 : decide ((i : Int) < (n : Int)) = false := by simp; omega
          clear hT
          go_wp2_with fail
          go_meet
          exact ⟨T, S, HBX.out, hcalm, hfl, hnew, HTX.out, hlr⟩
  case rest =>
    obtain ⟨T, S, hB, hcalm, hfl, hnew, hT, hlr⟩ := hcut
    obtain ⟨wh, hwh⟩ : ∃ d, d = m1 % 3 := ⟨_, rfl⟩
    have hwh3 : wh < 3 := by omega
    have hwi : (m1 : Int) % 3 = (wh : Int) := by omega
    rw [hwi]
    have HBK2 := hide hB
    have HT := hide hT
    have hF := bank_flush hB wh
    rw [hcalm.may hwh3, if_pos rfl] at hF
    have HF := hide hF
    obtain ⟨S3, hS3⟩ : ∃ X, X = ((S.flush wh).crash 0).start := ⟨_, rfl⟩
    have hc3 : Calm S3 := by rw [hS3]; exact (hcalm.flush wh).restart 0
    have hn3 : ∀ d k, S3.newest d k = upd S.flushed wh (S.newest wh) d k := by
      intro d k
      rw [hS3]
      show ((S.flush wh).crash 0).newest d k = _
      rw [(hcalm.flush wh).crashed 0]
      show (S.flush wh).kept 0 d k = _
      unfold Bank.kept
      rw [keeps_zero]
      rfl
    have hn4 : ∀ j, j < 24 → S3.newest (j / 8) (j % 8) = if j / 8 = wh then T j else zeroSec := by
      intro j hj
      rw [hn3]
      by_cases e : j / 8 = wh
      · rw [if_pos e, ← e, upd_self, hnew _ _ (by omega) (by omega)]
        congr 1
        omega
      · rw [if_neg e, upd_ne _ _ e, hfl]
    have HN4 := hide hn4
    have HS3 := hide hS3
    clear hB hT hF hn3 hn4 hS3 hnew hfl hwi hwh HBK HB3 hfz
    go_wp2_with fail
    refine HF.out.mono ?_
    rintro _ w4 ⟨rfl, hB4, hu4⟩
    have hl4 : Below w.heap.size w w4 := hlr.trans (hu4.low hs1 (by have := HBK2.out.lo_le; omega))
    have hT4 := HT.out.upto hu4 (.inl (Nat.le_refl _))
    have HB4 := hide hB4
    clear hB4
    go_wp2_with fail
    refine (bank_crash HB4.out 0 (by decide)).mono ?_
    rintro _ w5 ⟨rfl, hB5, hu5⟩
    have hl5 : Below w.heap.size w w5 := hl4.trans (hu5.low hs1 (by have := HB4.out.lo_le; omega))
    have hT5 := hT4.upto hu5 (.inl (Nat.le_refl _))
    have HB5 := hide hB5
    clear hB5
    go_wp2_with fail
    refine (bank_start HB5.out).mono ?_
    rintro _ w6 ⟨rfl, hB6, hu6⟩
    have hl6 : Below w.heap.size w w6 := hl5.trans (hu6.low hs1 (by have := HB5.out.lo_le; omega))
    have hT6 := hT5.upto hu6 (.inl (Nat.le_refl _))
    rw [← HS3.out] at hB6
    have HB6 := hide hB6
    have HT6 := hide hT6
    clear hB6 hT6 hT4 hT5
    go_wp2_with fail
    go_loopw [11, 12, 13] (fun s11 _ _ wr => ∃ (i : Nat) (T' : Nat → Sec), s11 = .int .i64 (i : Int) ∧ i ≤ 24 ∧ BankAt wr w1.heap.size w1.heap.size w2.heap.size S3 ∧ (∀ j, i ≤ j → j < 24 → T' j = T j) ∧ Blk wr w2.heap.size 29 (arrL T' 24).toArray ∧ Below w.heap.size w wr) (fun s11 _ _ _ => 24 - (intOf s11).toNat)
    case atStart => exact ⟨0, T, rfl, by decide, HB6.out, fun _ _ _ => rfl, HT6.out, hl6⟩
    case round =>
      obtain ⟨i, T', rfl, hi24, hB, hTT, hT, hlr⟩ := hrel
      obtain ⟨wo, rfl⟩ : ∃ wo, wo = wr := ⟨_, rfl⟩
      by_cases hlt : i < 24
      · have hg1 : (i : Int) < 24 := by omega
        have hk : bits .and .i64 (i : Int) 7 = ((i % 8 : Nat) : Int) := by have h := i64_mask (i : Int) 3 (by decide); rw [show (2 : Int) ^ 3 - 1 = 7 by decide] at h; rw [h, show (2 : Int) ^ 3 = 8 by decide]; omega
        obtain ⟨U, hU⟩ : ∃ U, U = secL (S3.newest (i / 8) (i % 8)) := ⟨_, rfl⟩
        have hR := bank_read hB (i / 8) (i % 8)
        rw [readV_calm hc3 (by omega) (by omega), show secV (S3.newest (i / 8) (i % 8)) = .agg U.toArray by rw [hU]; rfl] at hR
        rw [show (((i / 8 : Nat)) : Int) = (i : Int) / 8 by omega, show (((i % 8 : Nat)) : Int) = (i : Int) % 8 by omega] at hR
        have HR := hide hR
        have hUl : U.length = 64 := by rw [hU, secL_length]
        have hUo : ∀ v ∈ U, v.oneCell' = true := by rw [hU]; exact secL_one _
        have hiU : (Try.prog.info? 28).map (·.size) = some U.length := by rw [hUl]; exact sec_info
        have HUL := hide hUl
        have HUO := hide hUo
        have HIU := hide hiU
        have HU := hide hU
        have HB := hide hB
        have HT := hide hT
        clear hB hT hR hUl hUo hiU hU
        have hX : ∃ X : Sec, X = S3.newest (i / 8) (i % 8) := ⟨_, rfl⟩
        obtain ⟨X, hX⟩ := hX
        rw [← hX] at HU
        have hEX : Value.agg U.toArray = .agg (B8 X.1).toArray := by rw [HU.out]; rfl
        have HEX := hide hEX
        have HTT0 := hide hTT
        have HX := hide hX
        clear hTT hX hEX
        go_wp2_with fail
        refine HR.out.mono ?_
        rintro _ w7 ⟨rfl, hl7⟩
        have HB7 := hide (HB.out.later hl7)
        have hT7 := HT.out.below hl7 HT.out.lt
        have hl07 : Below w.heap.size w w7 := hlr.trans (hl7.mono hlr.size)
        have hsz7 := hl07.size
        have hltt := hT7.lt
        have HT7 := hide hT7
        clear hT7
        by_cases e : i / 8 = wh
        · have hd6 : ((i : Int) / 8 != (wh : Int)) = false := by simp; omega
          have hXT : Hid (X = T' i) := by show _ = _; rw [HX.out, HN4.out i hlt, if_pos e, HTT0.out i (Nat.le_refl _) hlt]
          go_wp2_with (first
            | (refine wpList_alloc_blk rfl 28 rfl _ (sec_zero _) ?_; intro w8 hb8 hl8 hs8; clear hs8)
            | (refine wpList_store_all rfl 28 (.tmp 12) (.tmp 87) rfl w7.heap.size 28 _ hb8 rfl U rfl HIU.out (HUL.out.trans (secL_length zeroSec).symm) HUO.out ?_; intro w9 hb9 hg9 hs9; clear hs9))
          have HBX := hide hb9
          have HTX := hide ((HT7.out.below hl8 HT7.out.lt).grown hg9 (fun e => by injection e with e; omega))
          have HBY := hide ((HB7.out.later hl8).grown hg9 (fun g e => .inr (by injection e with e; omega)))
          have hlX : Below w.heap.size w w9 := (hl07.trans (hl8.mono hl07.size)).grown hg9 (by have := hl8.size; omega) (fun g e => by injection e with e; omega)
          obtain ⟨T2, hT2⟩ : ∃ T2, T2 = T' := ⟨_, rfl⟩
          rw [← hT2] at HTX
          have HTT : Hid (∀ j, i + 1 ≤ j → j < 24 → T2 j = T j) := by intro j h1 h2; rw [hT2]; exact HTT0.out j (by omega) h2
          have hAT : ∀ (j : Nat) v, U[j]? = some v → (arrL T2 24).toArray[i * 64 + j]? = some v := by
            intro j v hj
            rw [List.getElem?_toArray, arrL_at T2 24 i j hlt (lt64 HUL.out hj), hT2, ← hXT.out, ← HU.out]
            exact hj
          have HAT := hide hAT
          clear hb9 hT2 hAT hXT hg9 hb8
          refine wp_region_quiet_lit (by kernel_rfl) (by kernel_rfl) ?_
          iterate 3 (go_big_quiet_step (fail))
          refine quiet_when_load rfl 28 (.tmp 12) rfl w7.heap.size 0 28 _ (by rintro w1 ⟨q1, rfl⟩; exact HBX.out.drewN _) rfl U _ (fun j v hj => by rw [Nat.zero_add]; simpa using hj) Try.underlying28 rfl HIU.out ?_
          simp only [Act.put, List.setIfInBounds_toArray, List.set_cons_succ, List.set_cons_zero]
          iterate 2 (go_big_quiet_step (fail))
          refine quiet_when_load rfl 28 (.tmp 101) rfl w2.heap.size (i * 64) 29 _ (by rintro w1 ⟨q1, rfl⟩; exact HTX.out.drewN _) rfl U _ HAT.out Try.underlying28 rfl HIU.out ?_
          simp only [Act.put, List.setIfInBounds_toArray, List.set_cons_succ, List.set_cons_zero]
          refine quiet_when_eqn rfl true 28 5 _ (.tmp 99) (.tmp 102) rfl 64 _ Try.underlying28 Try.underlying5 u8_info (by kernel_rfl) (by kernel_rfl) X.1 X.1 X.2 X.2 HEX.out HEX.out false (by simp) ?_
          simp only [Act.put, List.setIfInBounds_toArray, List.set_cons_succ, List.set_cons_zero]
          go_big_quiet_step (fail)
          refine wpQuiet_nil ?_
          rintro w11 ⟨q1, rfl⟩
          go_wp2
          go_roundw
          case rel => exact ⟨i + 1, T2, by simp, by omega, HBY.out.later (below_drewN (Below.refl _ _) _), HTT.out, HTX.out.drewN _, below_drewN hlX _⟩
          case measure => simp [intOf]; omega
        · have hd6 : ((i : Int) / 8 != (wh : Int)) = true := by simp; omega
          have hXT : X = zeroSec := by rw [HX.out, HN4.out i hlt, if_neg e]
          have hUz : U = secL zeroSec := by rw [HU.out, hXT]
          have HBZ := hide (show Try.prog.built 28 [] = some U.toArray by rw [hUz]; exact built_zero)
          have HUz := hide hUz
          clear hUz hXT
          go_wp2_with (first
            | (refine wpList_alloc_blk rfl 28 rfl _ (sec_zero _) ?_; intro w8 hb8 hl8 hs8; clear hs8)
            | (refine wpList_store_all rfl 28 (.tmp 12) (.tmp 87) rfl w7.heap.size 28 _ hb8 rfl U rfl HIU.out (HUL.out.trans (secL_length zeroSec).symm) HUO.out ?_; intro w9 hb9 hg9 hs9; clear hs9; have hT9 := (HT7.out.below hl8 HT7.out.lt).grown hg9 (fun e => by injection e with e; omega))
            | (refine wpList_build_is rfl 28 #[] rfl [] (by simp) U.toArray HBZ.out ?_)
            | (refine wpList_store_blk rfl 28 (.tmp 95) (.tmp 94) rfl w2.heap.size (i * 64) 29 _ hT9 rfl U rfl HIU.out (by rw [HUL.out, arrL_24]; omega) HUO.out ?_; intro w10 hb10 hg10 hs10; clear hs10))
          have HBX := hide (hb9.grown hg10 (fun e => by injection e with e; omega))
          have HBY := hide (((HB7.out.later hl8).grown hg9 (fun g e => .inr (by injection e with e; omega))).grown hg10 (fun g e => .inr (by injection e with e; omega)))
          have hlX : Below w.heap.size w w10 := ((hl07.trans (hl8.mono hl07.size)).grown hg9 (by have := hl8.size; omega) (fun g e => by injection e with e; omega)).grown hg10 (by have := hl8.size; have := hg9.size; omega) (fun g e => by injection e with e; omega)
          obtain ⟨T2, hT2⟩ : ∃ T2, T2 = upd T' i zeroSec := ⟨_, rfl⟩
          have HTX : Hid (Blk w10 w2.heap.size 29 (arrL T2 24).toArray) := by
            have hb11 := hb10
            rw [HUz.out] at hb11
            rw [hT2, ← arrL_put T' zeroSec i 24 hlt]
            exact hb11
          have HTT : Hid (∀ j, i + 1 ≤ j → j < 24 → T2 j = T j) := by intro j h1 h2; rw [hT2, upd_ne _ _ (by omega)]; exact HTT0.out j (by omega) h2
          have hAT : ∀ (j : Nat) v, U[j]? = some v → (arrL T2 24).toArray[i * 64 + j]? = some v := by
            intro j v hj
            rw [List.getElem?_toArray, arrL_at T2 24 i j hlt (lt64 HUL.out hj), hT2, upd_self, ← HUz.out]
            exact hj
          have HAT := hide hAT
          clear hb9 hb10 hT2 hAT hg9 hg10 hb8 hT9
          refine wp_region_quiet_lit (by kernel_rfl) (by kernel_rfl) ?_
          iterate 3 (go_big_quiet_step (fail))
          refine quiet_when_load rfl 28 (.tmp 12) rfl w7.heap.size 0 28 _ (by rintro w1 ⟨q1, rfl⟩; exact HBX.out.drewN _) rfl U _ (fun j v hj => by rw [Nat.zero_add]; simpa using hj) Try.underlying28 rfl HIU.out ?_
          simp only [Act.put, List.setIfInBounds_toArray, List.set_cons_succ, List.set_cons_zero]
          iterate 2 (go_big_quiet_step (fail))
          refine quiet_when_load rfl 28 (.tmp 101) rfl w2.heap.size (i * 64) 29 _ (by rintro w1 ⟨q1, rfl⟩; exact HTX.out.drewN _) rfl U _ HAT.out Try.underlying28 rfl HIU.out ?_
          simp only [Act.put, List.setIfInBounds_toArray, List.set_cons_succ, List.set_cons_zero]
          refine quiet_when_eqn rfl true 28 5 _ (.tmp 99) (.tmp 102) rfl 64 _ Try.underlying28 Try.underlying5 u8_info (by kernel_rfl) (by kernel_rfl) X.1 X.1 X.2 X.2 HEX.out HEX.out false (by simp) ?_
          simp only [Act.put, List.setIfInBounds_toArray, List.set_cons_succ, List.set_cons_zero]
          go_big_quiet_step (fail)
          refine wpQuiet_nil ?_
          rintro w11 ⟨q1, rfl⟩
          go_wp2
          go_roundw
          case rel => exact ⟨i + 1, T2, by simp, by omega, HBY.out.later (below_drewN (Below.refl _ _) _), HTT.out, HTX.out.drewN _, below_drewN hlX _⟩
          case measure => simp [intOf]; omega
      · obtain rfl : i = 24 := by omega
        clear hB hT hTT
        go_wp2_with fail
        go_ret
        exact ⟨rfl, hlr⟩

/-! The row's frame, by program: how the walk above proves the statement. -/
set_option maxRecDepth 100000 in
theorem lifted (os : Os) (started : os.Started) (H : Type) (enc : TypeId × Value → H) :
    ReturnsInHanded {} Try.checked os 7 .any (Rows.diskFlushesSpec.pre6 enc Try.prog Try.f7 Rows.diskFlushesRow.domain false) (Rows.diskFlushesSpec.post enc Try.prog Try.f7 false true false false) := by
  refine returnsInHanded_of_change (C := Try.checked) own started (by kernel_rfl) Try.func7
    (ChangeSpec.witness6 (enc := enc) (C := Try.checked) false ⟨#[], #[.slice none 0 0, .int .i64 0], []⟩ 8 (by kernel_rfl) (by kernel_rfl) (by kernel_rfl) (by kernel_rfl)) ?_
  intro W base args ds gs before hval0 hW hcnd _
  have hval : ∀ (j : Nat) t v, Try.f7.params[j]? = some t → args[j]? = some v → Value.okWide Try.prog W .any base t v := hval0
  have hW' := hW
  obtain ⟨p, q, hA0, hV, rfl, hfz, hnd⟩ := hW
  have hA : DataW.TrodAll enc Try.prog W 0 (fun _ => true) true Try.f7.params.toList args.toList ds p := hA0
  rw [Try.params7] at hA hval
  obtain ⟨v0, vs0, d0, ds0, p0, q0, hargs, rfl, rfl, h0, r0⟩ := trodAll_cons hA
  obtain ⟨v1, vs1, d1, ds1, p1, q1, rfl, rfl, rfl, h1, r1⟩ := trodAll_cons r0
  obtain ⟨rfl, rfl, rfl⟩ := trodAll_nil r1
  obtain rfl : args = #[v0, v1] := by cases args; simp_all
  obtain ⟨rfl, rfl⟩ := trodVars_none hV
  obtain ⟨A0, n0, c0, rfl⟩ := okWide_slice Try.underlying22 (hval 0 22 v0 rfl rfl)
  have k0 := h0
  have lt0 : ∀ x ∈ p0, x.block < W.heap.size := by obtain ⟨m, hm⟩ := k0; exact DataW.trod_lt m _ _ _ hm
  obtain ⟨l0, x0, g0, z0⟩ := arg_steps h0
  obtain ⟨a1, rfl, rfl, rfl, w1⟩ := open_int Try.underlying3 (hval 1 3 v1 rfl rfl) h1
  have b1 := bounds_i64 w1
  clear hA0 hval0
  refine (walk A0 n0 c0 l0 a1 W x0 g0 z0 b1.1 b1.2).mono fun e W' ⟨he, bel⟩ => ?_
  subst he
  exact ⟨_, rfl, _, _, _, [], _, [], hW', trodAll_mk1 (shut_bool Try.underlying4 _), (trodAll_cons_mk (Below.trod laidOut (by kernel_rfl) (of_decide_eq_true (by kernel_rfl)) k0 bel lt0) (trodAll_cons_mk (shut_int Try.underlying3 w1) trodAll_mk0)), rfl, bel.frame _, fun h => by cases h⟩

theorem over : Rows.diskFlushesRow.holds Try.pinned (OpenSpec.ofChange Rows.diskFlushesSpec) :=
  OpenClaim.holds_of_wide 7 Try.f7 rfl rfl rfl rfl rfl rfl rfl ⟨rfl, rfl, rfl, rfl, rfl⟩ rfl rfl rfl rfl rfl (by kernel_rfl) Try.func7 (by kernel_rfl)
    (of_decide_eq_true (by kernel_rfl)) (by unfold Func.isWrapper; first | (rw [if_pos (by decide +kernel)]; kernel_rfl) | (rw [if_neg (by decide +kernel)]; exact ⟨rfl, rfl⟩))
    (fun os started H enc _ => lifted os started H enc)

/-- The statement. -/
theorem proved : Rows.DiskFlushesSaid := over
#print axioms proved
end Go.Proofs.Ytdpfjehodnlojaa.DiskFlushes
