/- RecencyOrder's walk over the contracts. -/
import Derived.Test.YthodmhjlokfcaaaRcL
import Derived.Test.YthodmhjlokfcaaaArgI
import Derived.Deep.DeepCutAuto
import Derived.Deep.CutBlock
import Derived.Deep.LoopGhost
namespace Go.Proofs.Ythodmhjlokfcaaa
open Go.RowKit Go.Maps
set_option linter.unusedVariables false
set_option maxRecDepth 100000 in
set_option maxHeartbeats 16000000 in
theorem recencyOrder_walk (A : Option Addr) (n c : Nat) (l : List Int) (q : Int) (w : World) (hr : Reads w w.heap.size 1 A n (I64 l)) (hl : ∀ v ∈ l, -9223372036854775808 ≤ v ∧ v ≤ 9223372036854775807) (hnc : n ≤ c) (hcm : c ≤ 9223372036854775807) (hq1 : -9223372036854775808 ≤ q) (hq2 : q ≤ 9223372036854775807) :
    Calls Try.prog 4 #[.slice A n c, .int .i64 q] w fun e w' => e = .returned (.bool true) ∧ Below w.heap.size w w' := by
  have HS_w : Hid (Sta w w [] []) := hide (Sta.begin w)
  have HSH := hide (shown16_any)
  have HR := hide hr
  have HF := hide (fun v (hv : v ∈ l) => okS (hl v hv).1 (hl v hv).2)
  have heq := run_eql_rc
  obtain ⟨N, hN⟩ : ∃ N, N = min n 200 := ⟨_, rfl⟩
  have hN1 : N ≤ n := by omega
  have hN2 : N ≤ 200 := by omega
  have hMI : (if (200 : Int) < (n : Int) then (200 : Int) else (n : Int)) = (N : Int) := by split <;> omega
  have HMI := hide hMI
  clear hr hl hN hMI
  go_enter Try.func4, Try.ntmps4
  go_upto_block 0 with (first
    | ((with_reducible refine at_slot 25 ?_); refine when_gives rfl _ (run_cutI _ _ (.tmp 21) (.tmp 24) rfl A n c N rfl rfl (by omega)) ?_)
    | ((with_reducible refine at_slot 24 ?_); refine when_gives rfl (.int .i64 (N : Int)) (by go_simp <;> (first | rfl | (rw [HMI.out]) | (simp [HMI.out]))) ?_)
    | (go_at_call 9; refine (HS_y1.out.mk_).mono ?_; rintro _ y2 ⟨m, rfl, hsq⟩; have HS_y2 : Hid (Sta w y2 [rcT m []] []) := hide hsq; clear hsq)
    | (go_at_call 8; refine (HSH.out _).mono ?_; rintro _ y1 ⟨rfl, hlq⟩; have HS_y1 : Hid (Sta w y1 [] []) := hide (HS_w.out.later hlq); clear hlq))
  go_cut [7] (fun _ wx => Hid (Sta w wx [rcT m (tchs (l.take N))] []))
  case first =>
    go_wp2_with fail
    go_loopw [7] (fun s7 wr => ∃ j : Nat, j ≤ N ∧ s7 = .int .i64 (j : Int) ∧ Hid (Sta w wr [rcT m (tchs (l.take j))] [])) (fun s7 _ => N - (intOf s7).toNat)
    case atStart => exact ⟨0, Nat.zero_le _, rfl, HS_y2⟩
    case round =>
      obtain ⟨j, hj, rfl, HS⟩ := hrel
      obtain ⟨z, rfl⟩ : ∃ z, z = wr := ⟨_, rfl⟩
      by_cases hjN : j < N
      · have hjn : (j : Int) < (N : Int) := by omega
        skip
        obtain ⟨ad, x, rfl, hx, hcx⟩ := arg_num HR.out HS.out.low (k := j) (by omega)
        have HX := hide hx
        have HLM := hide (show (tchs (l.take j)).length ≤ 1000000 by have := tchs_take_len l j; omega)
        clear hx
        go_wp2_with (first
          | (go_at_call 20; refine (HS.out.touch_ 0 rfl x (HF.out x (List.mem_of_getElem? HX.out)) HLM.out).mono ?_; rintro _ w3 ⟨rfl, hsq⟩; rw [tchs_step HX.out] at hsq; have HS3 : Hid (Sta w w3 [rcT m (tchs (l.take (j + 1)))] []) := hide hsq; clear hsq))
        go_roundw
        case rel => exact ⟨j + 1, by omega, by go_num, HS3⟩
        case measure => simp [intOf]; omega
      · obtain rfl : j = N := by omega
        have hd : decide ((j : Int) < (j : Int)) = false := by simp
        go_wp2_with fail
        go_meet
        exact HS
  obtain ⟨z1, hz1⟩ : ∃ z, z = wc := ⟨_, rfl⟩
  subst hz1
  obtain ⟨L, hL⟩ : ∃ L, tchs (l.take N) = L := ⟨_, rfl⟩
  rw [hL] at hcut
  have hL50 : L.length ≤ 200 := by have := tchs_take_len l N; rw [hL] at this; omega
  have HS_z1 := hcut
  have HU := hide (show L.Nodup by rw [← hL]; exact tchs_nodup _)
  have HLF := hide (HS_z1.out.fits 0 rfl)
  clear hcut
  have HORD := hide (fun (i j : Nat) (a b : Int) (hi : L[i]? = some a) (hj : L[j]? = some b) (hij : i < j) => show lst a (l.take N) < lst b (l.take N) from ord_at (by rw [hL]; exact hi) (by rw [hL]; exact hj) hij)
  have HMEM := hide (fun x => show x ∈ L ↔ x ∈ l.take N from by rw [← hL]; exact tchs_mem _ x)
  obtain ⟨K, hK⟩ : ∃ K, K = min q.toNat L.length := ⟨_, rfl⟩
  have hKL : K ≤ L.length := by omega
  obtain ⟨mn, hmn⟩ : ∃ x, (if (L.length : Int) < q then (L.length : Int) else q) = x := ⟨_, rfl⟩
  have hKm : (if 0 < mn then mn else 0) = (K : Int) := by
    rw [← hmn]
    split <;> split <;> omega
  have hTe : L.take q.toNat = L.take K := by
    rcases Nat.le_total q.toNat L.length with h | h
    · rw [hK, Nat.min_eq_left h]
    · rw [hK, Nat.min_eq_right h, List.take_of_length_le h, List.take_of_length_le (Nat.le_refl _)]
  have HTE := hide hTe
  have HTL := hide (show (L.take K).length = K by rw [List.length_take]; omega)
  obtain ⟨NL, hNL⟩ : ∃ x, L.length = x := ⟨_, rfl⟩
  have HNL := hide hNL
  rw [hNL] at hL50 hKL hmn
  have HLIM := hide (show L.length ≤ 1000000 by omega)
  have HMN := hide hmn
  have HKM := hide hKm
  have HTN := hide (show L.take NL = L by rw [← hNL, List.take_of_length_le (Nat.le_refl _)])
  clear hTe hK hKm hNL hmn hL HMI
  go_upto_block 2 with (first
    | (go_at_call 23; refine (HS_z1.out.all_ 0 rfl HLIM.out).mono ?_; rintro _ y1 ⟨A1, c1, rfl, hnA1, hcA1, hsq⟩; rw [HNL.out] at hnA1 hsq ⊢; have HS_y1 : Hid (Sta w y1 [rcT m L, ilT (.slice A1 NL c1) L] []) := hide hsq; clear hsq))
  go_cut [9, 10, 11, 12] (fun _ _ _ _ wx => Hid (Sta w wx [rcT m L, ilT (.slice A1 NL c1) L] []))
  case first =>
    go_wp2_with fail
    go_loopw [9, 10, 11, 12] (fun s9 s10 _ _ wr => ∃ (i : Nat) (la : Int), i ≤ NL ∧ s10 = .int .i64 (i : Int) ∧ s9 = .int .i64 la ∧ -1 ≤ la ∧ la ≤ 1000 ∧ Hid (∀ (j : Nat) (x : Int), i ≤ j → L[j]? = some x → la < lst x (l.take N)) ∧ Hid (Sta w wr [rcT m L, ilT (.slice A1 NL c1) L] [])) (fun _ s10 _ _ _ => NL - (intOf s10).toNat)
    case atStart => exact ⟨0, -1, Nat.zero_le _, rfl, rfl, by decide, by decide, hide (fun j x _ hx => by have := lst_mem x (l.take N) ((HMEM.out x).1 (List.mem_of_getElem? hx)); omega), HS_y1⟩
    case round =>
      obtain ⟨i, la, hi, rfl, rfl, hla1, hla2, HLA, HS⟩ := hrel
      obtain ⟨z, rfl⟩ : ∃ z, z = wr := ⟨_, rfl⟩
      by_cases hiN : i < NL
      · obtain ⟨x, hx⟩ : ∃ x, L[i]? = some x := ⟨_, List.getElem?_eq_getElem (by rw [HNL.out]; omega)⟩
        obtain ⟨g, rfl, _, _⟩ := HS.out.num 1 rfl hx
        have HX := hide hx
        have hii : (i : Int) < (NL : Int) := by omega
        clear hx
        go_wp2_with fail
        go_loopw [11, 12] (fun s11 s12 wr => ∃ (k : Nat) (t : Int), k ≤ N ∧ s12 = .int .i64 (k : Int) ∧ s11 = .int .i64 t ∧ Hid (t = lst x (l.take k)) ∧ Hid (Sta w wr [rcT m L, ilT (.slice (some ⟨g, 0, none⟩) NL c1) L] [])) (fun _ s12 _ => N - (intOf s12).toNat)
        case atStart => exact ⟨0, -1, Nat.zero_le _, rfl, rfl, hide rfl, HS⟩
        case round =>
          obtain ⟨k, t, hk, rfl, rfl, HT, HJ⟩ := hrel
          obtain ⟨y, rfl⟩ : ∃ z, z = wr := ⟨_, rfl⟩
          obtain ⟨g', hg', _, hcx⟩ := HJ.out.num 1 rfl HX.out
          injection hg' with hg'
          injection hg' with hg'
          subst hg'
          by_cases hkN : k < N
          · obtain ⟨ad, u, rfl, hu, hcu⟩ := arg_num HR.out HJ.out.low (k := k) (by omega)
            have hkk : (k : Int) < (N : Int) := by omega
            by_cases he : u = x
            · have heq2 : (u == x) = true := by simpa using he
              have HT2 := hide (show ((k : Nat) : Int) = lst x (l.take (k + 1)) from by rw [lst_step x hu, if_pos he])
              clear hu he
              go_wp2_with fail
              go_quiet (fail)
              go_wp2
              go_roundw
              case rel => exact ⟨k + 1, k, by omega, by go_num, rfl, HT2, hide HJ.out.drewN_⟩
              case measure => simp [intOf]; omega
            · have heq2 : (u == x) = false := by simpa using he
              have HT2 := hide (show t = lst x (l.take (k + 1)) from by rw [lst_step x hu, if_neg he]; exact HT.out)
              clear hu he
              go_wp2_with fail
              go_quiet (fail)
              go_wp2
              go_roundw
              case rel => exact ⟨k + 1, t, by omega, by go_num, rfl, HT2, hide HJ.out.drewN_⟩
              case measure => simp [intOf]; omega
          · obtain rfl : k = N := by omega
            have ht1 : la < t := by rw [HT.out]; exact HLA.out i x (Nat.le_refl _) HX.out
            have ht2 : t ≤ 1000 := by have := lst_lt x (l.take k); rw [List.length_take] at this; have := HT.out; omega
            have hd : decide ((k : Int) < (k : Int)) = false := by simp
            have hd2 : decide (t ≤ la) = false := by simp; omega
            have HD := hide (show decide (x ∈ L) = true from decide_eq_true (List.mem_of_getElem? HX.out))
            have HLA2 := hide (show ∀ (j : Nat) (b : Int), i + 1 ≤ j → L[j]? = some b → t < lst b (l.take k) from fun j b hij hb => by rw [HT.out]; exact HORD.out i j x b HX.out hb (by omega))
            go_wp2_with (first
              | (go_at_call 13; refine (HJ.out.has_ 0 rfl x (HLF.out x (List.mem_of_getElem? HX.out))).mono ?_; rintro _ _ ⟨rfl, rfl⟩; rw [HD.out]))
            go_roundw
            case rel => exact ⟨i + 1, t, by omega, by go_num, rfl, by omega, ht2, HLA2, HJ⟩
            case measure => simp [intOf]; omega
      · obtain rfl : i = NL := by omega
        have hd : decide ((i : Int) < (i : Int)) = false := by simp
        go_wp2_with fail
        go_meet
        exact HS
  obtain ⟨z2, hz2⟩ : ∃ z, z = wc := ⟨_, rfl⟩
  subst hz2
  have HS_z2 := hcut
  clear hcut HORD
  go_upto_block 6 with fail
  go_cut [13, 14, 15] (fun _ _ _ wx => Hid (Sta w wx [rcT m L, ilT (.slice A1 NL c1) L] []))
  case first =>
    go_wp2_with fail
    go_loopw [13, 14, 15] (fun s13 _ _ wr => ∃ k : Nat, k ≤ N ∧ s13 = .int .i64 (k : Int) ∧ Hid (Sta w wr [rcT m L, ilT (.slice A1 NL c1) L] [])) (fun s13 _ _ _ => N - (intOf s13).toNat)
    case atStart => exact ⟨0, Nat.zero_le _, rfl, HS_z2⟩
    case round =>
      obtain ⟨k, hk, rfl, HS⟩ := hrel
      obtain ⟨z, rfl⟩ : ∃ z, z = wr := ⟨_, rfl⟩
      by_cases hkN : k < N
      · obtain ⟨ad, u, rfl, hu, _⟩ := arg_num HR.out HS.out.low (k := k) (by omega)
        have hkk : (k : Int) < (N : Int) := by omega
        have HUX := hide (show u ∈ L from (HMEM.out u).2 (List.mem_of_getElem? (show (l.take N)[k]? = some u by rw [List.getElem?_take, if_pos hkN]; exact hu)))
        have HCU := hide (fun (W : World) (hW : Below w.heap.size w W) => show W.cell? (ad.add k) = some (.int .i64 u) from by
          obtain ⟨ad', u', h1, h2, h3⟩ := arg_num HR.out hW (k := k) (by omega)
          injection h1 with h1
          subst h1
          rw [hu] at h2
          injection h2 with h2
          subst h2
          exact h3)
        clear hu
        go_wp2_with fail
        go_loopw [14, 15] (fun s14 s15 wr => ∃ (i cn : Nat), i ≤ NL ∧ s15 = .int .i64 (i : Int) ∧ s14 = .int .i64 (cn : Int) ∧ cn ≤ i ∧ Hid (cn = cntI u (L.take i)) ∧ Hid (Sta w wr [rcT m L, ilT (.slice A1 NL c1) L] [])) (fun _ s15 _ => NL - (intOf s15).toNat)
        case atStart => exact ⟨0, 0, Nat.zero_le _, rfl, rfl, Nat.le_refl _, hide rfl, HS⟩
        case round =>
          obtain ⟨i, cn, hi, rfl, rfl, hcn, HT, HJ⟩ := hrel
          obtain ⟨y, rfl⟩ : ∃ z, z = wr := ⟨_, rfl⟩
          by_cases hiN : i < NL
          · obtain ⟨x, hx⟩ : ∃ x, L[i]? = some x := ⟨_, List.getElem?_eq_getElem (by rw [HNL.out]; omega)⟩
            obtain ⟨g, rfl, _, hcx⟩ := HJ.out.num 1 rfl hx
            have hcu := HCU.out y HJ.out.low
            have hii : (i : Int) < (NL : Int) := by omega
            by_cases he : x = u
            · have heq2 : (x == u) = true := by simpa using he
              have HT2 := hide (show cn + 1 = cntI u (L.take (i + 1)) from by rw [cntI_step u hx, if_pos he, HT.out])
              clear hx he
              go_wp2_with fail
              go_quiet (fail)
              go_wp2
              go_roundw
              case rel => exact ⟨i + 1, cn + 1, by omega, by go_num, by go_num, by omega, HT2, hide HJ.out.drewN_⟩
              case measure => simp [intOf]; omega
            · have heq2 : (x == u) = false := by simpa using he
              have HT2 := hide (show cn = cntI u (L.take (i + 1)) from by rw [cntI_step u hx, if_neg he]; exact HT.out)
              clear hx he
              go_wp2_with fail
              go_quiet (fail)
              go_wp2
              go_roundw
              case rel => exact ⟨i + 1, cn, by omega, by go_num, rfl, by omega, HT2, hide HJ.out.drewN_⟩
              case measure => simp [intOf]; omega
          · obtain rfl : i = NL := by omega
            obtain rfl : cn = 1 := by rw [HT.out, HTN.out]; exact cntI_one HU.out HUX.out
            have hd : decide ((i : Int) < (i : Int)) = false := by simp
            go_wp2_with fail
            go_roundw
            case rel => exact ⟨k + 1, by omega, by go_num, HJ⟩
            case measure => simp [intOf]; omega
      · obtain rfl : k = N := by omega
        have hd : decide ((k : Int) < (k : Int)) = false := by simp
        go_wp2_with fail
        go_meet
        exact HS
  obtain ⟨z3, hz3⟩ : ∃ z, z = wc := ⟨_, rfl⟩
  subst hz3
  have HS_z3 := hcut
  clear hcut
  go_wp2_with (first
    | (go_at_call 16; refine (HS_y21.out.numbers_ (by have h8 := (HS_y21.out.rds 2 rfl).2; exact h8) (by have h8 := (HS_y21.out.rds 1 rfl).2; exact rd_head h8 hKL) (by omega) (by omega)).mono ?_; rintro _ y22 ⟨rfl, hsq, hlq⟩; rw [show decide (L.take K = L.take K) = true from decide_eq_true rfl]; have HS_y22 : Hid (Sta w y22 [rcT m L, ilT (.slice A1 NL c1) L, ilT (.slice A2 K c2) (L.take K)] []) := hide hsq; clear hsq hlq)
    | ((with_reducible refine at_slot 126 ?_); refine when_gives rfl _ (run_cutI _ _ (.tmp 123) (.tmp 125) rfl A1 NL c1 K rfl rfl (by omega)) ?_)
    | ((with_reducible refine at_slot 118 ?_); refine when_gives rfl (.int .i64 (K : Int)) (by go_simp <;> (first | rfl | (rw [HKM.out]) | (simp [HKM.out]))) ?_)
    | ((with_reducible refine at_slot 117 ?_); refine when_gives rfl (.int .i64 mn) (by go_simp <;> (first | rfl | (rw [HMN.out]) | (simp [HMN.out]))) ?_)
    | (go_at_call 22; refine (HS_y21.out.len_ 0 rfl).mono ?_; rintro _ _ ⟨rfl, rfl⟩; rw [HNL.out])
    | (go_at_call 15; refine (HS_z3.out.oldest_ 0 rfl HLIM.out q (L.take K) HTE.out).mono ?_; rintro _ y21 ⟨A2, c2, rfl, hnA2, hcA2, hsq⟩; rw [HTL.out] at hnA2 hsq ⊢; have HS_y21 : Hid (Sta w y21 [rcT m L, ilT (.slice A1 NL c1) L, ilT (.slice A2 K c2) (L.take K)] []) := hide hsq; clear hsq))
  go_ret
  exact ⟨rfl, HS_y22.out.low⟩
#print axioms recencyOrder_walk
end Go.Proofs.Ythodmhjlokfcaaa
