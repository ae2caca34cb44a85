/- RecencyDrops' walk over the contracts. -/
import Derived.Test.YthodmhjlokfcaaaRcL
import Derived.Test.YthodmhjlokfcaaaArgI
import Derived.Deep.DeepCutAuto
import Derived.Deep.CutBlock
import Derived.Deep.LoopGhost
namespace Go.Proofs.Ythodmhjlokfcaaa
open Go.RowKit Go.Maps
set_option linter.unusedVariables false
theorem wo_take_no {M : List Int} {k : Nat} {x b : Int} (h : M[k]? = some x) (e : x = b) : wo b (M.take (k + 1)) = wo b (M.take k) := wo_step_no h e
theorem add_zero_ (a : Addr) : a.add 0 = a := rfl
set_option maxRecDepth 100000 in
set_option maxHeartbeats 16000000 in
theorem recencyDrops_walk (A : Option Addr) (n c : Nat) (l : List Int) (B : Option Addr) (n2 c2 : Nat) (l2 : List Int) (w : World) (hr : Reads w w.heap.size 1 A n (I64 l)) (hl : ∀ v ∈ l, -9223372036854775808 ≤ v ∧ v ≤ 9223372036854775807) (hnc : n ≤ c) (hcm : c ≤ 9223372036854775807) (hr2 : Reads w w.heap.size 1 B n2 (I64 l2)) (hl2 : ∀ v ∈ l2, -9223372036854775808 ≤ v ∧ v ≤ 9223372036854775807) (hnc2 : n2 ≤ c2) (hcm2 : c2 ≤ 9223372036854775807) :
    Calls Try.prog 5 #[.slice A n c, .slice B n2 c2] w fun e w' => e = .returned (.bool true) ∧ Below w.heap.size w w' := by
  have HS_w : Hid (Sta w w [] []) := hide (Sta.begin w)
  have HSH := hide (shown16_any)
  have HR := hide hr
  have HF := hide (fun v (hv : v ∈ l) => okS (hl v hv).1 (hl v hv).2)
  have heq := run_eql_rc
  have HR2 := hide hr2
  have HF2 := hide (fun v (hv : v ∈ l2) => okS (hl2 v hv).1 (hl2 v hv).2)
  obtain ⟨i0, hi0, hz0, hz1i, hz2i⟩ := info_parts int_parts16
  have HI := hide (And.intro hi0 (And.intro hz0 (And.intro hz1i hz2i)))
  obtain ⟨N, hN⟩ : ∃ N, N = min n 100 := ⟨_, rfl⟩
  have hN1 : N ≤ n := by omega
  have hN2 : N ≤ 100 := by omega
  have hN3 : n ≤ 100 → N = n := by omega
  have hN4 : 100 < n → N = 100 := by omega
  clear hr hl hN hr2 hl2 hi0 hz0 hz1i hz2i
  go_enter Try.func5, Try.ntmps5
  go_upto_block 0 with (first
    | (go_at_call 9; refine (HS_y1.out.mk_).mono ?_; rintro _ y2 ⟨m, rfl, hsq⟩; have HS_y2 : Hid (Sta w y2 [rcT m []] []) := hide hsq; clear hsq)
    | (go_at_call 8; refine (HSH.out _).mono ?_; rintro _ y1 ⟨rfl, hlq⟩; have HS_y1 : Hid (Sta w y1 [] []) := hide (HS_w.out.later hlq); clear hlq))
  go_cut [7] (fun _ wx => Hid (Sta w wx [rcT m (tchs (l.take N))] []))
  case first =>
    go_wp2_with fail
    go_loopw [7] (fun s7 wr => ∃ j : Nat, j ≤ N ∧ s7 = .int .i64 (j : Int) ∧ Hid (Sta w wr [rcT m (tchs (l.take j))] [])) (fun s7 _ => N - (intOf s7).toNat)
    case atStart => exact ⟨0, Nat.zero_le _, rfl, HS_y2⟩
    case round =>
      obtain ⟨j, hj, rfl, HS⟩ := hrel
      obtain ⟨z, rfl⟩ : ∃ z, z = wr := ⟨_, rfl⟩
      by_cases hjN : j < N
      · have hjn : (j : Int) < (n : Int) := by omega
        have hjl : (j : Int) < 100 := by omega
        obtain ⟨ad, x, rfl, hx, hcx⟩ := arg_num HR.out HS.out.low (k := j) (by omega)
        have HX := hide hx
        have HLM := hide (show (tchs (l.take j)).length ≤ 1000000 by have := tchs_take_len l j; omega)
        clear hx
        go_wp2_with (first
          | (go_at_call 20; refine (HS.out.touch_ 0 rfl x (HF.out x (List.mem_of_getElem? HX.out)) HLM.out).mono ?_; rintro _ w3 ⟨rfl, hsq⟩; rw [tchs_step HX.out] at hsq; have HS3 : Hid (Sta w w3 [rcT m (tchs (l.take (j + 1)))] []) := hide hsq; clear hsq))
        go_roundw
        case rel => exact ⟨j + 1, by omega, by go_num, HS3⟩
        case measure => simp [intOf]; omega
      · obtain rfl : j = N := by omega
        by_cases hnl : n ≤ 100
        · have hd : decide ((j : Int) < (n : Int)) = false := by simp; omega
          go_wp2_with fail
          go_meet
          exact HS
        · have hd0 : (j : Int) < (n : Int) := by omega
          have hd : decide ((j : Int) < 100) = false := by simp; omega
          go_wp2_with fail
          go_meet
          exact HS
  obtain ⟨z1, hz1⟩ : ∃ z, z = wc := ⟨_, rfl⟩
  subst hz1
  obtain ⟨L, hL⟩ : ∃ L, tchs (l.take N) = L := ⟨_, rfl⟩
  rw [hL] at hcut
  have hL50 : L.length ≤ 100 := by have := tchs_take_len l N; rw [hL] at this; omega
  have HS_z1 := hcut
  have HU := hide (show L.Nodup by rw [← hL]; exact tchs_nodup _)
  have HLF := hide (HS_z1.out.fits 0 rfl)
  clear hcut
  clear hL hN1 hN2 hN3 hN4 HU HLF
  have HLIM := hide (show L.length ≤ 1000000 by omega)
  obtain ⟨N2, hN⟩ : ∃ N, N = min n2 50 := ⟨_, rfl⟩
  have hM1 : N2 ≤ n2 := by omega
  have hM2 : N2 ≤ 50 := by omega
  have hM3 : n2 ≤ 50 → N2 = n2 := by omega
  have hM4 : 50 < n2 → N2 = 50 := by omega
  clear hN
  go_upto_block 2 with (first
    | (go_at_call 23; refine (HS_z1.out.all_ 0 rfl HLIM.out).mono ?_; rintro _ y1 ⟨A1, c1, rfl, hnA1, hcA1, hsq⟩; have HS_y1 : Hid (Sta w y1 [rcT m L, ilT (.slice A1 L.length c1) L] []) := hide hsq; clear hsq))
  go_cut [8, 9, 10, 11, 12, 13] (fun s8 _ _ _ _ _ wx => ∃ (M : List Int) (A1 : Option Addr) (c1 : Nat), s8 = .slice A1 M.length c1 ∧ M.length ≤ 100 ∧ Hid (Sta w wx [rcT m M, ilT (.slice A1 M.length c1) M] []))
  case first =>
    go_wp2_with fail
    go_loopw [8, 9, 10, 11, 12, 13] (fun s8 s9 _ _ _ _ wr => ∃ (i : Nat) (M : List Int) (A1 : Option Addr) (c1 : Nat), i ≤ N2 ∧ s9 = .int .i64 (i : Int) ∧ s8 = .slice A1 M.length c1 ∧ M.length ≤ 100 ∧ Hid (Sta w wr [rcT m M, ilT (.slice A1 M.length c1) M] [])) (fun _ s9 _ _ _ _ _ => N2 - (intOf s9).toNat)
    case atStart => exact ⟨0, L, A1, c1, Nat.zero_le _, rfl, rfl, hL50, HS_y1⟩
    case round =>
      clear HS_y1 HS_z1 hnA1 hcA1
      obtain ⟨i, M, A1, c1, hi, rfl, rfl, hM50, HS⟩ := hrel
      obtain ⟨z, rfl⟩ : ∃ z, z = wr := ⟨_, rfl⟩
      by_cases hiN : i < N2
      · have hin : (i : Int) < (n2 : Int) := by omega
        have hil : (i : Int) < 50 := by omega
        obtain ⟨ad, b, rfl, hu, _⟩ := arg_num HR2.out HS.out.low (k := i) (by omega)
        have HBF := hide (HF2.out b (List.mem_of_getElem? hu))
        have HCB := hide (fun (W : World) (hW : Below w.heap.size w W) => show W.cell? (ad.add i) = some (.int .i64 b) from by
          obtain ⟨ad', u', h1, h2, h3⟩ := arg_num HR2.out hW (k := i) (by omega)
          injection h1 with h1
          subst h1
          rw [hu] at h2
          injection h2 with h2
          subst h2
          exact h3)
        clear hu
        have HMU := hide (HS.out.uniq 0 rfl)
        obtain ⟨ML, hML⟩ : ∃ x, M.length = x := ⟨_, rfl⟩
        have HML := hide hML
        have hML2 : ML ≤ 100 := by omega
        clear hML
        go_wp2_with fail
        go_loopw [10, 11] (fun sr sk wr => ∃ (k : Nat) (A3 : Option Addr) (c3 : Nat), k ≤ ML ∧ sk = .int .i64 (k : Int) ∧ sr = .slice A3 (wo b (M.take k)).length c3 ∧ Hid (Sta w wr [rcT m M, ilT (.slice A1 M.length c1) M, ilT (.slice A3 (wo b (M.take k)).length c3) (wo b (M.take k))] [])) (fun _ sk _ => ML - (intOf sk).toNat)
        case atStart => exact ⟨0, none, 0, Nat.zero_le _, rfl, rfl, hide HS.out.nilRow⟩
        case round =>
          obtain ⟨k, A3, c3, hk, rfl, rfl, HJ⟩ := hrel
          obtain ⟨y, rfl⟩ : ∃ z, z = wr := ⟨_, rfl⟩
          have hcb := HCB.out y HJ.out.low
          have hle := wo_take_len b M k
          by_cases hkM : k < ML
          · obtain ⟨x, hx⟩ : ∃ x, M[k]? = some x := ⟨_, List.getElem?_eq_getElem (by rw [HML.out]; exact hkM)⟩
            obtain ⟨g, rfl, _, hcx⟩ := HJ.out.num 1 rfl hx
            have HCX := hide (fun (W : World) (q : Nat) (hW : W = y.drewN q) => show W.cell? ⟨g, k, none⟩ = some (.int .i64 x) from by rw [hW]; exact hcx)
            have hkk : (k : Int) < (ML : Int) := by omega
            have hkk2 : (k : Int) < (M.length : Int) := by rw [HML.out]; exact hkk
            have HX := hide hx
            clear hx
            by_cases he : x = b
            · have heq2 : (x != b) = false := by simpa using he
              have HE := hide (wo_step_no HX.out he)
              clear he
              go_wp2_with fail
              go_quiet (fail)
              go_wp2
              go_roundw
              case rel => exact ⟨k + 1, A3, c3, by omega, by go_num, by rw [HE.out], hide (by rw [HE.out]; exact HJ.out.drewN_)⟩
              case measure => simp [intOf]; omega
            · have heq2 : (x != b) = true := by simpa using he
              have HE := hide (wo_step_yes HX.out he)
              have HM := hide (show (wo b (M.take k)).length + 1 ≤ maxLen ∧ ((wo b (M.take k)).length + 1) * 8 ≤ 140737488355328 by simp only [maxLen]; omega)
              clear he
              go_wp2_with fail
              go_quiet (fail)
              obtain ⟨y1, hy1⟩ : ∃ y1, y1 = y.drewN nq := ⟨_, rfl⟩
              have HJ1 : Hid (Sta w y1 [rcT m M, ilT (.slice (some ⟨g, 0, none⟩) M.length c1) M, ilT (.slice A3 (wo b (M.take k)).length c3) (wo b (M.take k))] []) := hide (by rw [hy1]; exact HJ.out.drewN_)
              have hcx1 := HCX.out y1 nq hy1
              try rw [← hy1]
              clear hy1 hcx hcb
              go_wp2_with (first
                | ((with_reducible refine at_slot 69 ?_); refine wpList_append_two _ rfl (.tmp 63) (.tmp 68) 31 rfl 0 3 i0 _ 1 8 Try.underlying31 HI.out.1 HI.out.2.1 HI.out.2.2.1 HI.out.2.2.2 rfl (by decide) (.slice A3 (wo b (M.take k)).length c3) (wo b (M.take k)).length (I64 (wo b (M.take k))) rfl ((HJ1.out.later (((Below.refl _ y1).alloc (Nat.le_refl _) _))).own_ 2 rfl) (y1.heap.size + 1) (some ⟨y1.heap.size, 0, none⟩) 1 1 [.int .i64 x] rfl (Reads.one _ _ _ _ (by omega)) (by intro x hx; simp at hx; subst hx; rfl) HM.out.1 HM.out.2 (Nat.zero_le _) ?_; intro v3 w3 hown3 hg3 hv3; obtain ⟨A4, c4, rfl, _, _⟩ := own_shape hown3; have HS4 : Hid (Sta w w3 [rcT m M, ilT (.slice (some ⟨g, 0, none⟩) M.length c1) M, ilT (.slice A4 ((wo b (M.take k)).length + 1) c4) (wo b (M.take k) ++ [x])] []) := hide ((HJ1.out.later (((Below.refl _ y1).alloc (Nat.le_refl _) _))).rowTo 2 rfl hg3 (v' := .slice A4 ((wo b (M.take k)).length + 1) c4) (l' := wo b (M.take k) ++ [x]) (by rw [List.length_append, I64_append]; exact hown3) hv3); clear hown3 hg3 hv3))
              go_roundw
              case rel => exact ⟨k + 1, A4, c4, by omega, by go_num, by rw [HE.out, List.length_append]; rfl, hide (by rw [HE.out, List.length_append]; exact HS4.out)⟩
              case measure => simp [intOf]; omega
          · obtain rfl : k = ML := by omega
            have e : M.take k = M := List.take_of_length_le (by rw [HML.out]; exact Nat.le_refl _)
            rw [e] at HJ hle ⊢
            have hkk3 : ¬ (k < M.length) := by rw [HML.out]; omega
            clear e
            obtain ⟨t, ht⟩ : ∃ t, decide (b ∈ M) = t := ⟨_, rfl⟩
            have hwl : decide ((wo b M).length < M.length) = t := by
              have h8 := wo_less (b := b) HMU.out
              rw [ht] at h8
              rw [← h8]
              exact decide_eq_decide.2 Int.ofNat_lt.symm
            have HTT := hide ht
            have HNW := hide (show decide (b ∈ wo b M) = false from decide_eq_false (not_mem_wo b M))
            have HWL := hide (show (wo b M).length ≤ 1000000 by omega)
            have HCB2 := HCB
            clear ht
            go_wp2_with (first
              | (go_at_call 16; refine (HS5.out.numbers_ (HS5.out.rds 3 rfl).2 (HS5.out.rds 2 rfl).2 (by omega) (by omega)).mono ?_; rintro _ w6 ⟨rfl, hsq, _⟩; rw [show decide (wo b M = wo b M) = true from decide_eq_true rfl]; have HS6 : Hid (Sta w w6 [rcT m (wo b M), ilT (.slice A3 (wo b M).length c3) (wo b M)] []) := hide (hsq.pick _ (fun i => if i = 0 then 0 else 2) (fun i H e => by match i, e with | 0, e => exact e | 1, e => exact e | (i + 2), e => cases e) (fun i j hi hj e => by match i, j, hi, hj, e with | 0, 0, _, _, _ => rfl | 0, 1, _, _, e => cases e | 1, 0, _, _, e => cases e | 1, 1, _, _, _ => rfl | (i + 2), _, hi, _, _ => exact absurd hi (by simp) | _, (j + 2), _, hj, _ => exact absurd hj (by simp))); clear hsq)
              | (go_at_call 23; refine (HS4.out.all_ 0 rfl HWL.out).mono ?_; rintro _ w5 ⟨A5, c5, rfl, hn5, hc5, hsq⟩; have HS5 : Hid (Sta w w5 [rcT m (wo b M), ilT (.slice A1 M.length c1) M, ilT (.slice A3 (wo b M).length c3) (wo b M), ilT (.slice A5 (wo b M).length c5) (wo b M)] []) := hide hsq; clear hsq)
              | (go_at_call 13; refine (HS4.out.has_ 0 rfl b HBF.out).mono ?_; rintro _ _ ⟨rfl, rfl⟩; rw [HNW.out])
              | (go_at_call 11; refine (HJ.out.drop_ 0 rfl b HBF.out).mono ?_; rintro _ w4 ⟨rfl, hsq⟩; rw [HTT.out]; have HS4 : Hid (Sta w w4 [rcT m (wo b M), ilT (.slice A1 M.length c1) M, ilT (.slice A3 (wo b M).length c3) (wo b M)] []) := hide hsq; have hcb4 := HCB2.out w4 hsq.low; clear hsq))
            go_roundw
            case rel => exact ⟨i + 1, wo b M, A3, c3, by omega, by go_num, rfl, by omega, HS6⟩
            case measure => simp [intOf]; omega
      · obtain rfl : i = N2 := by omega
        by_cases hnl : n2 ≤ 50
        · have hd : decide ((i : Int) < (n2 : Int)) = false := by simp; omega
          go_wp2_with fail
          go_meet
          exact ⟨M, A1, c1, rfl, hM50, HS⟩
        · have hd0 : (i : Int) < (n2 : Int) := by omega
          have hd : decide ((i : Int) < 50) = false := by simp; omega
          go_wp2_with fail
          go_meet
          exact ⟨M, A1, c1, rfl, hM50, HS⟩
  clear HS_y1 HS_z1 hnA1 hcA1 hL50 HLIM
  obtain ⟨M, A1, c1, rfl, hM50, HS_z2⟩ := hcut
  obtain ⟨z2, hz2⟩ : ∃ z, z = wc := ⟨_, rfl⟩
  subst hz2
  have HML2 := hide (show M.length ≤ 1000000 by omega)
  by_cases hn0 : 0 < n2
  · have hnn : (0 : Int) < (n2 : Int) := by omega
    obtain ⟨ad, b, rfl, hu, hcb⟩ := arg_num HR2.out HS_z2.out.low (k := 0) hn0
    have hcb' : z2.cell? ad = some (.int .i64 b) := hcb
    have HBF := hide (HF2.out b (List.mem_of_getElem? hu))
    have HCB := hide (fun (W : World) (hW : Below w.heap.size w W) => show W.cell? ad = some (.int .i64 b) from by
      obtain ⟨ad', u', h1, h2, h3⟩ := arg_num HR2.out hW (k := 0) (by omega)
      injection h1 with h1
      subst h1
      rw [hu] at h2
      injection h2 with h2
      subst h2
      exact h3)
    clear hu
    have HMU := hide (HS_z2.out.uniq 0 rfl)
    obtain ⟨ML, hML⟩ : ∃ x, M.length = x := ⟨_, rfl⟩
    have HML := hide hML
    have hML2 : ML ≤ 100 := by omega
    clear hML
    go_upto_region 28 with (first
      | (go_at_call 20; refine (HS_z2.out.touch_ 0 rfl b HBF.out HML2.out).mono ?_; rintro _ z3 ⟨rfl, hsq⟩; have HS : Hid (Sta w z3 [rcT m (tch b M), ilT (.slice A1 M.length c1) M] []) := hide hsq; clear hsq))
    go_wp2_with fail
    go_loopw [14, 15] (fun sr sk wr => ∃ (k : Nat) (A3 : Option Addr) (c3 : Nat), k ≤ ML ∧ sk = .int .i64 (k : Int) ∧ sr = .slice A3 (wo b (M.take k)).length c3 ∧ Hid (Sta w wr [rcT m (tch b M), ilT (.slice A1 M.length c1) M, ilT (.slice A3 (wo b (M.take k)).length c3) (wo b (M.take k))] [])) (fun _ sk _ => ML - (intOf sk).toNat)
    case atStart => exact ⟨0, none, 0, Nat.zero_le _, rfl, rfl, hide HS.out.nilRow⟩
    case round =>
      obtain ⟨k, A3, c3, hk, rfl, rfl, HJ⟩ := hrel
      obtain ⟨y, rfl⟩ : ∃ z, z = wr := ⟨_, rfl⟩
      have hcb := HCB.out y HJ.out.low
      have hle := wo_take_len b M k
      by_cases hkM : k < ML
      · obtain ⟨x, hx⟩ : ∃ x, M[k]? = some x := ⟨_, List.getElem?_eq_getElem (by rw [HML.out]; exact hkM)⟩
        obtain ⟨g, rfl, _, hcx⟩ := HJ.out.num 1 rfl hx
        have HCX := hide (fun (W : World) (q : Nat) (hW : W = y.drewN q) => show W.cell? ⟨g, k, none⟩ = some (.int .i64 x) from by rw [hW]; exact hcx)
        have hkk : (k : Int) < (ML : Int) := by omega
        have hkk2 : (k : Int) < (M.length : Int) := by rw [HML.out]; exact hkk
        have HX := hide hx
        clear hx
        by_cases he : x = b
        · have heq2 : (x != b) = false := by simpa using he
          have HE := hide (wo_step_no HX.out he)
          clear he
          go_wp2_with fail
          go_quiet (fail)
          go_wp2
          go_roundw
          case rel => exact ⟨k + 1, A3, c3, by omega, by go_num, by rw [HE.out], hide (by rw [HE.out]; exact HJ.out.drewN_)⟩
          case measure => simp [intOf]; omega
        · have heq2 : (x != b) = true := by simpa using he
          have HE := hide (wo_step_yes HX.out he)
          have HM := hide (show (wo b (M.take k)).length + 1 ≤ maxLen ∧ ((wo b (M.take k)).length + 1) * 8 ≤ 140737488355328 by simp only [maxLen]; omega)
          clear he
          go_wp2_with fail
          go_quiet (fail)
          obtain ⟨y1, hy1⟩ : ∃ y1, y1 = y.drewN nq := ⟨_, rfl⟩
          have HJ1 : Hid (Sta w y1 [rcT m (tch b M), ilT (.slice (some ⟨g, 0, none⟩) M.length c1) M, ilT (.slice A3 (wo b (M.take k)).length c3) (wo b (M.take k))] []) := hide (by rw [hy1]; exact HJ.out.drewN_)
          have hcx1 := HCX.out y1 nq hy1
          try rw [← hy1]
          clear hy1 hcx hcb
          go_wp2_with (first
            | ((with_reducible refine at_slot 126 ?_); refine wpList_append_two _ rfl (.tmp 120) (.tmp 125) 31 rfl 0 3 i0 _ 1 8 Try.underlying31 HI.out.1 HI.out.2.1 HI.out.2.2.1 HI.out.2.2.2 rfl (by decide) (.slice A3 (wo b (M.take k)).length c3) (wo b (M.take k)).length (I64 (wo b (M.take k))) rfl ((HJ1.out.later (((Below.refl _ y1).alloc (Nat.le_refl _) _))).own_ 2 rfl) (y1.heap.size + 1) (some ⟨y1.heap.size, 0, none⟩) 1 1 [.int .i64 x] rfl (Reads.one _ _ _ _ (by omega)) (by intro x hx; simp at hx; subst hx; rfl) HM.out.1 HM.out.2 (Nat.zero_le _) ?_; intro v3 w3 hown3 hg3 hv3; obtain ⟨A4, c4, rfl, _, _⟩ := own_shape hown3; have HS4 : Hid (Sta w w3 [rcT m (tch b M), ilT (.slice (some ⟨g, 0, none⟩) M.length c1) M, ilT (.slice A4 ((wo b (M.take k)).length + 1) c4) (wo b (M.take k) ++ [x])] []) := hide ((HJ1.out.later (((Below.refl _ y1).alloc (Nat.le_refl _) _))).rowTo 2 rfl hg3 (v' := .slice A4 ((wo b (M.take k)).length + 1) c4) (l' := wo b (M.take k) ++ [x]) (by rw [List.length_append, I64_append]; exact hown3) hv3); clear hown3 hg3 hv3))
          go_roundw
          case rel => exact ⟨k + 1, A4, c4, by omega, by go_num, by rw [HE.out, List.length_append]; rfl, hide (by rw [HE.out, List.length_append]; exact HS4.out)⟩
          case measure => simp [intOf]; omega
      · obtain rfl : k = ML := by omega
        have e : M.take k = M := List.take_of_length_le (by rw [HML.out]; exact Nat.le_refl _)
        rw [e] at HJ hle ⊢
        have hkk3 : ¬ (k < M.length) := by rw [HML.out]; omega
        clear e
        have HM := hide (show (wo b M).length + 1 ≤ maxLen ∧ ((wo b M).length + 1) * 8 ≤ 140737488355328 by simp only [maxLen]; omega)
        have HTL := hide (show (tch b M).length = (wo b M).length + 1 by unfold tch; rw [List.length_append]; rfl)
        have HTM := hide (show (tch b M).length ≤ 1000000 by rw [HTL.out]; omega)
        go_wp2_with (first
          | (go_at_call 16; refine (HS5.out.numbers_ (HS5.out.rds 2 rfl).2 (HS5.out.rds 1 rfl).2 (by have := HTM.out; omega) (by have := HTM.out; have := HTL.out; omega)).mono ?_; rintro _ w6 ⟨rfl, hsq, _⟩; rw [show decide (tch b M = tch b M) = true from decide_eq_true rfl]; have HS6 := hide hsq.low; clear hsq)
          | (go_at_call 23; refine (HS4.out.all_ 0 rfl HTM.out).mono ?_; rintro _ w5 ⟨A5, c5, rfl, hn5, hc5, hsq⟩; have HS5 : Hid (Sta w w5 [rcT m (tch b M), ilT (.slice A4 ((wo b M).length + 1) c4) (tch b M), ilT (.slice A5 (tch b M).length c5) (tch b M)] []) := hide hsq; clear hsq)
          | ((with_reducible refine at_slot 132 ?_); refine wpList_append_two _ rfl (.tmp 127) (.tmp 131) 31 rfl 0 3 i0 _ 1 8 Try.underlying31 HI.out.1 HI.out.2.1 HI.out.2.2.1 HI.out.2.2.2 rfl (by decide) (.slice A3 (wo b M).length c3) (wo b M).length (I64 (wo b M)) rfl ((HJ.out.later (((Below.refl _ y).alloc (Nat.le_refl _) _))).own_ 2 rfl) (y.heap.size + 1) (some ⟨y.heap.size, 0, none⟩) 1 1 [.int .i64 b] rfl (Reads.one _ _ _ _ (by omega)) (by intro x hx; simp at hx; subst hx; rfl) HM.out.1 HM.out.2 (Nat.zero_le _) ?_; intro v3 w3 hown3 hg3 hv3; obtain ⟨A4, c4, rfl, _, _⟩ := own_shape hown3; have HS4 : Hid (Sta w w3 [rcT m (tch b M), ilT (.slice A4 ((wo b M).length + 1) c4) (tch b M)] []) := hide (((HJ.out.later (((Below.refl _ y).alloc (Nat.le_refl _) _))).rowTo 2 rfl hg3 (v' := .slice A4 ((wo b M).length + 1) c4) (l' := tch b M) (by rw [HTL.out]; unfold tch; rw [I64_append]; exact hown3) hv3).pick _ (fun i => if i = 0 then 0 else 2) (fun i H e => by match i, e with | 0, e => exact e | 1, e => exact e | (i + 2), e => cases e) (fun i j hi hj e => by match i, j, hi, hj, e with | 0, 0, _, _, _ => rfl | 0, 1, _, _, e => cases e | 1, 0, _, _, e => cases e | 1, 1, _, _, _ => rfl | (i + 2), _, hi, _, _ => exact absurd hi (by simp) | _, (j + 2), _, hj, _ => exact absurd hj (by simp))); clear hown3 hg3 hv3))
        go_ret
        exact ⟨rfl, HS6.out⟩
  · have hnn : decide ((0 : Int) < (n2 : Int)) = false := by simp; omega
    go_wp2_with (first
      | (go_at_call 16; refine (HS5.out.numbers_ (HS5.out.rds 2 rfl).2 (HS5.out.rds 1 rfl).2 (by omega) (by omega)).mono ?_; rintro _ w6 ⟨rfl, hsq, _⟩; rw [show decide (M = M) = true from decide_eq_true rfl]; have HS6 := hide hsq.low; clear hsq)
      | (go_at_call 23; refine (HS_z2.out.all_ 0 rfl HML2.out).mono ?_; rintro _ w5 ⟨A5, c5, rfl, hn5, hc5, hsq⟩; have HS5 : Hid (Sta w w5 [rcT m M, ilT (.slice A1 M.length c1) M, ilT (.slice A5 M.length c5) M] []) := hide hsq; clear hsq))
    go_ret
    exact ⟨rfl, HS6.out⟩
#print axioms recencyDrops_walk
end Go.Proofs.Ythodmhjlokfcaaa
