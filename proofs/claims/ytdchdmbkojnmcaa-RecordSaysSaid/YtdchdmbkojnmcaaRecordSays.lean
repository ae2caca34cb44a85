/- RecordSays holds: for all bytes (their first 2120) and any generation and number below 2^32, each sector that Split makes is a part that says which it is, and holds fifty-three bytes, the last one what is left; no condition. -/
import Derived.Test.YtdchdmbkojnmcaaRecL
import Derived.Test.YtdchdmbkojnmcaaArg
import Derived.Test.YtdchdmbkojnmcaaRows
import Derived.Deep.DeepCutAuto
import Derived.Deep.CutBlock
import Derived.Deep.CutRange
import Derived.Deep.QuietTactic
import Derived.BigQuiet
namespace Go.Proofs.Ytdchdmbkojnmcaa.RecordSays
open Go.ChangeShapes Go.WideShapes Go.ChangeAt Go.RowKit Go.Proofs.Ytdchdmbkojnmcaa

theorem quiet_when {P : Program} {ops : Array Oper} {C : World → Prop} {Q : Act → Prop} {o : Oper} {rest : List Oper} {a : Act} (hw : Region.wanted o (yielded ops a.tmps) = true) (v : Value)
    (hrun : ∀ w, C w → (execOp a.eval o).run P w = .ok (.value v) w) (h : wpQuiet P ops C Q rest (a.put o.dst v)) : wpQuiet P ops C Q (o :: rest) a := by
  unfold wpQuiet
  rw [if_pos hw]
  exact ⟨v, fun w hC => by unfold Oper.quietAt; rw [hrun w hC]; exact ⟨rfl, rfl⟩, h⟩
theorem quiet_conv {P : Program} {ops : Array Oper} {C : World → Prop} {Q : Act → Prop} {o : Oper} {rest : List Oper} {a : Act} (hw : Region.wanted o (yielded ops a.tmps) = true) (s d : TypeId) (x : Operand) (ho : o.op = .convert s d x)
    (v u : Value) (hx : a.eval x = u) (hrun : ∀ w, C w → (convert s d u).run P w = .ok v w) (h : wpQuiet P ops C Q rest (a.put o.dst v)) : wpQuiet P ops C Q (o :: rest) a :=
  quiet_when hw v (fun w hC => by
    unfold execOp
    simp only [ho, hx, Sem.run_bind, hrun w hC, Result.andThen_ok, Sem.run_pure]) h
/-- How many bytes the first k parts hold. -/
theorem upto {n N k : Nat} (h1 : n ≤ 53 * N) (h2 : N = 1 ∨ 53 * (N - 1) < n) (hk : k < N) : 53 * k ≤ n := by
  rcases h2 with rfl | h2
  · omega
  · have : 53 * k ≤ 53 * (N - 1) := Nat.mul_le_mul_left _ (by omega)
    omega
set_option maxRecDepth 100000 in
set_option maxHeartbeats 4000000 in
theorem walk (gen nr : Int) (A : Option Addr) (n c : Nat) (l : List UInt8) (w : World) (_g1 : -9223372036854775808 ≤ gen) (_g2 : gen ≤ 9223372036854775807) (_n1 : -9223372036854775808 ≤ nr) (_n2 : nr ≤ 9223372036854775807) (hr : Reads w w.heap.size 1 A n (B8 l)) (hc : n ≤ c) (hc2 : c ≤ 9223372036854775807) :
    Calls Try.prog 8 #[.int .i64 gen, .int .i64 nr, .slice A n c] w fun e w' => e = .returned (.bool true) ∧ Below w.heap.size w w' := by
  have HS := hide (shown_any w)
  have HR := hide hr
  have hm1 := mask32 gen
  have hm2 := mask32 nr
  have HN1 := hide (num_mod gen)
  have HN2 := hide (num_mod nr)
  clear hr
  generalize gen % 4294967296 = G at *
  generalize nr % 4294967296 = R at *
  go_enter Try.func8, Try.ntmps8
  go_upto_region 2 with (go_at_call 10; refine HS.out.mono ?_; rintro _ w1 ⟨rfl, hl1⟩)
  go_cut [2] (fun v2 wx => w1 = wx ∧ ∃ m : Nat, m ≤ n ∧ m ≤ 2120 ∧ v2 = .slice A m c)
  case first =>
    by_cases hmn : (n : Int) ≤ 2120
    · go_wp2_with fail
      go_meet
      case rel => exact ⟨rfl, n, Nat.le_refl _, by omega, rfl⟩
    · go_wp2_with fail
      go_meet
      case rel => exact ⟨rfl, 2120, by omega, by omega, rfl⟩
  case rest =>
    obtain ⟨rfl, m, hmn, hm21, rfl⟩ := hcut
    have HL1 := hide hl1
    have hh := HR.out.head (k := m) hmn
    rw [Nat.mul_one, B8_take] at hh
    obtain ⟨b, hb⟩ : ∃ b, b = l.take m := ⟨_, rfl⟩
    rw [← hb] at hh
    have hbl : b.length = m := by have := hh.1; rw [B8_length] at this; omega
    have HRB := hide hh
    have hpn := partsN_is (n := b.length) (by omega)
    have hp40 := partsN_le b.length
    obtain ⟨N, hN⟩ : ∃ N, N = partsN b.length := ⟨_, rfl⟩
    have HNN := hide hN
    rw [← hN] at hpn hp40
    rw [hbl] at hpn
    obtain ⟨hp1, hp2, hp3⟩ := hpn
    have HBL := hide hbl
    have HP3 := hide hp3
    clear hh hb hl1 hN hbl hp3
    have HSP1 := hide (fun (w' : World) (hb : Below w.heap.size w w') => recSplit_any G R A m c b w.heap.size w' (HRB.out.below hb) hb.size (by omega) hc2 HN1.out HN2.out)
    rw [← HNN.out] at HSP1
    have hSL := split_length G R b
    rw [← HNN.out] at hSL
    obtain ⟨S, hS⟩ : ∃ S, S = splitT G R b := ⟨_, rfl⟩
    rw [← hS] at HSP1 hSL
    have HS1 := hide hS
    have HSL := hide hSL
    clear hS hSL
    go_wp2_with fail
    refine (HSP1.out _ HL1.out).mono ?_
    rintro _ w2 ⟨g, rfl, hg1, hb1, hl2⟩
    have HB1 := hide hb1
    have HL2 := hide (HL1.out.trans (hl2.mono HL1.out.size))
    have hx1 := hb1.lt
    clear hb1 hl2 hg1
    go_wp2_with fail
    go_loopw [9, 10] (fun a i wr => ∃ k : Nat, k ≤ N ∧ i = .int .i64 k ∧ a = .int .i64 ((Nat.min (53 * k) m : Nat) : Int) ∧ Hid (Below w2.heap.size w2 wr)) (fun _ i _ => N - (intOf i).toNat)
    case atStart => exact ⟨0, Nat.zero_le _, rfl, by simp, hide (Below.refl _ _)⟩
    case round =>
      obtain ⟨k, hk, rfl, rfl, HL⟩ := hrel
      by_cases hkn : k < N
      · have h53 := upto hp2 HP3.out hkn
        obtain ⟨a, ham⟩ : ∃ a, a = Nat.min (53 * k) m := ⟨_, rfl⟩
        rw [← ham]
        have HA := hide (show a = 53 * k by rw [ham]; exact Nat.min_eq_left h53)
        clear ham
        have hkb : k < partsN b.length := by rw [← HNN.out]; exact hkn
        have hhl := heldT_length b k
        rw [HBL.out] at hhl
        obtain ⟨h, hh⟩ : ∃ h, h = (heldT b k).length := ⟨_, rfl⟩
        rw [← hh] at hhl
        have hPT : pieceT G R b k = ⟨G, R, (k : Nat), (N : Nat), (h : Nat)⟩ := by rw [pieceT, ← HNN.out, ← hh]
        obtain ⟨X, hX⟩ : ∃ X, X = secAt S k := ⟨_, rfl⟩
        have hXl : X.length = 64 := by rw [hX]; exact secAt_length HSL.out hkn
        have hXP : X = pieceS G R b k := by rw [hX, HS1.out]; exact split_at G R b hkb
        have hXp : partB X = true := by rw [hXP]; exact piece_part HN1.out HN2.out hkb
        have hXr : readT X = ⟨G, R, (k : Nat), (N : Nat), (h : Nat)⟩ := by rw [hXP, piece_read HN1.out HN2.out hkb, hPT]
        have hXc : (X.drop 11).take h = heldT b k := by
          have e := piece_cont HN1.out HN2.out hkb
          rw [← hXP, hXr, contT] at e
          simpa using e
        have HT := hide (tagOf_any X hXl)
        rw [tagT_yes hXp, hXp, hXr] at HT
        have HXI := hide (fun (j : Nat) (v : Value) (hv : (B8 X)[j]? = some v) => (by rw [hX] at hv; exact sec_in j v hv : (B8 S).toArray[k * 64 + j]? = some v))
        obtain ⟨U, hU⟩ : ∃ U, U = B8 X := ⟨_, rfl⟩
        have HIU := hide (show (Try.prog.info? 35).map (·.size) = some U.length by rw [hU, B8_length, hXl]; kernel_rfl)
        have HB := hide (HB1.out.below HL.out hx1)
        have hxr := HB.out.lt
        -- what the sector holds, and the window of the bytes
        have hRX : ∀ W : World, Blk W g 35 (B8 S).toArray → Reads W W.heap.size 1 (some ⟨g, k * 64 + 11, none⟩) h (B8 (heldT b k)) := by
          intro W hW
          have h1 := hW.reads (B := W.heap.size) (off := k * 64 + 11) (n := S.length - (k * 64 + 11)) hW.lt (by rw [HSL.out]; omega)
          have h2 := h1.head (k := h) (by rw [HSL.out]; omega)
          rw [Nat.mul_one, B8_take] at h2
          have e : (S.drop (k * 64 + 11)).take h = heldT b k := by
            rw [← hXc, hX, secAt, List.drop_take, List.drop_drop, List.take_take]
            congr 1
            omega
          rwa [e] at h2
        have hRB : ∀ W : World, Below w.heap.size w W → Reads W w.heap.size 1 (if c = 53 * k then A else A.map (·.add (53 * k))) h (B8 (heldT b k)) := by
          intro W hW
          have h1 := (HRB.out.below hW).window (c := c) (lo := 53 * k) (k := h) (by omega) (by omega)
          have e : (b.drop (53 * k)).take h = heldT b k := by
            rw [heldT, hhl]
            rcases Nat.le_total 53 (m - 53 * k) with h2 | h2
            · rw [Nat.min_eq_left h2]
            · rw [Nat.min_eq_right h2, List.take_of_length_le (by rw [List.length_drop, HBL.out]; omega), List.take_of_length_le (by rw [List.length_drop, HBL.out]; omega)]
          rwa [e] at h1
        have HRX := hide hRX
        have HRBW := hide hRB
        have HHL := hide hhl
        have HXN := hide (show Nat.min (53 * (k + 1)) m = 53 * k + h by
          rw [hhl]
          simp only [Nat.min_def]
          split <;> split <;> omega)
        rw [← hU] at HT HXI
        clear hX hXl hXP hXp hXr hXc hPT hU hRX hRB hhl hh hkb
        go_wp2_with (first
          | ((with_reducible refine at_slot 37 ?_); refine wpList_load_blk rfl 35 (.tmp 36) rfl g (k * 64) 35 _ HB.out rfl U _ HXI.out Try.underlying35 rfl HIU.out ?_))
        refine (HT.out wr).mono ?_
        rintro _ w4 ⟨rfl, hl4⟩
        have hx4 := hl4.size
        have HL4 := hide (HL.out.trans (hl4.mono HL.out.size))
        have HB4 := hide (HB.out.below hl4 hxr)
        clear hl4 HB
        go_wp2_with (first
          | ((with_reducible refine at_slot 11 ?_); refine wpList_alloc_blk rfl 31 rfl _ (tag_nought _) ?_; intro w5 hb5q hl5 hs5; clear hs5; have hb5 : Blk w5 w4.heap.size 31 (tagC Tg.zero).toArray := hb5q; clear hb5q)
          | ((with_reducible refine at_store 11 ?_); refine wpList_store_all rfl 31 (.tmp 11) (.tmp 39) rfl w4.heap.size 31 _ hb5 rfl (tagC ⟨G, R, (k : Nat), (N : Nat), (h : Nat)⟩) rfl tag_info rfl (tagC_one _) ?_; intro w6 hb6 hg6 hs6; clear hs6))
        have hl46 : Below w4.heap.size w4 w6 := hl5.grown hg6 hl5.size (fun g e => by injection e with e; omega)
        have y0 := tag_c0 hb6
        have y1 := tag_c1 hb6
        have y2 := tag_c2 hb6
        have y3 := tag_c3 hb6
        have y4 := tag_c4 hb6
        have HL6 := hide (HL4.out.trans (hl46.mono HL4.out.size))
        have HB6 := hide (HB4.out.below hl46 (by omega))
        have HLW := hide (HL2.out.trans (HL6.out.mono HL2.out.size))
        clear hb5 hl5 hb6 hg6 hl46 HB4 HL4
        have hm0 : h = min 53 (m - 53 * k) := HHL.out
        have hk63 : k * 64 + 64 ≤ N * 64 := by omega
        rw [← HA.out] at h53 hm0 HRBW HXN
        have q1 : (11 : Int) ≤ 11 + (h : Int) := by omega
        have q2 : (11 : Int) + (h : Int) ≤ 64 := by omega
        have q3 : ((11 : Int) + (h : Int)).toNat = 11 + h := by omega
        have q4 : (a : Int) ≤ (a : Int) + (h : Int) := by omega
        have q5 : (a : Int) + (h : Int) ≤ (c : Int) := by omega
        have q6 : ((a : Int) + (h : Int)).toNat = a + h := by omega
        have q7 : a + h - a = h := by omega
        have HC1 := hide (fun (W : World) (hW : ∃ q, W = w6.drewN q) => run_conv_reads (P := Try.prog) W 22 5 9 Try.underlying22 Try.underlying5 Try.underlying9 _ (some ⟨g, k * 64 + 11, none⟩) h 53 _ (by obtain ⟨q, rfl⟩ := hW; exact (HRX.out w6 HB6.out).drewN q))
        have HC2 := hide (fun (W : World) (hW : ∃ q, W = w6.drewN q) => run_conv_reads (P := Try.prog) W 22 5 9 Try.underlying22 Try.underlying5 Try.underlying9 _ (if c = a then A else A.map (·.add a)) h (c - a) _ (by obtain ⟨q, rfl⟩ := hW; exact (HRBW.out w6 HLW.out).drewN q))
        generalize heldT b k = Y at *
        by_cases hca : c = a
        · subst hca
          rw [if_pos rfl] at HC2
          obtain rfl : m = c := by omega
          obtain rfl : h = 0 := by omega
          have e0 : ¬ ((53 : Int) ≤ (m : Int) - (m : Int)) := by omega
          rw [Nat.sub_self] at HC2
          clear hm0
          go_wp2_with fail
          refine wp_region_quiet_lit (by kernel_rfl) (by kernel_rfl) ?_
          iterate 45 (go_big_quiet_step (fail))
          refine quiet_conv (by rfl) 22 9 (.tmp 85) rfl _ _ rfl HC1.out ?_
          simp only [Act.put, List.setIfInBounds_toArray, List.set_cons_succ, List.set_cons_zero]
          iterate 7 (go_big_quiet_step (fail))
          refine quiet_conv (by rfl) 22 9 (.tmp 93) rfl _ _ ?_ HC2.out ?_
          · simp [Act.eval]
          simp only [Act.put, List.setIfInBounds_toArray, List.set_cons_succ, List.set_cons_zero]
          iterate 2 (go_big_quiet_step (fail))
          refine wpQuiet_nil ?_
          rintro w7 ⟨q7, rfl⟩
          have HL7 := hide (below_drewN HL6.out q7)
          go_wp2
          go_roundw
          case rel => exact ⟨k + 1, by omega, by go_num, by rw [HXN.out]; simp, HL7⟩
          case measure => simp [intOf]; omega
        · rw [if_neg hca] at HC2
          by_cases hmm : 53 ≤ m - a
          · obtain rfl : h = 53 := by omega
            have e1 : (53 : Int) ≤ (m : Int) - (a : Int) := by omega
            clear hm0 hmm
            go_wp2_with fail
            refine wp_region_quiet_lit (by kernel_rfl) (by kernel_rfl) ?_
            iterate 45 (go_big_quiet_step (fail))
            refine quiet_conv (by rfl) 22 9 (.tmp 85) rfl _ _ rfl HC1.out ?_
            simp only [Act.put, List.setIfInBounds_toArray, List.set_cons_succ, List.set_cons_zero]
            iterate 7 (go_big_quiet_step (fail))
            refine quiet_conv (by rfl) 22 9 (.tmp 93) rfl _ _ ?_ HC2.out ?_
            · simp [Act.eval]
            simp only [Act.put, List.setIfInBounds_toArray, List.set_cons_succ, List.set_cons_zero]
            iterate 2 (go_big_quiet_step (fail))
            refine wpQuiet_nil ?_
            rintro w7 ⟨q7, rfl⟩
            have HL7 := hide (below_drewN HL6.out q7)
            go_wp2
            go_roundw
            case rel => exact ⟨k + 1, by omega, by go_num, by rw [HXN.out]; simp, HL7⟩
            case measure => simp [intOf]; omega
          · have e1 : ¬ ((53 : Int) ≤ (m : Int) - (a : Int)) := by omega
            have e2 : (m : Int) - (a : Int) = (h : Int) := by omega
            clear hm0 hmm
            go_wp2_with fail
            refine wp_region_quiet_lit (by kernel_rfl) (by kernel_rfl) ?_
            iterate 45 (go_big_quiet_step (fail))
            refine quiet_conv (by rfl) 22 9 (.tmp 85) rfl _ _ rfl HC1.out ?_
            simp only [Act.put, List.setIfInBounds_toArray, List.set_cons_succ, List.set_cons_zero]
            iterate 7 (go_big_quiet_step (fail))
            refine quiet_conv (by rfl) 22 9 (.tmp 93) rfl _ _ ?_ HC2.out ?_
            · simp [Act.eval]
            simp only [Act.put, List.setIfInBounds_toArray, List.set_cons_succ, List.set_cons_zero]
            iterate 2 (go_big_quiet_step (fail))
            refine wpQuiet_nil ?_
            rintro w7 ⟨q7, rfl⟩
            have HL7 := hide (below_drewN HL6.out q7)
            go_wp2
            go_roundw
            case rel => exact ⟨k + 1, by omega, by go_num, by rw [HXN.out]; simp, HL7⟩
            case measure => simp [intOf]; omega
      · obtain rfl : k = N := by omega
        have hmin : Nat.min (53 * k) m = m := Nat.min_eq_right (by omega)
        rw [hmin]
        have hdk : decide (0 < k) = true := by simp; omega
        have HE := hide (HL2.out.trans (HL.out.mono HL2.out.size))
        clear hmin
        go_wp2
        go_ret
        exact ⟨rfl, HE.out⟩

/-! The row's frame, by program: how the walk above proves the statement. -/
set_option maxRecDepth 100000 in
theorem lifted (os : Os) (started : os.Started) (H : Type) (enc : TypeId × Value → H) :
    ReturnsInHanded {} Try.checked os 8 .any (Rows.recordSaysSpec.pre6 enc Try.prog Try.f8 Rows.recordSaysRow.domain false) (Rows.recordSaysSpec.post enc Try.prog Try.f8 false true false false) := by
  refine returnsInHanded_of_change (C := Try.checked) own started (by kernel_rfl) Try.func8
    (ChangeSpec.witness6 (enc := enc) (C := Try.checked) false ⟨#[], #[.int .i64 0, .int .i64 0, .slice none 0 0], []⟩ 8 (by kernel_rfl) (by kernel_rfl) (by kernel_rfl) (by kernel_rfl)) ?_
  intro W base args ds gs before hval0 hW hcnd _
  have hval : ∀ (j : Nat) t v, Try.f8.params[j]? = some t → args[j]? = some v → Value.okWide Try.prog W .any base t v := hval0
  have hW' := hW
  obtain ⟨p, q, hA0, hV, rfl, hfz, hnd⟩ := hW
  have hA : DataW.TrodAll enc Try.prog W 0 (fun _ => true) true Try.f8.params.toList args.toList ds p := hA0
  rw [Try.params8] at hA hval
  obtain ⟨v0, vs0, d0, ds0, p0, q0, hargs, rfl, rfl, h0, r0⟩ := trodAll_cons hA
  obtain ⟨v1, vs1, d1, ds1, p1, q1, rfl, rfl, rfl, h1, r1⟩ := trodAll_cons r0
  obtain ⟨v2, vs2, d2, ds2, p2, q2, rfl, rfl, rfl, h2, r2⟩ := trodAll_cons r1
  obtain ⟨rfl, rfl, rfl⟩ := trodAll_nil r2
  obtain rfl : args = #[v0, v1, v2] := by cases args; simp_all
  obtain ⟨rfl, rfl⟩ := trodVars_none hV
  obtain ⟨a0, rfl, rfl, rfl, w0⟩ := open_int Try.underlying3 (hval 0 3 v0 rfl rfl) h0
  have b0 := bounds_i64 w0
  obtain ⟨a1, rfl, rfl, rfl, w1⟩ := open_int Try.underlying3 (hval 1 3 v1 rfl rfl) h1
  have b1 := bounds_i64 w1
  obtain ⟨A2, n2, c2, rfl⟩ := okWide_slice Try.underlying22 (hval 2 22 v2 rfl rfl)
  have k2 := h2
  have lt2 : ∀ x ∈ p2, x.block < W.heap.size := by obtain ⟨m, hm⟩ := k2; exact DataW.trod_lt m _ _ _ hm
  obtain ⟨l2, x2, g2, z2⟩ := arg_bytes h2
  clear hA0 hval0
  refine (walk a0 a1 A2 n2 c2 l2 W b0.1 b0.2 b1.1 b1.2 x2 g2 z2).mono fun e W' ⟨he, bel⟩ => ?_
  subst he
  exact ⟨_, rfl, _, _, _, [], _, [], hW', trodAll_mk1 (shut_bool Try.underlying4 _), (trodAll_cons_mk (shut_int Try.underlying3 w0) (trodAll_cons_mk (shut_int Try.underlying3 w1) (trodAll_cons_mk (Below.trod laidOut (by kernel_rfl) (of_decide_eq_true (by kernel_rfl)) k2 bel lt2) trodAll_mk0))), rfl, bel.frame _, fun h => by cases h⟩

theorem over : Rows.recordSaysRow.holds Try.pinned (OpenSpec.ofChange Rows.recordSaysSpec) :=
  OpenClaim.holds_of_wide 8 Try.f8 rfl rfl rfl rfl rfl rfl rfl ⟨rfl, rfl, rfl, rfl, rfl⟩ rfl rfl rfl rfl rfl (by kernel_rfl) Try.func8 (by kernel_rfl)
    (of_decide_eq_true (by kernel_rfl)) (by unfold Func.isWrapper; first | (rw [if_pos (by decide +kernel)]; kernel_rfl) | (rw [if_neg (by decide +kernel)]; exact ⟨rfl, rfl⟩))
    (fun os started H enc _ => lifted os started H enc)

/-- The statement. -/
theorem proved : Rows.RecordSaysSaid := over
#print axioms proved
end Go.Proofs.Ytdchdmbkojnmcaa.RecordSays
