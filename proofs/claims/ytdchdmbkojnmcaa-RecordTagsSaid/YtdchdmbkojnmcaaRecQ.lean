/- The document's answer for record's TagOf: the same tag. -/
import Derived.Test.YtdchdmbkojnmcaaRecT
import Derived.Test.YtdchdmbkojnmcaaRefPG
import Derived.Deep.DeepCutAuto
import Derived.Deep.CutBlock
import Derived.Deep.CutRange
namespace Go.Proofs.Ytdchdmbkojnmcaa
open Go.RowKit

theorem rtag_info : (Try.prog.info? 36).map (·.size) = some 5 := by kernel_rfl
theorem rtag_nought (w : World) : (zeroValue 36).run Try.prog w = .ok (tagV Tg.zero) w := by kernel_rfl
theorem built_rtag (a b c d e : Int) : Try.prog.built 36 [(0, .int .i64 a), (1, .int .i64 b), (2, .int .i64 c), (3, .int .i64 d), (4, .int .i64 e)] = some (tagC ⟨a, b, c, d, e⟩).toArray := by kernel_rfl
theorem built_rtag0 : Try.prog.built 36 [] = some (tagC Tg.zero).toArray := by kernel_rfl
/-- A sector that says right things is a part just if noughts stand behind what it holds. -/
theorem part_zeros {s : List UInt8} (hs : s.length = 64) (hr : rightT (readT s) = true) : partB s = true ↔ ∀ x, 11 + (readT s).len.toNat ≤ x → x < 64 → byteAt s x = 0 := by
  have hl := ((right_iff _).1 hr).2.2.2
  have h0 := (readT_ok s).l0
  rw [partB_eq hr, decide_eq_true_eq, part_iff s hs hl]
  have hL : (readT s).len.toNat ≤ 53 := by omega
  generalize (readT s).len.toNat = L at *
  constructor
  · intro h x h1 h2
    have e : (s.drop (11 + L))[x - (11 + L)]? = some 0 := by
      rw [h, List.getElem?_replicate, if_pos (by omega)]
    rw [List.getElem?_drop, show 11 + L + (x - (11 + L)) = x by omega, byteAt_get s (by omega)] at e
    have h3 := Option.some.inj e
    have h4 := congrArg UInt8.toNat h3
    have h5 := byteAt_lt s x
    simp at h4
    omega
  · intro h
    apply List.ext_getElem?
    intro j
    rw [List.getElem?_drop, List.getElem?_replicate]
    by_cases hj : j < 53 - L
    · rw [if_pos hj, byteAt_get s (by omega), h (11 + L + j) (by omega) (by omega)]
      rfl
    · rw [if_neg hj, List.getElem?_eq_none (by omega)]
theorem part_no_zero {s : List UInt8} {x : Nat} (hs : s.length = 64) (hr : rightT (readT s) = true) (h1 : 11 + (readT s).len.toNat ≤ x) (h2 : x < 64) (h3 : byteAt s x ≠ 0) : partB s = false := by
  rw [Bool.eq_false_iff]
  intro h
  exact h3 ((part_zeros hs hr).1 h x h1 h2)
theorem str_tail (s : List UInt8) (hs : s.length = 64) : (strOf s).extract 4 64 = strOf (s.drop 4) := by
  apply ByteArray.ext
  apply Array.ext'
  rw [Lib.extract_data]
  show (s.drop 4).take 60 = s.drop 4
  rw [List.take_of_length_le (by rw [List.length_drop]; omega)]
theorem right_nat (a b : Int) (p q h : Nat) : rightT ⟨a, b, (p : Nat), (q : Nat), (h : Nat)⟩ = true ↔ q ≤ 40 ∧ p < q ∧ (p + 1 < q → 53 ≤ h) ∧ (p + 1 = q → 1 < q → 1 ≤ h) ∧ h ≤ 53 := by
  rw [right_iff]
  show (q : Int) ≤ 40 ∧ (p : Int) < (q : Int) ∧ (if (p : Int) < (q : Int) - 1 then (53 : Int) else if 1 < (q : Int) then 1 else 0) ≤ (h : Int) ∧ (h : Int) ≤ 53 ↔ _
  by_cases c1 : (p : Int) < (q : Int) - 1
  · rw [if_pos c1]
    omega
  · rw [if_neg c1]
    by_cases c2 : 1 < (q : Int)
    · rw [if_pos c2]
      omega
    · rw [if_neg c2]
      omega
theorem when_bin {P : Program} {ops : Array Oper} {rest : List Oper} {o : Oper} {a : Act} {w : World} {Q : Exit → Act → World → Prop} (hw : Region.wanted o (yielded ops a.tmps) = true) (op : BinOp) (t tr : TypeId) (p q : Operand) (ho : o.op = .binOp op t p q tr) (u v : Value) (hp : a.eval p = u) (hq : a.eval q = v) (hg : (eqGuard op t p q u v).run P w = .ok () w) (r : Value) (hrun : (binOp op t u v).run P w = .ok r w)
    (h : wpList P ops Q rest (a.put o.dst r) w) : wpList P ops Q (o :: rest) a w :=
  when_gives hw r (by
    unfold execOp
    simp only [ho, hp, hq, Sem.run_bind, hg, Result.andThen_ok, hrun, Sem.run_pure]) h
section
variable {P : Program} (w : World) (t : TypeId) (x y : Int) (r : Bool)
theorem run_i64_eq (h : (x == y) = r) : (binOp .eql t (.int .i64 x) (.int .i64 y)).run P w = .ok (.bool r) w := by subst h; simp [binOp, go_sem]
theorem run_i64_ne (h : (x != y) = r) : (binOp .neq t (.int .i64 x) (.int .i64 y)).run P w = .ok (.bool r) w := by subst h; simp [binOp, go_sem]
theorem run_i64_lt (h : decide (x < y) = r) : (binOp .lss t (.int .i64 x) (.int .i64 y)).run P w = .ok (.bool r) w := by subst h; simp [binOp, go_sem]
theorem run_i64_gt (h : decide (y < x) = r) : (binOp .gtr t (.int .i64 x) (.int .i64 y)).run P w = .ok (.bool r) w := by subst h; simp [binOp, go_sem]
theorem run_i64_ge (h : decide (y ≤ x) = r) : (binOp .geq t (.int .i64 x) (.int .i64 y)).run P w = .ok (.bool r) w := by subst h; simp [binOp, go_sem]
end
set_option maxRecDepth 100000 in
set_option maxHeartbeats 4000000 in
theorem refTagOf_any (s : List UInt8) (hs : s.length = 64) (w : World) :
    Calls Try.prog 17 #[.agg (B8 s).toArray] w fun e w' => e = .returned (.tuple #[tagV (tagT s), .bool (partB s)]) ∧ Below w.heap.size w w' := by
  obtain ⟨g1, o1⟩ := getV_four (xs := s) (by omega)
  obtain ⟨g2, o2⟩ := getV_four (xs := s.drop 4) (by rw [List.length_drop]; omega)
  have l8 := byteAt_lt s 8
  have l9 := byteAt_lt s 9
  have l10 := byteAt_lt s 10
  have b8 := byte_at (s := s) (k := 8) (by omega)
  have b9 := byte_at (s := s) (k := 9) (by omega)
  have b10 := byte_at (s := s) (k := 10) (by omega)
  have HG1 := hide (fun (w1 : World) => refGet_any (strOf s) 4 w1 (by rw [strOf_size]; omega))
  have HG2 := hide (fun (w1 : World) => refGet_any (strOf (s.drop 4)) 4 w1 (by rw [strOf_size, List.length_drop]; omega))
  rw [chars_strOf, g1, o1] at HG1
  rw [chars_strOf, g2, o2] at HG2
  have hx := str_tail s hs
  have hsz : (strOf s).size = 64 := by rw [strOf_size, hs]
  have hRT : readT s = ⟨(num (s.take 4) : Nat), (num ((s.drop 4).take 4) : Nat), (byteAt s 8 : Nat), (byteAt s 9 : Nat), (byteAt s 10 : Nat)⟩ := rfl
  generalize num (s.take 4) = v1 at *
  generalize num ((s.drop 4).take 4) = v2 at *
  generalize s.drop 4 = s4 at *
  have H8 := hide b8
  have H9 := hide b9
  have H10 := hide b10
  clear g1 o1 g2 o2 b8 b9 b10
  generalize hp8 : byteAt s 8 = p at *
  generalize hp9 : byteAt s 9 = q at *
  generalize hp10 : byteAt s 10 = h at *
  have HRT := hide hRT
  have HS := hide hs
  have HBA := hide (fun (j : Nat) (hj : j < 64) => byte_at (s := s) (k := j) (by omega))
  have HBL := hide (byteAt_lt s)
  obtain ⟨lst, hls⟩ : ∃ b : Bool, ((p : Int) == (q : Int) - 1) = b := ⟨_, rfl⟩
  have HLS := hide hls
  clear hp8 hp9 hp10 hRT hs hls
  go_enter Try.func17, Try.ntmps17
  go_wp2_with (first
    | ((with_reducible refine at_slot 1 ?_); refine wpList_box_blk rfl 35 _ rfl (.agg (B8 s).toArray) rfl ?_; intro w1 hb1q hl1 hs1; have hzb := hb1q.lt; clear hs1; have hb1 : Blk w1 w.heap.size 35 (B8 s).toArray := hb1q; clear hb1q)
    | ((with_reducible refine at_slot 2 ?_); refine wpList_alloc_blk rfl 36 rfl _ (rtag_nought _) ?_; intro w2 hb2q hl2 hs2; clear hs2; have hb2 : Blk w2 w1.heap.size 36 (tagC Tg.zero).toArray := hb2q; clear hb2q; have hb12 := hb1.below hl2 hzb; have y8 := (hb12.cell 8).trans H8.out; have y9 := (hb12.cell 9).trans H9.out; have y10 := (hb12.cell 10).trans H10.out; have hcv : (convert 22 9 (.slice (some ⟨w.heap.size, 0, none⟩) 64 64)).run Try.prog w2 = .ok (.string (strOf s)) w2 := (run_conv_reads (P := Try.prog) _ 22 5 9 Try.underlying22 Try.underlying5 Try.underlying9 _ _ 64 64 s (by have h := hb12.reads (B := w2.heap.size) (off := 0) (n := 64) hb12.lt (by rw [HS.out]); rwa [List.drop_zero] at h)); have HB1 := hide hb12; have HB2 := hide hb2; have HL2 := hide (hl1.trans (hl2.mono (by omega))); clear hb1 hb2 hl1 hl2 hb12))
  have hz2 := HB2.out.lt
  refine (HG1.out _).mono ?_
  rintro _ w' ⟨rfl, rfl⟩
  go_wp2_with fail
  refine (HG2.out _).mono ?_
  rintro _ w' ⟨rfl, rfl⟩
  go_upto_region 6 with (first
    | ((with_reducible refine at_slot 36 ?_); refine wpList_build_is rfl 36 _ rfl _ rfl _ (built_rtag _ _ _ _ _) ?_)
    | ((with_reducible refine at_slot 9 ?_); refine wpList_alloc_blk rfl 36 rfl _ (rtag_nought _) ?_; intro w4 hb4q hl4 hs4; clear hs4; have hb4 : Blk w4 w2.heap.size 36 (tagC Tg.zero).toArray := hb4q; clear hb4q)
    | ((with_reducible refine at_store 9 ?_); refine wpList_store_all rfl 36 (.tmp 9) (.tmp 36) rfl w2.heap.size 36 _ hb4 rfl (tagC ⟨(v1 : Nat), (v2 : Nat), (p : Nat), (q : Nat), (h : Nat)⟩) rfl rtag_info rfl (tagC_one _) ?_; intro w5 hb5 hg5 hs5; clear hs5; have hl25 : Below w2.heap.size w2 w5 := hl4.grown hg5 hl4.size (fun g e => by injection e with e; omega); have x2 := tag_c2 hb5; have x3 := tag_c3 hb5; have x4 := tag_c4 hb5; have HB5 := hide hb5; have HB15 := hide (HB1.out.below hl25 HB1.out.lt); have HB25 := hide (HB2.out.below hl25 hz2); have HL5 := hide (HL2.out.trans (hl25.mono HL2.out.size)); clear hb4 hl4 hb5 hg5 hl25 y8 y9 y10 hcv)
    | ((with_reducible refine at_slot 42 ?_); refine when_bin rfl .eql 3 3 (.tmp 38) (.tmp 41) rfl (.int .i64 (p : Int)) (.int .i64 ((q : Int) - 1)) rfl rfl rfl (.bool lst) (run_i64_eq _ _ _ _ _ HLS.out) ?_))
  have HX2 := hide x2
  have HX3 := hide x3
  go_cut [84] (fun sv wx => w5 = wx ∧ sv = .bool (!rightT ⟨(v1 : Nat), (v2 : Nat), (p : Nat), (q : Nat), (h : Nat)⟩))
  case first =>
    by_cases c1 : q < 1
    · have F45 := hide (show decide ((q : Int) < 1) = true by simp; omega)
      have hR : rightT ⟨(v1 : Nat), (v2 : Nat), (p : Nat), (q : Nat), (h : Nat)⟩ = false := Bool.eq_false_iff.2 (fun hr => by have := (right_nat _ _ p q h).1 hr; omega)
      have HRR := hide hR
      clear hR
      clear c1
      go_wp2_with (first
        | ((with_reducible refine at_slot 45 ?_); refine when_bin rfl .lss 3 3 (.tmp 44) (.const (.int .i64 1)) rfl (.int .i64 (q : Int)) (.int .i64 1) rfl rfl rfl (.bool true) (run_i64_lt _ _ _ _ _ F45.out) ?_))
      go_meet
      case rel => exact ⟨rfl, by rw [HRR.out]; rfl⟩
    · by_cases c2 : 40 < q
      · have F45 := hide (show decide ((q : Int) < 1) = false by simp; omega)
        have F49 := hide (show decide ((40 : Int) < (q : Int)) = true by simp; omega)
        have hR : rightT ⟨(v1 : Nat), (v2 : Nat), (p : Nat), (q : Nat), (h : Nat)⟩ = false := Bool.eq_false_iff.2 (fun hr => by have := (right_nat _ _ p q h).1 hr; omega)
        have HRR := hide hR
        clear hR
        clear c1 c2
        go_wp2_with (first
          | ((with_reducible refine at_slot 45 ?_); refine when_bin rfl .lss 3 3 (.tmp 44) (.const (.int .i64 1)) rfl (.int .i64 (q : Int)) (.int .i64 1) rfl rfl rfl (.bool false) (run_i64_lt _ _ _ _ _ F45.out) ?_)
          | ((with_reducible refine at_slot 49 ?_); refine when_bin rfl .gtr 3 3 (.tmp 48) (.const (.int .i64 40)) rfl (.int .i64 (q : Int)) (.int .i64 40) rfl rfl rfl (.bool true) (run_i64_gt _ _ _ _ _ F49.out) ?_))
        go_meet
        case rel => exact ⟨rfl, by rw [HRR.out]; rfl⟩
      · by_cases c3 : q ≤ p
        · have F45 := hide (show decide ((q : Int) < 1) = false by simp; omega)
          have F49 := hide (show decide ((40 : Int) < (q : Int)) = false by simp; omega)
          have F56 := hide (show decide ((q : Int) ≤ (p : Int)) = true by simp; omega)
          have hR : rightT ⟨(v1 : Nat), (v2 : Nat), (p : Nat), (q : Nat), (h : Nat)⟩ = false := Bool.eq_false_iff.2 (fun hr => by have := (right_nat _ _ p q h).1 hr; omega)
          have HRR := hide hR
          clear hR
          clear c1 c2 c3
          go_wp2_with (first
            | ((with_reducible refine at_slot 45 ?_); refine when_bin rfl .lss 3 3 (.tmp 44) (.const (.int .i64 1)) rfl (.int .i64 (q : Int)) (.int .i64 1) rfl rfl rfl (.bool false) (run_i64_lt _ _ _ _ _ F45.out) ?_)
            | ((with_reducible refine at_slot 49 ?_); refine when_bin rfl .gtr 3 3 (.tmp 48) (.const (.int .i64 40)) rfl (.int .i64 (q : Int)) (.int .i64 40) rfl rfl rfl (.bool false) (run_i64_gt _ _ _ _ _ F49.out) ?_)
            | ((with_reducible refine at_slot 56 ?_); refine when_bin rfl .geq 3 3 (.tmp 53) (.tmp 55) rfl (.int .i64 (p : Int)) (.int .i64 (q : Int)) rfl rfl rfl (.bool true) (run_i64_ge _ _ _ _ _ F56.out) ?_))
          go_meet
          case rel => exact ⟨rfl, by rw [HRR.out]; rfl⟩
        · by_cases c4 : 53 < h
          · have F45 := hide (show decide ((q : Int) < 1) = false by simp; omega)
            have F49 := hide (show decide ((40 : Int) < (q : Int)) = false by simp; omega)
            have F56 := hide (show decide ((q : Int) ≤ (p : Int)) = false by simp; omega)
            have F61 := hide (show decide ((53 : Int) < (h : Int)) = true by simp; omega)
            have hR : rightT ⟨(v1 : Nat), (v2 : Nat), (p : Nat), (q : Nat), (h : Nat)⟩ = false := Bool.eq_false_iff.2 (fun hr => by have := (right_nat _ _ p q h).1 hr; omega)
            have HRR := hide hR
            clear hR
            clear c1 c2 c3 c4
            go_wp2_with (first
              | ((with_reducible refine at_slot 45 ?_); refine when_bin rfl .lss 3 3 (.tmp 44) (.const (.int .i64 1)) rfl (.int .i64 (q : Int)) (.int .i64 1) rfl rfl rfl (.bool false) (run_i64_lt _ _ _ _ _ F45.out) ?_)
              | ((with_reducible refine at_slot 49 ?_); refine when_bin rfl .gtr 3 3 (.tmp 48) (.const (.int .i64 40)) rfl (.int .i64 (q : Int)) (.int .i64 40) rfl rfl rfl (.bool false) (run_i64_gt _ _ _ _ _ F49.out) ?_)
              | ((with_reducible refine at_slot 56 ?_); refine when_bin rfl .geq 3 3 (.tmp 53) (.tmp 55) rfl (.int .i64 (p : Int)) (.int .i64 (q : Int)) rfl rfl rfl (.bool false) (run_i64_ge _ _ _ _ _ F56.out) ?_)
              | ((with_reducible refine at_slot 61 ?_); refine when_bin rfl .gtr 3 3 (.tmp 60) (.const (.int .i64 53)) rfl (.int .i64 (h : Int)) (.int .i64 53) rfl rfl rfl (.bool true) (run_i64_gt _ _ _ _ _ F61.out) ?_))
            go_meet
            case rel => exact ⟨rfl, by rw [HRR.out]; rfl⟩
          · by_cases c5 : p + 1 = q
            · by_cases c6 : 1 < q
              · by_cases c7 : h = 0
                · have F45 := hide (show decide ((q : Int) < 1) = false by simp; omega)
                  have F49 := hide (show decide ((40 : Int) < (q : Int)) = false by simp; omega)
                  have F56 := hide (show decide ((q : Int) ≤ (p : Int)) = false by simp; omega)
                  have F61 := hide (show decide ((53 : Int) < (h : Int)) = false by simp; omega)
                  obtain rfl : lst = true := HLS.out.symm.trans (by simp; omega)
                  have F77 := hide (show decide ((1 : Int) < (q : Int)) = true by simp; omega)
                  have F82 := hide (show ((h : Int) == 0) = true by simp; omega)
                  have hR : rightT ⟨(v1 : Nat), (v2 : Nat), (p : Nat), (q : Nat), (h : Nat)⟩ = false := Bool.eq_false_iff.2 (fun hr => by have := (right_nat _ _ p q h).1 hr; omega)
                  have HRR := hide hR
                  clear hR
                  clear c1 c2 c3 c4 c5 c6 c7
                  go_wp2_with (first
                    | ((with_reducible refine at_slot 45 ?_); refine when_bin rfl .lss 3 3 (.tmp 44) (.const (.int .i64 1)) rfl (.int .i64 (q : Int)) (.int .i64 1) rfl rfl rfl (.bool false) (run_i64_lt _ _ _ _ _ F45.out) ?_)
                    | ((with_reducible refine at_slot 49 ?_); refine when_bin rfl .gtr 3 3 (.tmp 48) (.const (.int .i64 40)) rfl (.int .i64 (q : Int)) (.int .i64 40) rfl rfl rfl (.bool false) (run_i64_gt _ _ _ _ _ F49.out) ?_)
                    | ((with_reducible refine at_slot 56 ?_); refine when_bin rfl .geq 3 3 (.tmp 53) (.tmp 55) rfl (.int .i64 (p : Int)) (.int .i64 (q : Int)) rfl rfl rfl (.bool false) (run_i64_ge _ _ _ _ _ F56.out) ?_)
                    | ((with_reducible refine at_slot 61 ?_); refine when_bin rfl .gtr 3 3 (.tmp 60) (.const (.int .i64 53)) rfl (.int .i64 (h : Int)) (.int .i64 53) rfl rfl rfl (.bool false) (run_i64_gt _ _ _ _ _ F61.out) ?_)
                    | ((with_reducible refine at_slot 77 ?_); refine when_bin rfl .gtr 3 3 (.tmp 76) (.const (.int .i64 1)) rfl (.int .i64 (q : Int)) (.int .i64 1) rfl rfl rfl (.bool true) (run_i64_gt _ _ _ _ _ F77.out) ?_)
                    | ((with_reducible refine at_slot 82 ?_); refine when_bin rfl .eql 3 3 (.tmp 81) (.const (.int .i64 0)) rfl (.int .i64 (h : Int)) (.int .i64 0) rfl rfl rfl (.bool true) (run_i64_eq _ _ _ _ _ F82.out) ?_))
                  go_meet
                  case rel => exact ⟨rfl, by rw [HRR.out]; rfl⟩
                · have F45 := hide (show decide ((q : Int) < 1) = false by simp; omega)
                  have F49 := hide (show decide ((40 : Int) < (q : Int)) = false by simp; omega)
                  have F56 := hide (show decide ((q : Int) ≤ (p : Int)) = false by simp; omega)
                  have F61 := hide (show decide ((53 : Int) < (h : Int)) = false by simp; omega)
                  obtain rfl : lst = true := HLS.out.symm.trans (by simp; omega)
                  have F77 := hide (show decide ((1 : Int) < (q : Int)) = true by simp; omega)
                  have F82 := hide (show ((h : Int) == 0) = false by simp; omega)
                  have hR : rightT ⟨(v1 : Nat), (v2 : Nat), (p : Nat), (q : Nat), (h : Nat)⟩ = true := (right_nat _ _ p q h).2 (by omega)
                  have HRR := hide hR
                  clear hR
                  clear c1 c2 c3 c4 c5 c6 c7
                  go_wp2_with (first
                    | ((with_reducible refine at_slot 45 ?_); refine when_bin rfl .lss 3 3 (.tmp 44) (.const (.int .i64 1)) rfl (.int .i64 (q : Int)) (.int .i64 1) rfl rfl rfl (.bool false) (run_i64_lt _ _ _ _ _ F45.out) ?_)
                    | ((with_reducible refine at_slot 49 ?_); refine when_bin rfl .gtr 3 3 (.tmp 48) (.const (.int .i64 40)) rfl (.int .i64 (q : Int)) (.int .i64 40) rfl rfl rfl (.bool false) (run_i64_gt _ _ _ _ _ F49.out) ?_)
                    | ((with_reducible refine at_slot 56 ?_); refine when_bin rfl .geq 3 3 (.tmp 53) (.tmp 55) rfl (.int .i64 (p : Int)) (.int .i64 (q : Int)) rfl rfl rfl (.bool false) (run_i64_ge _ _ _ _ _ F56.out) ?_)
                    | ((with_reducible refine at_slot 61 ?_); refine when_bin rfl .gtr 3 3 (.tmp 60) (.const (.int .i64 53)) rfl (.int .i64 (h : Int)) (.int .i64 53) rfl rfl rfl (.bool false) (run_i64_gt _ _ _ _ _ F61.out) ?_)
                    | ((with_reducible refine at_slot 77 ?_); refine when_bin rfl .gtr 3 3 (.tmp 76) (.const (.int .i64 1)) rfl (.int .i64 (q : Int)) (.int .i64 1) rfl rfl rfl (.bool true) (run_i64_gt _ _ _ _ _ F77.out) ?_)
                    | ((with_reducible refine at_slot 82 ?_); refine when_bin rfl .eql 3 3 (.tmp 81) (.const (.int .i64 0)) rfl (.int .i64 (h : Int)) (.int .i64 0) rfl rfl rfl (.bool false) (run_i64_eq _ _ _ _ _ F82.out) ?_))
                  go_meet
                  case rel => exact ⟨rfl, by rw [HRR.out]; rfl⟩
              · have F45 := hide (show decide ((q : Int) < 1) = false by simp; omega)
                have F49 := hide (show decide ((40 : Int) < (q : Int)) = false by simp; omega)
                have F56 := hide (show decide ((q : Int) ≤ (p : Int)) = false by simp; omega)
                have F61 := hide (show decide ((53 : Int) < (h : Int)) = false by simp; omega)
                obtain rfl : lst = true := HLS.out.symm.trans (by simp; omega)
                have F77 := hide (show decide ((1 : Int) < (q : Int)) = false by simp; omega)
                have hR : rightT ⟨(v1 : Nat), (v2 : Nat), (p : Nat), (q : Nat), (h : Nat)⟩ = true := (right_nat _ _ p q h).2 (by omega)
                have HRR := hide hR
                clear hR
                clear c1 c2 c3 c4 c5 c6
                go_wp2_with (first
                  | ((with_reducible refine at_slot 45 ?_); refine when_bin rfl .lss 3 3 (.tmp 44) (.const (.int .i64 1)) rfl (.int .i64 (q : Int)) (.int .i64 1) rfl rfl rfl (.bool false) (run_i64_lt _ _ _ _ _ F45.out) ?_)
                  | ((with_reducible refine at_slot 49 ?_); refine when_bin rfl .gtr 3 3 (.tmp 48) (.const (.int .i64 40)) rfl (.int .i64 (q : Int)) (.int .i64 40) rfl rfl rfl (.bool false) (run_i64_gt _ _ _ _ _ F49.out) ?_)
                  | ((with_reducible refine at_slot 56 ?_); refine when_bin rfl .geq 3 3 (.tmp 53) (.tmp 55) rfl (.int .i64 (p : Int)) (.int .i64 (q : Int)) rfl rfl rfl (.bool false) (run_i64_ge _ _ _ _ _ F56.out) ?_)
                  | ((with_reducible refine at_slot 61 ?_); refine when_bin rfl .gtr 3 3 (.tmp 60) (.const (.int .i64 53)) rfl (.int .i64 (h : Int)) (.int .i64 53) rfl rfl rfl (.bool false) (run_i64_gt _ _ _ _ _ F61.out) ?_)
                  | ((with_reducible refine at_slot 77 ?_); refine when_bin rfl .gtr 3 3 (.tmp 76) (.const (.int .i64 1)) rfl (.int .i64 (q : Int)) (.int .i64 1) rfl rfl rfl (.bool false) (run_i64_gt _ _ _ _ _ F77.out) ?_))
                go_meet
                case rel => exact ⟨rfl, by rw [HRR.out]; rfl⟩
            · by_cases c6 : h = 53
              · have F45 := hide (show decide ((q : Int) < 1) = false by simp; omega)
                have F49 := hide (show decide ((40 : Int) < (q : Int)) = false by simp; omega)
                have F56 := hide (show decide ((q : Int) ≤ (p : Int)) = false by simp; omega)
                have F61 := hide (show decide ((53 : Int) < (h : Int)) = false by simp; omega)
                obtain rfl : lst = false := HLS.out.symm.trans (by simp; omega)
                have F69 := hide (show ((h : Int) != 53) = false by simp; omega)
                have hR : rightT ⟨(v1 : Nat), (v2 : Nat), (p : Nat), (q : Nat), (h : Nat)⟩ = true := (right_nat _ _ p q h).2 (by omega)
                have HRR := hide hR
                clear hR
                clear c1 c2 c3 c4 c5 c6
                go_wp2_with (first
                  | ((with_reducible refine at_slot 45 ?_); refine when_bin rfl .lss 3 3 (.tmp 44) (.const (.int .i64 1)) rfl (.int .i64 (q : Int)) (.int .i64 1) rfl rfl rfl (.bool false) (run_i64_lt _ _ _ _ _ F45.out) ?_)
                  | ((with_reducible refine at_slot 49 ?_); refine when_bin rfl .gtr 3 3 (.tmp 48) (.const (.int .i64 40)) rfl (.int .i64 (q : Int)) (.int .i64 40) rfl rfl rfl (.bool false) (run_i64_gt _ _ _ _ _ F49.out) ?_)
                  | ((with_reducible refine at_slot 56 ?_); refine when_bin rfl .geq 3 3 (.tmp 53) (.tmp 55) rfl (.int .i64 (p : Int)) (.int .i64 (q : Int)) rfl rfl rfl (.bool false) (run_i64_ge _ _ _ _ _ F56.out) ?_)
                  | ((with_reducible refine at_slot 61 ?_); refine when_bin rfl .gtr 3 3 (.tmp 60) (.const (.int .i64 53)) rfl (.int .i64 (h : Int)) (.int .i64 53) rfl rfl rfl (.bool false) (run_i64_gt _ _ _ _ _ F61.out) ?_)
                  | ((with_reducible refine at_slot 69 ?_); refine when_bin rfl .neq 3 3 (.tmp 68) (.const (.int .i64 53)) rfl (.int .i64 (h : Int)) (.int .i64 53) rfl rfl rfl (.bool false) (run_i64_ne _ _ _ _ _ F69.out) ?_))
                go_meet
                case rel => exact ⟨rfl, by rw [HRR.out]; rfl⟩
              · have F45 := hide (show decide ((q : Int) < 1) = false by simp; omega)
                have F49 := hide (show decide ((40 : Int) < (q : Int)) = false by simp; omega)
                have F56 := hide (show decide ((q : Int) ≤ (p : Int)) = false by simp; omega)
                have F61 := hide (show decide ((53 : Int) < (h : Int)) = false by simp; omega)
                obtain rfl : lst = false := HLS.out.symm.trans (by simp; omega)
                have F69 := hide (show ((h : Int) != 53) = true by simp; omega)
                have hR : rightT ⟨(v1 : Nat), (v2 : Nat), (p : Nat), (q : Nat), (h : Nat)⟩ = false := Bool.eq_false_iff.2 (fun hr => by have := (right_nat _ _ p q h).1 hr; omega)
                have HRR := hide hR
                clear hR
                clear c1 c2 c3 c4 c5 c6
                go_wp2_with (first
                  | ((with_reducible refine at_slot 45 ?_); refine when_bin rfl .lss 3 3 (.tmp 44) (.const (.int .i64 1)) rfl (.int .i64 (q : Int)) (.int .i64 1) rfl rfl rfl (.bool false) (run_i64_lt _ _ _ _ _ F45.out) ?_)
                  | ((with_reducible refine at_slot 49 ?_); refine when_bin rfl .gtr 3 3 (.tmp 48) (.const (.int .i64 40)) rfl (.int .i64 (q : Int)) (.int .i64 40) rfl rfl rfl (.bool false) (run_i64_gt _ _ _ _ _ F49.out) ?_)
                  | ((with_reducible refine at_slot 56 ?_); refine when_bin rfl .geq 3 3 (.tmp 53) (.tmp 55) rfl (.int .i64 (p : Int)) (.int .i64 (q : Int)) rfl rfl rfl (.bool false) (run_i64_ge _ _ _ _ _ F56.out) ?_)
                  | ((with_reducible refine at_slot 61 ?_); refine when_bin rfl .gtr 3 3 (.tmp 60) (.const (.int .i64 53)) rfl (.int .i64 (h : Int)) (.int .i64 53) rfl rfl rfl (.bool false) (run_i64_gt _ _ _ _ _ F61.out) ?_)
                  | ((with_reducible refine at_slot 69 ?_); refine when_bin rfl .neq 3 3 (.tmp 68) (.const (.int .i64 53)) rfl (.int .i64 (h : Int)) (.int .i64 53) rfl rfl rfl (.bool true) (run_i64_ne _ _ _ _ _ F69.out) ?_))
                go_meet
                case rel => exact ⟨rfl, by rw [HRR.out]; rfl⟩
  case rest =>
    obtain ⟨rfl, rfl⟩ := hcut
    rw [← HRT.out]
    cases hR : rightT (readT s) with
    | false =>
      have HPB := hide (show partB s = false by rw [partB, hR]; rfl)
      clear hR
      go_wp2_with (first
        | ((with_reducible refine at_slot 85 ?_); refine wpList_build_is rfl 36 #[] rfl [] (by simp) (tagC Tg.zero).toArray built_rtag0 ?_)
        | ((with_reducible refine at_store 2 ?_); refine wpList_store_all rfl 36 (.tmp 2) (.tmp 85) rfl w1.heap.size 36 _ HB25.out rfl (tagC Tg.zero) rfl rtag_info rfl (tagC_one _) ?_; intro w9 hb9 hg9 hs9; clear hs9))
      exact ret_cell_tmp rfl w1.heap.size 36 (tagC Tg.zero) _ hb9 rfl Try.underlying36 rfl rtag_info (.bool false) rfl rfl ⟨by rw [HPB.out, tagT_no HPB.out]; rfl, HL5.out.grown hg9 HL5.out.size (fun g e => by injection e with e; have := HL2.out.size; omega)⟩
    | true =>
      have HRR := hide hR
      have hlen : (readT s).len.toNat = h := by rw [HRT.out]; rfl
      have h53 : h ≤ 53 := by
        have := ((right_iff _).1 hR).2.2.2
        rw [HRT.out] at this
        have e : (h : Int) ≤ 53 := this
        omega
      have HPN := hide (fun (x : Nat) (h1 : 11 + h ≤ x) (h2 : x < 64) (h3 : byteAt s x ≠ 0) => part_no_zero HS.out hR (by rw [hlen]; exact h1) h2 h3)
      have HPY := hide (fun (hz : ∀ x, 11 + h ≤ x → x < 64 → byteAt s x = 0) => (part_zeros HS.out hR).2 (by rw [hlen]; exact hz))
      clear hR hlen x2 x3
      go_wp2_with fail
      go_loopw [11] (fun i wr => ∃ j : Nat, 11 + h ≤ j ∧ j ≤ 64 ∧ i = .int .i64 j ∧ wr = w5 ∧ Hid (∀ x, 11 + h ≤ x → x < j → byteAt s x = 0)) (fun i _ => 64 - (intOf i).toNat)
      case atStart => exact ⟨11 + h, Nat.le_refl _, by omega, by simp, rfl, hide (fun x h1 h2 => by omega)⟩
      case round =>
        obtain ⟨j, hj1, hj2, rfl, rfl, HZ⟩ := hrel
        by_cases hj : j < 64
        · have hjb := HBL.out j
          have yj : wr.cell? ⟨w.heap.size, j, none⟩ = some (.int .u8 (byteAt s j : Nat)) := (HB15.out.cell j).trans (HBA.out j hj)
          obtain ⟨z, hz⟩ : ∃ z, z = byteAt s j := ⟨_, rfl⟩
          rw [← hz] at hjb yj
          by_cases hz0 : z = 0
          · subst hz0
            have HZ2 := hide (fun (x : Nat) (h1 : 11 + h ≤ x) (h2 : x < j + 1) => (by
              by_cases e : x < j
              · exact HZ.out x h1 e
              · obtain rfl : x = j := by omega
                exact hz.symm : byteAt s x = 0))
            clear hz
            go_wp2
            go_roundw
            case rel => exact ⟨j + 1, by omega, by omega, by go_num, trivial, HZ2⟩
            case measure => simp [intOf]; omega
          · have hne : ((z : Int) != 0) = true := by simp; omega
            have HPB := hide (HPN.out j hj1 hj (by rw [← hz]; exact hz0))
            clear hz hz0
            go_wp2_with (first
              | ((with_reducible refine at_slot 97 ?_); refine wpList_build_is rfl 36 #[] rfl [] (by simp) (tagC Tg.zero).toArray built_rtag0 ?_)
              | ((with_reducible refine at_store 2 ?_); refine wpList_store_all rfl 36 (.tmp 2) (.tmp 97) rfl w1.heap.size 36 _ HB25.out rfl (tagC Tg.zero) rfl rtag_info rfl (tagC_one _) ?_; intro w9 hb9 hg9 hs9; clear hs9))
            exact ret_cell_tmp rfl w1.heap.size 36 (tagC Tg.zero) _ hb9 rfl Try.underlying36 rfl rtag_info (.bool false) rfl rfl ⟨by rw [HPB.out, tagT_no HPB.out]; rfl, HL5.out.grown hg9 HL5.out.size (fun g e => by injection e with e; have := HL2.out.size; omega)⟩
        · obtain rfl : j = 64 := by omega
          have HPB := hide (HPY.out (fun x h1 h2 => HZ.out x h1 h2))
          go_wp2_with (first
            | ((with_reducible refine at_slot 98 ?_); refine wpList_load_blk rfl 36 (.tmp 9) rfl w2.heap.size 0 36 _ HB5.out rfl (tagC ⟨(v1 : Nat), (v2 : Nat), (p : Nat), (q : Nat), (h : Nat)⟩) _ (fun j v hj => by rw [Nat.zero_add]; simpa using hj) Try.underlying36 rfl rtag_info ?_)
            | ((with_reducible refine at_store 2 ?_); refine wpList_store_all rfl 36 (.tmp 2) (.tmp 98) rfl w1.heap.size 36 _ HB25.out rfl (tagC ⟨(v1 : Nat), (v2 : Nat), (p : Nat), (q : Nat), (h : Nat)⟩) rfl rtag_info rfl (tagC_one _) ?_; intro w9 hb9 hg9 hs9; clear hs9))
          exact ret_cell_tmp rfl w1.heap.size 36 (tagC ⟨(v1 : Nat), (v2 : Nat), (p : Nat), (q : Nat), (h : Nat)⟩) _ hb9 rfl Try.underlying36 rfl rtag_info (.bool true) rfl rfl ⟨by rw [HPB.out, tagT_yes HPB.out, HRT.out]; rfl, HL5.out.grown hg9 HL5.out.size (fun g e => by injection e with e; have := HL2.out.size; omega)⟩
#print axioms refTagOf_any
end Go.Proofs.Ytdchdmbkojnmcaa
