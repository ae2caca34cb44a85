/- The document's answer for record's Join, over strings: the same bytes. -/
import Derived.Test.YtdchdmbkojnmcaaRecQ
import Derived.Test.YtdchdmbkojnmcaaRecJ
import Derived.Deep.QuietTactic
import Derived.BigQuiet
namespace Go.Proofs.Ytdchdmbkojnmcaa
open Go.RowKit

theorem quiet_when {P : Program} {ops : Array Oper} {C : World → Prop} {Q : Act → Prop} {o : Oper} {rest : List Oper} {a : Act} (hw : Region.wanted o (yielded ops a.tmps) = true) (v : Value)
    (hrun : ∀ w, C w → (execOp a.eval o).run P w = .ok (.value v) w) (h : wpQuiet P ops C Q rest (a.put o.dst v)) : wpQuiet P ops C Q (o :: rest) a := by
  unfold wpQuiet
  rw [if_pos hw]
  exact ⟨v, fun w hC => by unfold Oper.quietAt; rw [hrun w hC]; exact ⟨rfl, rfl⟩, h⟩
theorem quiet_conv {P : Program} {ops : Array Oper} {C : World → Prop} {Q : Act → Prop} {o : Oper} {rest : List Oper} {a : Act} (hw : Region.wanted o (yielded ops a.tmps) = true) (s d : TypeId) (x : Operand) (ho : o.op = .convert s d x)
    (v u : Value) (hx : a.eval x = u) (hrun : ∀ w, C w → (convert s d u).run P w = .ok v w) (h : wpQuiet P ops C Q rest (a.put o.dst v)) : wpQuiet P ops C Q (o :: rest) a :=
  quiet_when hw v (fun w hC => by
    unfold execOp
    simp only [ho, hx, Sem.run_bind, hrun w hC, Result.andThen_ok, Sem.run_pure]) h
theorem quiet_add {P : Program} {ops : Array Oper} {C : World → Prop} {Q : Act → Prop} {o : Oper} {rest : List Oper} {a : Act} (hw : Region.wanted o (yielded ops a.tmps) = true) (t tr : TypeId) (p q : Operand) (ho : o.op = .binOp .add t p q tr) (x y : List UInt8) (hp : a.eval p = .string (strOf x)) (hq : a.eval q = .string (strOf y)) (hl : x.length + y.length ≤ 1000000)
    (h : wpQuiet P ops C Q rest (a.put o.dst (.string (strOf (x ++ y))))) : wpQuiet P ops C Q (o :: rest) a :=
  quiet_when hw (.string (strOf (x ++ y))) (fun w _ => by
    have hrun := run_string_add_sum (P := P) w (strOf x) (strOf y) (by rw [strOf_size, strOf_size]; omega)
    rw [str_join, chars_strOf] at hrun
    unfold execOp
    simp [ho, hp, hq, binOp, eqGuard, hrun, Result.andThen]) h
theorem add_eleven (X : Addr) : X.add 11 = ⟨X.block, X.off + 11, none⟩ := rfl
/-- What a sector holds, wherever the sector lies. -/
theorem reads_cont {w : World} {X : Addr} {s : List UInt8} {L : Nat} (h : ∀ (j : Nat) v, (B8 s)[j]? = some v → w.cell? (X.add j) = some v) (hs : s.length = 64) (hL : L ≤ 53) : Reads w (X.block + 1) 1 (some (X.add 11)) L (B8 ((s.drop 11).take L)) := by
  refine ⟨by rw [B8_length, List.length_take, List.length_drop, hs]; omega, fun _ => ⟨_, rfl, by rw [block_of_add]; omega, fun j u hu => ?_⟩⟩
  rw [add_of_add]
  refine h _ u ?_
  rw [← B8_take, ← B8_drop, List.getElem?_take] at hu
  split at hu
  · rw [List.getElem?_drop] at hu
    exact hu
  · cases hu
set_option maxRecDepth 100000 in
set_option maxHeartbeats 4000000 in
theorem refJoin_any (gen nr : Int) (A : Option Addr) (n c : Nat) (bs : List UInt8) (B0 : Nat) (w : World) (hr : Reads w B0 64 A n (B8 bs)) (hB0 : B0 ≤ w.heap.size) (hn : n ≤ 9223372036854775807) :
    Calls Try.prog 19 #[.int .i64 gen, .int .i64 nr, .slice A n c] w fun e w' => e = .returned (.tuple #[.string (strOf (joinL gen nr n bs)), .bool (joinB gen nr n bs)]) ∧ Below w.heap.size w w' := by
  have hlb : bs.length = n * 64 := by have := hr.1; rwa [B8_length] at this
  have HR := hide hr
  have LB := hide hlb
  clear hr hlb
  go_enter Try.func19, Try.ntmps19
  go_wp2
  go_loopw [8, 9] (fun sv i wr => ∃ (k : Nat) (T : List UInt8), k ≤ n ∧ i = .int .i64 k ∧ sv = .string (strOf T) ∧ T.length ≤ 2120 ∧ Hid (T = cat (contAt bs) k) ∧ Hid (AllOk gen nr n bs k) ∧ Hid (Below w.heap.size w wr)) (fun _ i _ => n - (intOf i).toNat)
  case atStart => exact ⟨0, [], Nat.zero_le _, rfl, rfl, by simp, hide rfl, hide AllOk.zero, hide (Below.refl _ _)⟩
  case round =>
    obtain ⟨k, T, hk, rfl, rfl, hT, HTC, HA, HL⟩ := hrel
    by_cases hkn : k < n
    · obtain ⟨ad, rfl, hab, hca⟩ := (HR.out.below (HL.out.mono hB0)).sec_at hkn
      have hsa := secAt_length LB.out hkn
      obtain ⟨X, hX⟩ : ∃ X, X = secAt bs k := ⟨_, rfl⟩
      rw [← hX] at hca hsa
      have HX := hide hX
      obtain ⟨U, hU⟩ : ∃ U, U = B8 X := ⟨_, rfl⟩
      have HT := hide (refTagOf_any X hsa)
      have HC0 := hide hca
      rw [← hU] at hca HT
      have HC := hide hca
      have HIU := hide (show (Try.prog.info? 35).map (·.size) = some U.length by rw [hU, B8_length, hsa]; kernel_rfl)
      have HSA := hide hsa
      have hblk : (ad.add (k * 64)).block = ad.block := block_of_add _ _
      have HBK := hide hblk
      clear hX hca hsa hU hblk
      cases hp : partB X with
      | false =>
        have hno : okT gen nr n k X = false := ok_nopart hp
        rw [hp, tagT_no hp] at HT
        have HN := hide (join_no (gen := gen) (nr := nr) (n := n) hkn (by rw [← HX.out]; exact hno))
        have HJE := hide (joinL_no HN.out)
        clear hp hno
        go_wp2_with (first
          | ((with_reducible refine at_slot 22 ?_); refine wpList_load_at rfl 35 (.tmp 21) rfl _ rfl U _ HC.out Try.underlying35 rfl HIU.out ?_))
        refine (HT.out wr).mono ?_
        rintro _ w3 ⟨rfl, hl3⟩
        have hx3 := hl3.size
        have HL3 := hide (HL.out.trans (hl3.mono HL.out.size))
        have HB3 := hide hl3
        clear hl3
        go_wp2_with (first
          | ((with_reducible refine at_slot 10 ?_); refine wpList_alloc_blk rfl 36 rfl _ (rtag_nought _) ?_; intro w4 hb4q hl4 hs4; clear hs4; have hb4 : Blk w4 w3.heap.size 36 (tagC Tg.zero).toArray := hb4q; clear hb4q)
          | ((with_reducible refine at_store 10 ?_); refine wpList_store_all rfl 36 (.tmp 10) (.tmp 24) rfl w3.heap.size 36 _ hb4 rfl (tagC Tg.zero) rfl rtag_info rfl (tagC_one _) ?_; intro w5 hb5 hg5 hs5; clear hs5; have hl35 : Below w3.heap.size w3 w5 := hl4.grown hg5 hl4.size (fun g e => by injection e with e; omega); have HL5 := hide (HL3.out.trans (hl35.mono HL3.out.size)); have HB5 := hide (HB3.out.trans (hl35.mono HB3.out.size)); have x0 := tag_c0 hb5; have x1 := tag_c1 hb5; have x2 := tag_c2 hb5; have x3 := tag_c3 hb5; have x4 := tag_c4 hb5; clear hb4 hl4 hb5 hg5 hl35))
        go_ret2
        exact ⟨by rw [HN.out, HJE.out]; rfl, HL5.out⟩
      | true =>
        have htl := ((right_iff _).1 (part_right hp)).2.2.2
        have hto := readT_ok X
        have hok := fun (h : (readT X).gen = gen ∧ (readT X).nr = nr ∧ (readT X).part = k ∧ (readT X).parts = n) => (show okT gen nr n k X = true by rw [okT, hp, decide_eq_true h]; rfl)
        rw [hp, tagT_yes hp] at HT
        obtain ⟨t, ht⟩ : ∃ t, t = readT X := ⟨_, rfl⟩
        rw [← ht] at HT htl hto hok
        have HTQ := hide ht
        have HTO := hide hto
        have HTL := hide htl
        have HOK := hide hok
        clear hp hto htl hok ht
        by_cases hc0 : t.gen = gen
        · by_cases hc1 : t.nr = nr
          · by_cases hc2 : t.part = (k : Int)
            · by_cases hc3 : t.parts = (n : Int)
              · have Fg := hide (show (t.gen != gen) = false by simp; exact hc0)
                have Fn := hide (show (t.nr != nr) = false by simp; exact hc1)
                have Fp := hide (show (t.part != (k : Int)) = false by simp; exact hc2)
                have Fq := hide (show (t.parts != (n : Int)) = false by simp; exact hc3)
                have hoy := HOK.out ⟨hc0, hc1, hc2, hc3⟩
                have h40 := (ok_parts hoy).1
                have HA2 := hide (HA.out.succ (by rw [← HX.out]; exact hoy))
                have hlen := cat_cont_le HA2.out
                obtain ⟨L, hL⟩ := Int.eq_ofNat_of_zero_le HTO.out.l0
                have hL53 : L ≤ 53 := by have := HTL.out; omega
                have HCA := hide (show cat (contAt bs) (k + 1) = T ++ (X.drop 11).take L by
                  rw [cat_succ, ← HTC.out, contAt, ← HX.out, ← HTQ.out, contT, hL, Int.toNat_natCast])
                rw [HCA.out, List.length_append] at hlen
                obtain ⟨C, hC⟩ : ∃ C, C = (X.drop 11).take L := ⟨_, rfl⟩
                rw [← hC] at hlen HCA
                have HCC := hide hC
                have HSL := hide (show T.length + C.length ≤ 1000000 by omega)
                have hTC : (T ++ C).length ≤ 2120 := by rw [List.length_append]; omega
                have HTC2 := hide hTC
                have q1 : (11 : Int) ≤ 11 + (L : Int) := by omega
                have q2 : (11 : Int) + (L : Int) ≤ 64 := by omega
                have q3 : ((11 : Int) + (L : Int)).toNat = 11 + L := by omega
                have HLL := hide hL
                clear hc0 hc1 hc2 hc3 hoy hlen hC hTC
                go_wp2_with (first
                  | ((with_reducible refine at_slot 22 ?_); refine wpList_load_at rfl 35 (.tmp 21) rfl _ rfl U _ HC.out Try.underlying35 rfl HIU.out ?_))
                refine (HT.out wr).mono ?_
                rintro _ w3 ⟨rfl, hl3⟩
                have hx3 := hl3.size
                have HL3 := hide (HL.out.trans (hl3.mono HL.out.size))
                have HB3 := hide hl3
                clear hl3
                go_wp2_with (first
                  | ((with_reducible refine at_slot 10 ?_); refine wpList_alloc_blk rfl 36 rfl _ (rtag_nought _) ?_; intro w4 hb4q hl4 hs4; clear hs4; have hb4 : Blk w4 w3.heap.size 36 (tagC Tg.zero).toArray := hb4q; clear hb4q)
                  | ((with_reducible refine at_store 10 ?_); refine wpList_store_all rfl 36 (.tmp 10) (.tmp 24) rfl w3.heap.size 36 _ hb4 rfl (tagC t) rfl rtag_info rfl (tagC_one _) ?_; intro w5 hb5 hg5 hs5; clear hs5; have hl35 : Below w3.heap.size w3 w5 := hl4.grown hg5 hl4.size (fun g e => by injection e with e; omega); have HL5 := hide (HL3.out.trans (hl35.mono HL3.out.size)); have HB5 := hide (HB3.out.trans (hl35.mono HB3.out.size)); have x0 := tag_c0 hb5; have x1 := tag_c1 hb5; have x2 := tag_c2 hb5; have x3 := tag_c3 hb5; have x4 := tag_c4 hb5; rw [HLL.out] at x4; clear hb4 hl4 hb5 hg5 hl35)
                  | ((with_reducible refine at_slot 32 ?_); refine when_bin rfl .neq 3 3 (.tmp 30) (.tmp 31) rfl (.int .i64 t.gen) (.int .i64 gen) rfl rfl rfl (.bool false) (run_i64_ne _ _ _ _ _ Fg.out) ?_)
                  | ((with_reducible refine at_slot 38 ?_); refine when_bin rfl .neq 3 3 (.tmp 36) (.tmp 37) rfl (.int .i64 t.nr) (.int .i64 nr) rfl rfl rfl (.bool false) (run_i64_ne _ _ _ _ _ Fn.out) ?_)
                  | ((with_reducible refine at_slot 44 ?_); refine when_bin rfl .neq 3 3 (.tmp 42) (.tmp 43) rfl (.int .i64 t.part) (.int .i64 (k : Int)) rfl rfl rfl (.bool false) (run_i64_ne _ _ _ _ _ Fp.out) ?_)
                  | ((with_reducible refine at_slot 51 ?_); refine when_bin rfl .neq 3 3 (.tmp 48) (.tmp 50) rfl (.int .i64 t.parts) (.int .i64 (n : Int)) rfl rfl rfl (.bool false) (run_i64_ne _ _ _ _ _ Fq.out) ?_))
                have HCV := hide (fun (W : World) (hW : ∃ q, W = w5.drewN q) => run_conv_reads (P := Try.prog) W 22 5 9 Try.underlying22 Try.underlying5 Try.underlying9 _ (some ((ad.add (k * 64)).add 11)) L 53 C (by
                  obtain ⟨q, rfl⟩ := hW
                  have h1 := reads_cont (w := w5) (X := ad.add (k * 64)) (s := X) (L := L) (fun j v hj => (HB5.out.cell (by rw [block_of_add, HBK.out]; have := HL.out.size; omega)).trans (HC0.out j v hj)) HSA.out hL53
                  rw [← HCC.out] at h1
                  exact h1.drewN q))
                rw [add_eleven] at HCV
                refine wp_region_quiet_lit (by kernel_rfl) (by kernel_rfl) ?_
                iterate 8 (go_big_quiet_step (fail))
                refine quiet_conv (by rfl) 22 9 (.tmp 60) rfl _ _ ?_ HCV.out ?_
                · simp [Act.eval]
                simp only [Act.put, List.setIfInBounds_toArray, List.set_cons_succ, List.set_cons_zero]
                refine quiet_add (by rfl) 9 9 (.tmp 53) (.tmp 61) rfl T C rfl rfl HSL.out ?_
                simp only [Act.put, List.setIfInBounds_toArray, List.set_cons_succ, List.set_cons_zero]
                go_big_quiet_step (fail)
                refine wpQuiet_nil ?_
                rintro w7 ⟨q7, rfl⟩
                have HL7 := hide (below_drewN HL5.out q7)
                go_wp2
                go_roundw
                case rel => exact ⟨k + 1, T ++ C, by omega, by go_num, rfl, HTC2.out, hide HCA.out.symm, HA2, HL7⟩
                case measure => simp [intOf]; omega
              · have Fg := hide (show (t.gen != gen) = false by simp; exact hc0)
                have Fn := hide (show (t.nr != nr) = false by simp; exact hc1)
                have Fp := hide (show (t.part != (k : Int)) = false by simp; exact hc2)
                have Fq := hide (show (t.parts != (n : Int)) = true by simp; exact hc3)
                have hno : okT gen nr n k X = false := ok_no HTQ.out.symm (fun h => hc3 h.2.2.2)
                have HN := hide (join_no (gen := gen) (nr := nr) (n := n) hkn (by rw [← HX.out]; exact hno))
                have HJE := hide (joinL_no HN.out)
                clear hno hc0 hc1 hc2 hc3
                go_wp2_with (first
                  | ((with_reducible refine at_slot 22 ?_); refine wpList_load_at rfl 35 (.tmp 21) rfl _ rfl U _ HC.out Try.underlying35 rfl HIU.out ?_))
                refine (HT.out wr).mono ?_
                rintro _ w3 ⟨rfl, hl3⟩
                have hx3 := hl3.size
                have HL3 := hide (HL.out.trans (hl3.mono HL.out.size))
                have HB3 := hide hl3
                clear hl3
                go_wp2_with (first
                  | ((with_reducible refine at_slot 10 ?_); refine wpList_alloc_blk rfl 36 rfl _ (rtag_nought _) ?_; intro w4 hb4q hl4 hs4; clear hs4; have hb4 : Blk w4 w3.heap.size 36 (tagC Tg.zero).toArray := hb4q; clear hb4q)
                  | ((with_reducible refine at_store 10 ?_); refine wpList_store_all rfl 36 (.tmp 10) (.tmp 24) rfl w3.heap.size 36 _ hb4 rfl (tagC t) rfl rtag_info rfl (tagC_one _) ?_; intro w5 hb5 hg5 hs5; clear hs5; have hl35 : Below w3.heap.size w3 w5 := hl4.grown hg5 hl4.size (fun g e => by injection e with e; omega); have HL5 := hide (HL3.out.trans (hl35.mono HL3.out.size)); have HB5 := hide (HB3.out.trans (hl35.mono HB3.out.size)); have x0 := tag_c0 hb5; have x1 := tag_c1 hb5; have x2 := tag_c2 hb5; have x3 := tag_c3 hb5; have x4 := tag_c4 hb5; clear hb4 hl4 hb5 hg5 hl35)
                  | ((with_reducible refine at_slot 32 ?_); refine when_bin rfl .neq 3 3 (.tmp 30) (.tmp 31) rfl (.int .i64 t.gen) (.int .i64 gen) rfl rfl rfl (.bool false) (run_i64_ne _ _ _ _ _ Fg.out) ?_)
                  | ((with_reducible refine at_slot 38 ?_); refine when_bin rfl .neq 3 3 (.tmp 36) (.tmp 37) rfl (.int .i64 t.nr) (.int .i64 nr) rfl rfl rfl (.bool false) (run_i64_ne _ _ _ _ _ Fn.out) ?_)
                  | ((with_reducible refine at_slot 44 ?_); refine when_bin rfl .neq 3 3 (.tmp 42) (.tmp 43) rfl (.int .i64 t.part) (.int .i64 (k : Int)) rfl rfl rfl (.bool false) (run_i64_ne _ _ _ _ _ Fp.out) ?_)
                  | ((with_reducible refine at_slot 51 ?_); refine when_bin rfl .neq 3 3 (.tmp 48) (.tmp 50) rfl (.int .i64 t.parts) (.int .i64 (n : Int)) rfl rfl rfl (.bool true) (run_i64_ne _ _ _ _ _ Fq.out) ?_))
                go_ret2
                exact ⟨by rw [HN.out, HJE.out]; rfl, HL5.out⟩
            · have Fg := hide (show (t.gen != gen) = false by simp; exact hc0)
              have Fn := hide (show (t.nr != nr) = false by simp; exact hc1)
              have Fp := hide (show (t.part != (k : Int)) = true by simp; exact hc2)
              have hno : okT gen nr n k X = false := ok_no HTQ.out.symm (fun h => hc2 h.2.2.1)
              have HN := hide (join_no (gen := gen) (nr := nr) (n := n) hkn (by rw [← HX.out]; exact hno))
              have HJE := hide (joinL_no HN.out)
              clear hno hc0 hc1 hc2
              go_wp2_with (first
                | ((with_reducible refine at_slot 22 ?_); refine wpList_load_at rfl 35 (.tmp 21) rfl _ rfl U _ HC.out Try.underlying35 rfl HIU.out ?_))
              refine (HT.out wr).mono ?_
              rintro _ w3 ⟨rfl, hl3⟩
              have hx3 := hl3.size
              have HL3 := hide (HL.out.trans (hl3.mono HL.out.size))
              have HB3 := hide hl3
              clear hl3
              go_wp2_with (first
                | ((with_reducible refine at_slot 10 ?_); refine wpList_alloc_blk rfl 36 rfl _ (rtag_nought _) ?_; intro w4 hb4q hl4 hs4; clear hs4; have hb4 : Blk w4 w3.heap.size 36 (tagC Tg.zero).toArray := hb4q; clear hb4q)
                | ((with_reducible refine at_store 10 ?_); refine wpList_store_all rfl 36 (.tmp 10) (.tmp 24) rfl w3.heap.size 36 _ hb4 rfl (tagC t) rfl rtag_info rfl (tagC_one _) ?_; intro w5 hb5 hg5 hs5; clear hs5; have hl35 : Below w3.heap.size w3 w5 := hl4.grown hg5 hl4.size (fun g e => by injection e with e; omega); have HL5 := hide (HL3.out.trans (hl35.mono HL3.out.size)); have HB5 := hide (HB3.out.trans (hl35.mono HB3.out.size)); have x0 := tag_c0 hb5; have x1 := tag_c1 hb5; have x2 := tag_c2 hb5; have x3 := tag_c3 hb5; have x4 := tag_c4 hb5; clear hb4 hl4 hb5 hg5 hl35)
                | ((with_reducible refine at_slot 32 ?_); refine when_bin rfl .neq 3 3 (.tmp 30) (.tmp 31) rfl (.int .i64 t.gen) (.int .i64 gen) rfl rfl rfl (.bool false) (run_i64_ne _ _ _ _ _ Fg.out) ?_)
                | ((with_reducible refine at_slot 38 ?_); refine when_bin rfl .neq 3 3 (.tmp 36) (.tmp 37) rfl (.int .i64 t.nr) (.int .i64 nr) rfl rfl rfl (.bool false) (run_i64_ne _ _ _ _ _ Fn.out) ?_)
                | ((with_reducible refine at_slot 44 ?_); refine when_bin rfl .neq 3 3 (.tmp 42) (.tmp 43) rfl (.int .i64 t.part) (.int .i64 (k : Int)) rfl rfl rfl (.bool true) (run_i64_ne _ _ _ _ _ Fp.out) ?_))
              go_ret2
              exact ⟨by rw [HN.out, HJE.out]; rfl, HL5.out⟩
          · have Fg := hide (show (t.gen != gen) = false by simp; exact hc0)
            have Fn := hide (show (t.nr != nr) = true by simp; exact hc1)
            have hno : okT gen nr n k X = false := ok_no HTQ.out.symm (fun h => hc1 h.2.1)
            have HN := hide (join_no (gen := gen) (nr := nr) (n := n) hkn (by rw [← HX.out]; exact hno))
            have HJE := hide (joinL_no HN.out)
            clear hno hc0 hc1
            go_wp2_with (first
              | ((with_reducible refine at_slot 22 ?_); refine wpList_load_at rfl 35 (.tmp 21) rfl _ rfl U _ HC.out Try.underlying35 rfl HIU.out ?_))
            refine (HT.out wr).mono ?_
            rintro _ w3 ⟨rfl, hl3⟩
            have hx3 := hl3.size
            have HL3 := hide (HL.out.trans (hl3.mono HL.out.size))
            have HB3 := hide hl3
            clear hl3
            go_wp2_with (first
              | ((with_reducible refine at_slot 10 ?_); refine wpList_alloc_blk rfl 36 rfl _ (rtag_nought _) ?_; intro w4 hb4q hl4 hs4; clear hs4; have hb4 : Blk w4 w3.heap.size 36 (tagC Tg.zero).toArray := hb4q; clear hb4q)
              | ((with_reducible refine at_store 10 ?_); refine wpList_store_all rfl 36 (.tmp 10) (.tmp 24) rfl w3.heap.size 36 _ hb4 rfl (tagC t) rfl rtag_info rfl (tagC_one _) ?_; intro w5 hb5 hg5 hs5; clear hs5; have hl35 : Below w3.heap.size w3 w5 := hl4.grown hg5 hl4.size (fun g e => by injection e with e; omega); have HL5 := hide (HL3.out.trans (hl35.mono HL3.out.size)); have HB5 := hide (HB3.out.trans (hl35.mono HB3.out.size)); have x0 := tag_c0 hb5; have x1 := tag_c1 hb5; have x2 := tag_c2 hb5; have x3 := tag_c3 hb5; have x4 := tag_c4 hb5; clear hb4 hl4 hb5 hg5 hl35)
              | ((with_reducible refine at_slot 32 ?_); refine when_bin rfl .neq 3 3 (.tmp 30) (.tmp 31) rfl (.int .i64 t.gen) (.int .i64 gen) rfl rfl rfl (.bool false) (run_i64_ne _ _ _ _ _ Fg.out) ?_)
              | ((with_reducible refine at_slot 38 ?_); refine when_bin rfl .neq 3 3 (.tmp 36) (.tmp 37) rfl (.int .i64 t.nr) (.int .i64 nr) rfl rfl rfl (.bool true) (run_i64_ne _ _ _ _ _ Fn.out) ?_))
            go_ret2
            exact ⟨by rw [HN.out, HJE.out]; rfl, HL5.out⟩
        · have Fg := hide (show (t.gen != gen) = true by simp; exact hc0)
          have hno : okT gen nr n k X = false := ok_no HTQ.out.symm (fun h => hc0 h.1)
          have HN := hide (join_no (gen := gen) (nr := nr) (n := n) hkn (by rw [← HX.out]; exact hno))
          have HJE := hide (joinL_no HN.out)
          clear hno hc0
          go_wp2_with (first
            | ((with_reducible refine at_slot 22 ?_); refine wpList_load_at rfl 35 (.tmp 21) rfl _ rfl U _ HC.out Try.underlying35 rfl HIU.out ?_))
          refine (HT.out wr).mono ?_
          rintro _ w3 ⟨rfl, hl3⟩
          have hx3 := hl3.size
          have HL3 := hide (HL.out.trans (hl3.mono HL.out.size))
          have HB3 := hide hl3
          clear hl3
          go_wp2_with (first
            | ((with_reducible refine at_slot 10 ?_); refine wpList_alloc_blk rfl 36 rfl _ (rtag_nought _) ?_; intro w4 hb4q hl4 hs4; clear hs4; have hb4 : Blk w4 w3.heap.size 36 (tagC Tg.zero).toArray := hb4q; clear hb4q)
            | ((with_reducible refine at_store 10 ?_); refine wpList_store_all rfl 36 (.tmp 10) (.tmp 24) rfl w3.heap.size 36 _ hb4 rfl (tagC t) rfl rtag_info rfl (tagC_one _) ?_; intro w5 hb5 hg5 hs5; clear hs5; have hl35 : Below w3.heap.size w3 w5 := hl4.grown hg5 hl4.size (fun g e => by injection e with e; omega); have HL5 := hide (HL3.out.trans (hl35.mono HL3.out.size)); have HB5 := hide (HB3.out.trans (hl35.mono HB3.out.size)); have x0 := tag_c0 hb5; have x1 := tag_c1 hb5; have x2 := tag_c2 hb5; have x3 := tag_c3 hb5; have x4 := tag_c4 hb5; clear hb4 hl4 hb5 hg5 hl35)
            | ((with_reducible refine at_slot 32 ?_); refine when_bin rfl .neq 3 3 (.tmp 30) (.tmp 31) rfl (.int .i64 t.gen) (.int .i64 gen) rfl rfl rfl (.bool true) (run_i64_ne _ _ _ _ _ Fg.out) ?_))
          go_ret2
          exact ⟨by rw [HN.out, HJE.out]; rfl, HL5.out⟩
    · obtain rfl : k = n := by omega
      have HJ := hide (join_all HA.out)
      have HE := hide (HTC.out.trans HJ.out.2.symm)
      go_wp2
      go_ret2
      refine ⟨?_, HL.out⟩
      rw [← HE.out, HJ.out.1]
      simp
#print axioms refJoin_any
end Go.Proofs.Ytdchdmbkojnmcaa
