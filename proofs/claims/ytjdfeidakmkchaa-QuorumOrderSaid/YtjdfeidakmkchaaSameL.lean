/- When two labels are the same: what the reference's Same and SameMembers answer. -/
import Derived.Test.YtjdfeidakmkchaaLabC
namespace Go.Proofs.Ytjdfeidakmkchaa
open Go.RowKit

theorem mb_guard : Try.prog.eqGuardType Try.prog.depth 28 = false := by kernel_rfl
theorem mb_fields : Try.prog.underlying 28 = some (.struct (Try.prog.fieldsOf 28)) := by kernel_rfl
theorem mb_stood : Try.prog.stoodInHeld 28 = false := by kernel_rfl
theorem mb_fieldsL : (Try.prog.fieldsOf 28).toList.map (fun f => (f.name, f.type, f.offset)) = [("ID", 3, 0), ("Sectors", 3, 1), ("State", 3, 2)] := by kernel_rfl
set_option maxRecDepth 100000 in
theorem run_neq_mb (a b : Mb) (w : World) : (binOp .neq 28 (.agg (mbC a).toArray) (.agg (mbC b).toArray)).run Try.prog w = .ok (.bool (!decide (a = b))) w := by
  obtain ⟨a1, a2, a3⟩ := a
  obtain ⟨b1, b2, b3⟩ := b
  have h := run_equalIn_struct (P := Try.prog) w 9999 28 (mbC (a1, a2, a3)).toArray (mbC (b1, b2, b3)).toArray mb_fields mb_stood
  have hl := mb_fieldsL
  generalize (Try.prog.fieldsOf 28).toList = fs at h hl
  rcases fs with _ | ⟨f0, _ | ⟨f1, _ | ⟨f2, _ | ⟨f3, fs⟩⟩⟩⟩ <;> simp at hl
  obtain ⟨⟨n0, t0, o0⟩, ⟨n1, t1, o1⟩, n2, t2, o2⟩ := hl
  have p0 : ∀ (x y z : Int), (part f0.type (mbC (x, y, z)).toArray f0.offset).run Try.prog w = .ok (.int .i64 x) w := fun x y z => by rw [t0, o0]; exact run_part_plain (P := Try.prog) w (by kernel_rfl) (xs := (mbC (x, y, z)).toArray) (off := 0) (v := .int .i64 x) rfl
  have p1 : ∀ (x y z : Int), (part f1.type (mbC (x, y, z)).toArray f1.offset).run Try.prog w = .ok (.int .i64 y) w := fun x y z => by rw [t1, o1]; exact run_part_plain (P := Try.prog) w (by kernel_rfl) (xs := (mbC (x, y, z)).toArray) (off := 1) (v := .int .i64 y) rfl
  have p2 : ∀ (x y z : Int), (part f2.type (mbC (x, y, z)).toArray f2.offset).run Try.prog w = .ok (.int .i64 z) w := fun x y z => by rw [t2, o2]; exact run_part_plain (P := Try.prog) w (by kernel_rfl) (xs := (mbC (x, y, z)).toArray) (off := 2) (v := .int .i64 z) rfl
  have e0 : ∀ x y : Int, (Op.equalIn 9999 f0.type (.int .i64 x) (.int .i64 y)).run Try.prog w = .ok (x == y) w := fun x y => by rw [t0]; exact run_equalIn_int (P := Try.prog) w 9998 3 .i64 .i64 x y Try.underlying3
  have e1 : ∀ x y : Int, (Op.equalIn 9999 f1.type (.int .i64 x) (.int .i64 y)).run Try.prog w = .ok (x == y) w := fun x y => by rw [t1]; exact run_equalIn_int (P := Try.prog) w 9998 3 .i64 .i64 x y Try.underlying3
  have e2 : ∀ x y : Int, (Op.equalIn 9999 f2.type (.int .i64 x) (.int .i64 y)).run Try.prog w = .ok (x == y) w := fun x y => by rw [t2]; exact run_equalIn_int (P := Try.prog) w 9998 3 .i64 .i64 x y Try.underlying3
  rw [run_neq_struct, h]
  simp only [Op.eqFields]
  by_cases h1 : a1 = b1 <;> by_cases h2 : a2 = b2 <;> by_cases h3 : a3 = b3 <;> simp [n0, n1, n2, p0, p1, p2, e0, e1, e2, h1, h2, h3]
theorem quiet_neq_mb {ops : Array Oper} {C : World → Prop} {Q : Act → Prop} {o : Oper} {rest : List Oper} {a : Act} (hgd : o.guard = none) (p q : Operand) (tr : TypeId) (ho : o.op = .binOp .neq 28 p q tr)
    (x y : Mb) (hp : a.eval p = .agg (mbC x).toArray) (hq : a.eval q = .agg (mbC y).toArray)
    (h : wpQuiet Try.prog ops C Q rest (a.put o.dst (.bool (!decide (x = y))))) : wpQuiet Try.prog ops C Q (o :: rest) a :=
  quiet_gives hgd _ (fun w _ => by
    unfold execOp
    simp only [ho, hp, hq, Sem.run_bind, run_eqGuard_agg w .neq 28 p q _ _ mb_guard, Result.andThen_ok, run_neq_mb x y w, Sem.run_pure]) h
theorem same_no {a b : List Mb} {k : Nat} {x y : Mb} (ha : a[k]? = some x) (hb : b[k]? = some y) (h : x ≠ y) : decide (a = b) = false := by
  rw [decide_eq_false_iff_not]
  rintro rfl
  rw [ha] at hb
  exact h (Option.some.inj hb)
theorem same_yes {a b : List Mb} {n : Nat} (ha : a.length = n) (hb : b.length = n) (h : a.take n = b.take n) : decide (a = b) = true := by
  rw [List.take_of_length_le (by omega), List.take_of_length_le (by omega)] at h
  exact decide_eq_true h
theorem same_len {a b : List Mb} (h : a.length ≠ b.length) : decide (a = b) = false := by
  rw [decide_eq_false_iff_not]
  rintro rfl
  exact h rfl
set_option maxRecDepth 100000 in
set_option maxHeartbeats 1000000 in
theorem sameMembers_any (A C : Option Addr) (n c m d : Nat) (a b : List Mb) (B1 B2 : Nat) (w : World) (ha : MbIn w B1 A n c a) (hb : MbIn w B2 C m d b) :
    Calls Try.prog 31 #[.slice A n c, .slice C m d] w fun e w' => e = .returned (.bool (decide (a = b))) ∧ ∃ q, w' = w.drewN q := by
  have hla := ha.len
  have hlb := hb.len
  have hnc := ha.2
  have hmd := hb.2
  by_cases hnm : n = m
  · subst hnm
    have LA := hide hla
    have LB := hide hlb
    clear hla hlb
    go_enter Try.func31, Try.ntmps31
    go_wp2
    go_loopw [5] (fun i wr => ∃ k q : Nat, k ≤ n ∧ i = .int .i64 k ∧ wr = w.drewN q ∧ Hid (a.take k = b.take k)) (fun i _ => n - (intOf i).toNat)
    case atStart => exact ⟨0, 0, Nat.zero_le _, rfl, rfl, hide (by simp)⟩
    case round =>
      obtain ⟨k, q, hk, rfl, rfl, hall⟩ := hrel
      by_cases hkn : k < n
      · obtain ⟨ad, x, rfl, _, hx, hca⟩ := ha.at_ hkn
        obtain ⟨bd, y, rfl, _, hy, hcb⟩ := hb.at_ hkn
        have HX := hide hx
        have HY := hide hy
        have HCA := hide hca
        have HCB := hide hcb
        clear hx hy hca hcb
        go_wp2_with fail
        refine wp_region_quiet_lit (by kernel_rfl) (by kernel_rfl) ?_
        iterate 3 (go_big_quiet_step (fail))
        refine quiet_load_at rfl 28 (.tmp 19) rfl (ad.add (k * 3)) rfl (mbC x) _ (by rintro w1 ⟨q1, rfl⟩ j v hv; exact HCA.out j v hv) Try.underlying28 rfl mb_info ?_
        simp only [Act.put, List.setIfInBounds_toArray, List.set_cons_succ, List.set_cons_zero]
        iterate 3 (go_big_quiet_step (fail))
        refine quiet_load_at rfl 28 (.tmp 23) rfl (bd.add (k * 3)) rfl (mbC y) _ (by rintro w1 ⟨q1, rfl⟩ j v hv; exact HCB.out j v hv) Try.underlying28 rfl mb_info ?_
        refine quiet_neq_mb rfl (.tmp 20) (.tmp 24) _ rfl x y rfl rfl ?_
        refine wpQuiet_nil ?_
        rintro w1 ⟨q1, rfl⟩
        simp only [Act.put, List.setIfInBounds_toArray, List.set_cons_succ, List.set_cons_zero]
        by_cases hxy : x = y
        · have HXY := hide hxy
          have hdd : (!decide (x = y)) = false := by simp [hxy]
          rw [hdd]
          clear hxy
          go_wp2
          go_roundw
          case rel => exact ⟨k + 1, _, by omega, by go_num, rfl, hide (by rw [take_more HX.out, take_more HY.out, hall.out, HXY.out])⟩
          case measure => simp [intOf]; omega
        · have hdd : (!decide (x = y)) = true := by simp [hxy]
          have H := hide (same_no HX.out HY.out hxy)
          rw [hdd]
          go_wp2
          go_ret
          exact ⟨ret_b H.out.symm, _, World.drewN_drewN _ _ _⟩
      · obtain rfl : k = n := by omega
        have H := hide (same_yes LA.out LB.out hall.out)
        go_wp2
        go_ret
        exact ⟨ret_b H.out.symm, q, rfl⟩
  · have H := hide (same_len (a := a) (b := b) (by omega))
    have hne : ((n : Int) != (m : Int)) = true := by simp; omega
    clear hla hlb
    go_enter Try.func31, Try.ntmps31
    go_wp2
    go_ret
    exact ⟨ret_b H.out.symm, 0, rfl⟩
set_option maxRecDepth 100000 in
set_option maxHeartbeats 2000000 in
theorem same_any (a b : Lab) (A C : Option Addr) (n c m d : Nat) (B1 B2 : Nat) (w : World) (ha : MbIn w B1 A n c a.members) (hb : MbIn w B2 C m d b.members) (hB1 : B1 ≤ w.heap.size) (hB2 : B2 ≤ w.heap.size) :
    Calls Try.prog 13 #[labV a A n c, labV b C m d] w fun e w' => e = .returned (.bool (sameB a b)) ∧ Below w.heap.size w w' := by
  have HM := hide (fun w1 (hl : Below w.heap.size w w1) => sameMembers_any A C n c m d a.members b.members B1 B2 w1 (ha.below (hl.mono hB1)) (hb.below (hl.mono hB2)))
  clear ha hb
  have hcast : ∀ x y : Int, (x == y) = decide (x = y) := fun x y => rfl
  cases h0 : (a.array == b.array) with
  | false =>
    have HR := hide (show sameB a b = false by simp [sameB, ← hcast, h0])
    rw [HR.out]
    clear hcast
    go_enter Try.func13, Try.ntmps13
    go_wp2_with (first
      | (refine wpList_box_blk rfl 24 (.tmp 0) rfl (.agg (labC a A n c).toArray) rfl ?_; intro w1 hb1q hl1 hs1; clear hs1; have hb1 : Blk w1 w.heap.size 24 (labC a A n c).toArray := hb1q; clear hb1q)
      | (refine wpList_box_blk rfl 24 (.tmp 1) rfl (.agg (labC b C m d).toArray) rfl ?_; intro w2 hb2q hl2 hs2; clear hs2; have hb2 : Blk w2 w1.heap.size 24 (labC b C m d).toArray := hb2q; clear hb2q; have hz1 := hb1.lt; have hb12 := hb1.below hl2 hz1; have x0 := lab_c0 hb12; have x1 := lab_c1 hb12; have x2 := lab_c2 hb12; have x3 := lab_c3 hb12; have x4 := lab_c4 hb12; have y0 := lab_c0 hb2; have y1 := lab_c1 hb2; have y2 := lab_c2 hb2; have y3 := lab_c3 hb2; have y4 := lab_c4 hb2))
    go_ret
    exact ⟨rfl, hl1.trans (hl2.mono (by omega))⟩
  | true =>
    cases h1 : (a.gen == b.gen) with
    | false =>
      have HR := hide (show sameB a b = false by simp [sameB, ← hcast, h1])
      rw [HR.out]
      clear hcast
      go_enter Try.func13, Try.ntmps13
      go_wp2_with (first
        | (refine wpList_box_blk rfl 24 (.tmp 0) rfl (.agg (labC a A n c).toArray) rfl ?_; intro w1 hb1q hl1 hs1; clear hs1; have hb1 : Blk w1 w.heap.size 24 (labC a A n c).toArray := hb1q; clear hb1q)
        | (refine wpList_box_blk rfl 24 (.tmp 1) rfl (.agg (labC b C m d).toArray) rfl ?_; intro w2 hb2q hl2 hs2; clear hs2; have hb2 : Blk w2 w1.heap.size 24 (labC b C m d).toArray := hb2q; clear hb2q; have hz1 := hb1.lt; have hb12 := hb1.below hl2 hz1; have x0 := lab_c0 hb12; have x1 := lab_c1 hb12; have x2 := lab_c2 hb12; have x3 := lab_c3 hb12; have x4 := lab_c4 hb12; have y0 := lab_c0 hb2; have y1 := lab_c1 hb2; have y2 := lab_c2 hb2; have y3 := lab_c3 hb2; have y4 := lab_c4 hb2))
      go_ret
      exact ⟨rfl, hl1.trans (hl2.mono (by omega))⟩
    | true =>
      cases h2 : (a.member == b.member) with
      | false =>
        have HR := hide (show sameB a b = false by simp [sameB, ← hcast, h2])
        rw [HR.out]
        clear hcast
        go_enter Try.func13, Try.ntmps13
        go_wp2_with (first
          | (refine wpList_box_blk rfl 24 (.tmp 0) rfl (.agg (labC a A n c).toArray) rfl ?_; intro w1 hb1q hl1 hs1; clear hs1; have hb1 : Blk w1 w.heap.size 24 (labC a A n c).toArray := hb1q; clear hb1q)
          | (refine wpList_box_blk rfl 24 (.tmp 1) rfl (.agg (labC b C m d).toArray) rfl ?_; intro w2 hb2q hl2 hs2; clear hs2; have hb2 : Blk w2 w1.heap.size 24 (labC b C m d).toArray := hb2q; clear hb2q; have hz1 := hb1.lt; have hb12 := hb1.below hl2 hz1; have x0 := lab_c0 hb12; have x1 := lab_c1 hb12; have x2 := lab_c2 hb12; have x3 := lab_c3 hb12; have x4 := lab_c4 hb12; have y0 := lab_c0 hb2; have y1 := lab_c1 hb2; have y2 := lab_c2 hb2; have y3 := lab_c3 hb2; have y4 := lab_c4 hb2))
        go_ret
        exact ⟨rfl, hl1.trans (hl2.mono (by omega))⟩
      | true =>
        cases h3 : (a.blocks == b.blocks) with
        | false =>
          have HR := hide (show sameB a b = false by simp [sameB, ← hcast, h3])
          rw [HR.out]
          clear hcast
          go_enter Try.func13, Try.ntmps13
          go_wp2_with (first
            | (refine wpList_box_blk rfl 24 (.tmp 0) rfl (.agg (labC a A n c).toArray) rfl ?_; intro w1 hb1q hl1 hs1; clear hs1; have hb1 : Blk w1 w.heap.size 24 (labC a A n c).toArray := hb1q; clear hb1q)
            | (refine wpList_box_blk rfl 24 (.tmp 1) rfl (.agg (labC b C m d).toArray) rfl ?_; intro w2 hb2q hl2 hs2; clear hs2; have hb2 : Blk w2 w1.heap.size 24 (labC b C m d).toArray := hb2q; clear hb2q; have hz1 := hb1.lt; have hb12 := hb1.below hl2 hz1; have x0 := lab_c0 hb12; have x1 := lab_c1 hb12; have x2 := lab_c2 hb12; have x3 := lab_c3 hb12; have x4 := lab_c4 hb12; have y0 := lab_c0 hb2; have y1 := lab_c1 hb2; have y2 := lab_c2 hb2; have y3 := lab_c3 hb2; have y4 := lab_c4 hb2))
          go_ret
          exact ⟨rfl, hl1.trans (hl2.mono (by omega))⟩
        | true =>
          have HR := hide (show sameB a b = decide (a.members = b.members) by simp [sameB, ← hcast, h0, h1, h2, h3])
          rw [HR.out]
          clear hcast
          generalize decide (a.members = b.members) = r at HM ⊢
          go_enter Try.func13, Try.ntmps13
          go_wp2_with (first
            | (refine wpList_box_blk rfl 24 (.tmp 0) rfl (.agg (labC a A n c).toArray) rfl ?_; intro w1 hb1q hl1 hs1; clear hs1; have hb1 : Blk w1 w.heap.size 24 (labC a A n c).toArray := hb1q; clear hb1q)
            | (refine wpList_box_blk rfl 24 (.tmp 1) rfl (.agg (labC b C m d).toArray) rfl ?_; intro w2 hb2q hl2 hs2; clear hs2; have hb2 : Blk w2 w1.heap.size 24 (labC b C m d).toArray := hb2q; clear hb2q; have hz1 := hb1.lt; have hb12 := hb1.below hl2 hz1; have x0 := lab_c0 hb12; have x1 := lab_c1 hb12; have x2 := lab_c2 hb12; have x3 := lab_c3 hb12; have x4 := lab_c4 hb12; have y0 := lab_c0 hb2; have y1 := lab_c1 hb2; have y2 := lab_c2 hb2; have y3 := lab_c3 hb2; have y4 := lab_c4 hb2)
            | (go_at_call 31; refine (HM.out w2 (hl1.trans (hl2.mono (by omega)))).mono ?_; rintro _ w3 ⟨rfl, q3, rfl⟩))
          go_ret
          exact ⟨rfl, below_drewN (hl1.trans (hl2.mono (by omega))) _⟩
#print axioms same_any
end Go.Proofs.Ytjdfeidakmkchaa
