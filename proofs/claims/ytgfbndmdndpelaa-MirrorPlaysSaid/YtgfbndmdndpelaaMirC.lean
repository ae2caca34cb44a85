/- Sectors and places compared, loads of a law's own variables; the small case that each law of stage 12 begins with: its banks. -/
import Derived.Test.YtgfbndmdndpelaaMirB
namespace Go.Proofs.Ytgfbndmdndpelaa
open Go.RowKit
theorem mpl_guard : Try.prog.eqGuardType Try.prog.depth 33 = false := by kernel_rfl
theorem mpl_fields : Try.prog.underlying 33 = some (.struct (Try.prog.fieldsOf 33)) := by kernel_rfl
theorem mpl_stood : Try.prog.stoodInHeld 33 = false := by kernel_rfl
theorem mpl_fieldsL : (Try.prog.fieldsOf 33).toList.map (fun f => (f.name, f.type, f.offset)) = [("Disk", 3, 0), ("At", 3, 1)] := by kernel_rfl
set_option maxRecDepth 100000 in
theorem run_eql_plI (a1 a2 b1 b2 : Int) (w : World) : (binOp .eql 33 (.agg (plL a1 a2).toArray) (.agg (plL b1 b2).toArray)).run Try.prog w = .ok (.bool (decide (a1 = b1 ∧ a2 = b2))) w := by
  have h := run_equalIn_struct (P := Try.prog) w 9999 33 (plL a1 a2).toArray (plL b1 b2).toArray mpl_fields mpl_stood
  have hl := mpl_fieldsL
  generalize (Try.prog.fieldsOf 33).toList = fs at h hl
  rcases fs with _ | ⟨f0, _ | ⟨f1, _ | ⟨f2, fs⟩⟩⟩ <;> simp at hl
  obtain ⟨⟨n0, t0, o0⟩, n1, t1, o1⟩ := hl
  have p0 : ∀ (x y : Int), (part f0.type (plL x y).toArray f0.offset).run Try.prog w = .ok (.int .i64 x) w := fun x y => by rw [t0, o0]; exact run_part_plain (P := Try.prog) w (by kernel_rfl) (xs := (plL x y).toArray) (off := 0) (v := .int .i64 x) rfl
  have p1 : ∀ (x y : Int), (part f1.type (plL x y).toArray f1.offset).run Try.prog w = .ok (.int .i64 y) w := fun x y => by rw [t1, o1]; exact run_part_plain (P := Try.prog) w (by kernel_rfl) (xs := (plL x y).toArray) (off := 1) (v := .int .i64 y) rfl
  have e0 : ∀ x y : Int, (Op.equalIn 9999 f0.type (.int .i64 x) (.int .i64 y)).run Try.prog w = .ok (x == y) w := fun x y => by rw [t0]; exact run_equalIn_int (P := Try.prog) w 9998 3 .i64 .i64 x y Try.underlying3
  have e1 : ∀ x y : Int, (Op.equalIn 9999 f1.type (.int .i64 x) (.int .i64 y)).run Try.prog w = .ok (x == y) w := fun x y => by rw [t1]; exact run_equalIn_int (P := Try.prog) w 9998 3 .i64 .i64 x y Try.underlying3
  rw [run_eql_struct, h]
  simp only [Op.eqFields]
  by_cases h1 : a1 = b1 <;> by_cases h2 : a2 = b2 <;> simp [n0, n1, p0, p1, e0, e1, h1, h2]
theorem msec_u8 : ∃ ui, Try.prog.info? 5 = some ui := ⟨(Try.prog.info? 5).get!, by kernel_rfl⟩
theorem msec_size (s : Sec) : (Try.prog.info? 43).map (·.size) = some (secL s).length := by rw [secL_length]; exact sec_info
theorem msec_len (s t : Sec) : (secL s).length = (secV t).cells.size := (secL_length s).trans (secL_length t).symm
theorem sec_bytes (s t : Sec) : decide (s.1 = t.1) = decide (s = t) := by
  by_cases h : s = t
  · subst h; simp
  · rw [decide_eq_false h, decide_eq_false (fun e => h (Subtype.ext e))]
section
variable {ops : Array Oper} {rest : List Oper} {o : Oper} {a : Act} {w : World} {Q : Exit → Act → World → Prop}
theorem run_eqS (W : World) (o : Oper) (p q : Operand) (tr : TypeId) (ho : o.op = .binOp .eql 43 p q tr) (s t : Sec) (hp : a.eval p = .agg (secL s).toArray) (hq : a.eval q = .agg (secL t).toArray) (r : Bool) (hr : decide (s = t) = r) : (execOp a.eval o).run Try.prog W = .ok (.value (.bool r)) W := by
  obtain ⟨ui, hui⟩ := msec_u8
  have hp' : a.eval p = .agg (B8 s.1).toArray := hp
  have hq' : a.eval q = .agg (B8 t.1).toArray := hq
  unfold execOp
  simp only [ho, hp', hq', Sem.run_bind, run_eqGuard_agg (P := Try.prog) W .eql 43 p q _ _ (by kernel_rfl), Result.andThen_ok, run_eql_bytes (P := Try.prog) W 43 5 64 ui Try.underlying43 Try.underlying5 hui (by kernel_rfl) s.1 t.1 s.2 t.2, Sem.run_pure, sec_bytes, hr]
theorem run_neS (W : World) (o : Oper) (p q : Operand) (tr : TypeId) (ho : o.op = .binOp .neq 43 p q tr) (s t : Sec) (hp : a.eval p = .agg (secL s).toArray) (hq : a.eval q = .agg (secL t).toArray) (r : Bool) (hr : (!decide (s = t)) = r) : (execOp a.eval o).run Try.prog W = .ok (.value (.bool r)) W := by
  obtain ⟨ui, hui⟩ := msec_u8
  have hp' : a.eval p = .agg (B8 s.1).toArray := hp
  have hq' : a.eval q = .agg (B8 t.1).toArray := hq
  unfold execOp
  simp only [ho, hp', hq', Sem.run_bind, run_eqGuard_agg (P := Try.prog) W .neq 43 p q _ _ (by kernel_rfl), Result.andThen_ok, run_neq_bytes (P := Try.prog) W 43 5 64 ui Try.underlying43 Try.underlying5 hui (by kernel_rfl) s.1 t.1 s.2 t.2, Sem.run_pure, sec_bytes, hr]
theorem run_eqPl (W : World) (o : Oper) (p q : Operand) (tr : TypeId) (ho : o.op = .binOp .eql 33 p q tr) (a1 a2 b1 b2 : Int) (hp : a.eval p = .agg (plL a1 a2).toArray) (hq : a.eval q = .agg (plL b1 b2).toArray) (r : Bool) (hr : decide (a1 = b1 ∧ a2 = b2) = r) : (execOp a.eval o).run Try.prog W = .ok (.value (.bool r)) W := by
  unfold execOp
  simp only [ho, hp, hq, Sem.run_bind, run_eqGuard_agg (P := Try.prog) W .eql 33 p q _ _ mpl_guard, Result.andThen_ok, run_eql_plI a1 a2 b1 b2 W, Sem.run_pure, hr]
theorem when_eqS (hw : Region.wanted o (yielded ops a.tmps) = true) (p q : Operand) (tr : TypeId) (ho : o.op = .binOp .eql 43 p q tr) (s t : Sec) (hp : a.eval p = .agg (secL s).toArray) (hq : a.eval q = .agg (secL t).toArray) (r : Bool) (hr : decide (s = t) = r)
    (h : wpList Try.prog ops Q rest (a.put o.dst (.bool r)) w) : wpList Try.prog ops Q (o :: rest) a w := when_gives hw _ (run_eqS w o p q tr ho s t hp hq r hr) h
theorem when_neS (hw : Region.wanted o (yielded ops a.tmps) = true) (p q : Operand) (tr : TypeId) (ho : o.op = .binOp .neq 43 p q tr) (s t : Sec) (hp : a.eval p = .agg (secL s).toArray) (hq : a.eval q = .agg (secL t).toArray) (r : Bool) (hr : (!decide (s = t)) = r)
    (h : wpList Try.prog ops Q rest (a.put o.dst (.bool r)) w) : wpList Try.prog ops Q (o :: rest) a w := when_gives hw _ (run_neS w o p q tr ho s t hp hq r hr) h
theorem when_eqPl (hw : Region.wanted o (yielded ops a.tmps) = true) (p q : Operand) (tr : TypeId) (ho : o.op = .binOp .eql 33 p q tr) (a1 a2 b1 b2 : Int) (hp : a.eval p = .agg (plL a1 a2).toArray) (hq : a.eval q = .agg (plL b1 b2).toArray) (r : Bool) (hr : decide (a1 = b1 ∧ a2 = b2) = r)
    (h : wpList Try.prog ops Q rest (a.put o.dst (.bool r)) w) : wpList Try.prog ops Q (o :: rest) a w := when_gives hw _ (run_eqPl w o p q tr ho a1 a2 b1 b2 hp hq r hr) h
/-- A variable of the law's own is read whole. -/
theorem when_own {P : Program} {hi : Nat} {V : List (Nat × TypeId × List Value)} (hw : Region.wanted o (yielded ops a.tmps) = true) (x : Operand) {t : TypeId} (ho : o.op = .load t x) (h : OwnV w hi V) (i : Nat) {g : Nat} {cs : List Value} (e : V[i]? = some (g, t, cs)) (hx : a.eval x = .pointer (some ⟨g, 0, none⟩))
    {d : TypeDesc} (hu : P.underlying t = some d) (hd : (match d with | .struct _ | .array _ _ => true | _ => false) = true) (hz : (P.info? t).map (·.size) = some cs.length)
    (hK : wpList P ops Q rest (a.put o.dst (.agg cs.toArray)) w) : wpList P ops Q (o :: rest) a w :=
  when_load hw t x ho g 0 t cs.toArray (h.blk i e) hx cs d (fun j v hj => by rw [Nat.zero_add]; simpa using hj) hu hd hz hK
end
def sh0 : Bank := LaidN 2
def sh1 : Bank := (sh0.mwrite 0 3 1 5 (secOf 1)).2
def sh2 : Bank := sh1.fail 0
def sh3 : Bank := (sh2.mwrite 0 3 1 5 (secOf 2)).2
def sh4 : Bank := sh3.fail 1
theorem sq1 : sh0.writes = 0 ∧ (sh0.mwrite 0 3 1 5 (secOf 1)).1 = 0 := by decide +kernel
theorem sq2 : sh1.n = 2 := by decide +kernel
theorem sq3 : sh2.writes = 2 ∧ (sh2.mread 0 3 1 5).1 = secOf 1 ∧ (sh2.mread 0 3 1 5).2 = 0 ∧ (sh2.mwrite 0 3 1 5 (secOf 2)).1 = 0 := by decide +kernel
theorem sq4 : sh3.n = 2 ∧ (sh3.mread 0 3 1 5).1 = secOf 2 ∧ (sh3.mread 0 3 1 5).2 = 0 := by decide +kernel
theorem sq5 : (sh4.mread 0 3 1 5).1 = zeroSec ∧ (sh4.mread 0 3 1 5).2 = 5 := by decide +kernel
#print axioms sq5
#print axioms run_neS
end Go.Proofs.Ytgfbndmdndpelaa
