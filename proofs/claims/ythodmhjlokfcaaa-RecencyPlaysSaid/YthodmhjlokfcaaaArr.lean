/- Whole arrays out of and into memory, and when two arrays of bytes are equal. No program is named here. -/
import Derived.Test.YthodmhjlokfcaaaAgg
import Derived.ChangeKeysEq
import Derived.Deep.QuietTactic
import Derived.BigQuiet
import Derived.Laws.StructEq
import Derived.Deep.WholeRow
namespace Go.Proofs.Ythodmhjlokfcaaa
open Go.RowKit

section
variable {P : Program}
/-- A whole array is read, wherever it lies. -/
theorem run_loadVar_at (w : World) (ad : Addr) (ty : TypeId) (cs : List Value) (d : TypeDesc) (hc : ∀ j v, cs[j]? = some v → w.cell? (ad.add j) = some v)
    (hu : P.underlying ty = some d) (hd : (match d with | .struct _ | .array _ _ => true | _ => false) = true) (hi : (P.info? ty).map (·.size) = some cs.length) :
    (loadVar ty ad).run P w = .ok (.agg cs.toArray) w := by
  have hl : (loadCells ad cs.length).run P w = .ok cs.toArray w := run_loadCells_list (P := P) w ad cs hc
  cases hq : P.info? ty with
  | none => simp [hq] at hi
  | some i =>
    have hs : i.size = cs.length := by simpa [hq] using hi
    have hagg : (isAgg ty).run P w = .ok true w := by
      unfold isAgg
      rw [Sem.run_bind, run_underlying hu w]
      cases d <;> simp_all
    simp [loadVar, Sem.run_bind, hagg, sizeOf, typeInfo, hq, hs, hl]

theorem wpList_load_at {ops : Array Oper} {rest : List Oper} {o : Oper} {a : Act} {w : World} {Q : Exit → Act → World → Prop} (hgd : o.guard = none) (ty : TypeId) (x : Operand) (ho : o.op = .load ty x)
    (ad : Addr) (hx : a.eval x = .pointer (some ad)) (cs : List Value) (d : TypeDesc) (hc : ∀ j v, cs[j]? = some v → w.cell? (ad.add j) = some v)
    (hu : P.underlying ty = some d) (hd : (match d with | .struct _ | .array _ _ => true | _ => false) = true) (hi : (P.info? ty).map (·.size) = some cs.length)
    (h : wpList P ops Q rest (a.put o.dst (.agg cs.toArray)) w) : wpList P ops Q (o :: rest) a w :=
  wpList_plain hgd fun _ hK => by
    unfold Oper.wp execOp
    simp only [ho, hx, Instr.loadAt, Instr.sureAddr, Sem.run_bind, Sem.run_pure, Result.andThen_ok, run_loadVar_at w ad ty cs d hc hu hd hi]
    exact hK _ _ h

/-- A whole array is stored into the variable that was made last. -/
theorem wpList_store_new {ops : Array Oper} {rest : List Oper} {o : Oper} {a : Act} {w : World} {Q : Exit → Act → World → Prop} (hgd : o.guard = none) (ty : TypeId) (x y : Operand) (ho : o.op = .store ty x y)
    (c c' : Array Value) (hx : a.eval x = .pointer (some ⟨w.heap.size, 0, none⟩)) (hy : a.eval y = .agg c') (hi : (P.info? ty).map (·.size) = some c'.size) (hs : c.size = c'.size) (h1 : c'.all (·.oneCell') = true)
    (h : wpList P ops Q rest (a.put o.dst undef) (w.alloc (.cells c' ty))) : wpList P ops Q (o :: rest) a (w.alloc (.cells c ty)) :=
  wpList_plain hgd fun _ hK => by
    unfold Oper.wp execOp
    simp only [ho, hx, hy, run_storeAt_new w ty c c' hi hs h1, Sem.run_bind, Sem.run_pure, Result.andThen_ok]
    exact hK _ _ h
theorem all_one {cs : List Value} (h : ∀ v ∈ cs, v.oneCell' = true) : cs.toArray.all (·.oneCell') = true :=
  Array.all_eq_true_iff_forall_mem.2 (fun v hv => h v (by simpa using hv))

/-- One operation of a region that only reads, whose value is known. -/
theorem quiet_gives {ops : Array Oper} {C : World → Prop} {Q : Act → Prop} {o : Oper} {rest : List Oper} {a : Act} (hgd : o.guard = none) (v : Value)
    (hrun : ∀ w, C w → (execOp a.eval o).run P w = .ok (.value v) w) (h : wpQuiet P ops C Q rest (a.put o.dst v)) : wpQuiet P ops C Q (o :: rest) a := by
  have hw : Region.wanted o (yielded ops a.tmps) = true := by simp [Region.wanted, hgd]
  unfold wpQuiet
  rw [if_pos hw]
  exact ⟨v, fun w hC => by unfold Oper.quietAt; rw [hrun w hC]; exact ⟨rfl, rfl⟩, h⟩

theorem quiet_load_at {ops : Array Oper} {C : World → Prop} {Q : Act → Prop} {o : Oper} {rest : List Oper} {a : Act} (hgd : o.guard = none) (ty : TypeId) (x : Operand) (ho : o.op = .load ty x)
    (ad : Addr) (hx : a.eval x = .pointer (some ad)) (cs : List Value) (d : TypeDesc) (hc : ∀ w, C w → ∀ j v, cs[j]? = some v → w.cell? (ad.add j) = some v)
    (hu : P.underlying ty = some d) (hd : (match d with | .struct _ | .array _ _ => true | _ => false) = true) (hi : (P.info? ty).map (·.size) = some cs.length)
    (h : wpQuiet P ops C Q rest (a.put o.dst (.agg cs.toArray))) : wpQuiet P ops C Q (o :: rest) a :=
  quiet_gives hgd _ (fun w hC => by
    unfold execOp
    simp only [ho, hx, Instr.loadAt, Instr.sureAddr, Sem.run_bind, Sem.run_pure, Result.andThen_ok, run_loadVar_at w ad ty cs d (hc w hC) hu hd hi]) h

/-! ### Arrays of bytes -/
theorem run_eqItems_bytes (w : World) (d : Nat) {e : TypeId} (he : P.underlying e = some (.int .u8)) (x y : List UInt8) (hl : x.length = y.length) : ∀ is : List Nat, (∀ i ∈ is, i < x.length) →
    (Op.eqItems (d + 1) e 1 (B8 x).toArray (B8 y).toArray is).run P w = .ok (is.all fun i => x[i]? == y[i]?) w
  | [], _ => by simp [Op.eqItems]
  | i :: is, h => by
    have hi : i < x.length := h i (by simp)
    have hi2 : i < y.length := by omega
    have hp : P.plainKey e = true := by simp [Program.plainKey, he]
    have p1 := run_part_plain (P := P) w hp (xs := (B8 x).toArray) (off := i * 1) (v := .int .u8 ((x[i]).toNat : Int)) (by simp [B8, hi])
    have p2 := run_part_plain (P := P) w hp (xs := (B8 y).toArray) (off := i * 1) (v := .int .u8 ((y[i]).toNat : Int)) (by simp [B8, hi2])
    have p3 := run_equalIn_int (P := P) w d e .u8 .u8 ((x[i]).toNat : Int) ((y[i]).toNat : Int) he
    have ih := run_eqItems_bytes w d he x y hl is (fun j hj => h j (by simp [hj]))
    simp only [Op.eqItems, Sem.run_bind, p1, p2, p3, Result.andThen_ok]
    by_cases hxy : x[i] = y[i]
    · simp [hxy, ih, hi, hi2]
    · have hne : ((x[i].toNat : Int) == (y[i].toNat : Int)) = false := by
        rw [beq_eq_false_iff_ne]
        intro h
        exact hxy (UInt8.toNat_inj.1 (by omega))
      simp [hne, hi, hi2, hxy]

theorem run_neq_bytes (w : World) (t e : TypeId) (n : Nat) (i : TypeInfo) (ht : P.underlying t = some (.array n e)) (he : P.underlying e = some (.int .u8)) (hi : P.info? e = some i) (hc : P.cellsOf e = 1) (x y : List UInt8) (hx : x.length = n) (hy : y.length = n) :
    (binOp .neq t (.agg (B8 x).toArray) (.agg (B8 y).toArray)).run P w = .ok (.bool (!decide (x = y))) w := by
  have h1 := run_equalIn_array (P := P) w 9999 (B8 x).toArray (B8 y).toArray ht hi
  rw [hc, run_eqItems_bytes w 9998 he x y (by omega) _ (fun j hj => by rw [hx]; exact List.mem_range.1 hj)] at h1
  have h2 : ((List.range n).all fun i => x[i]? == y[i]?) = decide (x = y) := by
    rw [Bool.eq_iff_iff, List.all_eq_true, decide_eq_true_eq]
    constructor
    · intro h
      apply List.ext_getElem?
      intro j
      by_cases hj : j < n
      · simpa using h j (List.mem_range.2 hj)
      · rw [List.getElem?_eq_none (by omega), List.getElem?_eq_none (by omega)]
    · rintro rfl j _; simp
  rw [h2] at h1
  rw [run_neq_struct, h1]
  rfl

theorem quiet_neq_bytes {ops : Array Oper} {C : World → Prop} {Q : Act → Prop} {o : Oper} {rest : List Oper} {a : Act} (hgd : o.guard = none) (t e tr : TypeId) (p q : Operand) (ho : o.op = .binOp .neq t p q tr)
    (n : Nat) (i : TypeInfo) (ht : P.underlying t = some (.array n e)) (he : P.underlying e = some (.int .u8)) (hi : P.info? e = some i) (hc : P.cellsOf e = 1) (hm : P.eqGuardType P.depth t = false) (x y : List UInt8) (hx : x.length = n) (hy : y.length = n)
    (hp : a.eval p = .agg (B8 x).toArray) (hq : a.eval q = .agg (B8 y).toArray)
    (h : wpQuiet P ops C Q rest (a.put o.dst (.bool (!decide (x = y))))) : wpQuiet P ops C Q (o :: rest) a :=
  quiet_gives hgd _ (fun w _ => by
    unfold execOp
    simp only [ho, hp, hq, Sem.run_bind, run_eqGuard_agg w .neq t p q _ _ hm, Result.andThen_ok, run_neq_bytes w t e n i ht he hi hc x y hx hy, Sem.run_pure]) h
end
/-- Sector k of some bytes. -/
def secAt (bs : List UInt8) (k : Nat) : List UInt8 := (bs.drop (k * 64)).take 64
theorem secAt_length {bs : List UInt8} {n k : Nat} (h : bs.length = n * 64) (hk : k < n) : (secAt bs k).length = 64 := by
  rw [secAt, List.length_take, List.length_drop]
  omega
theorem take_secAt (bs : List UInt8) (k : Nat) : bs.take ((k + 1) * 64) = bs.take (k * 64) ++ secAt bs k := by
  rw [Nat.add_mul, Nat.one_mul, List.take_add]
  rfl
theorem Reads.sec_at {w : World} {B n k : Nat} {A : Option Addr} {bs : List UInt8} (h : Reads w B 64 A n (B8 bs)) (hk : k < n) :
    ∃ ad, A = some ad ∧ ad.block < B ∧ ∀ j v, (B8 (secAt bs k))[j]? = some v → w.cell? ((ad.add (k * 64)).add j) = some v := by
  obtain ⟨ad, hA, hb, hc⟩ := h.2 (by omega)
  refine ⟨ad, hA, hb, fun j v hv => ?_⟩
  rw [add_of_add]
  refine hc _ v ?_
  rw [secAt, ← B8_take, ← B8_drop, List.getElem?_take] at hv
  split at hv
  · rw [List.getElem?_drop] at hv
    exact hv
  · cases hv
#print axioms quiet_neq_bytes
#print axioms run_neq_bytes
end Go.Proofs.Ythodmhjlokfcaaa
