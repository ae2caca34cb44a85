/- Whole arrays in operations that stand behind '&&' or '||'. No program is named here. -/
import Derived.Test.YthodmhjlokfcaaaBlk
namespace Go.Proofs.Ythodmhjlokfcaaa
open Go.RowKit

section
variable {P : Program} {ops : Array Oper} {rest : List Oper} {o : Oper} {a : Act} {w : World} {Q : Exit → Act → World → Prop}
theorem wpList_when (hw : Region.wanted o (yielded ops a.tmps) = true) (h : ∀ K : Act → World → Prop, (∀ a w, wpList P ops Q rest a w → K a w) → o.wp P a w K Q) : wpList P ops Q (o :: rest) a w :=
  wpList_step fun K hK => by rw [if_pos hw]; exact h K hK
theorem when_gives (hw : Region.wanted o (yielded ops a.tmps) = true) (v : Value) (hrun : (execOp a.eval o).run P w = .ok (.value v) w) (hK : wpList P ops Q rest (a.put o.dst v) w) : wpList P ops Q (o :: rest) a w :=
  wpList_when hw fun _ hK' => by
    unfold Oper.wp
    rw [hrun]
    exact hK' _ _ hK
theorem when_build (hw : Region.wanted o (yielded ops a.tmps) = true) (ty : TypeId) (parts : Array (Nat × Operand)) (ho : o.op = .build ty parts) (vs : List (Nat × Value))
    (hv : (parts.map fun (i, x) => (i, a.eval x)).toList = vs) (cells : Array Value) (hb : P.built ty vs = some cells) (hK : wpList P ops Q rest (a.put o.dst (.agg cells)) w) : wpList P ops Q (o :: rest) a w :=
  when_gives hw (.agg cells) (by
    unfold execOp
    simp only [ho, Sem.run_bind, run_build w ty _ cells (by rw [hv]; exact hb), Result.andThen_ok, Sem.run_pure]) hK
theorem when_load (hw : Region.wanted o (yielded ops a.tmps) = true) (ty : TypeId) (x : Operand) (ho : o.op = .load ty x)
    (g off : Nat) (t : TypeId) (cur : Array Value) (h : Blk w g t cur) (hx : a.eval x = .pointer (some ⟨g, off, none⟩)) (cs : List Value) (d : TypeDesc) (hc : ∀ (j : Nat) v, cs[j]? = some v → cur[off + j]? = some v)
    (hu : P.underlying ty = some d) (hd : (match d with | .struct _ | .array _ _ => true | _ => false) = true) (hi : (P.info? ty).map (·.size) = some cs.length)
    (hK : wpList P ops Q rest (a.put o.dst (.agg cs.toArray)) w) : wpList P ops Q (o :: rest) a w :=
  when_gives hw (.agg cs.toArray) (by
    unfold execOp
    simp only [ho, hx, Instr.loadAt, Instr.sureAddr, Sem.run_bind, Sem.run_pure, Result.andThen_ok, run_loadVar_blk (P := P) w g off t ty cur h cs d hc hu hd hi]) hK
theorem when_eql (hw : Region.wanted o (yielded ops a.tmps) = true) (t e tr : TypeId) (p q : Operand) (ho : o.op = .binOp .eql t p q tr)
    (n : Nat) (i : TypeInfo) (ht : P.underlying t = some (.array n e)) (he : P.underlying e = some (.int .u8)) (hi : P.info? e = some i) (hc : P.cellsOf e = 1) (hm : P.eqGuardType P.depth t = false) (x y : List UInt8) (hx : x.length = n) (hy : y.length = n)
    (hp : a.eval p = .agg (B8 x).toArray) (hq : a.eval q = .agg (B8 y).toArray) (r : Bool) (hr : decide (x = y) = r) (h : wpList P ops Q rest (a.put o.dst (.bool r)) w) : wpList P ops Q (o :: rest) a w :=
  when_gives hw (.bool r) (by
    unfold execOp
    simp only [ho, hp, hq, Sem.run_bind, run_eqGuard_agg w .eql t p q _ _ hm, Result.andThen_ok, run_eql_bytes w t e n i ht he hi hc x y hx hy, Sem.run_pure, hr]) h
theorem when_neq (hw : Region.wanted o (yielded ops a.tmps) = true) (t e tr : TypeId) (p q : Operand) (ho : o.op = .binOp .neq t p q tr)
    (n : Nat) (i : TypeInfo) (ht : P.underlying t = some (.array n e)) (he : P.underlying e = some (.int .u8)) (hi : P.info? e = some i) (hc : P.cellsOf e = 1) (hm : P.eqGuardType P.depth t = false) (x y : List UInt8) (hx : x.length = n) (hy : y.length = n)
    (hp : a.eval p = .agg (B8 x).toArray) (hq : a.eval q = .agg (B8 y).toArray) (r : Bool) (hr : (!decide (x = y)) = r) (h : wpList P ops Q rest (a.put o.dst (.bool r)) w) : wpList P ops Q (o :: rest) a w :=
  when_gives hw (.bool r) (by
    unfold execOp
    simp only [ho, hp, hq, Sem.run_bind, run_eqGuard_agg w .neq t p q _ _ hm, Result.andThen_ok, run_neq_bytes w t e n i ht he hi hc x y hx hy, Sem.run_pure, hr]) h
end
end Go.Proofs.Ythodmhjlokfcaaa
