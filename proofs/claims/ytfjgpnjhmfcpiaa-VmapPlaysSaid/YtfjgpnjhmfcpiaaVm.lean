/- Where blocks are, in memory: a row of places and a map by places behind one pointer; places compared and read. -/
import Derived.Test.YtfjgpnjhmfcpiaaMapsG
import Derived.Test.YtfjgpnjhmfcpiaaVmP
import Derived.Test.YtfjgpnjhmfcpiaaSta
import Derived.Test.YtfjgpnjhmfcpiaaMade
import Derived.Test.YtfjgpnjhmfcpiaaPoke
import Derived.Test.YtfjgpnjhmfcpiaaStepK
import Derived.Shelf.SlicesE.Clone
namespace Go.Proofs.Ytfjgpnjhmfcpiaa
open Go.RowKit Go.Maps
set_option linter.unusedVariables false

/-! ### Keys that are places -/
def okWh (w : Wh) : Prop := okI64 w.t ∧ okI64 w.g ∧ okI64 w.s
theorem okWh_of {w : Wh} (h : w.fits) : okWh w := h
theorem okWh_ok {w : Wh} (h : w.ok = true) : okWh w := Wh.ok_fits h
def encWh (w : Wh) : Value := .agg (whC w).toArray
def litWh (w : Wh) : Lit := .string (keyBytes [.int .i64 w.t, .int .i64 w.g, .int .i64 w.s])
theorem wh_lits (d : Nat) {p : Wh} (h : okWh p) : Try.prog.keyLits (d + 2) 24 [.int .i64 p.t, .int .i64 p.g, .int .i64 p.s] = some [.int .i64 p.t, .int .i64 p.g, .int .i64 p.s] := by
  obtain ⟨h1, h2, h3⟩ := h
  unfold okI64 at h1 h2 h3
  have w1 : (Lit.int .i64 p.t).wf = true := WalkArith.wf_i64 (by omega)
  have w2 : (Lit.int .i64 p.g).wf = true := WalkArith.wf_i64 (by omega)
  have w3 : (Lit.int .i64 p.s).wf = true := WalkArith.wf_i64 (by omega)
  have c : Try.prog.cellsOf 24 = 3 := by kernel_rfl
  have c3 : Try.prog.cellsOf 3 = 1 := by kernel_rfl
  simp [Program.keyLits, Try.underlying24, Try.underlying3, c, c3, w1, w2, w3]
theorem wh_key {p : Wh} (h : okWh p) : keyOf Try.prog 24 (encWh p) = some (litWh p) := by
  have h1 : Try.prog.keyType 24 = true := by kernel_rfl
  have h2 : (encWh p).formed Try.prog 24 = true := by kernel_rfl
  have hz : (Try.prog.types.size == 0) = false := by kernel_rfl
  obtain ⟨d, hd⟩ : ∃ d, Try.prog.types.size = d + 1 := Nat.exists_eq_add_one_of_ne_zero (fun e => by rw [e] at hz; cases hz)
  have h3 := wh_lits d h
  unfold keyOf
  rw [Try.underlying24]
  simp only [h1, h2, hd, Bool.and_self, if_true]
  have hc : (encWh p).cells.toList = [.int .i64 p.t, .int .i64 p.g, .int .i64 p.s] := rfl
  rw [hc, h3]
  rfl
theorem wh_laid : laidOutB Try.prog = true := by kernel_rfl
theorem wh_keyed : Keyed Try.prog 24 := Keyed.of_law (deep_law_laid (m := 9999) wh_laid (Nat.le_refl _) (of_decide_eq_true (show decide (24 < Try.prog.types.size) = true by kernel_rfl)) (by kernel_rfl) (by kernel_rfl))
def whKey : Coded Wh where
  kt := 24
  ok := okWh
  enc := encWh
  lit := litWh
  keyed := wh_keyed
  key _ h := wh_key h
  inj i j h := by
    unfold encWh at h
    injection h with h
    have h := congrArg Array.toList h
    simp [whC] at h
    cases i; cases j; simp_all
theorem wh_info (p : Wh) : (Try.prog.info? 24).map (·.size) = some (whC p).length := by kernel_rfl
theorem ch_info (c : Ch) : (Try.prog.info? 34).map (·.size) = some (chC c).length := by kernel_rfl
theorem wh_one (p : Wh) : ∀ v ∈ whC p, v.oneCell' = true := by
  intro v hv
  simp [whC] at hv
  rcases hv with rfl | rfl | rfl <;> rfl
theorem ch_one (c : Ch) : ∀ v ∈ chC c, v.oneCell' = true := by
  intro v hv
  simp [chC, whC] at hv
  rcases hv with rfl | rfl | rfl | rfl <;> rfl
theorem whs_one (V : List Wh) : ∀ v ∈ whsL V, v.oneCell' = true := fun v hv => by
  obtain ⟨p, _, hp⟩ := List.mem_flatMap.1 hv
  exact wh_one p v hp

/-! ### Places compared -/
theorem wh_guard : Try.prog.eqGuardType Try.prog.depth 24 = false := by kernel_rfl
theorem wh_fields : Try.prog.underlying 24 = some (.struct (Try.prog.fieldsOf 24)) := by kernel_rfl
theorem wh_stood : Try.prog.stoodInHeld 24 = false := by kernel_rfl
theorem wh_fieldsL : (Try.prog.fieldsOf 24).toList.map (fun f => (f.name, f.type, f.offset)) = [("Tier", 3, 0), ("Group", 3, 1), ("Slot", 3, 2)] := by kernel_rfl
set_option maxRecDepth 100000 in
theorem run_same_wh (p q : Wh) (w : World) : (Op.equalIn 10000 24 (.agg (whC p).toArray) (.agg (whC q).toArray)).run Try.prog w = .ok (decide (p = q)) w := by
  have h := run_equalIn_struct (P := Try.prog) w 9999 24 (whC p).toArray (whC q).toArray wh_fields wh_stood
  have hl := wh_fieldsL
  generalize (Try.prog.fieldsOf 24).toList = fs at h hl
  rcases fs with _ | ⟨f0, _ | ⟨f1, _ | ⟨f2, _ | ⟨f3, fs⟩⟩⟩⟩ <;> simp at hl
  obtain ⟨⟨n0, t0, o0⟩, ⟨n1, t1, o1⟩, n2, t2, o2⟩ := hl
  have p0 : ∀ (x : Wh), (part f0.type (whC x).toArray f0.offset).run Try.prog w = .ok (.int .i64 x.t) w := fun x => by rw [t0, o0]; exact run_part_plain (P := Try.prog) w (by kernel_rfl) (xs := (whC x).toArray) (off := 0) (v := .int .i64 x.t) rfl
  have p1 : ∀ (x : Wh), (part f1.type (whC x).toArray f1.offset).run Try.prog w = .ok (.int .i64 x.g) w := fun x => by rw [t1, o1]; exact run_part_plain (P := Try.prog) w (by kernel_rfl) (xs := (whC x).toArray) (off := 1) (v := .int .i64 x.g) rfl
  have p2 : ∀ (x : Wh), (part f2.type (whC x).toArray f2.offset).run Try.prog w = .ok (.int .i64 x.s) w := fun x => by rw [t2, o2]; exact run_part_plain (P := Try.prog) w (by kernel_rfl) (xs := (whC x).toArray) (off := 2) (v := .int .i64 x.s) rfl
  have e0 : ∀ x y : Int, (Op.equalIn 9999 f0.type (.int .i64 x) (.int .i64 y)).run Try.prog w = .ok (x == y) w := fun x y => by rw [t0]; exact run_equalIn_int (P := Try.prog) w 9998 3 .i64 .i64 x y Try.underlying3
  have e1 : ∀ x y : Int, (Op.equalIn 9999 f1.type (.int .i64 x) (.int .i64 y)).run Try.prog w = .ok (x == y) w := fun x y => by rw [t1]; exact run_equalIn_int (P := Try.prog) w 9998 3 .i64 .i64 x y Try.underlying3
  have e2 : ∀ x y : Int, (Op.equalIn 9999 f2.type (.int .i64 x) (.int .i64 y)).run Try.prog w = .ok (x == y) w := fun x y => by rw [t2]; exact run_equalIn_int (P := Try.prog) w 9998 3 .i64 .i64 x y Try.underlying3
  rw [h]
  simp only [Op.eqFields]
  have hd : p = q ↔ p.t = q.t ∧ p.g = q.g ∧ p.s = q.s := ⟨fun e => e ▸ ⟨rfl, rfl, rfl⟩, fun e => by cases p; cases q; simp_all⟩
  by_cases h1 : p.t = q.t <;> by_cases h2 : p.g = q.g <;> by_cases h3 : p.s = q.s <;> simp [n0, n1, n2, p0, p1, p2, e0, e1, e2, h1, h2, h3, hd]
section
variable {ops : Array Oper} {rest : List Oper} {o : Oper} {a : Act} {w : World} {Q : Exit → Act → World → Prop}
theorem run_eqW (W : World) (o : Oper) (x y : Operand) (tr : TypeId) (ho : o.op = .binOp .eql 24 x y tr) (p q : Wh) (hp : a.eval x = .agg (whC p).toArray) (hq : a.eval y = .agg (whC q).toArray) (r : Bool) (hr : decide (p = q) = r) : (execOp a.eval o).run Try.prog W = .ok (.value (.bool r)) W := by
  unfold execOp
  simp only [ho, hp, hq, Sem.run_bind, run_eqGuard_agg (P := Try.prog) W .eql 24 x y _ _ wh_guard, Result.andThen_ok, run_eql_struct, run_same_wh p q W, Sem.run_pure, hr]
theorem run_neW (W : World) (o : Oper) (x y : Operand) (tr : TypeId) (ho : o.op = .binOp .neq 24 x y tr) (p q : Wh) (hp : a.eval x = .agg (whC p).toArray) (hq : a.eval y = .agg (whC q).toArray) (r : Bool) (hr : (!decide (p = q)) = r) : (execOp a.eval o).run Try.prog W = .ok (.value (.bool r)) W := by
  unfold execOp
  simp only [ho, hp, hq, Sem.run_bind, run_eqGuard_agg (P := Try.prog) W .neq 24 x y _ _ wh_guard, Result.andThen_ok, run_neq_struct, run_same_wh p q W, Sem.run_pure, hr]
theorem when_eqW (hw : Region.wanted o (yielded ops a.tmps) = true) (p q : Operand) (tr : TypeId) (ho : o.op = .binOp .eql 24 p q tr) (s t : Wh) (hp : a.eval p = .agg (whC s).toArray) (hq : a.eval q = .agg (whC t).toArray) (r : Bool) (hr : decide (s = t) = r)
    (h : wpList Try.prog ops Q rest (a.put o.dst (.bool r)) w) : wpList Try.prog ops Q (o :: rest) a w := when_gives hw _ (run_eqW w o p q tr ho s t hp hq r hr) h
theorem when_neW (hw : Region.wanted o (yielded ops a.tmps) = true) (p q : Operand) (tr : TypeId) (ho : o.op = .binOp .neq 24 p q tr) (s t : Wh) (hp : a.eval p = .agg (whC s).toArray) (hq : a.eval q = .agg (whC t).toArray) (r : Bool) (hr : (!decide (s = t)) = r)
    (h : wpList Try.prog ops Q rest (a.put o.dst (.bool r)) w) : wpList Try.prog ops Q (o :: rest) a w := when_gives hw _ (run_neW w o p q tr ho s t hp hq r hr) h
theorem run_load_wh (W : World) (o : Oper) (x : Operand) (ho : o.op = .load 24 x) (ad : Addr) (p : Wh) (hc : ∀ (j : Nat) (v : Value), (whC p)[j]? = some v → W.cell? (ad.add j) = some v) (hx : a.eval x = .pointer (some ad)) : (execOp a.eval o).run Try.prog W = .ok (.value (.agg (whC p).toArray)) W := by
  unfold execOp
  simp only [ho, hx, Instr.loadAt, Instr.sureAddr, Sem.run_bind, Sem.run_pure, Result.andThen_ok, run_loadVar_at W ad 24 (whC p) _ hc Try.underlying24 rfl (wh_info p)]
theorem when_loadW (hw : Region.wanted o (yielded ops a.tmps) = true) (x : Operand) (ho : o.op = .load 24 x) (ad : Addr) (p : Wh) (hc : ∀ (j : Nat) (v : Value), (whC p)[j]? = some v → w.cell? (ad.add j) = some v) (hx : a.eval x = .pointer (some ad))
    (h : wpList Try.prog ops Q rest (a.put o.dst (.agg (whC p).toArray)) w) : wpList Try.prog ops Q (o :: rest) a w := when_gives hw _ (run_load_wh w o x ho ad p hc hx) h
theorem when_loadC (hw : Region.wanted o (yielded ops a.tmps) = true) (x : Operand) (ho : o.op = .load 34 x) (ad : Addr) (p : Ch) (hc : ∀ (j : Nat) (v : Value), (chC p)[j]? = some v → w.cell? (ad.add j) = some v) (hx : a.eval x = .pointer (some ad))
    (h : wpList Try.prog ops Q rest (a.put o.dst (.agg (chC p).toArray)) w) : wpList Try.prog ops Q (o :: rest) a w := when_gives hw _ (by
  unfold execOp
  simp only [ho, hx, Instr.loadAt, Instr.sureAddr, Sem.run_bind, Sem.run_pure, Result.andThen_ok, run_loadVar_at w ad 34 (chC p) _ hc Try.underlying34 rfl (ch_info p)]) h
end
/-! ### Rows of them -/
theorem add0 (p k : Nat) : (⟨p, 0, none⟩ : Addr).add k = ⟨p, k, none⟩ := by unfold Addr.add; split <;> simp_all
theorem addr_one (a : Addr) (j : Nat) (hj : 0 < j) : a.add j = ⟨a.block, a.off + j, none⟩ := by
  unfold Addr.add
  exact if_neg (by omega)
section
variable {w w' : World}
/-- A place of a row. -/
theorem wh_at {V : List Wh} {A : Option Addr} {n B : Nat} (h : Reads w B 3 A n (whsL V)) {k : Nat} {p : Wh} (hp : V[k]? = some p) :
    ∃ ad, A = some ad ∧ ad.block < B ∧ (∀ (j : Nat) v, (whC p)[j]? = some v → w.cell? ((ad.add (k * 3)).add j) = some v) ∧ w.cell? (ad.add (k * 3)) = some (.int .i64 p.t) ∧ w.cell? ⟨(ad.add (k * 3)).block, (ad.add (k * 3)).off + 1, none⟩ = some (.int .i64 p.g) := by
  have hk : k < V.length := (List.getElem?_eq_some_iff.1 hp).1
  have hn : 0 < n := by
    have := h.1
    rw [whsL_len] at this
    omega
  obtain ⟨ad, hA, hb, hr⟩ := h.2 hn
  have hc : ∀ (j : Nat) v, (whC p)[j]? = some v → w.cell? ((ad.add (k * 3)).add j) = some v := fun j v hj => by
    rw [add_of_add]
    exact hr _ _ (whsL_at hp j v hj)
  refine ⟨ad, hA, hb, hc, hc 0 _ rfl, ?_⟩
  have := hc 1 _ rfl
  rwa [addr_one _ 1 (by decide)] at this
/-- A change of a row. -/
theorem ch_at {V : List Ch} {A : Option Addr} {n B : Nat} (h : Reads w B 4 A n (chsL V)) {k : Nat} {c : Ch} (hp : V[k]? = some c) :
    ∃ ad, A = some ad ∧ ad.block < B ∧ (∀ (j : Nat) v, (chC c)[j]? = some v → w.cell? ((ad.add (k * 4)).add j) = some v) ∧ w.cell? (ad.add (k * 4)) = some (.int .i64 c.1) ∧ ∀ (j : Nat) v, (whC c.2)[j]? = some v → w.cell? ((⟨(ad.add (k * 4)).block, (ad.add (k * 4)).off + 1, none⟩ : Addr).add j) = some v := by
  have hk : k < V.length := (List.getElem?_eq_some_iff.1 hp).1
  have hn : 0 < n := by
    have := h.1
    rw [chsL_len] at this
    omega
  obtain ⟨ad, hA, hb, hr⟩ := h.2 hn
  have hc : ∀ (j : Nat) v, (chC c)[j]? = some v → w.cell? ((ad.add (k * 4)).add j) = some v := fun j v hj => by
    rw [add_of_add]
    exact hr _ _ (chsL_at hp j v hj)
  refine ⟨ad, hA, hb, hc, hc 0 _ rfl, fun j v hj => ?_⟩
  have := hc (1 + j) v (by rw [Nat.add_comm]; exact hj)
  rw [← addr_one _ 1 (by decide), add_of_add]
  exact this
end

/-! ### The map -/
def hF (V : List Wh) : Wh → Option Value := fun p => Option.map (fun (b : Nat) => Value.int .i64 (b : Int)) (hold V p)
theorem hF_nil : hF [] = fun _ => none := funext fun p => by unfold hF; rw [hold_nil]; rfl
theorem hF_none {V : List Wh} {p : Wh} : hF V p = none ↔ p.t = 0 ∨ p ∉ V := by
  unfold hF
  rw [Option.map_eq_none_iff]
  exact hold_none p
/-- One more place, which nobody is at. -/
theorem hF_put {V : List Wh} {p : Wh} (ht : p.t ≠ 0) (h : p ∉ V) : ∀ x, upd (hF V) p (some (.int .i64 (V.length : Int))) x = hF (V ++ [p]) x := fun x => by
  by_cases hx : x = p
  · subst hx
    rw [upd_self]
    unfold hF
    rw [hold_snoc_self ht h]
    rfl
  · rw [upd_ne _ _ hx]
    unfold hF
    rw [hold_snoc_other (.inl hx)]
theorem hF_skip {V : List Wh} {p : Wh} (ht : p.t = 0) : ∀ x, hF V x = hF (V ++ [p]) x := fun x => by
  unfold hF
  rw [hold_snoc_other (.inr ht)]
/-- The keys that are there. -/
def hKs (V : List Wh) : List Wh := V.filter fun p => decide (p.t ≠ 0)
theorem hKs_nodup {V : List Wh} (h : Dis V) : (hKs V).Nodup := by
  unfold hKs List.Nodup
  rw [List.pairwise_filter]
  refine h.imp fun {a b} hab ha hb e => ?_
  exact of_decide_eq_true ha (hab e)
theorem hKs_mem (V : List Wh) : ∀ p, p ∈ hKs V ↔ (hF V p).isSome = true := fun p => by
  unfold hKs
  rw [List.mem_filter, decide_eq_true_eq]
  cases hh : hF V p with
  | none =>
    rcases hF_none.1 hh with h | h
    · simp [h]
    · simp [h]
  | some v =>
    have hn : ¬ (p.t = 0 ∨ p ∉ V) := fun h => by rw [hF_none.2 h] at hh; cases hh
    simp only [Option.isSome_some, iff_true]
    exact ⟨Decidable.byContradiction fun h => hn (.inr h), fun h => hn (.inl h)⟩
theorem hKs_len (V : List Wh) : (hKs V).length ≤ V.length := List.length_filter_le _ _
/-- Block m is the map of places V: its row in block p, its map in block y. -/
structure VmIn (W : World) (m p y c : Nat) (cur : Array Value) (V : List Wh) : Prop where
  head : Blk W m 56 #[.slice (some ⟨p, 0, none⟩) V.length c, .map (some y)]
  row : Blk W p 24 cur
  cells : cur.toList.take (V.length * 3) = whsL V
  cap : V.length ≤ c
  max : c ≤ 9223372036854775807
  map : MapIs whKey W y (hF V)
  ok : OkV V
section
variable {W W' : World} {m p y c : Nat} {cur : Array Value} {V : List Wh}
theorem VmIn.kept (h : VmIn W m p y c cur V) (h1 : W'.heap[m]? = W.heap[m]?) (h2 : W'.heap[p]? = W.heap[p]?) (h3 : W'.heap[y]? = W.heap[y]?) : VmIn W' m p y c cur V :=
  ⟨h.head.of_block h1, h.row.of_block h2, h.cells, h.cap, h.max, h.map.of_block h3, h.ok⟩
theorem VmIn.later (h : VmIn W m p y c cur V) (hb : Below W.heap.size W W') : VmIn W' m p y c cur V := h.kept (hb.block _ h.head.lt) (hb.block _ h.row.lt) (hb.block _ h.map.lt)
theorem VmIn.c0 (h : VmIn W m p y c cur V) : W.cell? ⟨m, 0, none⟩ = some (.slice (some ⟨p, 0, none⟩) V.length c) := h.head.cell 0
theorem VmIn.c1 (h : VmIn W m p y c cur V) : W.cell? ⟨m, 1, none⟩ = some (.map (some y)) := h.head.cell 1
theorem VmIn.reads (h : VmIn W m p y c cur V) : Reads W W.heap.size 3 (some ⟨p, 0, none⟩) V.length (whsL V) := by
  refine ⟨whsL_len V, fun _ => ⟨_, rfl, h.row.lt, fun j u hj => ?_⟩⟩
  have hadd : (⟨p, 0, none⟩ : Addr).add j = ⟨p, j, none⟩ := by unfold Addr.add; split <;> simp_all
  rw [hadd, h.row.cell j]
  rw [← h.cells, List.getElem?_take] at hj
  split at hj
  · simpa using hj
  · cases hj
end
/-- As a thing. -/
def vmT (m : Nat) (V : List Wh) : Thing where
  is W F := ∃ p y c cur, VmIn W m p y c cur V ∧ ∀ i, F i ↔ i = m ∨ i = p ∨ i = y
  lt := fun {w F} ⟨p, y, c, cur, h, hF⟩ i hi => by
    rcases (hF i).1 hi with rfl | rfl | rfl
    · exact h.head.lt
    · exact h.row.lt
    · exact h.map.lt
  kept := fun {w w' F} ⟨p, y, c, cur, h, hF⟩ hk => ⟨p, y, c, cur, h.kept (hk m ((hF m).2 (.inl rfl))) (hk p ((hF p).2 (.inr (.inl rfl)))) (hk y ((hF y).2 (.inr (.inr rfl)))), hF⟩
/-! ### A row copied -/
def lay_cloneW_ren : Go.Shelf.Ren := ⟨fun | 41 => 26 | n => n, fun | 22 => 35 | 23 => 24 | 4 => 4 | n => n, fun | n => n⟩
theorem lay_cloneW : Go.Proofs.SlLaysE0.n41 Try.prog lay_cloneW_ren := {
  mixed := by kernel_rfl
  f41 := ⟨Try.f26.name, by decide, Try.func26.trans (congrArg some (by kernel_rfl))⟩
  t4 := Try.underlying4
  a4 := Try.isAgg4
  z4 := Try.sizeOf4
  v4 := Try.zeroValue4
  t22 := Try.underlying35
  a22 := Try.isAgg35
  z22 := Try.sizeOf35
  v22 := Try.zeroValue35 }
theorem wh_i0 : ∃ i0 : TypeInfo, Try.prog.info? 24 = some i0 ∧ i0.zero = some (.agg #[.int .i64 0, .int .i64 0, .int .i64 0]) ∧ i0.size = 3 ∧ i0.bytes = 24 := ⟨(Try.prog.info? 24).get!, by kernel_rfl, by kernel_rfl, by kernel_rfl, by kernel_rfl⟩
theorem wclone_any {w : World} {p n c : Nat} {V : List Wh} (hr : Reads w w.heap.size 3 (some ⟨p, 0, none⟩) n (whsL V)) (h0 : 0 < n) (hn : n ≤ 1000000) :
    Calls Try.prog 26 #[.slice (some ⟨p, 0, none⟩) n c] w fun e w' => ∃ v, e = .returned v ∧ w'.ownsRow w.heap.size 24 3 v n (whsL V) ∧ Below w.heap.size w w' := by
  obtain ⟨i0, hi, h1, h2, h3⟩ := wh_i0
  refine (AnyE.slices_Clone lay_cloneW i0 _ 3 24 hi h1 h2 h3 rfl (by decide) (fun w => Try.sizeOf24 w) p 0 n c (whsL V) w hr.1 (by unfold maxLen; omega) (by omega) (fun j u hj => ?_) (whs_one V)).mono fun e w' ⟨v, q1, q2, _, q4⟩ => ⟨v, q1, q2, q4⟩
  obtain ⟨ad, e, _, hc⟩ := hr.2 h0
  injection e with e
  subst e
  have := hc j u hj
  have hadd : (⟨p, 0, none⟩ : Addr).add j = ⟨p, 0 + j, none⟩ := by unfold Addr.add; split <;> simp_all
  rwa [hadd] at this
#print axioms wclone_any
end Go.Proofs.Ytfjgpnjhmfcpiaa
