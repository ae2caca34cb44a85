/- A block of memory known whole; and what may have turned: the blocks of one span alone. No program is named here. -/
import Derived.Test.YthodmhjlokfcaaaArr
import Derived.Laws.ResultCell
import Derived.Laws.CopyRow
import Derived.Laws.Build
import Derived.Below
import Derived.Laws.OwnMore
import Derived.Deep.Draws
import Derived.Laws.Rows
import Derived.BigQuiet
namespace Go.Proofs.Ythodmhjlokfcaaa
open Go.RowKit

def Blk (w : World) (g : Nat) (t : TypeId) (cs : Array Value) : Prop := w.heap[g]? = some (.cells cs t (0, 0))
section
variable {w w' : World} {g : Nat} {t : TypeId} {cs : Array Value}
theorem Blk.lt (h : Blk w g t cs) : g < w.heap.size := by
  rcases Nat.lt_or_ge g w.heap.size with hlt | hge
  · exact hlt
  · unfold Blk at h; rw [Array.getElem?_eq_none hge] at h; cases h
theorem Blk.cell (h : Blk w g t cs) (i : Nat) : w.cell? ⟨g, i, none⟩ = cs[i]? := cell_of_row w g i cs t (0, 0) h
theorem Blk.frozen (h : Blk w g t cs) (i : Nat) : w.frozen? ⟨g, i, none⟩ = false := by
  unfold Blk at h
  simp [World.frozen?, h]
theorem Blk.new (w : World) (t : TypeId) (cs : Array Value) : Blk (w.alloc (.cells cs t)) w.heap.size t cs := heap_alloc_new w _
theorem Blk.drew (h : Blk w g t cs) : Blk w.drew g t cs := h
theorem Blk.drewN (h : Blk w g t cs) (n : Nat) : Blk (w.drewN n) g t cs := h
theorem Blk.alloc (h : Blk w g t cs) (o : Obj) : Blk (w.alloc o) g t cs := (Below.heap_alloc w o g h.lt).trans h
theorem Blk.set_ (h : Blk w g t cs) (i : Nat) (u : Value) : Blk (w.setCell ⟨g, i, none⟩ u) g t (cs.setIfInBounds i u) := by
  unfold Blk at h ⊢
  simp [World.setCell, Array.getElem?_modify, h]
theorem Blk.far (h : Blk w g t cs) {p : Addr} (hp : g ≠ p.block) (u : Value) : Blk (w.setCell p u) g t cs := (Below.heap_setCell w p u g hp).trans h
theorem Blk.of_block (h : Blk w g t cs) (hb : w'.heap[g]? = w.heap[g]?) : Blk w' g t cs := hb.trans h
theorem Blk.below {B : Nat} (h : Blk w g t cs) (hb : Below B w w') (hg : g < B) : Blk w' g t cs := (hb.block g hg).trans h
theorem Blk.grown {row : Option Nat} (h : Blk w g t cs) (hb : w.grownBy w' row) (hg : some g ≠ row) : Blk w' g t cs := (hb.block g h.lt hg).trans h
end
theorem grown_refl (w : World) (r : Option Nat) : w.grownBy w r := ⟨rfl, rfl, rfl, Nat.le_refl _, fun _ _ _ => rfl⟩
theorem grown_trans {a b c : World} {r : Option Nat} (h : a.grownBy b r) (k : b.grownBy c r) : a.grownBy c r :=
  ⟨k.os.trans h.os, k.tape.trans h.tape, k.output.trans h.output, Nat.le_trans h.size k.size, fun i hi hr => (k.block i (Nat.lt_of_lt_of_le hi h.size) hr).trans (h.block i hi hr)⟩
theorem grown_drew {a c : World} {r : Option Nat} (h : a.grownBy c r) : a.grownBy c.drew r := ⟨h.os, h.tape, h.output, h.size, h.block⟩
theorem grown_drewN {a c : World} {r : Option Nat} (h : a.grownBy c r) (k : Nat) : a.grownBy (c.drewN k) r := ⟨h.os, h.tape, h.output, h.size, h.block⟩
theorem grown_set {a c : World} {r : Option Nat} (h : a.grownBy c r) (p : Addr) (hp : r = some p.block) (u : Value) : a.grownBy (c.setCell p u) r := by
  refine ⟨h.os, h.tape, h.output, ?_, fun i hi hr => ?_⟩
  · have e : (c.setCell p u).heap.size = c.heap.size := by simp [World.setCell]
    rw [e]
    exact h.size
  · rw [Below.heap_setCell c p u i (fun e => hr (by rw [hp, e]))]
    exact h.block i hi hr
theorem grown_of (a c : World) (r : Option Nat) (h : Below a.heap.size a c) : a.grownBy c r := ⟨h.os, h.tape, h.output, h.size, fun i hi _ => h.block i hi⟩
theorem quiet_as {P : Program} {f : FuncId} {args : Array Value} {w : World} {n : Nat} {v : Value}
    (h : Calls P f args (w.drewN n) fun e w' => e = .returned v ∧ w.drewN n = w') : Calls P f args (w.drewN n) fun e w'' => e = .returned v ∧ ∃ m, w'' = w.drewN m :=
  h.mono fun _ _ ⟨he, hm⟩ => ⟨he, n, hm.symm⟩
theorem quiet_on {P : Program} {f : FuncId} {args : Array Value} {w : World} {n : Nat} {v : Value}
    (h : Calls P f args (w.drewN n) fun e w' => e = .returned v ∧ ∃ m, w' = (w.drewN n).drewN m) : Calls P f args (w.drewN n) fun e w'' => e = .returned v ∧ ∃ m, w'' = w.drewN m := Calls.quiet_of h
theorem ret_of {k : IntKind} {a b : Int} (h : a = b) : Ending.returned (.int k a) = .returned (.int k b) := by rw [h]
theorem ret_bool {a b : Bool} (h : a = b) : Ending.returned (.bool a) = .returned (.bool b) := by rw [h]

/-- Nothing has turned but blocks of the span from lo to below hi, and new ones. -/
structure Upto (lo hi : Nat) (w w' : World) : Prop where
  os : w'.os = w.os
  tape : w'.tape = w.tape
  output : w'.output = w.output
  size : w.heap.size ≤ w'.heap.size
  block : ∀ i, i < w.heap.size → i < lo ∨ hi ≤ i → w'.heap[i]? = w.heap[i]?
section
variable {lo hi : Nat} {a b c : World}
theorem Upto.refl (lo hi : Nat) (w : World) : Upto lo hi w w := ⟨rfl, rfl, rfl, Nat.le_refl _, fun _ _ _ => rfl⟩
theorem Upto.trans (h : Upto lo hi a b) (k : Upto lo hi b c) : Upto lo hi a c :=
  ⟨k.os.trans h.os, k.tape.trans h.tape, k.output.trans h.output, Nat.le_trans h.size k.size, fun i hi hr => (k.block i (Nat.lt_of_lt_of_le hi h.size) hr).trans (h.block i hi hr)⟩
theorem Upto.drew (h : Upto lo hi a b) : Upto lo hi a b.drew := ⟨h.os, h.tape, h.output, h.size, h.block⟩
theorem Upto.drewN (h : Upto lo hi a b) (k : Nat) : Upto lo hi a (b.drewN k) := ⟨h.os, h.tape, h.output, h.size, h.block⟩
theorem Upto.of_grown {row : Option Nat} (h : a.grownBy b row) (hr : ∀ g, row = some g → lo ≤ g ∧ g < hi) : Upto lo hi a b :=
  ⟨h.os, h.tape, h.output, h.size, fun i hi ho => h.block i hi (fun e => by have := hr i e.symm; omega)⟩
theorem Upto.grown {row : Option Nat} (h : Upto lo hi a b) (k : b.grownBy c row) (hr : ∀ g, row = some g → (lo ≤ g ∧ g < hi) ∨ a.heap.size ≤ g) : Upto lo hi a c :=
  ⟨k.os.trans h.os, k.tape.trans h.tape, k.output.trans h.output, Nat.le_trans h.size k.size, fun i hi ho =>
    (k.block i (Nat.lt_of_lt_of_le hi h.size) (fun e => by have := hr i e.symm; omega)).trans (h.block i hi ho)⟩
theorem Upto.of_below (h : Below a.heap.size a b) : Upto lo hi a b := ⟨h.os, h.tape, h.output, h.size, fun i hi _ => h.block i hi⟩
theorem Upto.more (h : Upto lo hi a b) (k : Below b.heap.size b c) : Upto lo hi a c := h.trans (.of_below k)
theorem Upto.alloc (h : Upto lo hi a b) (o : Obj) : Upto lo hi a (b.alloc o) := h.more ((Below.refl _ b).alloc (Nat.le_refl _) o)
theorem Upto.set (h : Upto lo hi a b) (p : Addr) (hp : (lo ≤ p.block ∧ p.block < hi) ∨ a.heap.size ≤ p.block) (u : Value) : Upto lo hi a (b.setCell p u) :=
  h.grown (grown_set (grown_refl b (some p.block)) p rfl u) (fun g e => by injection e with e; subst e; exact hp)
theorem Upto.low (h : Upto lo hi a b) {B : Nat} (hB : B ≤ lo) (hs : lo ≤ a.heap.size) : Below B a b := ⟨h.os, h.tape, h.output, h.size, fun i hi => h.block i (by omega) (.inl (by omega))⟩
theorem Upto.wider {lo' hi' : Nat} (h : Upto lo hi a b) (h1 : lo' ≤ lo) (h2 : hi ≤ hi') : Upto lo' hi' a b := ⟨h.os, h.tape, h.output, h.size, fun i hi ho => h.block i hi (by omega)⟩
end
/-- Nothing has turned but the blocks of F, and new ones. -/
structure Turn (F : Nat → Prop) (w w' : World) : Prop where
  os : w'.os = w.os
  tape : w'.tape = w.tape
  output : w'.output = w.output
  size : w.heap.size ≤ w'.heap.size
  block : ∀ i, i < w.heap.size → ¬ F i → w'.heap[i]? = w.heap[i]?
section
variable {F : Nat → Prop} {a b c : World}
theorem Turn.refl (F : Nat → Prop) (w : World) : Turn F w w := ⟨rfl, rfl, rfl, Nat.le_refl _, fun _ _ _ => rfl⟩
theorem Turn.trans (h : Turn F a b) (k : Turn F b c) : Turn F a c :=
  ⟨k.os.trans h.os, k.tape.trans h.tape, k.output.trans h.output, Nat.le_trans h.size k.size, fun i hi hr => (k.block i (Nat.lt_of_lt_of_le hi h.size) hr).trans (h.block i hi hr)⟩
theorem Turn.grown {row : Option Nat} (h : Turn F a b) (k : b.grownBy c row) (hr : ∀ g, row = some g → F g ∨ a.heap.size ≤ g) : Turn F a c :=
  ⟨k.os.trans h.os, k.tape.trans h.tape, k.output.trans h.output, Nat.le_trans h.size k.size, fun i hi ho =>
    (k.block i (Nat.lt_of_lt_of_le hi h.size) (fun e => by
      rcases hr i e.symm with h1 | h1
      · exact ho h1
      · omega)).trans (h.block i hi ho)⟩
theorem Turn.of_grown {row : Option Nat} (k : a.grownBy c row) (hr : ∀ g, row = some g → F g) : Turn F a c := (Turn.refl F a).grown k (fun g e => .inl (hr g e))
theorem Turn.below (h : Turn F a b) (k : Below b.heap.size b c) : Turn F a c := h.trans ⟨k.os, k.tape, k.output, k.size, fun i hi _ => k.block i hi⟩
theorem Turn.of_below (h : Below a.heap.size a b) : Turn F a b := ⟨h.os, h.tape, h.output, h.size, fun i hi _ => h.block i hi⟩
theorem Turn.more (h : Turn F a b) (k : Below b.heap.size b c) : Turn F a c := h.below k
theorem Turn.alloc (h : Turn F a b) (o : Obj) : Turn F a (b.alloc o) := h.more ((Below.refl _ b).alloc (Nat.le_refl _) o)
theorem Turn.drew (h : Turn F a b) : Turn F a b.drew := ⟨h.os, h.tape, h.output, h.size, h.block⟩
theorem Turn.drewN (h : Turn F a b) (k : Nat) : Turn F a (b.drewN k) := ⟨h.os, h.tape, h.output, h.size, h.block⟩
theorem Turn.wider {G : Nat → Prop} (h : Turn F a b) (hFG : ∀ i, F i → G i) : Turn G a b := ⟨h.os, h.tape, h.output, h.size, fun i hi hn => h.block i hi (fun hf => hn (hFG i hf))⟩
theorem Turn.upto {lo hi : Nat} (h : Turn F a b) (hF : ∀ i, F i → lo ≤ i ∧ i < hi) : Upto lo hi a b := ⟨h.os, h.tape, h.output, h.size, fun i hi ho => h.block i hi (fun hf => by have := hF i hf; omega)⟩
theorem Turn.set (h : Turn F a b) (p : Addr) (hp : F p.block ∨ a.heap.size ≤ p.block) (u : Value) : Turn F a (b.setCell p u) :=
  h.grown (grown_set (grown_refl b (some p.block)) p rfl u) (fun g e => by injection e with e; subst e; exact hp)
theorem Turn.cell (h : Turn F a b) {p : Addr} (hp : p.block < a.heap.size) (hF : ¬ F p.block) : b.cell? p = a.cell? p := World.cell?_of_block (h.block _ hp hF)
end
/-! ### Whole arrays and structs, into and out of a block; handed back -/
section
variable {P : Program}
theorem run_storeVar_blk (w : World) (g off : Nat) (t ty : TypeId) (cur : Array Value) (h : Blk w g t cur) (cs : List Value) (hi : (P.info? ty).map (·.size) = some cs.length) (hl : off + cs.length ≤ cur.size) (h1 : ∀ v ∈ cs, v.oneCell' = true) :
    ∃ w', (storeVar ty ⟨g, off, none⟩ (.agg cs.toArray)).run P w = .ok () w' ∧ Blk w' g t (cur.toList.take off ++ cs ++ cur.toList.drop (off + cs.length)).toArray ∧ w.grownBy w' (some g) ∧ w'.heap.size = w.heap.size := by
  have hr := run_storeCells_at (P := P) g off t cs 0 cur w h (by omega) h1
  simp only [Nat.add_zero] at hr
  refine ⟨_, ?_, setRow_heap w g cur _ t (0, 0) h, ⟨rfl, rfl, rfl, by simp [World.setRow], fun i _ hi => ?_⟩, by simp [World.setRow]⟩
  · cases hq : P.info? ty with
    | none => simp [hq] at hi
    | some i =>
      have hs : i.size = cs.length := by simpa [hq] using hi
      have hc : (Value.agg cs.toArray).cells = cs.toArray := rfl
      simp [storeVar, Sem.run_bind, sizeOf, typeInfo, hq, hs, hc, hr]
  · simp only [World.setRow, Array.getElem?_modify]
    rw [if_neg (fun e => hi (by rw [e]))]
theorem wpList_store_blk {ops : Array Oper} {rest : List Oper} {o : Oper} {a : Act} {w : World} {Q : Exit → Act → World → Prop} (hgd : o.guard = none) (ty : TypeId) (x y : Operand) (ho : o.op = .store ty x y)
    (g off : Nat) (t : TypeId) (cur : Array Value) (h : Blk w g t cur) (hx : a.eval x = .pointer (some ⟨g, off, none⟩)) (cs : List Value) (hy : a.eval y = .agg cs.toArray) (hi : (P.info? ty).map (·.size) = some cs.length)
    (hl : off + cs.length ≤ cur.size) (h1 : ∀ v ∈ cs, v.oneCell' = true)
    (hK : ∀ w', Blk w' g t (cur.toList.take off ++ cs ++ cur.toList.drop (off + cs.length)).toArray → w.grownBy w' (some g) → w'.heap.size = w.heap.size → wpList P ops Q rest (a.put o.dst undef) w') : wpList P ops Q (o :: rest) a w :=
  wpList_plain hgd fun _ hK' => by
    obtain ⟨w', hrun, h2, h3, h4⟩ := run_storeVar_blk (P := P) w g off t ty cur h cs hi hl h1
    unfold Oper.wp execOp
    simp only [ho, hx, hy, Instr.storeAt, Instr.sureAddr, Sem.run_bind, Sem.run_pure, Result.andThen_ok, hrun]
    exact hK' _ _ (hK w' h2 h3 h4)
/-- .. the whole block. -/
theorem wpList_store_all {ops : Array Oper} {rest : List Oper} {o : Oper} {a : Act} {w : World} {Q : Exit → Act → World → Prop} (hgd : o.guard = none) (ty : TypeId) (x y : Operand) (ho : o.op = .store ty x y)
    (g : Nat) (t : TypeId) (cur : Array Value) (h : Blk w g t cur) (hx : a.eval x = .pointer (some ⟨g, 0, none⟩)) (cs : List Value) (hy : a.eval y = .agg cs.toArray) (hi : (P.info? ty).map (·.size) = some cs.length)
    (hl : cs.length = cur.size) (h1 : ∀ v ∈ cs, v.oneCell' = true)
    (hK : ∀ w', Blk w' g t cs.toArray → w.grownBy w' (some g) → w'.heap.size = w.heap.size → wpList P ops Q rest (a.put o.dst undef) w') : wpList P ops Q (o :: rest) a w := by
  refine wpList_store_blk hgd ty x y ho g 0 t cur h hx cs hy hi (by omega) h1 fun w' h2 h3 h4 => hK w' ?_ h3 h4
  rw [List.take_zero, List.nil_append, List.drop_of_length_le (by rw [Array.length_toList]; omega), List.append_nil] at h2
  exact h2
theorem run_loadVar_blk (w : World) (g off : Nat) (t ty : TypeId) (cur : Array Value) (h : Blk w g t cur) (cs : List Value) (d : TypeDesc) (hc : ∀ j v, cs[j]? = some v → cur[off + j]? = some v)
    (hu : P.underlying ty = some d) (hd : (match d with | .struct _ | .array _ _ => true | _ => false) = true) (hi : (P.info? ty).map (·.size) = some cs.length) : (loadVar ty ⟨g, off, none⟩).run P w = .ok (.agg cs.toArray) w := by
  refine run_loadVar_at (P := P) w ⟨g, off, none⟩ ty cs d (fun j v hv => ?_) hu hd hi
  have hadd : (⟨g, off, none⟩ : Addr).add j = ⟨g, off + j, none⟩ := by unfold Addr.add; split <;> simp_all
  rw [hadd, h.cell]
  exact hc j v hv
theorem wpList_load_blk {ops : Array Oper} {rest : List Oper} {o : Oper} {a : Act} {w : World} {Q : Exit → Act → World → Prop} (hgd : o.guard = none) (ty : TypeId) (x : Operand) (ho : o.op = .load ty x)
    (g off : Nat) (t : TypeId) (cur : Array Value) (h : Blk w g t cur) (hx : a.eval x = .pointer (some ⟨g, off, none⟩)) (cs : List Value) (d : TypeDesc) (hc : ∀ j v, cs[j]? = some v → cur[off + j]? = some v)
    (hu : P.underlying ty = some d) (hd : (match d with | .struct _ | .array _ _ => true | _ => false) = true) (hi : (P.info? ty).map (·.size) = some cs.length)
    (hK : wpList P ops Q rest (a.put o.dst (.agg cs.toArray)) w) : wpList P ops Q (o :: rest) a w :=
  wpList_plain hgd fun _ hK' => by
    unfold Oper.wp execOp
    simp only [ho, hx, Instr.loadAt, Instr.sureAddr, Sem.run_bind, Sem.run_pure, Result.andThen_ok, run_loadVar_blk (P := P) w g off t ty cur h cs d hc hu hd hi]
    exact hK' _ _ hK
theorem results_cell {fn : Func} {p : Tmp} {ty : TypeId} (h : fn.results = #[.cell p ty]) (tmps : Array Value) (w : World) :
    (results fn tmps).run P w = ((asAddr (tmps.getD p undef)).run P w).andThen fun a w₁ => (loadVar ty a).run P w₁ := by
  simp only [results, h]
  simp [Sem.run_bind, Result.andThen]
/-- A function that hands one array or struct back, out of its block. -/
theorem ret_cell {fn : Func} {R : Ending → World → Prop} {a : Act} {w : World} {p : Tmp} {ty : TypeId} (h : fn.results = #[.cell p ty]) (g : Nat) (t : TypeId) (cs : List Value) (d : TypeDesc) (hb : Blk w g t cs.toArray)
    (hx : a.tmps.getD p undef = .pointer (some ⟨g, 0, none⟩)) (hu : P.underlying ty = some d) (hd : (match d with | .struct _ | .array _ _ => true | _ => false) = true) (hi : (P.info? ty).map (·.size) = some cs.length)
    (hdf : a.defers = []) (hR : R (.returned (.agg cs.toArray)) w) : bodyPost P fn R .ret a w := by
  refine bodyPost_ret (v := .agg cs.toArray) ?_ hdf hR
  rw [results_cell h, hx]
  have := run_loadVar_blk (P := P) w g 0 t ty cs.toArray hb cs d (fun j v hv => by rw [Nat.zero_add]; simpa using hv) hu hd hi
  simp only [asAddr, Sem.run_pure, Result.andThen_ok, this]
theorem ret_cell_tmp {fn : Func} {R : Ending → World → Prop} {a : Act} {w : World} {p u : Tmp} {ty : TypeId} (h : fn.results = #[.cell p ty, .tmp u]) (g : Nat) (t : TypeId) (cs : List Value) (d : TypeDesc) (hb : Blk w g t cs.toArray)
    (hx : a.tmps.getD p undef = .pointer (some ⟨g, 0, none⟩)) (hu : P.underlying ty = some d) (hd : (match d with | .struct _ | .array _ _ => true | _ => false) = true) (hi : (P.info? ty).map (·.size) = some cs.length)
    (v : Value) (hv : a.tmps.getD u undef = v) (hdf : a.defers = []) (hR : R (.returned (.tuple #[.agg cs.toArray, v])) w) : bodyPost P fn R .ret a w := by
  refine bodyPost_ret (v := .tuple #[.agg cs.toArray, v]) ?_ hdf hR
  rw [results_cell_tmp h, hx, hv]
  have := run_loadVar_blk (P := P) w g 0 t ty cs.toArray hb cs d (fun j v hv => by rw [Nat.zero_add]; simpa using hv) hu hd hi
  simp only [asAddr, Sem.run_pure, Result.andThen_ok, this]
theorem wpList_alloc_blk {ops : Array Oper} {rest : List Oper} {o : Oper} {a : Act} {w : World} {Q : Exit → Act → World → Prop} (hgd : o.guard = none) (ty : TypeId) (ho : o.op = .alloc ty) (z : Value) (hz : (zeroValue ty).run P w = .ok z w)
    (hK : ∀ w', Blk w' w.heap.size ty z.cells → Below w.heap.size w w' → w'.heap.size = w.heap.size + 1 → wpList P ops Q rest (a.put o.dst (.pointer (some ⟨w.heap.size, 0, none⟩))) w') : wpList P ops Q (o :: rest) a w :=
  wpList_plain hgd fun _ hK' => by
    have hrun : (Instr.alloc ty true (.tuple #[])).run P w = .ok (.pointer (some ⟨w.heap.size, 0, none⟩)) (w.alloc (.cells z.cells ty)) := by
      simp [Instr.alloc, hz, newVar, newRow, Result.andThen, go_sem]
    unfold Oper.wp
    simp [execOp, ho, hrun, Result.andThen]
    exact hK' _ _ (hK _ (Blk.new _ _ _) ((Below.refl _ _).alloc (Nat.le_refl _) _) (World.size_alloc _ _))
theorem wpList_box_blk {ops : Array Oper} {rest : List Oper} {o : Oper} {a : Act} {w : World} {Q : Exit → Act → World → Prop} (hgd : o.guard = none) (ty : TypeId) (x : Operand) (ho : o.op = .box ty x) (v : Value) (hx : a.eval x = v)
    (hK : ∀ w', Blk w' w.heap.size ty v.cells → Below w.heap.size w w' → w'.heap.size = w.heap.size + 1 → wpList P ops Q rest (a.put o.dst (.pointer (some ⟨w.heap.size, 0, none⟩))) w') : wpList P ops Q (o :: rest) a w :=
  wpList_plain hgd fun _ hK' => by
    have hrun : (Instr.box ty v).run P w = .ok (.pointer (some ⟨w.heap.size, 0, none⟩)) (w.alloc (.cells v.cells ty)) := by
      simp [Instr.box, newVar, newRow, Result.andThen, go_sem]
    unfold Oper.wp
    simp [execOp, ho, hx, hrun, Result.andThen]
    exact hK' _ _ (hK _ (Blk.new _ _ _) ((Below.refl _ _).alloc (Nat.le_refl _) _) (World.size_alloc _ _))
/-- One operation whose value is known. -/
theorem wpList_gives {ops : Array Oper} {rest : List Oper} {o : Oper} {a : Act} {w : World} {Q : Exit → Act → World → Prop} (hgd : o.guard = none) (v : Value) (hrun : (execOp a.eval o).run P w = .ok (.value v) w)
    (hK : wpList P ops Q rest (a.put o.dst v) w) : wpList P ops Q (o :: rest) a w :=
  wpList_plain hgd fun _ hK' => by
    unfold Oper.wp
    rw [hrun]
    exact hK' _ _ hK
theorem wpList_build_is {ops : Array Oper} {rest : List Oper} {o : Oper} {a : Act} {w : World} {Q : Exit → Act → World → Prop} (hgd : o.guard = none) (ty : TypeId) (parts : Array (Nat × Operand)) (ho : o.op = .build ty parts) (vs : List (Nat × Value))
    (hv : (parts.map fun (i, x) => (i, a.eval x)).toList = vs) (cells : Array Value) (hb : P.built ty vs = some cells) (hK : wpList P ops Q rest (a.put o.dst (.agg cells)) w) : wpList P ops Q (o :: rest) a w :=
  wpList_gives hgd (.agg cells) (by
    unfold execOp
    simp only [ho, Sem.run_bind, run_build w ty _ cells (by rw [hv]; exact hb), Result.andThen_ok, Sem.run_pure]) hK
theorem run_eql_bytes (w : World) (t e : TypeId) (n : Nat) (i : TypeInfo) (ht : P.underlying t = some (.array n e)) (he : P.underlying e = some (.int .u8)) (hi : P.info? e = some i) (hc : P.cellsOf e = 1) (x y : List UInt8) (hx : x.length = n) (hy : y.length = n) :
    (binOp .eql t (.agg (B8 x).toArray) (.agg (B8 y).toArray)).run P w = .ok (.bool (decide (x = y))) w := by
  have h1 := run_equalIn_array (P := P) w 9999 (B8 x).toArray (B8 y).toArray ht hi
  rw [hc, run_eqItems_bytes w 9998 he x y (by omega) _ (fun j hj => by rw [hx]; exact List.mem_range.1 hj)] at h1
  have h2 : ((List.range n).all fun i => x[i]? == y[i]?) = decide (x = y) := by
    rw [Bool.eq_iff_iff, List.all_eq_true, decide_eq_true_eq]
    constructor
    · intro h
      apply List.ext_getElem?
      intro j
      by_cases hj : j < n
      · simpa using h j (List.mem_range.2 hj)
      · rw [List.getElem?_eq_none (by omega), List.getElem?_eq_none (by omega)]
    · rintro rfl j _; simp
  rw [h2] at h1
  rw [run_eql_struct, h1]
  rfl
theorem wpList_eql_bytes {ops : Array Oper} {rest : List Oper} {o : Oper} {a : Act} {w : World} {Q : Exit → Act → World → Prop} (hgd : o.guard = none) (t e tr : TypeId) (p q : Operand) (ho : o.op = .binOp .eql t p q tr)
    (n : Nat) (i : TypeInfo) (ht : P.underlying t = some (.array n e)) (he : P.underlying e = some (.int .u8)) (hi : P.info? e = some i) (hc : P.cellsOf e = 1) (hm : P.eqGuardType P.depth t = false) (x y : List UInt8) (hx : x.length = n) (hy : y.length = n)
    (hp : a.eval p = .agg (B8 x).toArray) (hq : a.eval q = .agg (B8 y).toArray) (r : Bool) (hr : decide (x = y) = r) (h : wpList P ops Q rest (a.put o.dst (.bool r)) w) : wpList P ops Q (o :: rest) a w :=
  wpList_gives hgd (.bool r) (by
    unfold execOp
    simp only [ho, hp, hq, Sem.run_bind, run_eqGuard_agg w .eql t p q _ _ hm, Result.andThen_ok, run_eql_bytes w t e n i ht he hi hc x y hx hy, Sem.run_pure, hr]) h
theorem wpList_neq_bytes {ops : Array Oper} {rest : List Oper} {o : Oper} {a : Act} {w : World} {Q : Exit → Act → World → Prop} (hgd : o.guard = none) (t e tr : TypeId) (p q : Operand) (ho : o.op = .binOp .neq t p q tr)
    (n : Nat) (i : TypeInfo) (ht : P.underlying t = some (.array n e)) (he : P.underlying e = some (.int .u8)) (hi : P.info? e = some i) (hc : P.cellsOf e = 1) (hm : P.eqGuardType P.depth t = false) (x y : List UInt8) (hx : x.length = n) (hy : y.length = n)
    (hp : a.eval p = .agg (B8 x).toArray) (hq : a.eval q = .agg (B8 y).toArray) (r : Bool) (hr : (!decide (x = y)) = r) (h : wpList P ops Q rest (a.put o.dst (.bool r)) w) : wpList P ops Q (o :: rest) a w :=
  wpList_gives hgd (.bool r) (by
    unfold execOp
    simp only [ho, hp, hq, Sem.run_bind, run_eqGuard_agg w .neq t p q _ _ hm, Result.andThen_ok, run_neq_bytes w t e n i ht he hi hc x y hx hy, Sem.run_pure, hr]) h
end
end Go.Proofs.Ythodmhjlokfcaaa
