/- A row of extents of the call's own: its cells; one more; one less. -/
import Derived.Test.YtfghnplbefefbaaDoorExtL
import Derived.Deep.RegionWith
import Derived.Deep.RegionLaw
namespace Go.Proofs.YtfghnplbefefbaaDoor
open Go.RowKit

/-- An extent: its member, and which of the member's. -/
def exC (x : Nat × Nat) : List Value := [.int .i64 (x.1 : Int), .int .i64 (114 + 8 * (x.2 : Int))]
def exL (l : List (Nat × Nat)) : List Value := l.flatMap exC
theorem exL_cons (x : Nat × Nat) (l : List (Nat × Nat)) : exL (x :: l) = exC x ++ exL l := rfl
theorem exL_length (l : List (Nat × Nat)) : (exL l).length = l.length * 2 := by
  induction l with
  | nil => rfl
  | cons x l ih => rw [exL_cons, List.length_append, ih, List.length_cons]; show 2 + _ = _; omega
theorem exL_append (l r : List (Nat × Nat)) : exL (l ++ r) = exL l ++ exL r := by simp [exL]
theorem exL_one (x : Nat × Nat) : exL [x] = exC x := by simp [exL]
theorem exC_one (x : Nat × Nat) : ∀ v ∈ exC x, v.oneCell' = true := by
  intro v hv
  simp only [exC, List.mem_cons, List.not_mem_nil, or_false] at hv
  rcases hv with rfl | rfl <;> rfl
theorem exL_oneCell (l : List (Nat × Nat)) : ∀ v ∈ exL l, v.oneCell' = true := by
  intro v hv
  obtain ⟨x, _, hx⟩ := List.mem_flatMap.1 hv
  exact exC_one x v hx
theorem exL_at (l : List (Nat × Nat)) : ∀ (i c : Nat) (x : Nat × Nat), l[i]? = some x → c < 2 → (exL l)[i * 2 + c]? = (exC x)[c]? := by
  induction l with
  | nil => intro i c x h; simp at h
  | cons y l ih =>
    intro i c x h hc
    rw [exL_cons]
    cases i with
    | zero =>
      simp at h
      subst h
      rw [List.getElem?_append_left (by show 0 * 2 + c < 2; omega)]
      congr 1
      omega
    | succ i =>
      rw [List.getElem?_append_right (by show 2 ≤ (i + 1) * 2 + c; omega)]
      have h2 : (i + 1) * 2 + c - (exC y).length = i * 2 + c := by show (i + 1) * 2 + c - 2 = _; omega
      rw [h2]
      exact ih i c x (by simpa using h) hc
theorem exL_take (l : List (Nat × Nat)) : ∀ k, (exL l).take (k * 2) = exL (l.take k) := by
  induction l with
  | nil => intro k; simp [exL]
  | cons x l ih =>
    intro k
    cases k with
    | zero => simp [exL]
    | succ k =>
      rw [List.take_succ_cons, exL_cons, exL_cons, show (k + 1) * 2 = (exC x).length + k * 2 from by show _ = 2 + k * 2; omega, List.take_length_add_append, ih k]
theorem exL_drop (l : List (Nat × Nat)) : ∀ k, (exL l).drop (k * 2) = exL (l.drop k) := by
  induction l with
  | nil => intro k; simp [exL]
  | cons x l ih =>
    intro k
    cases k with
    | zero => simp
    | succ k =>
      rw [List.drop_succ_cons, exL_cons, show (k + 1) * 2 = (exC x).length + k * 2 from by show _ = 2 + k * 2; omega, List.drop_length_add_append, ih k]
theorem ext_parts : (Tryd.prog.info? 45).map (fun i => (i.zero, i.size, i.bytes)) = some (some (.agg #[.int .i64 0, .int .i64 0]), 2, 16) := by kernel_rfl
/-- Row v is the call's own, and holds these extents. -/
def Held (w : World) (base : Nat) (v : Value) (l : List (Nat × Nat)) : Prop := w.ownsRow base 45 2 v l.length (exL l)
section
variable {w w' : World} {base : Nat} {v : Value} {l : List (Nat × Nat)}
theorem Held.shape (h : Held w base v l) : ∃ A c, v = .slice A l.length c ∧ l.length ≤ c ∧ c ≤ maxLen := own_shape h
theorem Held.later (h : Held w base v l) (hb : Below w.heap.size w w') : Held w' base v l := own_later h hb
theorem Held.turned {F : Nat → Prop} (h : Held w base v l) (hu : Turn F w w') (hF : ∀ g, v.ownBlock = some g → ¬ F g) : Held w' base v l := own_turned h hu hF
theorem Held.drew (h : Held w base v l) : Held w.drew base v l := h.later ((Below.refl _ _).drew)
theorem Held.drewN (h : Held w base v l) (k : Nat) : Held (w.drewN k) base v l := h.later (below_drewN (Below.refl _ _) k)
theorem Held.cell (h : Held w base v l) {i : Nat} {x : Nat × Nat} (hx : l[i]? = some x) : ∃ ad c, v = .slice (some ad) l.length c ∧ l.length ≤ c ∧ c ≤ maxLen ∧
    (∀ (j : Nat) u, (exC x)[j]? = some u → w.cell? ((ad.add (i * 2)).add j) = some u) ∧ w.cell? (ad.add (i * 2)) = some (.int .i64 (x.1 : Int)) ∧ w.cell? ⟨(ad.add (i * 2)).block, (ad.add (i * 2)).off + 1, none⟩ = some (.int .i64 (114 + 8 * (x.2 : Int))) := by
  have hi : i < l.length := (List.getElem?_eq_some_iff.1 hx).1
  obtain ⟨g, c, hv, _, hlt⟩ := World.ownsRow.form h (by omega)
  have hg : v.ownBlock = some g := by rw [hv]; rfl
  have hc := World.ownsRow.cells h hg
  obtain ⟨A2, c2, hv2, h1, h2⟩ := Held.shape h
  have hcc : c = c2 := by rw [hv] at hv2; injection hv2
  have hadd : ∀ n, (⟨g, 0, none⟩ : Addr).add n = ⟨g, n, none⟩ := fun n => by unfold Addr.add; split <;> simp_all
  have hcell : ∀ (j : Nat) u, (exC x)[j]? = some u → w.cell? (((⟨g, 0, none⟩ : Addr).add (i * 2)).add j) = some u := by
    intro j u hu
    rw [add_of_add]
    have hj : j < 2 := (List.getElem?_eq_some_iff.1 hu).1
    exact hc (i * 2 + j) u ((exL_at l i j x hx hj).trans hu)
  refine ⟨⟨g, 0, none⟩, c, hv, by omega, by omega, hcell, ?_, ?_⟩
  · have := hcell 0 (.int .i64 (x.1 : Int)) rfl
    rwa [add_of_add, Nat.add_zero] at this
  · have := hcell 1 (.int .i64 (114 + 8 * (x.2 : Int))) rfl
    rw [add_of_add, hadd] at this
    rw [hadd]
    exact this
theorem Held.own_lt (h : Held w base v l) : ∀ g, v.ownBlock = some g → g < w.heap.size := fun g hg => (World.ownsRow.lt h g hg).2
/-- 'append([]T{}, l..)' begins with a new block of no cells. -/
theorem run_none (w : World) : (Instr.buildSlice 41 0 #[]).run Tryd.prog w = .ok (.slice (some ⟨w.heap.size, 0, none⟩) 0 0) (w.alloc (.cells #[] 45)) := by kernel_rfl
theorem own_none (w : World) (hb : base ≤ w.heap.size) : (w.alloc (.cells #[] 45)).ownsRow base 45 2 (.slice (some ⟨w.heap.size, 0, none⟩) 0 0) 0 [] :=
  World.ownsRow_made w #[] 0 hb (Nat.zero_le _) rfl
/-- 'append(append([]T{}, l[:k]...), l[k+1:]...)': the three steps, in the world in which the new block is laid first. -/
theorem Held.less (h : Held w base v l) (hb : base ≤ w.heap.size) (hl : l.length < 100000) {k : Nat} (hk : k < l.length) {A : Option Addr} {c : Nat} (hv : v = .slice A l.length c) (hc : l.length ≤ c) (ty1 ty2 : TypeId) :
    ∃ v1 w1 v2 w2, (Builtin.append_ #[41, 41] ty1 #[.slice (some ⟨w.heap.size, 0, none⟩) 0 0, .slice A k c]).run Tryd.prog (w.alloc (.cells #[] 45)) = .ok v1 w1 ∧
      (Builtin.append_ #[41, 41] ty2 #[v1, .slice (if c = k + 1 then A else A.map (·.add ((k + 1) * 2))) (l.length - (k + 1)) (c - (k + 1))]).run Tryd.prog w1 = .ok v2 w2 ∧
      Held w2 base v2 (l.eraseIdx k) ∧ Below w.heap.size w w2 ∧ (∀ g, v2.ownBlock = some g → w.heap.size ≤ g) := by
  obtain ⟨i0, hi0, hz0, hz1, hz2⟩ := info_parts ext_parts
  have hr := Reads.of_own (hv ▸ h)
  have ha : Below w.heap.size w (w.alloc (.cells #[] 45)) := (Below.refl _ w).alloc (Nat.le_refl _) _
  have hs0 : (w.alloc (.cells #[] 45)).heap.size = w.heap.size + 1 := World.size_alloc _ _
  have hr1 := hr.head (k := k) (by omega)
  rw [exL_take] at hr1
  obtain ⟨v1, w1, hrun1, ho1, hg1, hb1⟩ := run_append_any (P := Tryd.prog) (w.alloc (.cells #[] 45)) base 41 ty1 45 i0 _ 2 16 Tryd.underlying41 hi0 hz0 hz1 hz2 rfl (by decide) _ 0 [] (own_none w hb) w.heap.size A k c _ (hr1.below ha) (exL_oneCell _) (by unfold maxLen; omega) (by omega) (by omega)
  have hbl1 : Below w.heap.size w w1 := ha.grown hg1 (by omega) (fun g e => by simp only [Value.ownBlock] at e; injection e with e; omega)
  have hg1' : ∀ g, v1.ownBlock = some g → w.heap.size ≤ g := by
    intro g e
    rcases hb1 with hb1 | hb1
    · rw [hb1] at e; simp only [Value.ownBlock] at e; injection e with e; omega
    · rw [hb1] at e; injection e with e; omega
  have hr2 := (hr.cut (k := k + 1) (cap := c) (by omega) hc)
  rw [exL_drop] at hr2
  have hz := hbl1.size
  obtain ⟨v2, w2, hrun2, ho2, hg2, hb2⟩ := run_append_any (P := Tryd.prog) w1 base 41 ty2 45 i0 _ 2 16 Tryd.underlying41 hi0 hz0 hz1 hz2 rfl (by decide) v1 (0 + k) ([] ++ exL (l.take k)) ho1 w.heap.size _ (l.length - (k + 1)) (c - (k + 1)) _ (hr2.below hbl1) (exL_oneCell _) (by unfold maxLen; omega) (by omega) (by omega)
  refine ⟨v1, w1, v2, w2, hrun1, hrun2, ?_, hbl1.grown hg2 hz hg1', ?_⟩
  · have e : [] ++ exL (l.take k) ++ exL (l.drop (k + 1)) = exL (l.eraseIdx k) := by rw [List.nil_append, ← exL_append, List.eraseIdx_eq_take_drop_succ]
    have e2 : 0 + k + (l.length - (k + 1)) = (l.eraseIdx k).length := by rw [List.length_eraseIdx, if_pos hk]; omega
    rw [e, e2] at ho2
    exact ho2
  · intro g e
    rcases hb2 with hb2 | hb2
    · exact hg1' g (hb2 ▸ e)
    · rw [hb2] at e; injection e with e; omega
end
section
variable {P : Program} {ops : Array Oper} {rest : List Oper} {o : Oper} {a : Act} {w : World} {Q : Exit → Act → World → Prop}
theorem when_load_at (hw : Region.wanted o (yielded ops a.tmps) = true) (ty : TypeId) (x : Operand) (ho : o.op = .load ty x)
    (ad : Addr) (hx : a.eval x = .pointer (some ad)) (cs : List Value) (d : TypeDesc) (hc : ∀ (j : Nat) v, cs[j]? = some v → w.cell? (ad.add j) = some v)
    (hu : P.underlying ty = some d) (hd : (match d with | .struct _ | .array _ _ => true | _ => false) = true) (hi : (P.info? ty).map (·.size) = some cs.length)
    (h : wpList P ops Q rest (a.put o.dst (.agg cs.toArray)) w) : wpList P ops Q (o :: rest) a w :=
  when_gives hw (.agg cs.toArray) (by
    unfold execOp
    simp only [ho, hx, Instr.loadAt, Instr.sureAddr, Sem.run_bind, Sem.run_pure, Result.andThen_ok, run_loadVar_at w ad ty cs d hc hu hd hi]) h
end
theorem exC_cells {w : World} {g o : Nat} {x : Nat × Nat} (h0 : w.cell? ⟨g, o, none⟩ = some (.int .i64 (x.1 : Int))) (h1 : w.cell? ⟨g, o + 1, none⟩ = some (.int .i64 (114 + 8 * (x.2 : Int)))) :
    ∀ (j : Nat) v, (exC x)[j]? = some v → w.cell? ((⟨g, o, none⟩ : Addr).add j) = some v := by
  intro j v h
  have hadd : (⟨g, o, none⟩ : Addr).add j = ⟨g, o + j, none⟩ := by unfold Addr.add; split <;> simp_all
  rw [hadd]
  match j, h with
  | 0, h => rw [Nat.add_zero, h0]; exact h
  | 1, h => rw [h1]; exact h
  | n + 2, h => cases h
/-- An append whose run is known, as one step of a region in open order. -/
theorem step_known {P : Program} {ops : Array Oper} {o : Oper} {a : Act} {w : World} {K : Act → World → Prop} {Q : Exit → Act → World → Prop} {E : Prop}
    (hg : o.guard = none) (s x : Operand) (t : TypeId) (ho : o.op = .call { callee := .builtin .append, args := #[s, x], argTypes := #[t, t] })
    (v xv : Value) (hs : a.eval s = v) (hx : a.eval x = xv) (v' : Value) (w' : World) (hrun : (Builtin.append_ #[t, t] o.type #[v, xv]).run P w = .ok v' w')
    (hK : K (a.put o.dst v') w') : if Region.wanted o (yielded ops a.tmps) = true then Oper.wp P o a w K Q else E := by
  have hw : Region.wanted o (yielded ops a.tmps) = true := by simp [Region.wanted, hg]
  rw [if_pos hw]
  unfold Oper.wp execOp
  simp only [ho, resolve, invoke, builtin, Sem.run_bind, Sem.run_pure, Result.andThen_ok, List.map_toArray, List.map_cons, List.map_nil, hs, hx, hrun]
  exact hK
/-- One of a list that has each once is left out. -/
theorem less_mem {l : List (Nat × Nat)} (hn : l.Nodup) {k : Nat} {x : Nat × Nat} (hx : l[k]? = some x) : (l.eraseIdx k).Nodup ∧ ∀ y, y ∈ l.eraseIdx k ↔ y ∈ l ∧ y ≠ x := by
  have hk : k < l.length := (List.getElem?_eq_some_iff.1 hx).1
  have e : l = l.take k ++ x :: l.drop (k + 1) := by
    have h1 : l[k] = x := (List.getElem?_eq_some_iff.1 hx).2
    rw [← h1, List.getElem_cons_drop, List.take_append_drop]
  rw [List.eraseIdx_eq_take_drop_succ]
  have hn2 := hn
  rw [e] at hn2
  obtain ⟨h1, h2, h3⟩ := List.nodup_append.1 hn2
  obtain ⟨h4, h5⟩ := List.nodup_cons.1 h2
  refine ⟨List.nodup_append.2 ⟨h1, h5, fun a ha b hb => h3 a ha b (List.mem_cons_of_mem _ hb)⟩, fun y => ?_⟩
  have hm : y ∈ l ↔ y ∈ l.take k ∨ y = x ∨ y ∈ l.drop (k + 1) := by
    conv => lhs; rw [e]
    simp
  rw [hm, List.mem_append]
  constructor
  · rintro (h | h)
    · exact ⟨.inl h, fun hyx => h3 y h x (List.mem_cons_self ..) hyx⟩
    · exact ⟨.inr (.inr h), fun hyx => h4 (hyx ▸ h)⟩
  · rintro ⟨h | h | h, hne⟩
    · exact .inl h
    · exact absurd h hne
    · exact .inr h
theorem run_ints2 (w : World) (a b : Int) : (Instr.buildSlice 37 2 #[(0, .int .i64 a), (1, .int .i64 b)]).run Tryd.prog w = .ok (.slice (some ⟨w.heap.size, 0, none⟩) 2 2) (w.alloc (.cells #[.int .i64 a, .int .i64 b] 3)) := by kernel_rfl
#print axioms Held.less
end Go.Proofs.YtfghnplbefefbaaDoor
