/- The landed mirror's own calls, first part: is a copy lost, Home, Copy, both over either closure, Write, Read. -/
import Derived.Test.YtgfbndmdndpelaaMirT
import Derived.Test.YtgfbndmdndpelaaMirI
import Derived.Test.YtgfbndmdndpelaaStepB
import Derived.Test.YtgfbndmdndpelaaTwoRows
import Derived.LoopN
import Derived.WalkMore
import Derived.ScopeJumps
namespace Go.Proofs.Ytgfbndmdndpelaa
open Go.RowKit
set_option linter.unusedVariables false
/-- A scope that is left forward by a goto: what stands behind the label is walked where the goto stands. -/
theorem wp_scope_fwd {P : Program} {Q : Exit → Act → World → Prop} {a : Act} {w : World} {c rest : Code} (l : Nat) (hf : findLabel c l = some rest)
    (h : c.wp P (Exit.jump l (fun a w => rest.wp P (Exit.noGoto Q) a w) Q) a w) : (Code.scope c).wp P Q a w :=
  wp_scope_jumps l _ (fun _ _ => 0) hf h (fun a w hj => Code.wp_mono (fun e a' w' hq => by cases e <;> first | exact hq | exact hq.elim) hj)
theorem jump_goto {l : Nat} {J : Act → World → Prop} {Q : Exit → Act → World → Prop} {a : Act} {w : World} : Exit.jump l J Q (.goto l) a w = J a w := propext ⟨fun h => h.2, fun h => ⟨rfl, h⟩⟩
theorem lost_any (e : Nat) (w : World) : Calls Try.prog 54 #[.int .i64 (e : Int)] w fun x w' => x = .returned (.bool (lostB e)) ∧ w = w' := by
  have HI : ∀ (b : Int) (r : Bool), (((e : Int) == b) = r) → ∀ w, Calls Try.prog 70 #[.iface 28 (.int .i64 (e : Int)), .iface 28 (.int .i64 b)] w fun x w' => x = .returned (.bool r) ∧ w' = w := fun b r h w => h ▸ isErr_any (e : Int) b w
  by_cases h8 : e = 8
  · have H8 := hide (HI 8 true (by simp [h8]))
    have hL : lostB e = true := by unfold lostB; simp [h8]
    rw [hL]
    clear HI h8 hL
    go_enter Try.func54, Try.ntmps54
    go_wp2_with (first
      | (go_at_call 70; (with_reducible refine (H8.out _).mono ?_); rintro _ _ ⟨rfl, rfl⟩))
    go_ret
    exact ⟨rfl, rfl⟩
  · have H8 := hide (HI 8 false (beq_eq_false_iff_ne.mpr (by omega)))
    obtain ⟨r, hr⟩ : ∃ r, lostB e = r := ⟨_, rfl⟩
    have H7 := hide (HI 7 r (by
      rw [← hr]
      by_cases h7 : e = 7
      · subst h7; rfl
      · rw [beq_eq_false_iff_ne.mpr (show (e : Int) ≠ 7 by omega)]
        unfold lostB
        rw [beq_eq_false_iff_ne.mpr h8, beq_eq_false_iff_ne.mpr h7]
        rfl))
    rw [hr]
    clear HI h8 hr
    go_enter Try.func54, Try.ntmps54
    go_wp2_with (first
      | (go_at_call 70; (with_reducible refine (H8.out _).mono ?_); rintro _ _ ⟨rfl, rfl⟩)
      | (go_at_call 70; (with_reducible refine (H7.out _).mono ?_); rintro _ _ ⟨rfl, rfl⟩))
    go_ret
    exact ⟨rfl, rfl⟩
theorem mplace_two (x y : Int) : Try.prog.built 33 [(0, .int .i64 x), (1, .int .i64 y)] = some (plL x y).toArray := by kernel_rfl
theorem mext_info : (Try.prog.info? 47).map (·.size) = some 2 := by kernel_rfl
set_option maxRecDepth 100000 in
theorem home_any (w : World) (ed ea slot : Int) (h1 : -9223372036854775808 ≤ ea) (h2 : ea + 8 ≤ 9223372036854775807) (h3 : -9223372036854775808 ≤ slot) (h4 : slot ≤ 9223372036854775807) :
    Calls Try.prog 19 #[.agg #[.int .i64 ed, .int .i64 ea], .int .i64 slot] w fun e w' => e = .returned (homeV ed ea slot) ∧ Below w.heap.size w w' := by
  by_cases h0 : 0 ≤ slot
  · by_cases h8 : slot < 8
    · have hh : homeV ed ea slot = .tuple #[.agg #[.int .i64 ed, .int .i64 (ea + slot)], .bool true] := by unfold homeV; rw [if_pos ⟨h0, h8⟩]
      rw [hh]
      clear hh
      have hn0 : ¬ slot < 0 := by omega
      have hn8 : ¬ slot ≥ 8 := by omega
      have hn8' : ¬ 8 ≤ slot := by omega
      have hwr : IntKind.i64.wrap (ea + slot) = ea + slot := by rw [IntWalk.i64_in] <;> omega
      go_enter Try.func19, Try.ntmps19
      go_wp2_with (first
        | ((with_reducible refine at_slot 2 ?_); refine wpList_box_blk rfl 47 _ rfl (.agg #[.int .i64 ed, .int .i64 ea]) rfl ?_; intro y1 hb1 hl1 hs1)
        | ((with_reducible refine at_slot 4 ?_); refine wpList_alloc_blk rfl 33 rfl _ (mplace_zero _) ?_; intro y2 hb2 hl2 hs2; have hb1' := hb1.below hl2 hb1.lt; have c0 : y2.cell? ⟨w.heap.size, 0, none⟩ = some (.int .i64 ed) := (hb1'.cell 0).trans rfl; have c1 : y2.cell? ⟨w.heap.size, 1, none⟩ = some (.int .i64 ea) := (hb1'.cell 1).trans rfl; have hl := hide (hl1.trans (hl2.mono hl1.size)); have hls := hide hl1.size; clear hb1 hb1' hl1 hl2 hs1 hs2)
        | ((with_reducible refine at_slot 19 ?_); refine wpList_build_is rfl 33 #[(0, .tmp 14), (1, .tmp 18)] rfl [(0, .int .i64 ed), (1, .int .i64 (ea + slot))] (by simp only [List.map_toArray, List.map_cons, List.map_nil]; rfl) (plL ed (ea + slot)).toArray (mplace_two _ _) ?_)
        | ((with_reducible refine at_store 4 ?_); refine wpList_store_all rfl 33 (.tmp 4) (.tmp 19) rfl y1.heap.size 33 _ hb2 rfl (plL ed (ea + slot)) rfl mplace_info rfl (mplace_one _ _) ?_; intro y3 hb3 hg3 hs3; clear hs3))
      refine ret_cell_tmp rfl _ 33 (plL ed (ea + slot)) _ hb3 rfl Try.underlying33 rfl mplace_info (.bool true) rfl rfl ⟨rfl, ?_⟩
      exact hl.out.grown hg3 hl.out.size (fun g e => by injection e with e; have := hls.out; omega)
    · have hh : homeV ed ea slot = .tuple #[.agg #[.int .i64 0, .int .i64 0], .bool false] := by unfold homeV; rw [if_neg (fun q => h8 q.2)]
      rw [hh]
      clear hh
      have hn0 : ¬ slot < 0 := by omega
      have hp8 : slot ≥ 8 := by omega
      have hp8' : 8 ≤ slot := by omega
      go_enter Try.func19, Try.ntmps19
      go_wp2_with (first
        | ((with_reducible refine at_slot 2 ?_); refine wpList_box_blk rfl 47 _ rfl (.agg #[.int .i64 ed, .int .i64 ea]) rfl ?_; intro y1 hb1 hl1 hs1)
        | ((with_reducible refine at_slot 4 ?_); refine wpList_alloc_blk rfl 33 rfl _ (mplace_zero _) ?_; intro y2 hb2 hl2 hs2; have hl := hide (hl1.trans (hl2.mono hl1.size)); have hls := hide hl1.size; clear hb1 hl1 hl2 hs1 hs2)
        | ((with_reducible refine at_slot 12 ?_); refine wpList_build_is rfl 33 #[] rfl [] (by simp) _ mplace_built ?_)
        | ((with_reducible refine at_store 4 ?_); refine wpList_store_all rfl 33 (.tmp 4) (.tmp 12) rfl y1.heap.size 33 _ hb2 rfl (plL 0 0) rfl mplace_info rfl (mplace_one _ _) ?_; intro y3 hb3 hg3 hs3; clear hs3))
      refine ret_cell_tmp rfl _ 33 (plL 0 0) _ hb3 rfl Try.underlying33 rfl mplace_info (.bool false) rfl rfl ⟨rfl, ?_⟩
      exact hl.out.grown hg3 hl.out.size (fun g e => by injection e with e; have := hls.out; omega)
  · have hh : homeV ed ea slot = .tuple #[.agg #[.int .i64 0, .int .i64 0], .bool false] := by unfold homeV; rw [if_neg (fun q => h0 q.1)]
    rw [hh]
    clear hh
    have hp0 : slot < 0 := by omega
    go_enter Try.func19, Try.ntmps19
    go_wp2_with (first
      | ((with_reducible refine at_slot 2 ?_); refine wpList_box_blk rfl 47 _ rfl (.agg #[.int .i64 ed, .int .i64 ea]) rfl ?_; intro y1 hb1 hl1 hs1)
      | ((with_reducible refine at_slot 4 ?_); refine wpList_alloc_blk rfl 33 rfl _ (mplace_zero _) ?_; intro y2 hb2 hl2 hs2; have hl := hide (hl1.trans (hl2.mono hl1.size)); have hls := hide hl1.size; clear hb1 hl1 hl2 hs1 hs2)
      | ((with_reducible refine at_slot 12 ?_); refine wpList_build_is rfl 33 #[] rfl [] (by simp) _ mplace_built ?_)
      | ((with_reducible refine at_store 4 ?_); refine wpList_store_all rfl 33 (.tmp 4) (.tmp 12) rfl y1.heap.size 33 _ hb2 rfl (plL 0 0) rfl mplace_info rfl (mplace_one _ _) ?_; intro y3 hb3 hg3 hs3; clear hs3))
    refine ret_cell_tmp rfl _ 33 (plL 0 0) _ hb3 rfl Try.underlying33 rfl mplace_info (.bool false) rfl rfl ⟨rfl, ?_⟩
    exact hl.out.grown hg3 hl.out.size (fun g e => by injection e with e; have := hls.out; omega)
/-- What the walk asks of an errno that is none. -/
structure NeN (e : Nat) : Prop where
  a : ((e : Int) != 0) = true
  b : ((e : Int) == 0) = false
  c : ¬ ((e : Int) = 0)
theorem neN {e : Nat} (h : e ≠ 0) : NeN e := by
  have hc : ¬ ((e : Int) = 0) := by omega
  exact ⟨by simpa using hc, by simpa using hc, hc⟩
theorem Cit.cut {w0 W : World} {b : Nat} {F : Nat → Prop} {S : Bank} {V U : List (Nat × TypeId × List Value)} (h : Cit w0 W b F S (V ++ U)) : Cit w0 W b F S V :=
  have hi : ∀ (i : Nat) (p : Nat × TypeId × List Value), V[i]? = some p → (V ++ U)[i]? = some p := fun i p e => by
    rw [List.getElem?_append_left]
    · exact e
    · rcases Nat.lt_or_ge i V.length with hl | hl
      · exact hl
      · rw [List.getElem?_eq_none hl] at e; cases e
  ⟨h.bank, h.turn, fun i p e => h.own i p (hi i p e), fun i p e => h.off i p (hi i p e), by
    have := h.rise
    rw [List.map_append, List.nodup_append] at this
    exact this.1, fun i p e => h.past i p (hi i p e)⟩
theorem two_built (a b c d : Int) : Try.prog.built 96 [(0, .agg #[.int .i64 a, .int .i64 b]), (1, .agg #[.int .i64 c, .int .i64 d])] = some #[.int .i64 a, .int .i64 b, .int .i64 c, .int .i64 d] := by kernel_rfl
theorem two_index0 (a b c d : Int) (w : World) : (Instr.index 96 (.agg #[.int .i64 a, .int .i64 b, .int .i64 c, .int .i64 d]) (.int .i64 0)).run Try.prog w = .ok (.agg #[.int .i64 a, .int .i64 b]) w := by kernel_rfl
theorem two_index1 (a b c d : Int) (w : World) : (Instr.index 96 (.agg #[.int .i64 a, .int .i64 b, .int .i64 c, .int .i64 d]) (.int .i64 1)).run Try.prog w = .ok (.agg #[.int .i64 c, .int .i64 d]) w := by kernel_rfl
section
variable {ops : Array Oper} {rest : List Oper} {o : Oper} {a : Act} {w : World} {Q : Exit → Act → World → Prop}
theorem wpList_two0 (hgd : o.guard = none) (x y : Operand) (ho : o.op = .index 96 x y) (p q r s : Int) (hx : a.eval x = .agg #[.int .i64 p, .int .i64 q, .int .i64 r, .int .i64 s]) (hy : a.eval y = .int .i64 0)
    (hK : wpList Try.prog ops Q rest (a.put o.dst (.agg #[.int .i64 p, .int .i64 q])) w) : wpList Try.prog ops Q (o :: rest) a w :=
  wpList_gives hgd _ (by
    unfold execOp
    simp only [ho, hx, hy, Sem.run_bind, two_index0 p q r s w, Result.andThen_ok, Sem.run_pure]) hK
theorem wpList_two1 (hgd : o.guard = none) (x y : Operand) (ho : o.op = .index 96 x y) (p q r s : Int) (hx : a.eval x = .agg #[.int .i64 p, .int .i64 q, .int .i64 r, .int .i64 s]) (hy : a.eval y = .int .i64 1)
    (hK : wpList Try.prog ops Q rest (a.put o.dst (.agg #[.int .i64 r, .int .i64 s])) w) : wpList Try.prog ops Q (o :: rest) a w :=
  wpList_gives hgd _ (by
    unfold execOp
    simp only [ho, hx, hy, Sem.run_bind, two_index1 p q r s w, Result.andThen_ok, Sem.run_pure]) hK
end
/-- x, and then y: what both comes to, whatever is done to either. -/
def bothN {σ : Type} (st : Nat → Nat → σ → Nat × σ) (d k d' k' : Nat) (s : σ) : Nat × σ :=
  let a := st d k s
  if a.1 = 0 ∨ lostB a.1 = true then
    let c := st d' k' a.2
    if c.1 = 0 ∨ lostB c.1 = true then (if a.1 = 0 ∨ c.1 = 0 then 0 else 5, c.2) else c
  else a
theorem both_write (S : Bank) (d k d' k' : Nat) (s : Sec) : bothN (fun d k S => S.write d k s) d k d' k' S = S.mwrite d k d' k' s := rfl
abbrev Vars := List (Nat × TypeId × List Value)
/-- What is asked of a closure that both is handed, and of what is carried on; n: how often it may still be called. -/
structure Doer (f : FuncId) (caps : List Value) {σ : Type} (st : Nat → Nat → σ → Nat × σ) (J : Nat → World → σ → Vars → Prop) : Prop where
  var_ : ∀ {n : Nat} {W W' : World} {s : σ} {V : Vars} {g : Nat} {t : TypeId} {cs : List Value}, J n W s V → Below W.heap.size W W' → W.heap.size ≤ g → Blk W' g t cs.toArray → J n W' s (V ++ [(g, t, cs)])
  own_ : ∀ {n : Nat} {W : World} {s : σ} {V : Vars}, J n W s V → OwnV W 0 V
  cut_ : ∀ {n : Nat} {W : World} {s : σ} {V : Vars}, J n W s V → J n W s []
  call_ : ∀ {n : Nat} {W : World} {s : σ} {V : Vars}, J (n + 1) W s V → ∀ d k : Int, Calls Try.prog f (.agg #[.int .i64 d, .int .i64 k] :: caps).toArray W fun e W' => e = .returned (.int .i64 ((st (nI d) (nI k) s).1 : Int)) ∧ J n W' (st (nI d) (nI k) s).2 V
structure DoAt (f : FuncId) (caps : List Value) {σ : Type} (st : Nat → Nat → σ → Nat × σ) (J : Nat → World → σ → Vars → Prop) (n : Nat) (W : World) (s : σ) (V : Vars) : Prop where
  doer : Doer f caps st J
  is : J n W s V
section
variable {f : FuncId} {caps : List Value} {σ : Type} {st : Nat → Nat → σ → Nat × σ} {J : Nat → World → σ → Vars → Prop} {n : Nat} {W W' : World} {s : σ} {V : Vars}
theorem DoAt.var (h : DoAt f caps st J n W s V) {g : Nat} {t : TypeId} {cs : List Value} (hb : Below W.heap.size W W') (hg : W.heap.size ≤ g) (hk : Blk W' g t cs.toArray) : DoAt f caps st J n W' s (V ++ [(g, t, cs)]) := ⟨h.doer, h.doer.var_ h.is hb hg hk⟩
theorem DoAt.own (h : DoAt f caps st J n W s V) : OwnV W 0 V := h.doer.own_ h.is
theorem DoAt.new {Wa : World} (h : DoAt f caps st J n W s V) {t : TypeId} {cs : List Value} (hl : Below W.heap.size W Wa) (hg : Wa.grownBy W' (some W.heap.size)) (hk : Blk W' W.heap.size t cs.toArray) : DoAt f caps st J n W' s (V ++ [(W.heap.size, t, cs)]) :=
  h.var (hl.grown hg hl.size (fun g e => by injection e with e; omega)) (Nat.le_refl _) hk
theorem DoAt.call (h : DoAt f caps st J (n + 1) W s V) (d k : Int) {x y : Nat} (hx : nI d = x) (hy : nI k = y) : Calls Try.prog f (.agg #[.int .i64 d, .int .i64 k] :: caps).toArray W fun e W' => e = .returned (.int .i64 ((st x y s).1 : Int)) ∧ DoAt f caps st J n W' (st x y s).2 V := by
  subst hx hy
  exact (h.doer.call_ h.is d k).mono fun _ _ ⟨he, hJ⟩ => ⟨he, h.doer, hJ⟩
theorem DoAt.fin (h : DoAt f caps st J n W s V) : ∃ n, J n W s [] := ⟨n, h.doer.cut_ h.is⟩
end
#print axioms home_any
end Go.Proofs.Ytgfbndmdndpelaa
