/- The landed mirror's own calls: is a copy lost, Home, both over either closure, Write, Read, Copy. -/
import Derived.Test.YtgfbndmdndpelaaMirT
import Derived.Test.YtgfbndmdndpelaaMirI
import Derived.Test.YtgfbndmdndpelaaStepB
import Derived.Test.YtgfbndmdndpelaaTwoRows
import Derived.LoopN
import Derived.WalkMore
import Derived.ScopeJumps
namespace Go.Proofs.Ytgfbndmdndpelaa
open Go.RowKit
set_option linter.unusedVariables false
/-- A scope that is left forward by a goto: what stands behind the label is walked where the goto stands. -/
theorem wp_scope_fwd {P : Program} {Q : Exit → Act → World → Prop} {a : Act} {w : World} {c rest : Code} (l : Nat) (hf : findLabel c l = some rest)
    (h : c.wp P (Exit.jump l (fun a w => rest.wp P (Exit.noGoto Q) a w) Q) a w) : (Code.scope c).wp P Q a w :=
  wp_scope_jumps l _ (fun _ _ => 0) hf h (fun a w hj => Code.wp_mono (fun e a' w' hq => by cases e <;> first | exact hq | exact hq.elim) hj)
theorem jump_goto {l : Nat} {J : Act → World → Prop} {Q : Exit → Act → World → Prop} {a : Act} {w : World} : Exit.jump l J Q (.goto l) a w = J a w := propext ⟨fun h => h.2, fun h => ⟨rfl, h⟩⟩
theorem lost_any (e : Nat) (w : World) : Calls Try.prog 54 #[.int .i64 (e : Int)] w fun x w' => x = .returned (.bool (lostB e)) ∧ w = w' := by
  have HI : ∀ (b : Int) (r : Bool), (((e : Int) == b) = r) → ∀ w, Calls Try.prog 70 #[.iface 28 (.int .i64 (e : Int)), .iface 28 (.int .i64 b)] w fun x w' => x = .returned (.bool r) ∧ w' = w := fun b r h w => h ▸ isErr_any (e : Int) b w
  by_cases h8 : e = 8
  · have H8 := hide (HI 8 true (by simp [h8]))
    have hL : lostB e = true := by unfold lostB; simp [h8]
    rw [hL]
    clear HI h8 hL
    go_enter Try.func54, Try.ntmps54
    go_wp2_with (first
      | (go_at_call 70; (with_reducible refine (H8.out _).mono ?_); rintro _ _ ⟨rfl, rfl⟩))
    go_ret
    exact ⟨rfl, rfl⟩
  · have H8 := hide (HI 8 false (beq_eq_false_iff_ne.mpr (by omega)))
    obtain ⟨r, hr⟩ : ∃ r, lostB e = r := ⟨_, rfl⟩
    have H7 := hide (HI 7 r (by
      rw [← hr]
      by_cases h7 : e = 7
      · subst h7; rfl
      · rw [beq_eq_false_iff_ne.mpr (show (e : Int) ≠ 7 by omega)]
        unfold lostB
        rw [beq_eq_false_iff_ne.mpr h8, beq_eq_false_iff_ne.mpr h7]
        rfl))
    rw [hr]
    clear HI h8 hr
    go_enter Try.func54, Try.ntmps54
    go_wp2_with (first
      | (go_at_call 70; (with_reducible refine (H8.out _).mono ?_); rintro _ _ ⟨rfl, rfl⟩)
      | (go_at_call 70; (with_reducible refine (H7.out _).mono ?_); rintro _ _ ⟨rfl, rfl⟩))
    go_ret
    exact ⟨rfl, rfl⟩
theorem mplace_two (x y : Int) : Try.prog.built 33 [(0, .int .i64 x), (1, .int .i64 y)] = some (plL x y).toArray := by kernel_rfl
theorem mext_info : (Try.prog.info? 47).map (·.size) = some 2 := by kernel_rfl
set_option maxRecDepth 100000 in
theorem home_any (w : World) (ed ea slot : Int) (h1 : -9223372036854775808 ≤ ea) (h2 : ea + 8 ≤ 9223372036854775807) (h3 : -9223372036854775808 ≤ slot) (h4 : slot ≤ 9223372036854775807) :
    Calls Try.prog 19 #[.agg #[.int .i64 ed, .int .i64 ea], .int .i64 slot] w fun e w' => e = .returned (homeV ed ea slot) ∧ Below w.heap.size w w' := by
  by_cases h0 : 0 ≤ slot
  · by_cases h8 : slot < 8
    · have hh : homeV ed ea slot = .tuple #[.agg #[.int .i64 ed, .int .i64 (ea + slot)], .bool true] := by unfold homeV; rw [if_pos ⟨h0, h8⟩]
      rw [hh]
      clear hh
      have hn0 : ¬ slot < 0 := by omega
      have hn8 : ¬ slot ≥ 8 := by omega
      have hn8' : ¬ 8 ≤ slot := by omega
      have hwr : IntKind.i64.wrap (ea + slot) = ea + slot := by rw [IntWalk.i64_in] <;> omega
      go_enter Try.func19, Try.ntmps19
      go_wp2_with (first
        | ((with_reducible refine at_slot 2 ?_); refine wpList_box_blk rfl 47 _ rfl (.agg #[.int .i64 ed, .int .i64 ea]) rfl ?_; intro y1 hb1 hl1 hs1)
        | ((with_reducible refine at_slot 4 ?_); refine wpList_alloc_blk rfl 33 rfl _ (mplace_zero _) ?_; intro y2 hb2 hl2 hs2; have hb1' := hb1.below hl2 hb1.lt; have c0 : y2.cell? ⟨w.heap.size, 0, none⟩ = some (.int .i64 ed) := (hb1'.cell 0).trans rfl; have c1 : y2.cell? ⟨w.heap.size, 1, none⟩ = some (.int .i64 ea) := (hb1'.cell 1).trans rfl; have hl := hide (hl1.trans (hl2.mono hl1.size)); have hls := hide hl1.size; clear hb1 hb1' hl1 hl2 hs1 hs2)
        | ((with_reducible refine at_slot 19 ?_); refine wpList_build_is rfl 33 #[(0, .tmp 14), (1, .tmp 18)] rfl [(0, .int .i64 ed), (1, .int .i64 (ea + slot))] (by simp only [List.map_toArray, List.map_cons, List.map_nil]; rfl) (plL ed (ea + slot)).toArray (mplace_two _ _) ?_)
        | ((with_reducible refine at_store 4 ?_); refine wpList_store_all rfl 33 (.tmp 4) (.tmp 19) rfl y1.heap.size 33 _ hb2 rfl (plL ed (ea + slot)) rfl mplace_info rfl (mplace_one _ _) ?_; intro y3 hb3 hg3 hs3; clear hs3))
      refine ret_cell_tmp rfl _ 33 (plL ed (ea + slot)) _ hb3 rfl Try.underlying33 rfl mplace_info (.bool true) rfl rfl ⟨rfl, ?_⟩
      exact hl.out.grown hg3 hl.out.size (fun g e => by injection e with e; have := hls.out; omega)
    · have hh : homeV ed ea slot = .tuple #[.agg #[.int .i64 0, .int .i64 0], .bool false] := by unfold homeV; rw [if_neg (fun q => h8 q.2)]
      rw [hh]
      clear hh
      have hn0 : ¬ slot < 0 := by omega
      have hp8 : slot ≥ 8 := by omega
      have hp8' : 8 ≤ slot := by omega
      go_enter Try.func19, Try.ntmps19
      go_wp2_with (first
        | ((with_reducible refine at_slot 2 ?_); refine wpList_box_blk rfl 47 _ rfl (.agg #[.int .i64 ed, .int .i64 ea]) rfl ?_; intro y1 hb1 hl1 hs1)
        | ((with_reducible refine at_slot 4 ?_); refine wpList_alloc_blk rfl 33 rfl _ (mplace_zero _) ?_; intro y2 hb2 hl2 hs2; have hl := hide (hl1.trans (hl2.mono hl1.size)); have hls := hide hl1.size; clear hb1 hl1 hl2 hs1 hs2)
        | ((with_reducible refine at_slot 12 ?_); refine wpList_build_is rfl 33 #[] rfl [] (by simp) _ mplace_built ?_)
        | ((with_reducible refine at_store 4 ?_); refine wpList_store_all rfl 33 (.tmp 4) (.tmp 12) rfl y1.heap.size 33 _ hb2 rfl (plL 0 0) rfl mplace_info rfl (mplace_one _ _) ?_; intro y3 hb3 hg3 hs3; clear hs3))
      refine ret_cell_tmp rfl _ 33 (plL 0 0) _ hb3 rfl Try.underlying33 rfl mplace_info (.bool false) rfl rfl ⟨rfl, ?_⟩
      exact hl.out.grown hg3 hl.out.size (fun g e => by injection e with e; have := hls.out; omega)
  · have hh : homeV ed ea slot = .tuple #[.agg #[.int .i64 0, .int .i64 0], .bool false] := by unfold homeV; rw [if_neg (fun q => h0 q.1)]
    rw [hh]
    clear hh
    have hp0 : slot < 0 := by omega
    go_enter Try.func19, Try.ntmps19
    go_wp2_with (first
      | ((with_reducible refine at_slot 2 ?_); refine wpList_box_blk rfl 47 _ rfl (.agg #[.int .i64 ed, .int .i64 ea]) rfl ?_; intro y1 hb1 hl1 hs1)
      | ((with_reducible refine at_slot 4 ?_); refine wpList_alloc_blk rfl 33 rfl _ (mplace_zero _) ?_; intro y2 hb2 hl2 hs2; have hl := hide (hl1.trans (hl2.mono hl1.size)); have hls := hide hl1.size; clear hb1 hl1 hl2 hs1 hs2)
      | ((with_reducible refine at_slot 12 ?_); refine wpList_build_is rfl 33 #[] rfl [] (by simp) _ mplace_built ?_)
      | ((with_reducible refine at_store 4 ?_); refine wpList_store_all rfl 33 (.tmp 4) (.tmp 12) rfl y1.heap.size 33 _ hb2 rfl (plL 0 0) rfl mplace_info rfl (mplace_one _ _) ?_; intro y3 hb3 hg3 hs3; clear hs3))
    refine ret_cell_tmp rfl _ 33 (plL 0 0) _ hb3 rfl Try.underlying33 rfl mplace_info (.bool false) rfl rfl ⟨rfl, ?_⟩
    exact hl.out.grown hg3 hl.out.size (fun g e => by injection e with e; have := hls.out; omega)
/-- What the walk asks of an errno that is none. -/
structure NeN (e : Nat) : Prop where
  a : ((e : Int) != 0) = true
  b : ((e : Int) == 0) = false
  c : ¬ ((e : Int) = 0)
theorem neN {e : Nat} (h : e ≠ 0) : NeN e := by
  have hc : ¬ ((e : Int) = 0) := by omega
  exact ⟨by simpa using hc, by simpa using hc, hc⟩
theorem Cit.cut {w0 W : World} {b : Nat} {F : Nat → Prop} {S : Bank} {V U : List (Nat × TypeId × List Value)} (h : Cit w0 W b F S (V ++ U)) : Cit w0 W b F S V :=
  have hi : ∀ (i : Nat) (p : Nat × TypeId × List Value), V[i]? = some p → (V ++ U)[i]? = some p := fun i p e => by
    rw [List.getElem?_append_left]
    · exact e
    · rcases Nat.lt_or_ge i V.length with hl | hl
      · exact hl
      · rw [List.getElem?_eq_none hl] at e; cases e
  ⟨h.bank, h.turn, fun i p e => h.own i p (hi i p e), fun i p e => h.off i p (hi i p e), by
    have := h.rise
    rw [List.map_append, List.nodup_append] at this
    exact this.1, fun i p e => h.past i p (hi i p e)⟩
theorem two_built (a b c d : Int) : Try.prog.built 96 [(0, .agg #[.int .i64 a, .int .i64 b]), (1, .agg #[.int .i64 c, .int .i64 d])] = some #[.int .i64 a, .int .i64 b, .int .i64 c, .int .i64 d] := by kernel_rfl
theorem two_index0 (a b c d : Int) (w : World) : (Instr.index 96 (.agg #[.int .i64 a, .int .i64 b, .int .i64 c, .int .i64 d]) (.int .i64 0)).run Try.prog w = .ok (.agg #[.int .i64 a, .int .i64 b]) w := by kernel_rfl
theorem two_index1 (a b c d : Int) (w : World) : (Instr.index 96 (.agg #[.int .i64 a, .int .i64 b, .int .i64 c, .int .i64 d]) (.int .i64 1)).run Try.prog w = .ok (.agg #[.int .i64 c, .int .i64 d]) w := by kernel_rfl
section
variable {ops : Array Oper} {rest : List Oper} {o : Oper} {a : Act} {w : World} {Q : Exit → Act → World → Prop}
theorem wpList_two0 (hgd : o.guard = none) (x y : Operand) (ho : o.op = .index 96 x y) (p q r s : Int) (hx : a.eval x = .agg #[.int .i64 p, .int .i64 q, .int .i64 r, .int .i64 s]) (hy : a.eval y = .int .i64 0)
    (hK : wpList Try.prog ops Q rest (a.put o.dst (.agg #[.int .i64 p, .int .i64 q])) w) : wpList Try.prog ops Q (o :: rest) a w :=
  wpList_gives hgd _ (by
    unfold execOp
    simp only [ho, hx, hy, Sem.run_bind, two_index0 p q r s w, Result.andThen_ok, Sem.run_pure]) hK
theorem wpList_two1 (hgd : o.guard = none) (x y : Operand) (ho : o.op = .index 96 x y) (p q r s : Int) (hx : a.eval x = .agg #[.int .i64 p, .int .i64 q, .int .i64 r, .int .i64 s]) (hy : a.eval y = .int .i64 1)
    (hK : wpList Try.prog ops Q rest (a.put o.dst (.agg #[.int .i64 r, .int .i64 s])) w) : wpList Try.prog ops Q (o :: rest) a w :=
  wpList_gives hgd _ (by
    unfold execOp
    simp only [ho, hx, hy, Sem.run_bind, two_index1 p q r s w, Result.andThen_ok, Sem.run_pure]) hK
end
/-- x, and then y: what both comes to, whatever is done to either. -/
def bothN {σ : Type} (st : Nat → Nat → σ → Nat × σ) (d k d' k' : Nat) (s : σ) : Nat × σ :=
  let a := st d k s
  if a.1 = 0 ∨ lostB a.1 = true then
    let c := st d' k' a.2
    if c.1 = 0 ∨ lostB c.1 = true then (if a.1 = 0 ∨ c.1 = 0 then 0 else 5, c.2) else c
  else a
theorem both_write (S : Bank) (d k d' k' : Nat) (s : Sec) : bothN (fun d k S => S.write d k s) d k d' k' S = S.mwrite d k d' k' s := rfl
abbrev Vars := List (Nat × TypeId × List Value)
/-- What is asked of a closure that both is handed, and of what is carried on; n: how often it may still be called. -/
structure Doer (f : FuncId) (caps : List Value) {σ : Type} (st : Nat → Nat → σ → Nat × σ) (J : Nat → World → σ → Vars → Prop) : Prop where
  var_ : ∀ {n : Nat} {W W' : World} {s : σ} {V : Vars} {g : Nat} {t : TypeId} {cs : List Value}, J n W s V → Below W.heap.size W W' → W.heap.size ≤ g → Blk W' g t cs.toArray → J n W' s (V ++ [(g, t, cs)])
  own_ : ∀ {n : Nat} {W : World} {s : σ} {V : Vars}, J n W s V → OwnV W 0 V
  cut_ : ∀ {n : Nat} {W : World} {s : σ} {V : Vars}, J n W s V → J n W s []
  call_ : ∀ {n : Nat} {W : World} {s : σ} {V : Vars}, J (n + 1) W s V → ∀ d k : Int, Calls Try.prog f (.agg #[.int .i64 d, .int .i64 k] :: caps).toArray W fun e W' => e = .returned (.int .i64 ((st (nI d) (nI k) s).1 : Int)) ∧ J n W' (st (nI d) (nI k) s).2 V
structure DoAt (f : FuncId) (caps : List Value) {σ : Type} (st : Nat → Nat → σ → Nat × σ) (J : Nat → World → σ → Vars → Prop) (n : Nat) (W : World) (s : σ) (V : Vars) : Prop where
  doer : Doer f caps st J
  is : J n W s V
section
variable {f : FuncId} {caps : List Value} {σ : Type} {st : Nat → Nat → σ → Nat × σ} {J : Nat → World → σ → Vars → Prop} {n : Nat} {W W' : World} {s : σ} {V : Vars}
theorem DoAt.var (h : DoAt f caps st J n W s V) {g : Nat} {t : TypeId} {cs : List Value} (hb : Below W.heap.size W W') (hg : W.heap.size ≤ g) (hk : Blk W' g t cs.toArray) : DoAt f caps st J n W' s (V ++ [(g, t, cs)]) := ⟨h.doer, h.doer.var_ h.is hb hg hk⟩
theorem DoAt.own (h : DoAt f caps st J n W s V) : OwnV W 0 V := h.doer.own_ h.is
theorem DoAt.new {Wa : World} (h : DoAt f caps st J n W s V) {t : TypeId} {cs : List Value} (hl : Below W.heap.size W Wa) (hg : Wa.grownBy W' (some W.heap.size)) (hk : Blk W' W.heap.size t cs.toArray) : DoAt f caps st J n W' s (V ++ [(W.heap.size, t, cs)]) :=
  h.var (hl.grown hg hl.size (fun g e => by injection e with e; omega)) (Nat.le_refl _) hk
theorem DoAt.call (h : DoAt f caps st J (n + 1) W s V) (d k : Int) {x y : Nat} (hx : nI d = x) (hy : nI k = y) : Calls Try.prog f (.agg #[.int .i64 d, .int .i64 k] :: caps).toArray W fun e W' => e = .returned (.int .i64 ((st x y s).1 : Int)) ∧ DoAt f caps st J n W' (st x y s).2 V := by
  subst hx hy
  exact (h.doer.call_ h.is d k).mono fun _ _ ⟨he, hJ⟩ => ⟨he, h.doer, hJ⟩
theorem DoAt.fin (h : DoAt f caps st J n W s V) : ∃ n, J n W s [] := ⟨n, h.doer.cut_ h.is⟩
end
#print axioms home_any
set_option linter.unusedVariables false
set_option maxRecDepth 100000 in
set_option maxHeartbeats 8000000 in
theorem bothW_any {σ : Type} {st : Nat → Nat → σ → Nat × σ} {J : Nat → World → σ → Vars → Prop} {c1 c2 : Value} {w : World} {s : σ} (h : DoAt 53 [c1, c2] st J 2 w s []) (xd xk yd yk : Int) :
    Calls Try.prog 52 #[.agg #[.int .i64 xd, .int .i64 xk], .agg #[.int .i64 yd, .int .i64 yk], .func (.func 53) #[] #[c1, c2]] w fun e w' => e = .returned (.int .i64 ((bothN st (nI xd) (nI xk) (nI yd) (nI yk) s).1 : Int)) ∧ ∃ n, J n w' (bothN st (nI xd) (nI xk) (nI yd) (nI yk) s).2 [] := by
  have HS_w : Hid (DoAt 53 [c1, c2] st J 2 w s []) := hide h
  clear h
  obtain ⟨e1, he1⟩ : ∃ e, (st (nI xd) (nI xk) s).1 = e := ⟨_, rfl⟩
  obtain ⟨A, hA⟩ : ∃ A, (st (nI xd) (nI xk) s).2 = A := ⟨_, rfl⟩
  obtain ⟨e2, he2⟩ : ∃ e, (st (nI yd) (nI yk) A).1 = e := ⟨_, rfl⟩
  obtain ⟨C, hC⟩ : ∃ C, (st (nI yd) (nI yk) A).2 = C := ⟨_, rfl⟩
  have hmw : bothN st (nI xd) (nI xk) (nI yd) (nI yk) s = if e1 = 0 ∨ lostB e1 = true then (if e2 = 0 ∨ lostB e2 = true then (if e1 = 0 ∨ e2 = 0 then 0 else 5, C) else (e2, C)) else (e1, A) := by
    subst he1 hA he2 hC
    unfold bothN
    rfl
  have HE1 := hide he1
  have HA := hide hA
  have HE2 := hide he2
  have HC := hide hC
  have HMW := hide hmw
  clear he1 hA he2 hC hmw
  by_cases hz_e1 : e1 = 0
  · have HZ_e1 := hide hz_e1
    by_cases hz_e2 : e2 = 0
    · have HZ_e2 := hide hz_e2
      have HR := hide (show bothN st (nI xd) (nI xk) (nI yd) (nI yk) s = (0, C) by rw [HMW.out, if_pos (Or.inl hz_e1), if_pos (Or.inl hz_e2), if_pos (Or.inl hz_e1)])
      clear hz_e1 hz_e2
      go_enter Try.func52, Try.ntmps52
      go_wp2_with (first
        | ((with_reducible refine at_slot 3 ?_); refine wpList_box_blk rfl 33 _ rfl (.agg #[.int .i64 xd, .int .i64 xk]) rfl ?_; intro y1 hbq hl1 hs1; have HS_y1 : Hid (DoAt 53 [c1, c2] st J 2 y1 s [(w.heap.size, 33, plL xd xk)]) := hide (HS_w.out.var hl1 (Nat.le_refl _) hbq); clear hbq hl1 hs1)
        | ((with_reducible refine at_slot 4 ?_); refine wpList_box_blk rfl 33 _ rfl (.agg #[.int .i64 yd, .int .i64 yk]) rfl ?_; intro y2 hbq hl1 hs1; have HS_y2 : Hid (DoAt 53 [c1, c2] st J 2 y2 s [(w.heap.size, 33, plL xd xk), (y1.heap.size, 33, plL yd yk)]) := hide (HS_y1.out.var hl1 (Nat.le_refl _) hbq); clear hbq hl1 hs1)
        | ((with_reducible refine at_slot 11 ?_); refine when_own rfl (.tmp 3) rfl HS_y2.out.own 0 rfl rfl Try.underlying33 rfl mplace_info ?_)
        | ((with_reducible refine at_slot 12 ?_); refine when_own rfl (.tmp 4) rfl HS_y2.out.own 1 rfl rfl Try.underlying33 rfl mplace_info ?_)
        | ((with_reducible refine at_slot 13 ?_); refine wpList_build_is rfl 96 #[(0, .tmp 11), (1, .tmp 12)] rfl [(0, .agg #[.int .i64 xd, .int .i64 xk]), (1, .agg #[.int .i64 yd, .int .i64 yk])] (by simp only [List.map_toArray, List.map_cons, List.map_nil]; rfl) _ (two_built _ _ _ _) ?_))
      refine wp_loop_rounds 3 ?_
      rw [rounds_succ]
      go_wp2_with (first
        | ((with_reducible refine at_slot 16 ?_); refine wpList_two0 rfl (.tmp 13) (.tmp 14) rfl xd xk yd yk rfl rfl ?_)
        | ((with_reducible refine at_slot 9 ?_); refine wpList_alloc_blk rfl 33 rfl _ (mplace_zero _) ?_; intro y3 hbq hl1 hs1; clear hs1)
        | ((with_reducible refine at_store 9 ?_); refine wpList_store_all rfl 33 (.tmp 9) (.tmp 16) rfl y2.heap.size 33 _ hbq rfl (plL (xd) (xk)) rfl mplace_info rfl (mplace_one _ _) ?_; intro y4 hbz hg hs; have HS_y4 : Hid (DoAt 53 [c1, c2] st J 2 y4 s [(w.heap.size, 33, plL xd xk), (y1.heap.size, 33, plL yd yk), (y2.heap.size, 33, plL (xd) (xk))]) := hide (HS_y2.out.new hl1 hg hbz); clear hs hbq hl1 hg hbz))
      go_step3
      go_wp2_with (first
        | ((with_reducible refine at_slot 18 ?_); refine when_own rfl (.tmp 9) rfl HS_y4.out.own 2 rfl rfl Try.underlying33 rfl mplace_info ?_)
        | (go_at_call 53; refine (HS_y4.out.call xd xk rfl rfl).mono ?_; rintro _ y5 ⟨rfl, hsq⟩; rw [HA.out] at hsq; rw [HE1.out, HZ_e1.out]; have HS_y5 : Hid (DoAt 53 [c1, c2] st J 1 y5 A [(w.heap.size, 33, plL xd xk), (y1.heap.size, 33, plL yd yk), (y2.heap.size, 33, plL (xd) (xk))]) := hide (hsq); clear hsq)
        | (go_at_call 54; refine (lost_any 0 _).mono ?_; rintro _ _ ⟨rfl, rfl⟩))
      go_step3
      rw [Exit.noGoto_normal]
      go_wp2
      rw [rounds_succ]
      go_wp2_with (first
        | ((with_reducible refine at_slot 16 ?_); refine wpList_two1 rfl (.tmp 13) (.tmp 14) rfl xd xk yd yk rfl rfl ?_)
        | ((with_reducible refine at_slot 9 ?_); refine wpList_alloc_blk rfl 33 rfl _ (mplace_zero _) ?_; intro y6 hbq hl1 hs1; clear hs1)
        | ((with_reducible refine at_store 9 ?_); refine wpList_store_all rfl 33 (.tmp 9) (.tmp 16) rfl y5.heap.size 33 _ hbq rfl (plL (yd) (yk)) rfl mplace_info rfl (mplace_one _ _) ?_; intro y7 hbz hg hs; have HS_y7 : Hid (DoAt 53 [c1, c2] st J 1 y7 A [(w.heap.size, 33, plL xd xk), (y1.heap.size, 33, plL yd yk), (y2.heap.size, 33, plL (xd) (xk)), (y5.heap.size, 33, plL (yd) (yk))]) := hide (HS_y5.out.new hl1 hg hbz); clear hs hbq hl1 hg hbz))
      go_step3
      go_wp2_with (first
        | ((with_reducible refine at_slot 18 ?_); refine when_own rfl (.tmp 9) rfl HS_y7.out.own 3 rfl rfl Try.underlying33 rfl mplace_info ?_)
        | (go_at_call 53; refine (HS_y7.out.call yd yk rfl rfl).mono ?_; rintro _ y8 ⟨rfl, hsq⟩; rw [HC.out] at hsq; rw [HE2.out, HZ_e2.out]; have HS_y8 : Hid (DoAt 53 [c1, c2] st J 0 y8 C [(w.heap.size, 33, plL xd xk), (y1.heap.size, 33, plL yd yk), (y2.heap.size, 33, plL (xd) (xk)), (y5.heap.size, 33, plL (yd) (yk))]) := hide (hsq); clear hsq)
        | (go_at_call 54; refine (lost_any 0 _).mono ?_; rintro _ _ ⟨rfl, rfl⟩))
      go_step3
      rw [Exit.noGoto_normal]
      go_wp2
      rw [rounds_succ]
      go_wp2
      go_ret
      rw [HR.out]
      exact ⟨rfl, HS_y8.out.fin⟩
    · have HN_e2 := hide hz_e2
      by_cases hl_e2 : lostB e2 = true
      · have HLO_e2 := hide (fun w => hl_e2 ▸ lost_any e2 w)
        have HR := hide (show bothN st (nI xd) (nI xk) (nI yd) (nI yk) s = (0, C) by rw [HMW.out, if_pos (Or.inl hz_e1), if_pos (Or.inr hl_e2), if_pos (Or.inl hz_e1)])
        clear hz_e1 hz_e2 hl_e2
        have NE_e2 := neN HN_e2.out
        obtain ⟨na_e2, nb_e2, nc_e2⟩ := NE_e2
        go_enter Try.func52, Try.ntmps52
        go_wp2_with (first
          | ((with_reducible refine at_slot 3 ?_); refine wpList_box_blk rfl 33 _ rfl (.agg #[.int .i64 xd, .int .i64 xk]) rfl ?_; intro y1 hbq hl1 hs1; have HS_y1 : Hid (DoAt 53 [c1, c2] st J 2 y1 s [(w.heap.size, 33, plL xd xk)]) := hide (HS_w.out.var hl1 (Nat.le_refl _) hbq); clear hbq hl1 hs1)
          | ((with_reducible refine at_slot 4 ?_); refine wpList_box_blk rfl 33 _ rfl (.agg #[.int .i64 yd, .int .i64 yk]) rfl ?_; intro y2 hbq hl1 hs1; have HS_y2 : Hid (DoAt 53 [c1, c2] st J 2 y2 s [(w.heap.size, 33, plL xd xk), (y1.heap.size, 33, plL yd yk)]) := hide (HS_y1.out.var hl1 (Nat.le_refl _) hbq); clear hbq hl1 hs1)
          | ((with_reducible refine at_slot 11 ?_); refine when_own rfl (.tmp 3) rfl HS_y2.out.own 0 rfl rfl Try.underlying33 rfl mplace_info ?_)
          | ((with_reducible refine at_slot 12 ?_); refine when_own rfl (.tmp 4) rfl HS_y2.out.own 1 rfl rfl Try.underlying33 rfl mplace_info ?_)
          | ((with_reducible refine at_slot 13 ?_); refine wpList_build_is rfl 96 #[(0, .tmp 11), (1, .tmp 12)] rfl [(0, .agg #[.int .i64 xd, .int .i64 xk]), (1, .agg #[.int .i64 yd, .int .i64 yk])] (by simp only [List.map_toArray, List.map_cons, List.map_nil]; rfl) _ (two_built _ _ _ _) ?_))
        refine wp_loop_rounds 3 ?_
        rw [rounds_succ]
        go_wp2_with (first
          | ((with_reducible refine at_slot 16 ?_); refine wpList_two0 rfl (.tmp 13) (.tmp 14) rfl xd xk yd yk rfl rfl ?_)
          | ((with_reducible refine at_slot 9 ?_); refine wpList_alloc_blk rfl 33 rfl _ (mplace_zero _) ?_; intro y3 hbq hl1 hs1; clear hs1)
          | ((with_reducible refine at_store 9 ?_); refine wpList_store_all rfl 33 (.tmp 9) (.tmp 16) rfl y2.heap.size 33 _ hbq rfl (plL (xd) (xk)) rfl mplace_info rfl (mplace_one _ _) ?_; intro y4 hbz hg hs; have HS_y4 : Hid (DoAt 53 [c1, c2] st J 2 y4 s [(w.heap.size, 33, plL xd xk), (y1.heap.size, 33, plL yd yk), (y2.heap.size, 33, plL (xd) (xk))]) := hide (HS_y2.out.new hl1 hg hbz); clear hs hbq hl1 hg hbz))
        go_step3
        go_wp2_with (first
          | ((with_reducible refine at_slot 18 ?_); refine when_own rfl (.tmp 9) rfl HS_y4.out.own 2 rfl rfl Try.underlying33 rfl mplace_info ?_)
          | (go_at_call 53; refine (HS_y4.out.call xd xk rfl rfl).mono ?_; rintro _ y5 ⟨rfl, hsq⟩; rw [HA.out] at hsq; rw [HE1.out, HZ_e1.out]; have HS_y5 : Hid (DoAt 53 [c1, c2] st J 1 y5 A [(w.heap.size, 33, plL xd xk), (y1.heap.size, 33, plL yd yk), (y2.heap.size, 33, plL (xd) (xk))]) := hide (hsq); clear hsq)
          | (go_at_call 54; refine (lost_any 0 _).mono ?_; rintro _ _ ⟨rfl, rfl⟩))
        go_step3
        rw [Exit.noGoto_normal]
        go_wp2
        rw [rounds_succ]
        go_wp2_with (first
          | ((with_reducible refine at_slot 16 ?_); refine wpList_two1 rfl (.tmp 13) (.tmp 14) rfl xd xk yd yk rfl rfl ?_)
          | ((with_reducible refine at_slot 9 ?_); refine wpList_alloc_blk rfl 33 rfl _ (mplace_zero _) ?_; intro y6 hbq hl1 hs1; clear hs1)
          | ((with_reducible refine at_store 9 ?_); refine wpList_store_all rfl 33 (.tmp 9) (.tmp 16) rfl y5.heap.size 33 _ hbq rfl (plL (yd) (yk)) rfl mplace_info rfl (mplace_one _ _) ?_; intro y7 hbz hg hs; have HS_y7 : Hid (DoAt 53 [c1, c2] st J 1 y7 A [(w.heap.size, 33, plL xd xk), (y1.heap.size, 33, plL yd yk), (y2.heap.size, 33, plL (xd) (xk)), (y5.heap.size, 33, plL (yd) (yk))]) := hide (HS_y5.out.new hl1 hg hbz); clear hs hbq hl1 hg hbz))
        refine wp_scope_fwd 0 rfl ?_
        go_wp2_with (first
          | ((with_reducible refine at_slot 18 ?_); refine when_own rfl (.tmp 9) rfl HS_y7.out.own 3 rfl rfl Try.underlying33 rfl mplace_info ?_)
          | (go_at_call 53; refine (HS_y7.out.call yd yk rfl rfl).mono ?_; rintro _ y8 ⟨rfl, hsq⟩; rw [HC.out] at hsq; rw [HE2.out]; have HS_y8 : Hid (DoAt 53 [c1, c2] st J 0 y8 C [(w.heap.size, 33, plL xd xk), (y1.heap.size, 33, plL yd yk), (y2.heap.size, 33, plL (xd) (xk)), (y5.heap.size, 33, plL (yd) (yk))]) := hide (hsq); clear hsq)
          | (go_at_call 54; (with_reducible refine (HLO_e2.out _).mono ?_); rintro _ _ ⟨rfl, rfl⟩))
        go_step3
        refine And.intro rfl ?_
        show Code.wp Try.prog Code.skip _ _ _
        go_wp2
        rw [Exit.noGoto_normal]
        go_wp2
        rw [rounds_succ]
        go_wp2
        go_ret
        rw [HR.out]
        exact ⟨rfl, HS_y8.out.fin⟩
      · have hf_e2 : lostB e2 = false := by simpa using hl_e2
        have HLO_e2 := hide (fun w => hf_e2 ▸ lost_any e2 w)
        have HR := hide (show bothN st (nI xd) (nI xk) (nI yd) (nI yk) s = (e2, C) by rw [HMW.out, if_pos (Or.inl hz_e1), if_neg (fun q => q.elim hz_e2 hl_e2)])
        clear hz_e1 hz_e2 hl_e2 hf_e2
        have NE_e2 := neN HN_e2.out
        obtain ⟨na_e2, nb_e2, nc_e2⟩ := NE_e2
        go_enter Try.func52, Try.ntmps52
        go_wp2_with (first
          | ((with_reducible refine at_slot 3 ?_); refine wpList_box_blk rfl 33 _ rfl (.agg #[.int .i64 xd, .int .i64 xk]) rfl ?_; intro y1 hbq hl1 hs1; have HS_y1 : Hid (DoAt 53 [c1, c2] st J 2 y1 s [(w.heap.size, 33, plL xd xk)]) := hide (HS_w.out.var hl1 (Nat.le_refl _) hbq); clear hbq hl1 hs1)
          | ((with_reducible refine at_slot 4 ?_); refine wpList_box_blk rfl 33 _ rfl (.agg #[.int .i64 yd, .int .i64 yk]) rfl ?_; intro y2 hbq hl1 hs1; have HS_y2 : Hid (DoAt 53 [c1, c2] st J 2 y2 s [(w.heap.size, 33, plL xd xk), (y1.heap.size, 33, plL yd yk)]) := hide (HS_y1.out.var hl1 (Nat.le_refl _) hbq); clear hbq hl1 hs1)
          | ((with_reducible refine at_slot 11 ?_); refine when_own rfl (.tmp 3) rfl HS_y2.out.own 0 rfl rfl Try.underlying33 rfl mplace_info ?_)
          | ((with_reducible refine at_slot 12 ?_); refine when_own rfl (.tmp 4) rfl HS_y2.out.own 1 rfl rfl Try.underlying33 rfl mplace_info ?_)
          | ((with_reducible refine at_slot 13 ?_); refine wpList_build_is rfl 96 #[(0, .tmp 11), (1, .tmp 12)] rfl [(0, .agg #[.int .i64 xd, .int .i64 xk]), (1, .agg #[.int .i64 yd, .int .i64 yk])] (by simp only [List.map_toArray, List.map_cons, List.map_nil]; rfl) _ (two_built _ _ _ _) ?_))
        refine wp_loop_rounds 3 ?_
        rw [rounds_succ]
        go_wp2_with (first
          | ((with_reducible refine at_slot 16 ?_); refine wpList_two0 rfl (.tmp 13) (.tmp 14) rfl xd xk yd yk rfl rfl ?_)
          | ((with_reducible refine at_slot 9 ?_); refine wpList_alloc_blk rfl 33 rfl _ (mplace_zero _) ?_; intro y3 hbq hl1 hs1; clear hs1)
          | ((with_reducible refine at_store 9 ?_); refine wpList_store_all rfl 33 (.tmp 9) (.tmp 16) rfl y2.heap.size 33 _ hbq rfl (plL (xd) (xk)) rfl mplace_info rfl (mplace_one _ _) ?_; intro y4 hbz hg hs; have HS_y4 : Hid (DoAt 53 [c1, c2] st J 2 y4 s [(w.heap.size, 33, plL xd xk), (y1.heap.size, 33, plL yd yk), (y2.heap.size, 33, plL (xd) (xk))]) := hide (HS_y2.out.new hl1 hg hbz); clear hs hbq hl1 hg hbz))
        go_step3
        go_wp2_with (first
          | ((with_reducible refine at_slot 18 ?_); refine when_own rfl (.tmp 9) rfl HS_y4.out.own 2 rfl rfl Try.underlying33 rfl mplace_info ?_)
          | (go_at_call 53; refine (HS_y4.out.call xd xk rfl rfl).mono ?_; rintro _ y5 ⟨rfl, hsq⟩; rw [HA.out] at hsq; rw [HE1.out, HZ_e1.out]; have HS_y5 : Hid (DoAt 53 [c1, c2] st J 1 y5 A [(w.heap.size, 33, plL xd xk), (y1.heap.size, 33, plL yd yk), (y2.heap.size, 33, plL (xd) (xk))]) := hide (hsq); clear hsq)
          | (go_at_call 54; refine (lost_any 0 _).mono ?_; rintro _ _ ⟨rfl, rfl⟩))
        go_step3
        rw [Exit.noGoto_normal]
        go_wp2
        rw [rounds_succ]
        go_wp2_with (first
          | ((with_reducible refine at_slot 16 ?_); refine wpList_two1 rfl (.tmp 13) (.tmp 14) rfl xd xk yd yk rfl rfl ?_)
          | ((with_reducible refine at_slot 9 ?_); refine wpList_alloc_blk rfl 33 rfl _ (mplace_zero _) ?_; intro y6 hbq hl1 hs1; clear hs1)
          | ((with_reducible refine at_store 9 ?_); refine wpList_store_all rfl 33 (.tmp 9) (.tmp 16) rfl y5.heap.size 33 _ hbq rfl (plL (yd) (yk)) rfl mplace_info rfl (mplace_one _ _) ?_; intro y7 hbz hg hs; have HS_y7 : Hid (DoAt 53 [c1, c2] st J 1 y7 A [(w.heap.size, 33, plL xd xk), (y1.heap.size, 33, plL yd yk), (y2.heap.size, 33, plL (xd) (xk)), (y5.heap.size, 33, plL (yd) (yk))]) := hide (HS_y5.out.new hl1 hg hbz); clear hs hbq hl1 hg hbz))
        go_step3
        go_wp2_with (first
          | ((with_reducible refine at_slot 18 ?_); refine when_own rfl (.tmp 9) rfl HS_y7.out.own 3 rfl rfl Try.underlying33 rfl mplace_info ?_)
          | (go_at_call 53; refine (HS_y7.out.call yd yk rfl rfl).mono ?_; rintro _ y8 ⟨rfl, hsq⟩; rw [HC.out] at hsq; rw [HE2.out]; have HS_y8 : Hid (DoAt 53 [c1, c2] st J 0 y8 C [(w.heap.size, 33, plL xd xk), (y1.heap.size, 33, plL yd yk), (y2.heap.size, 33, plL (xd) (xk)), (y5.heap.size, 33, plL (yd) (yk))]) := hide (hsq); clear hsq)
          | (go_at_call 54; (with_reducible refine (HLO_e2.out _).mono ?_); rintro _ _ ⟨rfl, rfl⟩))
        rw [Exit.noGoto_ret]
        go_ret
        rw [HR.out]
        exact ⟨rfl, HS_y8.out.fin⟩
  · have HN_e1 := hide hz_e1
    by_cases hl_e1 : lostB e1 = true
    · have HLO_e1 := hide (fun w => hl_e1 ▸ lost_any e1 w)
      by_cases hz_e2 : e2 = 0
      · have HZ_e2 := hide hz_e2
        have HR := hide (show bothN st (nI xd) (nI xk) (nI yd) (nI yk) s = (0, C) by rw [HMW.out, if_pos (Or.inr hl_e1), if_pos (Or.inl hz_e2), if_pos (Or.inr hz_e2)])
        clear hz_e1 hl_e1 hz_e2
        have NE_e1 := neN HN_e1.out
        obtain ⟨na_e1, nb_e1, nc_e1⟩ := NE_e1
        go_enter Try.func52, Try.ntmps52
        go_wp2_with (first
          | ((with_reducible refine at_slot 3 ?_); refine wpList_box_blk rfl 33 _ rfl (.agg #[.int .i64 xd, .int .i64 xk]) rfl ?_; intro y1 hbq hl1 hs1; have HS_y1 : Hid (DoAt 53 [c1, c2] st J 2 y1 s [(w.heap.size, 33, plL xd xk)]) := hide (HS_w.out.var hl1 (Nat.le_refl _) hbq); clear hbq hl1 hs1)
          | ((with_reducible refine at_slot 4 ?_); refine wpList_box_blk rfl 33 _ rfl (.agg #[.int .i64 yd, .int .i64 yk]) rfl ?_; intro y2 hbq hl1 hs1; have HS_y2 : Hid (DoAt 53 [c1, c2] st J 2 y2 s [(w.heap.size, 33, plL xd xk), (y1.heap.size, 33, plL yd yk)]) := hide (HS_y1.out.var hl1 (Nat.le_refl _) hbq); clear hbq hl1 hs1)
          | ((with_reducible refine at_slot 11 ?_); refine when_own rfl (.tmp 3) rfl HS_y2.out.own 0 rfl rfl Try.underlying33 rfl mplace_info ?_)
          | ((with_reducible refine at_slot 12 ?_); refine when_own rfl (.tmp 4) rfl HS_y2.out.own 1 rfl rfl Try.underlying33 rfl mplace_info ?_)
          | ((with_reducible refine at_slot 13 ?_); refine wpList_build_is rfl 96 #[(0, .tmp 11), (1, .tmp 12)] rfl [(0, .agg #[.int .i64 xd, .int .i64 xk]), (1, .agg #[.int .i64 yd, .int .i64 yk])] (by simp only [List.map_toArray, List.map_cons, List.map_nil]; rfl) _ (two_built _ _ _ _) ?_))
        refine wp_loop_rounds 3 ?_
        rw [rounds_succ]
        go_wp2_with (first
          | ((with_reducible refine at_slot 16 ?_); refine wpList_two0 rfl (.tmp 13) (.tmp 14) rfl xd xk yd yk rfl rfl ?_)
          | ((with_reducible refine at_slot 9 ?_); refine wpList_alloc_blk rfl 33 rfl _ (mplace_zero _) ?_; intro y3 hbq hl1 hs1; clear hs1)
          | ((with_reducible refine at_store 9 ?_); refine wpList_store_all rfl 33 (.tmp 9) (.tmp 16) rfl y2.heap.size 33 _ hbq rfl (plL (xd) (xk)) rfl mplace_info rfl (mplace_one _ _) ?_; intro y4 hbz hg hs; have HS_y4 : Hid (DoAt 53 [c1, c2] st J 2 y4 s [(w.heap.size, 33, plL xd xk), (y1.heap.size, 33, plL yd yk), (y2.heap.size, 33, plL (xd) (xk))]) := hide (HS_y2.out.new hl1 hg hbz); clear hs hbq hl1 hg hbz))
        refine wp_scope_fwd 0 rfl ?_
        go_wp2_with (first
          | ((with_reducible refine at_slot 18 ?_); refine when_own rfl (.tmp 9) rfl HS_y4.out.own 2 rfl rfl Try.underlying33 rfl mplace_info ?_)
          | (go_at_call 53; refine (HS_y4.out.call xd xk rfl rfl).mono ?_; rintro _ y5 ⟨rfl, hsq⟩; rw [HA.out] at hsq; rw [HE1.out]; have HS_y5 : Hid (DoAt 53 [c1, c2] st J 1 y5 A [(w.heap.size, 33, plL xd xk), (y1.heap.size, 33, plL yd yk), (y2.heap.size, 33, plL (xd) (xk))]) := hide (hsq); clear hsq)
          | (go_at_call 54; (with_reducible refine (HLO_e1.out _).mono ?_); rintro _ _ ⟨rfl, rfl⟩))
        go_step3
        refine And.intro rfl ?_
        show Code.wp Try.prog Code.skip _ _ _
        go_wp2
        rw [Exit.noGoto_normal]
        go_wp2
        rw [rounds_succ]
        go_wp2_with (first
          | ((with_reducible refine at_slot 16 ?_); refine wpList_two1 rfl (.tmp 13) (.tmp 14) rfl xd xk yd yk rfl rfl ?_)
          | ((with_reducible refine at_slot 9 ?_); refine wpList_alloc_blk rfl 33 rfl _ (mplace_zero _) ?_; intro y6 hbq hl1 hs1; clear hs1)
          | ((with_reducible refine at_store 9 ?_); refine wpList_store_all rfl 33 (.tmp 9) (.tmp 16) rfl y5.heap.size 33 _ hbq rfl (plL (yd) (yk)) rfl mplace_info rfl (mplace_one _ _) ?_; intro y7 hbz hg hs; have HS_y7 : Hid (DoAt 53 [c1, c2] st J 1 y7 A [(w.heap.size, 33, plL xd xk), (y1.heap.size, 33, plL yd yk), (y2.heap.size, 33, plL (xd) (xk)), (y5.heap.size, 33, plL (yd) (yk))]) := hide (HS_y5.out.new hl1 hg hbz); clear hs hbq hl1 hg hbz))
        go_step3
        go_wp2_with (first
          | ((with_reducible refine at_slot 18 ?_); refine when_own rfl (.tmp 9) rfl HS_y7.out.own 3 rfl rfl Try.underlying33 rfl mplace_info ?_)
          | (go_at_call 53; refine (HS_y7.out.call yd yk rfl rfl).mono ?_; rintro _ y8 ⟨rfl, hsq⟩; rw [HC.out] at hsq; rw [HE2.out, HZ_e2.out]; have HS_y8 : Hid (DoAt 53 [c1, c2] st J 0 y8 C [(w.heap.size, 33, plL xd xk), (y1.heap.size, 33, plL yd yk), (y2.heap.size, 33, plL (xd) (xk)), (y5.heap.size, 33, plL (yd) (yk))]) := hide (hsq); clear hsq)
          | (go_at_call 54; refine (lost_any 0 _).mono ?_; rintro _ _ ⟨rfl, rfl⟩))
        go_step3
        rw [Exit.noGoto_normal]
        go_wp2
        rw [rounds_succ]
        go_wp2
        go_ret
        rw [HR.out]
        exact ⟨rfl, HS_y8.out.fin⟩
      · have HN_e2 := hide hz_e2
        by_cases hl_e2 : lostB e2 = true
        · have HLO_e2 := hide (fun w => hl_e2 ▸ lost_any e2 w)
          have HR := hide (show bothN st (nI xd) (nI xk) (nI yd) (nI yk) s = (5, C) by rw [HMW.out, if_pos (Or.inr hl_e1), if_pos (Or.inr hl_e2), if_neg (fun q => q.elim hz_e1 hz_e2)])
          clear hz_e1 hl_e1 hz_e2 hl_e2
          have NE_e1 := neN HN_e1.out
          obtain ⟨na_e1, nb_e1, nc_e1⟩ := NE_e1
          have NE_e2 := neN HN_e2.out
          obtain ⟨na_e2, nb_e2, nc_e2⟩ := NE_e2
          go_enter Try.func52, Try.ntmps52
          go_wp2_with (first
            | ((with_reducible refine at_slot 3 ?_); refine wpList_box_blk rfl 33 _ rfl (.agg #[.int .i64 xd, .int .i64 xk]) rfl ?_; intro y1 hbq hl1 hs1; have HS_y1 : Hid (DoAt 53 [c1, c2] st J 2 y1 s [(w.heap.size, 33, plL xd xk)]) := hide (HS_w.out.var hl1 (Nat.le_refl _) hbq); clear hbq hl1 hs1)
            | ((with_reducible refine at_slot 4 ?_); refine wpList_box_blk rfl 33 _ rfl (.agg #[.int .i64 yd, .int .i64 yk]) rfl ?_; intro y2 hbq hl1 hs1; have HS_y2 : Hid (DoAt 53 [c1, c2] st J 2 y2 s [(w.heap.size, 33, plL xd xk), (y1.heap.size, 33, plL yd yk)]) := hide (HS_y1.out.var hl1 (Nat.le_refl _) hbq); clear hbq hl1 hs1)
            | ((with_reducible refine at_slot 11 ?_); refine when_own rfl (.tmp 3) rfl HS_y2.out.own 0 rfl rfl Try.underlying33 rfl mplace_info ?_)
            | ((with_reducible refine at_slot 12 ?_); refine when_own rfl (.tmp 4) rfl HS_y2.out.own 1 rfl rfl Try.underlying33 rfl mplace_info ?_)
            | ((with_reducible refine at_slot 13 ?_); refine wpList_build_is rfl 96 #[(0, .tmp 11), (1, .tmp 12)] rfl [(0, .agg #[.int .i64 xd, .int .i64 xk]), (1, .agg #[.int .i64 yd, .int .i64 yk])] (by simp only [List.map_toArray, List.map_cons, List.map_nil]; rfl) _ (two_built _ _ _ _) ?_))
          refine wp_loop_rounds 3 ?_
          rw [rounds_succ]
          go_wp2_with (first
            | ((with_reducible refine at_slot 16 ?_); refine wpList_two0 rfl (.tmp 13) (.tmp 14) rfl xd xk yd yk rfl rfl ?_)
            | ((with_reducible refine at_slot 9 ?_); refine wpList_alloc_blk rfl 33 rfl _ (mplace_zero _) ?_; intro y3 hbq hl1 hs1; clear hs1)
            | ((with_reducible refine at_store 9 ?_); refine wpList_store_all rfl 33 (.tmp 9) (.tmp 16) rfl y2.heap.size 33 _ hbq rfl (plL (xd) (xk)) rfl mplace_info rfl (mplace_one _ _) ?_; intro y4 hbz hg hs; have HS_y4 : Hid (DoAt 53 [c1, c2] st J 2 y4 s [(w.heap.size, 33, plL xd xk), (y1.heap.size, 33, plL yd yk), (y2.heap.size, 33, plL (xd) (xk))]) := hide (HS_y2.out.new hl1 hg hbz); clear hs hbq hl1 hg hbz))
          refine wp_scope_fwd 0 rfl ?_
          go_wp2_with (first
            | ((with_reducible refine at_slot 18 ?_); refine when_own rfl (.tmp 9) rfl HS_y4.out.own 2 rfl rfl Try.underlying33 rfl mplace_info ?_)
            | (go_at_call 53; refine (HS_y4.out.call xd xk rfl rfl).mono ?_; rintro _ y5 ⟨rfl, hsq⟩; rw [HA.out] at hsq; rw [HE1.out]; have HS_y5 : Hid (DoAt 53 [c1, c2] st J 1 y5 A [(w.heap.size, 33, plL xd xk), (y1.heap.size, 33, plL yd yk), (y2.heap.size, 33, plL (xd) (xk))]) := hide (hsq); clear hsq)
            | (go_at_call 54; (with_reducible refine (HLO_e1.out _).mono ?_); rintro _ _ ⟨rfl, rfl⟩))
          go_step3
          refine And.intro rfl ?_
          show Code.wp Try.prog Code.skip _ _ _
          go_wp2
          rw [Exit.noGoto_normal]
          go_wp2
          rw [rounds_succ]
          go_wp2_with (first
            | ((with_reducible refine at_slot 16 ?_); refine wpList_two1 rfl (.tmp 13) (.tmp 14) rfl xd xk yd yk rfl rfl ?_)
            | ((with_reducible refine at_slot 9 ?_); refine wpList_alloc_blk rfl 33 rfl _ (mplace_zero _) ?_; intro y6 hbq hl1 hs1; clear hs1)
            | ((with_reducible refine at_store 9 ?_); refine wpList_store_all rfl 33 (.tmp 9) (.tmp 16) rfl y5.heap.size 33 _ hbq rfl (plL (yd) (yk)) rfl mplace_info rfl (mplace_one _ _) ?_; intro y7 hbz hg hs; have HS_y7 : Hid (DoAt 53 [c1, c2] st J 1 y7 A [(w.heap.size, 33, plL xd xk), (y1.heap.size, 33, plL yd yk), (y2.heap.size, 33, plL (xd) (xk)), (y5.heap.size, 33, plL (yd) (yk))]) := hide (HS_y5.out.new hl1 hg hbz); clear hs hbq hl1 hg hbz))
          refine wp_scope_fwd 0 rfl ?_
          go_wp2_with (first
            | ((with_reducible refine at_slot 18 ?_); refine when_own rfl (.tmp 9) rfl HS_y7.out.own 3 rfl rfl Try.underlying33 rfl mplace_info ?_)
            | (go_at_call 53; refine (HS_y7.out.call yd yk rfl rfl).mono ?_; rintro _ y8 ⟨rfl, hsq⟩; rw [HC.out] at hsq; rw [HE2.out]; have HS_y8 : Hid (DoAt 53 [c1, c2] st J 0 y8 C [(w.heap.size, 33, plL xd xk), (y1.heap.size, 33, plL yd yk), (y2.heap.size, 33, plL (xd) (xk)), (y5.heap.size, 33, plL (yd) (yk))]) := hide (hsq); clear hsq)
            | (go_at_call 54; (with_reducible refine (HLO_e2.out _).mono ?_); rintro _ _ ⟨rfl, rfl⟩))
          go_step3
          refine And.intro rfl ?_
          show Code.wp Try.prog Code.skip _ _ _
          go_wp2
          rw [Exit.noGoto_normal]
          go_wp2
          rw [rounds_succ]
          go_wp2
          go_ret
          rw [HR.out]
          exact ⟨rfl, HS_y8.out.fin⟩
        · have hf_e2 : lostB e2 = false := by simpa using hl_e2
          have HLO_e2 := hide (fun w => hf_e2 ▸ lost_any e2 w)
          have HR := hide (show bothN st (nI xd) (nI xk) (nI yd) (nI yk) s = (e2, C) by rw [HMW.out, if_pos (Or.inr hl_e1), if_neg (fun q => q.elim hz_e2 hl_e2)])
          clear hz_e1 hl_e1 hz_e2 hl_e2 hf_e2
          have NE_e1 := neN HN_e1.out
          obtain ⟨na_e1, nb_e1, nc_e1⟩ := NE_e1
          have NE_e2 := neN HN_e2.out
          obtain ⟨na_e2, nb_e2, nc_e2⟩ := NE_e2
          go_enter Try.func52, Try.ntmps52
          go_wp2_with (first
            | ((with_reducible refine at_slot 3 ?_); refine wpList_box_blk rfl 33 _ rfl (.agg #[.int .i64 xd, .int .i64 xk]) rfl ?_; intro y1 hbq hl1 hs1; have HS_y1 : Hid (DoAt 53 [c1, c2] st J 2 y1 s [(w.heap.size, 33, plL xd xk)]) := hide (HS_w.out.var hl1 (Nat.le_refl _) hbq); clear hbq hl1 hs1)
            | ((with_reducible refine at_slot 4 ?_); refine wpList_box_blk rfl 33 _ rfl (.agg #[.int .i64 yd, .int .i64 yk]) rfl ?_; intro y2 hbq hl1 hs1; have HS_y2 : Hid (DoAt 53 [c1, c2] st J 2 y2 s [(w.heap.size, 33, plL xd xk), (y1.heap.size, 33, plL yd yk)]) := hide (HS_y1.out.var hl1 (Nat.le_refl _) hbq); clear hbq hl1 hs1)
            | ((with_reducible refine at_slot 11 ?_); refine when_own rfl (.tmp 3) rfl HS_y2.out.own 0 rfl rfl Try.underlying33 rfl mplace_info ?_)
            | ((with_reducible refine at_slot 12 ?_); refine when_own rfl (.tmp 4) rfl HS_y2.out.own 1 rfl rfl Try.underlying33 rfl mplace_info ?_)
            | ((with_reducible refine at_slot 13 ?_); refine wpList_build_is rfl 96 #[(0, .tmp 11), (1, .tmp 12)] rfl [(0, .agg #[.int .i64 xd, .int .i64 xk]), (1, .agg #[.int .i64 yd, .int .i64 yk])] (by simp only [List.map_toArray, List.map_cons, List.map_nil]; rfl) _ (two_built _ _ _ _) ?_))
          refine wp_loop_rounds 3 ?_
          rw [rounds_succ]
          go_wp2_with (first
            | ((with_reducible refine at_slot 16 ?_); refine wpList_two0 rfl (.tmp 13) (.tmp 14) rfl xd xk yd yk rfl rfl ?_)
            | ((with_reducible refine at_slot 9 ?_); refine wpList_alloc_blk rfl 33 rfl _ (mplace_zero _) ?_; intro y3 hbq hl1 hs1; clear hs1)
            | ((with_reducible refine at_store 9 ?_); refine wpList_store_all rfl 33 (.tmp 9) (.tmp 16) rfl y2.heap.size 33 _ hbq rfl (plL (xd) (xk)) rfl mplace_info rfl (mplace_one _ _) ?_; intro y4 hbz hg hs; have HS_y4 : Hid (DoAt 53 [c1, c2] st J 2 y4 s [(w.heap.size, 33, plL xd xk), (y1.heap.size, 33, plL yd yk), (y2.heap.size, 33, plL (xd) (xk))]) := hide (HS_y2.out.new hl1 hg hbz); clear hs hbq hl1 hg hbz))
          refine wp_scope_fwd 0 rfl ?_
          go_wp2_with (first
            | ((with_reducible refine at_slot 18 ?_); refine when_own rfl (.tmp 9) rfl HS_y4.out.own 2 rfl rfl Try.underlying33 rfl mplace_info ?_)
            | (go_at_call 53; refine (HS_y4.out.call xd xk rfl rfl).mono ?_; rintro _ y5 ⟨rfl, hsq⟩; rw [HA.out] at hsq; rw [HE1.out]; have HS_y5 : Hid (DoAt 53 [c1, c2] st J 1 y5 A [(w.heap.size, 33, plL xd xk), (y1.heap.size, 33, plL yd yk), (y2.heap.size, 33, plL (xd) (xk))]) := hide (hsq); clear hsq)
            | (go_at_call 54; (with_reducible refine (HLO_e1.out _).mono ?_); rintro _ _ ⟨rfl, rfl⟩))
          go_step3
          refine And.intro rfl ?_
          show Code.wp Try.prog Code.skip _ _ _
          go_wp2
          rw [Exit.noGoto_normal]
          go_wp2
          rw [rounds_succ]
          go_wp2_with (first
            | ((with_reducible refine at_slot 16 ?_); refine wpList_two1 rfl (.tmp 13) (.tmp 14) rfl xd xk yd yk rfl rfl ?_)
            | ((with_reducible refine at_slot 9 ?_); refine wpList_alloc_blk rfl 33 rfl _ (mplace_zero _) ?_; intro y6 hbq hl1 hs1; clear hs1)
            | ((with_reducible refine at_store 9 ?_); refine wpList_store_all rfl 33 (.tmp 9) (.tmp 16) rfl y5.heap.size 33 _ hbq rfl (plL (yd) (yk)) rfl mplace_info rfl (mplace_one _ _) ?_; intro y7 hbz hg hs; have HS_y7 : Hid (DoAt 53 [c1, c2] st J 1 y7 A [(w.heap.size, 33, plL xd xk), (y1.heap.size, 33, plL yd yk), (y2.heap.size, 33, plL (xd) (xk)), (y5.heap.size, 33, plL (yd) (yk))]) := hide (HS_y5.out.new hl1 hg hbz); clear hs hbq hl1 hg hbz))
          go_step3
          go_wp2_with (first
            | ((with_reducible refine at_slot 18 ?_); refine when_own rfl (.tmp 9) rfl HS_y7.out.own 3 rfl rfl Try.underlying33 rfl mplace_info ?_)
            | (go_at_call 53; refine (HS_y7.out.call yd yk rfl rfl).mono ?_; rintro _ y8 ⟨rfl, hsq⟩; rw [HC.out] at hsq; rw [HE2.out]; have HS_y8 : Hid (DoAt 53 [c1, c2] st J 0 y8 C [(w.heap.size, 33, plL xd xk), (y1.heap.size, 33, plL yd yk), (y2.heap.size, 33, plL (xd) (xk)), (y5.heap.size, 33, plL (yd) (yk))]) := hide (hsq); clear hsq)
            | (go_at_call 54; (with_reducible refine (HLO_e2.out _).mono ?_); rintro _ _ ⟨rfl, rfl⟩))
          rw [Exit.noGoto_ret]
          go_ret
          rw [HR.out]
          exact ⟨rfl, HS_y8.out.fin⟩
    · have hf_e1 : lostB e1 = false := by simpa using hl_e1
      have HLO_e1 := hide (fun w => hf_e1 ▸ lost_any e1 w)
      have HR := hide (show bothN st (nI xd) (nI xk) (nI yd) (nI yk) s = (e1, A) from HMW.out.trans (if_neg (fun q => q.elim hz_e1 hl_e1)))
      clear hz_e1 hl_e1 hf_e1
      have NE_e1 := neN HN_e1.out
      obtain ⟨na_e1, nb_e1, nc_e1⟩ := NE_e1
      go_enter Try.func52, Try.ntmps52
      go_wp2_with (first
        | ((with_reducible refine at_slot 3 ?_); refine wpList_box_blk rfl 33 _ rfl (.agg #[.int .i64 xd, .int .i64 xk]) rfl ?_; intro y1 hbq hl1 hs1; have HS_y1 : Hid (DoAt 53 [c1, c2] st J 2 y1 s [(w.heap.size, 33, plL xd xk)]) := hide (HS_w.out.var hl1 (Nat.le_refl _) hbq); clear hbq hl1 hs1)
        | ((with_reducible refine at_slot 4 ?_); refine wpList_box_blk rfl 33 _ rfl (.agg #[.int .i64 yd, .int .i64 yk]) rfl ?_; intro y2 hbq hl1 hs1; have HS_y2 : Hid (DoAt 53 [c1, c2] st J 2 y2 s [(w.heap.size, 33, plL xd xk), (y1.heap.size, 33, plL yd yk)]) := hide (HS_y1.out.var hl1 (Nat.le_refl _) hbq); clear hbq hl1 hs1)
        | ((with_reducible refine at_slot 11 ?_); refine when_own rfl (.tmp 3) rfl HS_y2.out.own 0 rfl rfl Try.underlying33 rfl mplace_info ?_)
        | ((with_reducible refine at_slot 12 ?_); refine when_own rfl (.tmp 4) rfl HS_y2.out.own 1 rfl rfl Try.underlying33 rfl mplace_info ?_)
        | ((with_reducible refine at_slot 13 ?_); refine wpList_build_is rfl 96 #[(0, .tmp 11), (1, .tmp 12)] rfl [(0, .agg #[.int .i64 xd, .int .i64 xk]), (1, .agg #[.int .i64 yd, .int .i64 yk])] (by simp only [List.map_toArray, List.map_cons, List.map_nil]; rfl) _ (two_built _ _ _ _) ?_))
      refine wp_loop_rounds 3 ?_
      rw [rounds_succ]
      go_wp2_with (first
        | ((with_reducible refine at_slot 16 ?_); refine wpList_two0 rfl (.tmp 13) (.tmp 14) rfl xd xk yd yk rfl rfl ?_)
        | ((with_reducible refine at_slot 9 ?_); refine wpList_alloc_blk rfl 33 rfl _ (mplace_zero _) ?_; intro y3 hbq hl1 hs1; clear hs1)
        | ((with_reducible refine at_store 9 ?_); refine wpList_store_all rfl 33 (.tmp 9) (.tmp 16) rfl y2.heap.size 33 _ hbq rfl (plL (xd) (xk)) rfl mplace_info rfl (mplace_one _ _) ?_; intro y4 hbz hg hs; have HS_y4 : Hid (DoAt 53 [c1, c2] st J 2 y4 s [(w.heap.size, 33, plL xd xk), (y1.heap.size, 33, plL yd yk), (y2.heap.size, 33, plL (xd) (xk))]) := hide (HS_y2.out.new hl1 hg hbz); clear hs hbq hl1 hg hbz))
      go_step3
      go_wp2_with (first
        | ((with_reducible refine at_slot 18 ?_); refine when_own rfl (.tmp 9) rfl HS_y4.out.own 2 rfl rfl Try.underlying33 rfl mplace_info ?_)
        | (go_at_call 53; refine (HS_y4.out.call xd xk rfl rfl).mono ?_; rintro _ y5 ⟨rfl, hsq⟩; rw [HA.out] at hsq; rw [HE1.out]; have HS_y5 : Hid (DoAt 53 [c1, c2] st J 1 y5 A [(w.heap.size, 33, plL xd xk), (y1.heap.size, 33, plL yd yk), (y2.heap.size, 33, plL (xd) (xk))]) := hide (hsq); clear hsq)
        | (go_at_call 54; (with_reducible refine (HLO_e1.out _).mono ?_); rintro _ _ ⟨rfl, rfl⟩))
      rw [Exit.noGoto_ret]
      go_ret
      rw [HR.out]
      exact ⟨rfl, HS_y5.out.fin⟩

set_option maxRecDepth 100000 in
set_option maxHeartbeats 8000000 in
theorem bothA_any {σ : Type} {st : Nat → Nat → σ → Nat × σ} {J : Nat → World → σ → Vars → Prop} {c1 c2 : Value} {w : World} {s : σ} (h : DoAt 55 [c1, c2] st J 2 w s []) (xd xk yd yk : Int) :
    Calls Try.prog 52 #[.agg #[.int .i64 xd, .int .i64 xk], .agg #[.int .i64 yd, .int .i64 yk], .func (.func 55) #[] #[c1, c2]] w fun e w' => e = .returned (.int .i64 ((bothN st (nI xd) (nI xk) (nI yd) (nI yk) s).1 : Int)) ∧ ∃ n, J n w' (bothN st (nI xd) (nI xk) (nI yd) (nI yk) s).2 [] := by
  have HS_w : Hid (DoAt 55 [c1, c2] st J 2 w s []) := hide h
  clear h
  obtain ⟨e1, he1⟩ : ∃ e, (st (nI xd) (nI xk) s).1 = e := ⟨_, rfl⟩
  obtain ⟨A, hA⟩ : ∃ A, (st (nI xd) (nI xk) s).2 = A := ⟨_, rfl⟩
  obtain ⟨e2, he2⟩ : ∃ e, (st (nI yd) (nI yk) A).1 = e := ⟨_, rfl⟩
  obtain ⟨C, hC⟩ : ∃ C, (st (nI yd) (nI yk) A).2 = C := ⟨_, rfl⟩
  have hmw : bothN st (nI xd) (nI xk) (nI yd) (nI yk) s = if e1 = 0 ∨ lostB e1 = true then (if e2 = 0 ∨ lostB e2 = true then (if e1 = 0 ∨ e2 = 0 then 0 else 5, C) else (e2, C)) else (e1, A) := by
    subst he1 hA he2 hC
    unfold bothN
    rfl
  have HE1 := hide he1
  have HA := hide hA
  have HE2 := hide he2
  have HC := hide hC
  have HMW := hide hmw
  clear he1 hA he2 hC hmw
  by_cases hz_e1 : e1 = 0
  · have HZ_e1 := hide hz_e1
    by_cases hz_e2 : e2 = 0
    · have HZ_e2 := hide hz_e2
      have HR := hide (show bothN st (nI xd) (nI xk) (nI yd) (nI yk) s = (0, C) by rw [HMW.out, if_pos (Or.inl hz_e1), if_pos (Or.inl hz_e2), if_pos (Or.inl hz_e1)])
      clear hz_e1 hz_e2
      go_enter Try.func52, Try.ntmps52
      go_wp2_with (first
        | ((with_reducible refine at_slot 3 ?_); refine wpList_box_blk rfl 33 _ rfl (.agg #[.int .i64 xd, .int .i64 xk]) rfl ?_; intro y1 hbq hl1 hs1; have HS_y1 : Hid (DoAt 55 [c1, c2] st J 2 y1 s [(w.heap.size, 33, plL xd xk)]) := hide (HS_w.out.var hl1 (Nat.le_refl _) hbq); clear hbq hl1 hs1)
        | ((with_reducible refine at_slot 4 ?_); refine wpList_box_blk rfl 33 _ rfl (.agg #[.int .i64 yd, .int .i64 yk]) rfl ?_; intro y2 hbq hl1 hs1; have HS_y2 : Hid (DoAt 55 [c1, c2] st J 2 y2 s [(w.heap.size, 33, plL xd xk), (y1.heap.size, 33, plL yd yk)]) := hide (HS_y1.out.var hl1 (Nat.le_refl _) hbq); clear hbq hl1 hs1)
        | ((with_reducible refine at_slot 11 ?_); refine when_own rfl (.tmp 3) rfl HS_y2.out.own 0 rfl rfl Try.underlying33 rfl mplace_info ?_)
        | ((with_reducible refine at_slot 12 ?_); refine when_own rfl (.tmp 4) rfl HS_y2.out.own 1 rfl rfl Try.underlying33 rfl mplace_info ?_)
        | ((with_reducible refine at_slot 13 ?_); refine wpList_build_is rfl 96 #[(0, .tmp 11), (1, .tmp 12)] rfl [(0, .agg #[.int .i64 xd, .int .i64 xk]), (1, .agg #[.int .i64 yd, .int .i64 yk])] (by simp only [List.map_toArray, List.map_cons, List.map_nil]; rfl) _ (two_built _ _ _ _) ?_))
      refine wp_loop_rounds 3 ?_
      rw [rounds_succ]
      go_wp2_with (first
        | ((with_reducible refine at_slot 16 ?_); refine wpList_two0 rfl (.tmp 13) (.tmp 14) rfl xd xk yd yk rfl rfl ?_)
        | ((with_reducible refine at_slot 9 ?_); refine wpList_alloc_blk rfl 33 rfl _ (mplace_zero _) ?_; intro y3 hbq hl1 hs1; clear hs1)
        | ((with_reducible refine at_store 9 ?_); refine wpList_store_all rfl 33 (.tmp 9) (.tmp 16) rfl y2.heap.size 33 _ hbq rfl (plL (xd) (xk)) rfl mplace_info rfl (mplace_one _ _) ?_; intro y4 hbz hg hs; have HS_y4 : Hid (DoAt 55 [c1, c2] st J 2 y4 s [(w.heap.size, 33, plL xd xk), (y1.heap.size, 33, plL yd yk), (y2.heap.size, 33, plL (xd) (xk))]) := hide (HS_y2.out.new hl1 hg hbz); clear hs hbq hl1 hg hbz))
      go_step3
      go_wp2_with (first
        | ((with_reducible refine at_slot 18 ?_); refine when_own rfl (.tmp 9) rfl HS_y4.out.own 2 rfl rfl Try.underlying33 rfl mplace_info ?_)
        | (go_at_call 55; refine (HS_y4.out.call xd xk rfl rfl).mono ?_; rintro _ y5 ⟨rfl, hsq⟩; rw [HA.out] at hsq; rw [HE1.out, HZ_e1.out]; have HS_y5 : Hid (DoAt 55 [c1, c2] st J 1 y5 A [(w.heap.size, 33, plL xd xk), (y1.heap.size, 33, plL yd yk), (y2.heap.size, 33, plL (xd) (xk))]) := hide (hsq); clear hsq)
        | (go_at_call 54; refine (lost_any 0 _).mono ?_; rintro _ _ ⟨rfl, rfl⟩))
      go_step3
      rw [Exit.noGoto_normal]
      go_wp2
      rw [rounds_succ]
      go_wp2_with (first
        | ((with_reducible refine at_slot 16 ?_); refine wpList_two1 rfl (.tmp 13) (.tmp 14) rfl xd xk yd yk rfl rfl ?_)
        | ((with_reducible refine at_slot 9 ?_); refine wpList_alloc_blk rfl 33 rfl _ (mplace_zero _) ?_; intro y6 hbq hl1 hs1; clear hs1)
        | ((with_reducible refine at_store 9 ?_); refine wpList_store_all rfl 33 (.tmp 9) (.tmp 16) rfl y5.heap.size 33 _ hbq rfl (plL (yd) (yk)) rfl mplace_info rfl (mplace_one _ _) ?_; intro y7 hbz hg hs; have HS_y7 : Hid (DoAt 55 [c1, c2] st J 1 y7 A [(w.heap.size, 33, plL xd xk), (y1.heap.size, 33, plL yd yk), (y2.heap.size, 33, plL (xd) (xk)), (y5.heap.size, 33, plL (yd) (yk))]) := hide (HS_y5.out.new hl1 hg hbz); clear hs hbq hl1 hg hbz))
      go_step3
      go_wp2_with (first
        | ((with_reducible refine at_slot 18 ?_); refine when_own rfl (.tmp 9) rfl HS_y7.out.own 3 rfl rfl Try.underlying33 rfl mplace_info ?_)
        | (go_at_call 55; refine (HS_y7.out.call yd yk rfl rfl).mono ?_; rintro _ y8 ⟨rfl, hsq⟩; rw [HC.out] at hsq; rw [HE2.out, HZ_e2.out]; have HS_y8 : Hid (DoAt 55 [c1, c2] st J 0 y8 C [(w.heap.size, 33, plL xd xk), (y1.heap.size, 33, plL yd yk), (y2.heap.size, 33, plL (xd) (xk)), (y5.heap.size, 33, plL (yd) (yk))]) := hide (hsq); clear hsq)
        | (go_at_call 54; refine (lost_any 0 _).mono ?_; rintro _ _ ⟨rfl, rfl⟩))
      go_step3
      rw [Exit.noGoto_normal]
      go_wp2
      rw [rounds_succ]
      go_wp2
      go_ret
      rw [HR.out]
      exact ⟨rfl, HS_y8.out.fin⟩
    · have HN_e2 := hide hz_e2
      by_cases hl_e2 : lostB e2 = true
      · have HLO_e2 := hide (fun w => hl_e2 ▸ lost_any e2 w)
        have HR := hide (show bothN st (nI xd) (nI xk) (nI yd) (nI yk) s = (0, C) by rw [HMW.out, if_pos (Or.inl hz_e1), if_pos (Or.inr hl_e2), if_pos (Or.inl hz_e1)])
        clear hz_e1 hz_e2 hl_e2
        have NE_e2 := neN HN_e2.out
        obtain ⟨na_e2, nb_e2, nc_e2⟩ := NE_e2
        go_enter Try.func52, Try.ntmps52
        go_wp2_with (first
          | ((with_reducible refine at_slot 3 ?_); refine wpList_box_blk rfl 33 _ rfl (.agg #[.int .i64 xd, .int .i64 xk]) rfl ?_; intro y1 hbq hl1 hs1; have HS_y1 : Hid (DoAt 55 [c1, c2] st J 2 y1 s [(w.heap.size, 33, plL xd xk)]) := hide (HS_w.out.var hl1 (Nat.le_refl _) hbq); clear hbq hl1 hs1)
          | ((with_reducible refine at_slot 4 ?_); refine wpList_box_blk rfl 33 _ rfl (.agg #[.int .i64 yd, .int .i64 yk]) rfl ?_; intro y2 hbq hl1 hs1; have HS_y2 : Hid (DoAt 55 [c1, c2] st J 2 y2 s [(w.heap.size, 33, plL xd xk), (y1.heap.size, 33, plL yd yk)]) := hide (HS_y1.out.var hl1 (Nat.le_refl _) hbq); clear hbq hl1 hs1)
          | ((with_reducible refine at_slot 11 ?_); refine when_own rfl (.tmp 3) rfl HS_y2.out.own 0 rfl rfl Try.underlying33 rfl mplace_info ?_)
          | ((with_reducible refine at_slot 12 ?_); refine when_own rfl (.tmp 4) rfl HS_y2.out.own 1 rfl rfl Try.underlying33 rfl mplace_info ?_)
          | ((with_reducible refine at_slot 13 ?_); refine wpList_build_is rfl 96 #[(0, .tmp 11), (1, .tmp 12)] rfl [(0, .agg #[.int .i64 xd, .int .i64 xk]), (1, .agg #[.int .i64 yd, .int .i64 yk])] (by simp only [List.map_toArray, List.map_cons, List.map_nil]; rfl) _ (two_built _ _ _ _) ?_))
        refine wp_loop_rounds 3 ?_
        rw [rounds_succ]
        go_wp2_with (first
          | ((with_reducible refine at_slot 16 ?_); refine wpList_two0 rfl (.tmp 13) (.tmp 14) rfl xd xk yd yk rfl rfl ?_)
          | ((with_reducible refine at_slot 9 ?_); refine wpList_alloc_blk rfl 33 rfl _ (mplace_zero _) ?_; intro y3 hbq hl1 hs1; clear hs1)
          | ((with_reducible refine at_store 9 ?_); refine wpList_store_all rfl 33 (.tmp 9) (.tmp 16) rfl y2.heap.size 33 _ hbq rfl (plL (xd) (xk)) rfl mplace_info rfl (mplace_one _ _) ?_; intro y4 hbz hg hs; have HS_y4 : Hid (DoAt 55 [c1, c2] st J 2 y4 s [(w.heap.size, 33, plL xd xk), (y1.heap.size, 33, plL yd yk), (y2.heap.size, 33, plL (xd) (xk))]) := hide (HS_y2.out.new hl1 hg hbz); clear hs hbq hl1 hg hbz))
        go_step3
        go_wp2_with (first
          | ((with_reducible refine at_slot 18 ?_); refine when_own rfl (.tmp 9) rfl HS_y4.out.own 2 rfl rfl Try.underlying33 rfl mplace_info ?_)
          | (go_at_call 55; refine (HS_y4.out.call xd xk rfl rfl).mono ?_; rintro _ y5 ⟨rfl, hsq⟩; rw [HA.out] at hsq; rw [HE1.out, HZ_e1.out]; have HS_y5 : Hid (DoAt 55 [c1, c2] st J 1 y5 A [(w.heap.size, 33, plL xd xk), (y1.heap.size, 33, plL yd yk), (y2.heap.size, 33, plL (xd) (xk))]) := hide (hsq); clear hsq)
          | (go_at_call 54; refine (lost_any 0 _).mono ?_; rintro _ _ ⟨rfl, rfl⟩))
        go_step3
        rw [Exit.noGoto_normal]
        go_wp2
        rw [rounds_succ]
        go_wp2_with (first
          | ((with_reducible refine at_slot 16 ?_); refine wpList_two1 rfl (.tmp 13) (.tmp 14) rfl xd xk yd yk rfl rfl ?_)
          | ((with_reducible refine at_slot 9 ?_); refine wpList_alloc_blk rfl 33 rfl _ (mplace_zero _) ?_; intro y6 hbq hl1 hs1; clear hs1)
          | ((with_reducible refine at_store 9 ?_); refine wpList_store_all rfl 33 (.tmp 9) (.tmp 16) rfl y5.heap.size 33 _ hbq rfl (plL (yd) (yk)) rfl mplace_info rfl (mplace_one _ _) ?_; intro y7 hbz hg hs; have HS_y7 : Hid (DoAt 55 [c1, c2] st J 1 y7 A [(w.heap.size, 33, plL xd xk), (y1.heap.size, 33, plL yd yk), (y2.heap.size, 33, plL (xd) (xk)), (y5.heap.size, 33, plL (yd) (yk))]) := hide (HS_y5.out.new hl1 hg hbz); clear hs hbq hl1 hg hbz))
        refine wp_scope_fwd 0 rfl ?_
        go_wp2_with (first
          | ((with_reducible refine at_slot 18 ?_); refine when_own rfl (.tmp 9) rfl HS_y7.out.own 3 rfl rfl Try.underlying33 rfl mplace_info ?_)
          | (go_at_call 55; refine (HS_y7.out.call yd yk rfl rfl).mono ?_; rintro _ y8 ⟨rfl, hsq⟩; rw [HC.out] at hsq; rw [HE2.out]; have HS_y8 : Hid (DoAt 55 [c1, c2] st J 0 y8 C [(w.heap.size, 33, plL xd xk), (y1.heap.size, 33, plL yd yk), (y2.heap.size, 33, plL (xd) (xk)), (y5.heap.size, 33, plL (yd) (yk))]) := hide (hsq); clear hsq)
          | (go_at_call 54; (with_reducible refine (HLO_e2.out _).mono ?_); rintro _ _ ⟨rfl, rfl⟩))
        go_step3
        refine And.intro rfl ?_
        show Code.wp Try.prog Code.skip _ _ _
        go_wp2
        rw [Exit.noGoto_normal]
        go_wp2
        rw [rounds_succ]
        go_wp2
        go_ret
        rw [HR.out]
        exact ⟨rfl, HS_y8.out.fin⟩
      · have hf_e2 : lostB e2 = false := by simpa using hl_e2
        have HLO_e2 := hide (fun w => hf_e2 ▸ lost_any e2 w)
        have HR := hide (show bothN st (nI xd) (nI xk) (nI yd) (nI yk) s = (e2, C) by rw [HMW.out, if_pos (Or.inl hz_e1), if_neg (fun q => q.elim hz_e2 hl_e2)])
        clear hz_e1 hz_e2 hl_e2 hf_e2
        have NE_e2 := neN HN_e2.out
        obtain ⟨na_e2, nb_e2, nc_e2⟩ := NE_e2
        go_enter Try.func52, Try.ntmps52
        go_wp2_with (first
          | ((with_reducible refine at_slot 3 ?_); refine wpList_box_blk rfl 33 _ rfl (.agg #[.int .i64 xd, .int .i64 xk]) rfl ?_; intro y1 hbq hl1 hs1; have HS_y1 : Hid (DoAt 55 [c1, c2] st J 2 y1 s [(w.heap.size, 33, plL xd xk)]) := hide (HS_w.out.var hl1 (Nat.le_refl _) hbq); clear hbq hl1 hs1)
          | ((with_reducible refine at_slot 4 ?_); refine wpList_box_blk rfl 33 _ rfl (.agg #[.int .i64 yd, .int .i64 yk]) rfl ?_; intro y2 hbq hl1 hs1; have HS_y2 : Hid (DoAt 55 [c1, c2] st J 2 y2 s [(w.heap.size, 33, plL xd xk), (y1.heap.size, 33, plL yd yk)]) := hide (HS_y1.out.var hl1 (Nat.le_refl _) hbq); clear hbq hl1 hs1)
          | ((with_reducible refine at_slot 11 ?_); refine when_own rfl (.tmp 3) rfl HS_y2.out.own 0 rfl rfl Try.underlying33 rfl mplace_info ?_)
          | ((with_reducible refine at_slot 12 ?_); refine when_own rfl (.tmp 4) rfl HS_y2.out.own 1 rfl rfl Try.underlying33 rfl mplace_info ?_)
          | ((with_reducible refine at_slot 13 ?_); refine wpList_build_is rfl 96 #[(0, .tmp 11), (1, .tmp 12)] rfl [(0, .agg #[.int .i64 xd, .int .i64 xk]), (1, .agg #[.int .i64 yd, .int .i64 yk])] (by simp only [List.map_toArray, List.map_cons, List.map_nil]; rfl) _ (two_built _ _ _ _) ?_))
        refine wp_loop_rounds 3 ?_
        rw [rounds_succ]
        go_wp2_with (first
          | ((with_reducible refine at_slot 16 ?_); refine wpList_two0 rfl (.tmp 13) (.tmp 14) rfl xd xk yd yk rfl rfl ?_)
          | ((with_reducible refine at_slot 9 ?_); refine wpList_alloc_blk rfl 33 rfl _ (mplace_zero _) ?_; intro y3 hbq hl1 hs1; clear hs1)
          | ((with_reducible refine at_store 9 ?_); refine wpList_store_all rfl 33 (.tmp 9) (.tmp 16) rfl y2.heap.size 33 _ hbq rfl (plL (xd) (xk)) rfl mplace_info rfl (mplace_one _ _) ?_; intro y4 hbz hg hs; have HS_y4 : Hid (DoAt 55 [c1, c2] st J 2 y4 s [(w.heap.size, 33, plL xd xk), (y1.heap.size, 33, plL yd yk), (y2.heap.size, 33, plL (xd) (xk))]) := hide (HS_y2.out.new hl1 hg hbz); clear hs hbq hl1 hg hbz))
        go_step3
        go_wp2_with (first
          | ((with_reducible refine at_slot 18 ?_); refine when_own rfl (.tmp 9) rfl HS_y4.out.own 2 rfl rfl Try.underlying33 rfl mplace_info ?_)
          | (go_at_call 55; refine (HS_y4.out.call xd xk rfl rfl).mono ?_; rintro _ y5 ⟨rfl, hsq⟩; rw [HA.out] at hsq; rw [HE1.out, HZ_e1.out]; have HS_y5 : Hid (DoAt 55 [c1, c2] st J 1 y5 A [(w.heap.size, 33, plL xd xk), (y1.heap.size, 33, plL yd yk), (y2.heap.size, 33, plL (xd) (xk))]) := hide (hsq); clear hsq)
          | (go_at_call 54; refine (lost_any 0 _).mono ?_; rintro _ _ ⟨rfl, rfl⟩))
        go_step3
        rw [Exit.noGoto_normal]
        go_wp2
        rw [rounds_succ]
        go_wp2_with (first
          | ((with_reducible refine at_slot 16 ?_); refine wpList_two1 rfl (.tmp 13) (.tmp 14) rfl xd xk yd yk rfl rfl ?_)
          | ((with_reducible refine at_slot 9 ?_); refine wpList_alloc_blk rfl 33 rfl _ (mplace_zero _) ?_; intro y6 hbq hl1 hs1; clear hs1)
          | ((with_reducible refine at_store 9 ?_); refine wpList_store_all rfl 33 (.tmp 9) (.tmp 16) rfl y5.heap.size 33 _ hbq rfl (plL (yd) (yk)) rfl mplace_info rfl (mplace_one _ _) ?_; intro y7 hbz hg hs; have HS_y7 : Hid (DoAt 55 [c1, c2] st J 1 y7 A [(w.heap.size, 33, plL xd xk), (y1.heap.size, 33, plL yd yk), (y2.heap.size, 33, plL (xd) (xk)), (y5.heap.size, 33, plL (yd) (yk))]) := hide (HS_y5.out.new hl1 hg hbz); clear hs hbq hl1 hg hbz))
        go_step3
        go_wp2_with (first
          | ((with_reducible refine at_slot 18 ?_); refine when_own rfl (.tmp 9) rfl HS_y7.out.own 3 rfl rfl Try.underlying33 rfl mplace_info ?_)
          | (go_at_call 55; refine (HS_y7.out.call yd yk rfl rfl).mono ?_; rintro _ y8 ⟨rfl, hsq⟩; rw [HC.out] at hsq; rw [HE2.out]; have HS_y8 : Hid (DoAt 55 [c1, c2] st J 0 y8 C [(w.heap.size, 33, plL xd xk), (y1.heap.size, 33, plL yd yk), (y2.heap.size, 33, plL (xd) (xk)), (y5.heap.size, 33, plL (yd) (yk))]) := hide (hsq); clear hsq)
          | (go_at_call 54; (with_reducible refine (HLO_e2.out _).mono ?_); rintro _ _ ⟨rfl, rfl⟩))
        rw [Exit.noGoto_ret]
        go_ret
        rw [HR.out]
        exact ⟨rfl, HS_y8.out.fin⟩
  · have HN_e1 := hide hz_e1
    by_cases hl_e1 : lostB e1 = true
    · have HLO_e1 := hide (fun w => hl_e1 ▸ lost_any e1 w)
      by_cases hz_e2 : e2 = 0
      · have HZ_e2 := hide hz_e2
        have HR := hide (show bothN st (nI xd) (nI xk) (nI yd) (nI yk) s = (0, C) by rw [HMW.out, if_pos (Or.inr hl_e1), if_pos (Or.inl hz_e2), if_pos (Or.inr hz_e2)])
        clear hz_e1 hl_e1 hz_e2
        have NE_e1 := neN HN_e1.out
        obtain ⟨na_e1, nb_e1, nc_e1⟩ := NE_e1
        go_enter Try.func52, Try.ntmps52
        go_wp2_with (first
          | ((with_reducible refine at_slot 3 ?_); refine wpList_box_blk rfl 33 _ rfl (.agg #[.int .i64 xd, .int .i64 xk]) rfl ?_; intro y1 hbq hl1 hs1; have HS_y1 : Hid (DoAt 55 [c1, c2] st J 2 y1 s [(w.heap.size, 33, plL xd xk)]) := hide (HS_w.out.var hl1 (Nat.le_refl _) hbq); clear hbq hl1 hs1)
          | ((with_reducible refine at_slot 4 ?_); refine wpList_box_blk rfl 33 _ rfl (.agg #[.int .i64 yd, .int .i64 yk]) rfl ?_; intro y2 hbq hl1 hs1; have HS_y2 : Hid (DoAt 55 [c1, c2] st J 2 y2 s [(w.heap.size, 33, plL xd xk), (y1.heap.size, 33, plL yd yk)]) := hide (HS_y1.out.var hl1 (Nat.le_refl _) hbq); clear hbq hl1 hs1)
          | ((with_reducible refine at_slot 11 ?_); refine when_own rfl (.tmp 3) rfl HS_y2.out.own 0 rfl rfl Try.underlying33 rfl mplace_info ?_)
          | ((with_reducible refine at_slot 12 ?_); refine when_own rfl (.tmp 4) rfl HS_y2.out.own 1 rfl rfl Try.underlying33 rfl mplace_info ?_)
          | ((with_reducible refine at_slot 13 ?_); refine wpList_build_is rfl 96 #[(0, .tmp 11), (1, .tmp 12)] rfl [(0, .agg #[.int .i64 xd, .int .i64 xk]), (1, .agg #[.int .i64 yd, .int .i64 yk])] (by simp only [List.map_toArray, List.map_cons, List.map_nil]; rfl) _ (two_built _ _ _ _) ?_))
        refine wp_loop_rounds 3 ?_
        rw [rounds_succ]
        go_wp2_with (first
          | ((with_reducible refine at_slot 16 ?_); refine wpList_two0 rfl (.tmp 13) (.tmp 14) rfl xd xk yd yk rfl rfl ?_)
          | ((with_reducible refine at_slot 9 ?_); refine wpList_alloc_blk rfl 33 rfl _ (mplace_zero _) ?_; intro y3 hbq hl1 hs1; clear hs1)
          | ((with_reducible refine at_store 9 ?_); refine wpList_store_all rfl 33 (.tmp 9) (.tmp 16) rfl y2.heap.size 33 _ hbq rfl (plL (xd) (xk)) rfl mplace_info rfl (mplace_one _ _) ?_; intro y4 hbz hg hs; have HS_y4 : Hid (DoAt 55 [c1, c2] st J 2 y4 s [(w.heap.size, 33, plL xd xk), (y1.heap.size, 33, plL yd yk), (y2.heap.size, 33, plL (xd) (xk))]) := hide (HS_y2.out.new hl1 hg hbz); clear hs hbq hl1 hg hbz))
        refine wp_scope_fwd 0 rfl ?_
        go_wp2_with (first
          | ((with_reducible refine at_slot 18 ?_); refine when_own rfl (.tmp 9) rfl HS_y4.out.own 2 rfl rfl Try.underlying33 rfl mplace_info ?_)
          | (go_at_call 55; refine (HS_y4.out.call xd xk rfl rfl).mono ?_; rintro _ y5 ⟨rfl, hsq⟩; rw [HA.out] at hsq; rw [HE1.out]; have HS_y5 : Hid (DoAt 55 [c1, c2] st J 1 y5 A [(w.heap.size, 33, plL xd xk), (y1.heap.size, 33, plL yd yk), (y2.heap.size, 33, plL (xd) (xk))]) := hide (hsq); clear hsq)
          | (go_at_call 54; (with_reducible refine (HLO_e1.out _).mono ?_); rintro _ _ ⟨rfl, rfl⟩))
        go_step3
        refine And.intro rfl ?_
        show Code.wp Try.prog Code.skip _ _ _
        go_wp2
        rw [Exit.noGoto_normal]
        go_wp2
        rw [rounds_succ]
        go_wp2_with (first
          | ((with_reducible refine at_slot 16 ?_); refine wpList_two1 rfl (.tmp 13) (.tmp 14) rfl xd xk yd yk rfl rfl ?_)
          | ((with_reducible refine at_slot 9 ?_); refine wpList_alloc_blk rfl 33 rfl _ (mplace_zero _) ?_; intro y6 hbq hl1 hs1; clear hs1)
          | ((with_reducible refine at_store 9 ?_); refine wpList_store_all rfl 33 (.tmp 9) (.tmp 16) rfl y5.heap.size 33 _ hbq rfl (plL (yd) (yk)) rfl mplace_info rfl (mplace_one _ _) ?_; intro y7 hbz hg hs; have HS_y7 : Hid (DoAt 55 [c1, c2] st J 1 y7 A [(w.heap.size, 33, plL xd xk), (y1.heap.size, 33, plL yd yk), (y2.heap.size, 33, plL (xd) (xk)), (y5.heap.size, 33, plL (yd) (yk))]) := hide (HS_y5.out.new hl1 hg hbz); clear hs hbq hl1 hg hbz))
        go_step3
        go_wp2_with (first
          | ((with_reducible refine at_slot 18 ?_); refine when_own rfl (.tmp 9) rfl HS_y7.out.own 3 rfl rfl Try.underlying33 rfl mplace_info ?_)
          | (go_at_call 55; refine (HS_y7.out.call yd yk rfl rfl).mono ?_; rintro _ y8 ⟨rfl, hsq⟩; rw [HC.out] at hsq; rw [HE2.out, HZ_e2.out]; have HS_y8 : Hid (DoAt 55 [c1, c2] st J 0 y8 C [(w.heap.size, 33, plL xd xk), (y1.heap.size, 33, plL yd yk), (y2.heap.size, 33, plL (xd) (xk)), (y5.heap.size, 33, plL (yd) (yk))]) := hide (hsq); clear hsq)
          | (go_at_call 54; refine (lost_any 0 _).mono ?_; rintro _ _ ⟨rfl, rfl⟩))
        go_step3
        rw [Exit.noGoto_normal]
        go_wp2
        rw [rounds_succ]
        go_wp2
        go_ret
        rw [HR.out]
        exact ⟨rfl, HS_y8.out.fin⟩
      · have HN_e2 := hide hz_e2
        by_cases hl_e2 : lostB e2 = true
        · have HLO_e2 := hide (fun w => hl_e2 ▸ lost_any e2 w)
          have HR := hide (show bothN st (nI xd) (nI xk) (nI yd) (nI yk) s = (5, C) by rw [HMW.out, if_pos (Or.inr hl_e1), if_pos (Or.inr hl_e2), if_neg (fun q => q.elim hz_e1 hz_e2)])
          clear hz_e1 hl_e1 hz_e2 hl_e2
          have NE_e1 := neN HN_e1.out
          obtain ⟨na_e1, nb_e1, nc_e1⟩ := NE_e1
          have NE_e2 := neN HN_e2.out
          obtain ⟨na_e2, nb_e2, nc_e2⟩ := NE_e2
          go_enter Try.func52, Try.ntmps52
          go_wp2_with (first
            | ((with_reducible refine at_slot 3 ?_); refine wpList_box_blk rfl 33 _ rfl (.agg #[.int .i64 xd, .int .i64 xk]) rfl ?_; intro y1 hbq hl1 hs1; have HS_y1 : Hid (DoAt 55 [c1, c2] st J 2 y1 s [(w.heap.size, 33, plL xd xk)]) := hide (HS_w.out.var hl1 (Nat.le_refl _) hbq); clear hbq hl1 hs1)
            | ((with_reducible refine at_slot 4 ?_); refine wpList_box_blk rfl 33 _ rfl (.agg #[.int .i64 yd, .int .i64 yk]) rfl ?_; intro y2 hbq hl1 hs1; have HS_y2 : Hid (DoAt 55 [c1, c2] st J 2 y2 s [(w.heap.size, 33, plL xd xk), (y1.heap.size, 33, plL yd yk)]) := hide (HS_y1.out.var hl1 (Nat.le_refl _) hbq); clear hbq hl1 hs1)
            | ((with_reducible refine at_slot 11 ?_); refine when_own rfl (.tmp 3) rfl HS_y2.out.own 0 rfl rfl Try.underlying33 rfl mplace_info ?_)
            | ((with_reducible refine at_slot 12 ?_); refine when_own rfl (.tmp 4) rfl HS_y2.out.own 1 rfl rfl Try.underlying33 rfl mplace_info ?_)
            | ((with_reducible refine at_slot 13 ?_); refine wpList_build_is rfl 96 #[(0, .tmp 11), (1, .tmp 12)] rfl [(0, .agg #[.int .i64 xd, .int .i64 xk]), (1, .agg #[.int .i64 yd, .int .i64 yk])] (by simp only [List.map_toArray, List.map_cons, List.map_nil]; rfl) _ (two_built _ _ _ _) ?_))
          refine wp_loop_rounds 3 ?_
          rw [rounds_succ]
          go_wp2_with (first
            | ((with_reducible refine at_slot 16 ?_); refine wpList_two0 rfl (.tmp 13) (.tmp 14) rfl xd xk yd yk rfl rfl ?_)
            | ((with_reducible refine at_slot 9 ?_); refine wpList_alloc_blk rfl 33 rfl _ (mplace_zero _) ?_; intro y3 hbq hl1 hs1; clear hs1)
            | ((with_reducible refine at_store 9 ?_); refine wpList_store_all rfl 33 (.tmp 9) (.tmp 16) rfl y2.heap.size 33 _ hbq rfl (plL (xd) (xk)) rfl mplace_info rfl (mplace_one _ _) ?_; intro y4 hbz hg hs; have HS_y4 : Hid (DoAt 55 [c1, c2] st J 2 y4 s [(w.heap.size, 33, plL xd xk), (y1.heap.size, 33, plL yd yk), (y2.heap.size, 33, plL (xd) (xk))]) := hide (HS_y2.out.new hl1 hg hbz); clear hs hbq hl1 hg hbz))
          refine wp_scope_fwd 0 rfl ?_
          go_wp2_with (first
            | ((with_reducible refine at_slot 18 ?_); refine when_own rfl (.tmp 9) rfl HS_y4.out.own 2 rfl rfl Try.underlying33 rfl mplace_info ?_)
            | (go_at_call 55; refine (HS_y4.out.call xd xk rfl rfl).mono ?_; rintro _ y5 ⟨rfl, hsq⟩; rw [HA.out] at hsq; rw [HE1.out]; have HS_y5 : Hid (DoAt 55 [c1, c2] st J 1 y5 A [(w.heap.size, 33, plL xd xk), (y1.heap.size, 33, plL yd yk), (y2.heap.size, 33, plL (xd) (xk))]) := hide (hsq); clear hsq)
            | (go_at_call 54; (with_reducible refine (HLO_e1.out _).mono ?_); rintro _ _ ⟨rfl, rfl⟩))
          go_step3
          refine And.intro rfl ?_
          show Code.wp Try.prog Code.skip _ _ _
          go_wp2
          rw [Exit.noGoto_normal]
          go_wp2
          rw [rounds_succ]
          go_wp2_with (first
            | ((with_reducible refine at_slot 16 ?_); refine wpList_two1 rfl (.tmp 13) (.tmp 14) rfl xd xk yd yk rfl rfl ?_)
            | ((with_reducible refine at_slot 9 ?_); refine wpList_alloc_blk rfl 33 rfl _ (mplace_zero _) ?_; intro y6 hbq hl1 hs1; clear hs1)
            | ((with_reducible refine at_store 9 ?_); refine wpList_store_all rfl 33 (.tmp 9) (.tmp 16) rfl y5.heap.size 33 _ hbq rfl (plL (yd) (yk)) rfl mplace_info rfl (mplace_one _ _) ?_; intro y7 hbz hg hs; have HS_y7 : Hid (DoAt 55 [c1, c2] st J 1 y7 A [(w.heap.size, 33, plL xd xk), (y1.heap.size, 33, plL yd yk), (y2.heap.size, 33, plL (xd) (xk)), (y5.heap.size, 33, plL (yd) (yk))]) := hide (HS_y5.out.new hl1 hg hbz); clear hs hbq hl1 hg hbz))
          refine wp_scope_fwd 0 rfl ?_
          go_wp2_with (first
            | ((with_reducible refine at_slot 18 ?_); refine when_own rfl (.tmp 9) rfl HS_y7.out.own 3 rfl rfl Try.underlying33 rfl mplace_info ?_)
            | (go_at_call 55; refine (HS_y7.out.call yd yk rfl rfl).mono ?_; rintro _ y8 ⟨rfl, hsq⟩; rw [HC.out] at hsq; rw [HE2.out]; have HS_y8 : Hid (DoAt 55 [c1, c2] st J 0 y8 C [(w.heap.size, 33, plL xd xk), (y1.heap.size, 33, plL yd yk), (y2.heap.size, 33, plL (xd) (xk)), (y5.heap.size, 33, plL (yd) (yk))]) := hide (hsq); clear hsq)
            | (go_at_call 54; (with_reducible refine (HLO_e2.out _).mono ?_); rintro _ _ ⟨rfl, rfl⟩))
          go_step3
          refine And.intro rfl ?_
          show Code.wp Try.prog Code.skip _ _ _
          go_wp2
          rw [Exit.noGoto_normal]
          go_wp2
          rw [rounds_succ]
          go_wp2
          go_ret
          rw [HR.out]
          exact ⟨rfl, HS_y8.out.fin⟩
        · have hf_e2 : lostB e2 = false := by simpa using hl_e2
          have HLO_e2 := hide (fun w => hf_e2 ▸ lost_any e2 w)
          have HR := hide (show bothN st (nI xd) (nI xk) (nI yd) (nI yk) s = (e2, C) by rw [HMW.out, if_pos (Or.inr hl_e1), if_neg (fun q => q.elim hz_e2 hl_e2)])
          clear hz_e1 hl_e1 hz_e2 hl_e2 hf_e2
          have NE_e1 := neN HN_e1.out
          obtain ⟨na_e1, nb_e1, nc_e1⟩ := NE_e1
          have NE_e2 := neN HN_e2.out
          obtain ⟨na_e2, nb_e2, nc_e2⟩ := NE_e2
          go_enter Try.func52, Try.ntmps52
          go_wp2_with (first
            | ((with_reducible refine at_slot 3 ?_); refine wpList_box_blk rfl 33 _ rfl (.agg #[.int .i64 xd, .int .i64 xk]) rfl ?_; intro y1 hbq hl1 hs1; have HS_y1 : Hid (DoAt 55 [c1, c2] st J 2 y1 s [(w.heap.size, 33, plL xd xk)]) := hide (HS_w.out.var hl1 (Nat.le_refl _) hbq); clear hbq hl1 hs1)
            | ((with_reducible refine at_slot 4 ?_); refine wpList_box_blk rfl 33 _ rfl (.agg #[.int .i64 yd, .int .i64 yk]) rfl ?_; intro y2 hbq hl1 hs1; have HS_y2 : Hid (DoAt 55 [c1, c2] st J 2 y2 s [(w.heap.size, 33, plL xd xk), (y1.heap.size, 33, plL yd yk)]) := hide (HS_y1.out.var hl1 (Nat.le_refl _) hbq); clear hbq hl1 hs1)
            | ((with_reducible refine at_slot 11 ?_); refine when_own rfl (.tmp 3) rfl HS_y2.out.own 0 rfl rfl Try.underlying33 rfl mplace_info ?_)
            | ((with_reducible refine at_slot 12 ?_); refine when_own rfl (.tmp 4) rfl HS_y2.out.own 1 rfl rfl Try.underlying33 rfl mplace_info ?_)
            | ((with_reducible refine at_slot 13 ?_); refine wpList_build_is rfl 96 #[(0, .tmp 11), (1, .tmp 12)] rfl [(0, .agg #[.int .i64 xd, .int .i64 xk]), (1, .agg #[.int .i64 yd, .int .i64 yk])] (by simp only [List.map_toArray, List.map_cons, List.map_nil]; rfl) _ (two_built _ _ _ _) ?_))
          refine wp_loop_rounds 3 ?_
          rw [rounds_succ]
          go_wp2_with (first
            | ((with_reducible refine at_slot 16 ?_); refine wpList_two0 rfl (.tmp 13) (.tmp 14) rfl xd xk yd yk rfl rfl ?_)
            | ((with_reducible refine at_slot 9 ?_); refine wpList_alloc_blk rfl 33 rfl _ (mplace_zero _) ?_; intro y3 hbq hl1 hs1; clear hs1)
            | ((with_reducible refine at_store 9 ?_); refine wpList_store_all rfl 33 (.tmp 9) (.tmp 16) rfl y2.heap.size 33 _ hbq rfl (plL (xd) (xk)) rfl mplace_info rfl (mplace_one _ _) ?_; intro y4 hbz hg hs; have HS_y4 : Hid (DoAt 55 [c1, c2] st J 2 y4 s [(w.heap.size, 33, plL xd xk), (y1.heap.size, 33, plL yd yk), (y2.heap.size, 33, plL (xd) (xk))]) := hide (HS_y2.out.new hl1 hg hbz); clear hs hbq hl1 hg hbz))
          refine wp_scope_fwd 0 rfl ?_
          go_wp2_with (first
            | ((with_reducible refine at_slot 18 ?_); refine when_own rfl (.tmp 9) rfl HS_y4.out.own 2 rfl rfl Try.underlying33 rfl mplace_info ?_)
            | (go_at_call 55; refine (HS_y4.out.call xd xk rfl rfl).mono ?_; rintro _ y5 ⟨rfl, hsq⟩; rw [HA.out] at hsq; rw [HE1.out]; have HS_y5 : Hid (DoAt 55 [c1, c2] st J 1 y5 A [(w.heap.size, 33, plL xd xk), (y1.heap.size, 33, plL yd yk), (y2.heap.size, 33, plL (xd) (xk))]) := hide (hsq); clear hsq)
            | (go_at_call 54; (with_reducible refine (HLO_e1.out _).mono ?_); rintro _ _ ⟨rfl, rfl⟩))
          go_step3
          refine And.intro rfl ?_
          show Code.wp Try.prog Code.skip _ _ _
          go_wp2
          rw [Exit.noGoto_normal]
          go_wp2
          rw [rounds_succ]
          go_wp2_with (first
            | ((with_reducible refine at_slot 16 ?_); refine wpList_two1 rfl (.tmp 13) (.tmp 14) rfl xd xk yd yk rfl rfl ?_)
            | ((with_reducible refine at_slot 9 ?_); refine wpList_alloc_blk rfl 33 rfl _ (mplace_zero _) ?_; intro y6 hbq hl1 hs1; clear hs1)
            | ((with_reducible refine at_store 9 ?_); refine wpList_store_all rfl 33 (.tmp 9) (.tmp 16) rfl y5.heap.size 33 _ hbq rfl (plL (yd) (yk)) rfl mplace_info rfl (mplace_one _ _) ?_; intro y7 hbz hg hs; have HS_y7 : Hid (DoAt 55 [c1, c2] st J 1 y7 A [(w.heap.size, 33, plL xd xk), (y1.heap.size, 33, plL yd yk), (y2.heap.size, 33, plL (xd) (xk)), (y5.heap.size, 33, plL (yd) (yk))]) := hide (HS_y5.out.new hl1 hg hbz); clear hs hbq hl1 hg hbz))
          go_step3
          go_wp2_with (first
            | ((with_reducible refine at_slot 18 ?_); refine when_own rfl (.tmp 9) rfl HS_y7.out.own 3 rfl rfl Try.underlying33 rfl mplace_info ?_)
            | (go_at_call 55; refine (HS_y7.out.call yd yk rfl rfl).mono ?_; rintro _ y8 ⟨rfl, hsq⟩; rw [HC.out] at hsq; rw [HE2.out]; have HS_y8 : Hid (DoAt 55 [c1, c2] st J 0 y8 C [(w.heap.size, 33, plL xd xk), (y1.heap.size, 33, plL yd yk), (y2.heap.size, 33, plL (xd) (xk)), (y5.heap.size, 33, plL (yd) (yk))]) := hide (hsq); clear hsq)
            | (go_at_call 54; (with_reducible refine (HLO_e2.out _).mono ?_); rintro _ _ ⟨rfl, rfl⟩))
          rw [Exit.noGoto_ret]
          go_ret
          rw [HR.out]
          exact ⟨rfl, HS_y8.out.fin⟩
    · have hf_e1 : lostB e1 = false := by simpa using hl_e1
      have HLO_e1 := hide (fun w => hf_e1 ▸ lost_any e1 w)
      have HR := hide (show bothN st (nI xd) (nI xk) (nI yd) (nI yk) s = (e1, A) from HMW.out.trans (if_neg (fun q => q.elim hz_e1 hl_e1)))
      clear hz_e1 hl_e1 hf_e1
      have NE_e1 := neN HN_e1.out
      obtain ⟨na_e1, nb_e1, nc_e1⟩ := NE_e1
      go_enter Try.func52, Try.ntmps52
      go_wp2_with (first
        | ((with_reducible refine at_slot 3 ?_); refine wpList_box_blk rfl 33 _ rfl (.agg #[.int .i64 xd, .int .i64 xk]) rfl ?_; intro y1 hbq hl1 hs1; have HS_y1 : Hid (DoAt 55 [c1, c2] st J 2 y1 s [(w.heap.size, 33, plL xd xk)]) := hide (HS_w.out.var hl1 (Nat.le_refl _) hbq); clear hbq hl1 hs1)
        | ((with_reducible refine at_slot 4 ?_); refine wpList_box_blk rfl 33 _ rfl (.agg #[.int .i64 yd, .int .i64 yk]) rfl ?_; intro y2 hbq hl1 hs1; have HS_y2 : Hid (DoAt 55 [c1, c2] st J 2 y2 s [(w.heap.size, 33, plL xd xk), (y1.heap.size, 33, plL yd yk)]) := hide (HS_y1.out.var hl1 (Nat.le_refl _) hbq); clear hbq hl1 hs1)
        | ((with_reducible refine at_slot 11 ?_); refine when_own rfl (.tmp 3) rfl HS_y2.out.own 0 rfl rfl Try.underlying33 rfl mplace_info ?_)
        | ((with_reducible refine at_slot 12 ?_); refine when_own rfl (.tmp 4) rfl HS_y2.out.own 1 rfl rfl Try.underlying33 rfl mplace_info ?_)
        | ((with_reducible refine at_slot 13 ?_); refine wpList_build_is rfl 96 #[(0, .tmp 11), (1, .tmp 12)] rfl [(0, .agg #[.int .i64 xd, .int .i64 xk]), (1, .agg #[.int .i64 yd, .int .i64 yk])] (by simp only [List.map_toArray, List.map_cons, List.map_nil]; rfl) _ (two_built _ _ _ _) ?_))
      refine wp_loop_rounds 3 ?_
      rw [rounds_succ]
      go_wp2_with (first
        | ((with_reducible refine at_slot 16 ?_); refine wpList_two0 rfl (.tmp 13) (.tmp 14) rfl xd xk yd yk rfl rfl ?_)
        | ((with_reducible refine at_slot 9 ?_); refine wpList_alloc_blk rfl 33 rfl _ (mplace_zero _) ?_; intro y3 hbq hl1 hs1; clear hs1)
        | ((with_reducible refine at_store 9 ?_); refine wpList_store_all rfl 33 (.tmp 9) (.tmp 16) rfl y2.heap.size 33 _ hbq rfl (plL (xd) (xk)) rfl mplace_info rfl (mplace_one _ _) ?_; intro y4 hbz hg hs; have HS_y4 : Hid (DoAt 55 [c1, c2] st J 2 y4 s [(w.heap.size, 33, plL xd xk), (y1.heap.size, 33, plL yd yk), (y2.heap.size, 33, plL (xd) (xk))]) := hide (HS_y2.out.new hl1 hg hbz); clear hs hbq hl1 hg hbz))
      go_step3
      go_wp2_with (first
        | ((with_reducible refine at_slot 18 ?_); refine when_own rfl (.tmp 9) rfl HS_y4.out.own 2 rfl rfl Try.underlying33 rfl mplace_info ?_)
        | (go_at_call 55; refine (HS_y4.out.call xd xk rfl rfl).mono ?_; rintro _ y5 ⟨rfl, hsq⟩; rw [HA.out] at hsq; rw [HE1.out]; have HS_y5 : Hid (DoAt 55 [c1, c2] st J 1 y5 A [(w.heap.size, 33, plL xd xk), (y1.heap.size, 33, plL yd yk), (y2.heap.size, 33, plL (xd) (xk))]) := hide (hsq); clear hsq)
        | (go_at_call 54; (with_reducible refine (HLO_e1.out _).mono ?_); rintro _ _ ⟨rfl, rfl⟩))
      rw [Exit.noGoto_ret]
      go_ret
      rw [HR.out]
      exact ⟨rfl, HS_y5.out.fin⟩

#print axioms bothA_any
set_option linter.unusedVariables false
theorem at_more {V U : Vars} {i : Nat} {p : Nat × TypeId × List Value} (e : V[i]? = some p) : (V ++ U)[i]? = some p := by
  rw [List.getElem?_append_left]
  · exact e
  · rcases Nat.lt_or_ge i V.length with hl | hl
    · exact hl
    · rw [List.getElem?_eq_none hl] at e; cases e
theorem at_last (V : Vars) (p : Nat × TypeId × List Value) : (V ++ [p])[V.length]? = some p := by simp
section
variable {w0 w W W' : World} {b : Nat} {F : Nat → Prop} {S : Bank} {V : Vars}
set_option maxRecDepth 100000 in
theorem closW_any (h : Cit w0 W b F S V) (hw : S.writes < 4611686018427387904) {gb gs i0 i1 : Nat} {s : Sec} (e0 : V[i0]? = some (gb, 24, [.pointer (some ⟨b, 0, none⟩)])) (e1 : V[i1]? = some (gs, 43, secL s)) (d k : Int) :
    Calls Try.prog 53 #[.agg #[.int .i64 d, .int .i64 k], .pointer (some ⟨gb, 0, none⟩), .pointer (some ⟨gs, 0, none⟩)] W fun e W' => e = .returned (.int .i64 ((S.write (nI d) (nI k) s).1 : Int)) ∧ Cit w0 W' b F (S.write (nI d) (nI k) s).2 V := by
  have HS := hide h
  have H0 := hide e0
  have H1 := hide e1
  have HW := hide hw
  clear h e0 e1 hw
  go_enter Try.func53, Try.ntmps53
  go_wp2_with (first
    | ((with_reducible refine at_slot 3 ?_); refine wpList_box_blk rfl 33 _ rfl (.agg #[.int .i64 d, .int .i64 k]) rfl ?_; intro y1 hbq hl1 hs1; have HS1 : Hid (Cit w0 y1 b F S (V ++ [(W.heap.size, 33, plL d k)])) := hide (HS.out.var hl1 (Nat.le_refl _) hbq); have cb : y1.cell? ⟨gb, 0, none⟩ = some (.pointer (some ⟨b, 0, none⟩)) := ((HS1.out.own.blk i0 (at_more H0.out)).cell 0).trans rfl; clear hbq hl1 hs1)
    | ((with_reducible refine at_slot 6 ?_); refine when_own rfl (.tmp 3) rfl HS1.out.own V.length (at_last V _) rfl Try.underlying33 rfl mplace_info ?_)
    | ((with_reducible refine at_slot 7 ?_); refine when_own rfl (.tmp 2) rfl HS1.out.own i1 (at_more H1.out) rfl Try.underlying43 rfl (msec_size _) ?_)
    | (go_at_call 29; refine (HS1.out.write HW.out (di := d) (ki := k) rfl rfl s).mono ?_; rintro _ y2 ⟨rfl, hsq⟩; have HS2 := hide hsq; clear hsq))
  go_ret
  exact ⟨rfl, HS2.out.cut⟩
theorem OwnV.tail {V U : Vars} (h : OwnV W 0 (V ++ U)) : OwnV W 0 U := fun i p e => h (V.length + i) p (by rw [List.getElem?_append_right (Nat.le_add_right _ _), Nat.add_sub_cancel_left]; exact e)
theorem doerW (w0 : World) (b : Nat) (F : Nat → Prop) (gb gs i0 i1 : Nat) (s : Sec) (V0 : Vars) (e0 : V0[i0]? = some (gb, 24, [.pointer (some ⟨b, 0, none⟩)])) (e1 : V0[i1]? = some (gs, 43, secL s)) :
    Doer 53 [.pointer (some ⟨gb, 0, none⟩), .pointer (some ⟨gs, 0, none⟩)] (fun d k S => S.write d k s) (fun n W S V => Cit w0 W b F S (V0 ++ V) ∧ S.writes + n < 4611686018427387904) where
  var_ := fun {n W W' S V g t cs} h hb hg hk => ⟨by rw [← List.append_assoc]; exact h.1.var hb hg hk, h.2⟩
  own_ := fun h => h.1.own.tail
  cut_ := fun h => ⟨by rw [List.append_nil]; exact h.1.cut, h.2⟩
  call_ := fun {n W S V} h d k => (closW_any h.1 (by have := h.2; omega) (at_more e0) (at_more e1) d k).mono fun _ _ ⟨he, hc⟩ => ⟨he, hc, by have := write_few S (nI d) (nI k) s; have := h.2; omega⟩
set_option maxRecDepth 100000 in
set_option maxHeartbeats 8000000 in
theorem mwrite_any (h : BankOn w b F S) (hw : S.writes < 4611686018427387000) (xd xk yd yk : Int) (s : Sec) :
    Calls Try.prog 22 #[.pointer (some ⟨b, 0, none⟩), .agg #[.int .i64 xd, .int .i64 xk], .agg #[.int .i64 yd, .int .i64 yk], secV s] w fun e w' => e = .returned (.int .i64 ((S.mwrite (nI xd) (nI xk) (nI yd) (nI yk) s).1 : Int)) ∧ BankOn w' b F (S.mwrite (nI xd) (nI xk) (nI yd) (nI yk) s).2 ∧ Turn F w w' := by
  have HL := hide h.1
  have HS_w : Hid (Cit w w b F S []) := hide (Cit.begin h)
  have HWR := hide hw
  clear h hw
  go_enter Try.func22, Try.ntmps22
  go_wp2_with (first
    | ((with_reducible refine at_slot 4 ?_); refine wpList_box_blk rfl 24 _ rfl (.pointer (some ⟨b, 0, none⟩)) rfl ?_; intro y1 hbq hl1 hs1; have HS_y1 : Hid (Cit w y1 b F S [(w.heap.size, 24, [.pointer (some ⟨b, 0, none⟩)])]) := hide (HS_w.out.var hl1 (Nat.le_refl _) hbq); clear hbq hl1 hs1)
    | ((with_reducible refine at_slot 5 ?_); refine wpList_box_blk rfl 33 _ rfl (.agg #[.int .i64 xd, .int .i64 xk]) rfl ?_; intro y2 hbq hl1 hs1; have HS_y2 : Hid (Cit w y2 b F S [(w.heap.size, 24, [.pointer (some ⟨b, 0, none⟩)]), (y1.heap.size, 33, plL xd xk)]) := hide (HS_y1.out.var hl1 (Nat.le_refl _) hbq); clear hbq hl1 hs1)
    | ((with_reducible refine at_slot 6 ?_); refine wpList_box_blk rfl 33 _ rfl (.agg #[.int .i64 yd, .int .i64 yk]) rfl ?_; intro y3 hbq hl1 hs1; have HS_y3 : Hid (Cit w y3 b F S [(w.heap.size, 24, [.pointer (some ⟨b, 0, none⟩)]), (y1.heap.size, 33, plL xd xk), (y2.heap.size, 33, plL yd yk)]) := hide (HS_y2.out.var hl1 (Nat.le_refl _) hbq); clear hbq hl1 hs1)
    | ((with_reducible refine at_slot 7 ?_); refine wpList_box_blk rfl 43 _ rfl (secV s) rfl ?_; intro y4 hbq hl1 hs1; have HS_y4 : Hid (Cit w y4 b F S [(w.heap.size, 24, [.pointer (some ⟨b, 0, none⟩)]), (y1.heap.size, 33, plL xd xk), (y2.heap.size, 33, plL yd yk), (y3.heap.size, 43, secL s)]) := hide (HS_y3.out.var hl1 (Nat.le_refl _) hbq); clear hbq hl1 hs1)
    | ((with_reducible refine at_slot 9 ?_); refine when_own rfl (.tmp 5) rfl HS_y4.out.own 1 rfl rfl Try.underlying33 rfl mplace_info ?_)
    | ((with_reducible refine at_slot 10 ?_); refine when_own rfl (.tmp 6) rfl HS_y4.out.own 2 rfl rfl Try.underlying33 rfl mplace_info ?_)
    | (go_at_call 52; refine (bothW_any ⟨doerW w b F (w.heap.size) (y3.heap.size) 0 3 s [(w.heap.size, 24, [.pointer (some ⟨b, 0, none⟩)]), (y1.heap.size, 33, plL xd xk), (y2.heap.size, 33, plL yd yk), (y3.heap.size, 43, secL s)] rfl rfl, ⟨HS_y4.out, by have := HWR.out; omega⟩⟩ xd xk yd yk).mono ?_; rintro _ z ⟨rfl, n, hz⟩; have HZ := hide hz; clear hz))
  go_ret
  exact ⟨rfl, HZ.out.1.fin⟩
/-- A call that turns nothing that was there. -/
structure Bel (w0 W : World) (b : Nat) (F : Nat → Prop) (S : Bank) (V : Vars) : Prop where
  cit : Cit w0 W b F S V
  below : Below w0.heap.size w0 W
theorem Bel.own (h : Bel w0 W b F S V) : OwnV W 0 V := h.cit.own
theorem Bel.var (h : Bel w0 W b F S V) {g : Nat} {t : TypeId} {cs : List Value} (hb : Below W.heap.size W W') (hg : W.heap.size ≤ g) (hk : Blk W' g t cs.toArray) : Bel w0 W' b F S (V ++ [(g, t, cs)]) := ⟨h.cit.var hb hg hk, h.below.trans (hb.mono h.below.size)⟩
theorem Bel.new {Wa : World} (h : Bel w0 W b F S V) {t : TypeId} {cs : List Value} (hl : Below W.heap.size W Wa) (hg : Wa.grownBy W' (some W.heap.size)) (hk : Blk W' W.heap.size t cs.toArray) : Bel w0 W' b F S (V ++ [(W.heap.size, t, cs)]) :=
  h.var (hl.grown hg hl.size (fun g e => by injection e with e; omega)) (Nat.le_refl _) hk
theorem Bel.poke (h : Bel w0 W b F S V) (k : Nat) {g : Nat} {t : TypeId} {cs cs' : List Value} (e : V[k]? = some (g, t, cs)) (hb : Blk W' g t cs'.toArray) (hg : W.grownBy W' (some g)) : Bel w0 W' b F S (V.set k (g, t, cs')) :=
  ⟨h.cit.poke k e hb hg, h.below.grown hg h.below.size (fun x ex => by injection ex with ex; rw [← ex]; exact h.cit.past k _ e)⟩
theorem Bel.read (h : Bel w0 W b F S V) {di ki : Int} {d k : Nat} (hd : nI di = d) (hk : nI ki = k) :
    Calls Try.prog 17 #[.pointer (some ⟨b, 0, none⟩), .agg #[.int .i64 di, .int .i64 ki]] W fun e W' => e = .returned (.tuple #[secV (S.readS d k), .int .i64 (S.place d k : Int)]) ∧ Bel w0 W' b F S V := by
  subst hd hk
  exact (onI_read h.cit.bank di ki).mono fun _ _ ⟨he, hb⟩ => ⟨he, h.cit.later hb, h.below.trans (hb.mono h.below.size)⟩
set_option maxRecDepth 100000 in
set_option maxHeartbeats 8000000 in
theorem mread_any (h : BankOn w b F S) (xd xk yd yk : Int) :
    Calls Try.prog 24 #[.pointer (some ⟨b, 0, none⟩), .agg #[.int .i64 xd, .int .i64 xk], .agg #[.int .i64 yd, .int .i64 yk]] w fun e w' => e = .returned (.tuple #[secV (S.mread (nI xd) (nI xk) (nI yd) (nI yk)).1, .int .i64 ((S.mread (nI xd) (nI xk) (nI yd) (nI yk)).2 : Int)]) ∧ Below w.heap.size w w' := by
  have HL := hide h.1
  have HS_w : Hid (Bel w w b F S []) := hide ⟨Cit.begin h, Below.refl _ _⟩
  clear h
  obtain ⟨e1, he1⟩ : ∃ e, S.place (nI xd) (nI xk) = e := ⟨_, rfl⟩
  obtain ⟨e2, he2⟩ : ∃ e, S.place (nI yd) (nI yk) = e := ⟨_, rfl⟩
  obtain ⟨s, hs⟩ : ∃ s, S.readS (nI xd) (nI xk) = s := ⟨_, rfl⟩
  obtain ⟨t, ht⟩ : ∃ s, S.readS (nI yd) (nI yk) = s := ⟨_, rfl⟩
  have hmr : S.mread (nI xd) (nI xk) (nI yd) (nI yk) = if lostB e1 = true then (if lostB e2 = true then (zeroSec, 5) else (t, e2)) else (s, e1) := by
    subst he1 he2 hs ht
    rfl
  have HX := hide (And.intro hs he1)
  have HY := hide (And.intro ht he2)
  have HMR := hide hmr
  have HBZ := hide (show Try.prog.built 43 [] = some (secL zeroSec).toArray from sec_none)
  clear he1 he2 hs ht hmr
  by_cases hl_e1 : lostB e1 = true
  · have HLO_e1 := hide (fun w => hl_e1 ▸ lost_any e1 w)
    by_cases hl_e2 : lostB e2 = true
    · have HLO_e2 := hide (fun w => hl_e2 ▸ lost_any e2 w)
      have HR := hide (show S.mread (nI xd) (nI xk) (nI yd) (nI yk) = (zeroSec, 5) by rw [HMR.out, if_pos hl_e1, if_pos hl_e2])
      clear hl_e1 hl_e2
      go_enter Try.func24, Try.ntmps24
      go_wp2_with (first
        | ((with_reducible refine at_slot 4 ?_); refine wpList_box_blk rfl 33 _ rfl (.agg #[.int .i64 xd, .int .i64 xk]) rfl ?_; intro y1 hbq hl1 hs1; have HS_y1 : Hid (Bel w y1 b F S [(w.heap.size, 33, plL xd xk)]) := hide (HS_w.out.var hl1 (Nat.le_refl _) hbq); clear hbq hl1 hs1)
        | ((with_reducible refine at_slot 5 ?_); refine wpList_box_blk rfl 33 _ rfl (.agg #[.int .i64 yd, .int .i64 yk]) rfl ?_; intro y2 hbq hl1 hs1; have HS_y2 : Hid (Bel w y2 b F S [(w.heap.size, 33, plL xd xk), (y1.heap.size, 33, plL yd yk)]) := hide (HS_y1.out.var hl1 (Nat.le_refl _) hbq); clear hbq hl1 hs1)
        | ((with_reducible refine at_slot 6 ?_); refine wpList_alloc_blk rfl 43 rfl _ (sec_zero _) ?_; intro y3 hbq hl1 hs1; have HS_y3 : Hid (Bel w y3 b F S [(w.heap.size, 33, plL xd xk), (y1.heap.size, 33, plL yd yk), (y2.heap.size, 43, secL zeroSec)]) := hide (HS_y2.out.var hl1 (Nat.le_refl _) hbq); clear hbq hl1 hs1)
        | ((with_reducible refine at_slot 12 ?_); refine when_own rfl (.tmp 4) rfl HS_y3.out.own 0 rfl rfl Try.underlying33 rfl mplace_info ?_)
        | ((with_reducible refine at_slot 13 ?_); refine when_own rfl (.tmp 5) rfl HS_y3.out.own 1 rfl rfl Try.underlying33 rfl mplace_info ?_)
        | ((with_reducible refine at_slot 14 ?_); refine wpList_build_is rfl 96 #[(0, .tmp 12), (1, .tmp 13)] rfl [(0, .agg #[.int .i64 xd, .int .i64 xk]), (1, .agg #[.int .i64 yd, .int .i64 yk])] (by simp only [List.map_toArray, List.map_cons, List.map_nil]; rfl) _ (two_built _ _ _ _) ?_))
      refine wp_loop_rounds 3 ?_
      rw [rounds_succ]
      go_wp2_with (first
        | ((with_reducible refine at_slot 17 ?_); refine wpList_two0 rfl (.tmp 14) (.tmp 15) rfl xd xk yd yk rfl rfl ?_)
        | ((with_reducible refine at_slot 9 ?_); refine wpList_alloc_blk rfl 33 rfl _ (mplace_zero _) ?_; intro y4 hbq hl1 hs1; clear hs1)
        | ((with_reducible refine at_store 9 ?_); refine wpList_store_all rfl 33 (.tmp 9) (.tmp 17) rfl y3.heap.size 33 _ hbq rfl (plL (xd) (xk)) rfl mplace_info rfl (mplace_one _ _) ?_; intro y5 hbz hg hs; have HS_y5 : Hid (Bel w y5 b F S [(w.heap.size, 33, plL xd xk), (y1.heap.size, 33, plL yd yk), (y2.heap.size, 43, secL zeroSec), (y3.heap.size, 33, plL (xd) (xk))]) := hide (HS_y3.out.new hl1 hg hbz); clear hs hbq hl1 hg hbz))
      refine wp_scope_fwd 0 rfl ?_
      go_wp2_with (first
        | ((with_reducible refine at_slot 20 ?_); refine when_own rfl (.tmp 9) rfl HS_y5.out.own 3 rfl rfl Try.underlying33 rfl mplace_info ?_)
        | (go_at_call 17; (with_reducible refine (HS_y5.out.read (di := xd) (ki := xk) rfl rfl).mono ?_); rintro _ y6 ⟨rfl, hsq⟩; rw [HX.out.1, HX.out.2]; have HS_y6 : Hid (Bel w y6 b F S [(w.heap.size, 33, plL xd xk), (y1.heap.size, 33, plL yd yk), (y2.heap.size, 43, secL zeroSec), (y3.heap.size, 33, plL (xd) (xk))]) := hide (hsq); clear hsq)
        | ((with_reducible refine at_slot 10 ?_); refine wpList_alloc_blk rfl 43 rfl _ (sec_zero _) ?_; intro y7 hbq hl1 hs1; clear hs1)
        | ((with_reducible refine at_store 10 ?_); refine wpList_store_all rfl 43 (.tmp 10) (.tmp 22) rfl y6.heap.size 43 _ hbq rfl (secL s) rfl (msec_size _) (msec_len _ _) (secL_one _) ?_; intro y8 hbz hg hs; have HS_y8 : Hid (Bel w y8 b F S [(w.heap.size, 33, plL xd xk), (y1.heap.size, 33, plL yd yk), (y2.heap.size, 43, secL zeroSec), (y3.heap.size, 33, plL (xd) (xk)), (y6.heap.size, 43, secL s)]) := hide (HS_y6.out.new hl1 hg hbz); clear hs hbq hl1 hg hbz)
        | (go_at_call 54; (with_reducible refine (HLO_e1.out _).mono ?_); rintro _ _ ⟨rfl, rfl⟩))
      go_step3
      refine And.intro rfl ?_
      show Code.wp Try.prog Code.skip _ _ _
      go_wp2
      rw [Exit.noGoto_normal]
      go_wp2
      rw [rounds_succ]
      go_wp2_with (first
        | ((with_reducible refine at_slot 17 ?_); refine wpList_two1 rfl (.tmp 14) (.tmp 15) rfl xd xk yd yk rfl rfl ?_)
        | ((with_reducible refine at_slot 9 ?_); refine wpList_alloc_blk rfl 33 rfl _ (mplace_zero _) ?_; intro y9 hbq hl1 hs1; clear hs1)
        | ((with_reducible refine at_store 9 ?_); refine wpList_store_all rfl 33 (.tmp 9) (.tmp 17) rfl y8.heap.size 33 _ hbq rfl (plL (yd) (yk)) rfl mplace_info rfl (mplace_one _ _) ?_; intro y10 hbz hg hs; have HS_y10 : Hid (Bel w y10 b F S [(w.heap.size, 33, plL xd xk), (y1.heap.size, 33, plL yd yk), (y2.heap.size, 43, secL zeroSec), (y3.heap.size, 33, plL (xd) (xk)), (y6.heap.size, 43, secL s), (y8.heap.size, 33, plL (yd) (yk))]) := hide (HS_y8.out.new hl1 hg hbz); clear hs hbq hl1 hg hbz))
      refine wp_scope_fwd 0 rfl ?_
      go_wp2_with (first
        | ((with_reducible refine at_slot 20 ?_); refine when_own rfl (.tmp 9) rfl HS_y10.out.own 5 rfl rfl Try.underlying33 rfl mplace_info ?_)
        | (go_at_call 17; (with_reducible refine (HS_y10.out.read (di := yd) (ki := yk) rfl rfl).mono ?_); rintro _ y11 ⟨rfl, hsq⟩; rw [HY.out.1, HY.out.2]; have HS_y11 : Hid (Bel w y11 b F S [(w.heap.size, 33, plL xd xk), (y1.heap.size, 33, plL yd yk), (y2.heap.size, 43, secL zeroSec), (y3.heap.size, 33, plL (xd) (xk)), (y6.heap.size, 43, secL s), (y8.heap.size, 33, plL (yd) (yk))]) := hide (hsq); clear hsq)
        | ((with_reducible refine at_slot 10 ?_); refine wpList_alloc_blk rfl 43 rfl _ (sec_zero _) ?_; intro y12 hbq hl1 hs1; clear hs1)
        | ((with_reducible refine at_store 10 ?_); refine wpList_store_all rfl 43 (.tmp 10) (.tmp 22) rfl y11.heap.size 43 _ hbq rfl (secL t) rfl (msec_size _) (msec_len _ _) (secL_one _) ?_; intro y13 hbz hg hs; have HS_y13 : Hid (Bel w y13 b F S [(w.heap.size, 33, plL xd xk), (y1.heap.size, 33, plL yd yk), (y2.heap.size, 43, secL zeroSec), (y3.heap.size, 33, plL (xd) (xk)), (y6.heap.size, 43, secL s), (y8.heap.size, 33, plL (yd) (yk)), (y11.heap.size, 43, secL t)]) := hide (HS_y11.out.new hl1 hg hbz); clear hs hbq hl1 hg hbz)
        | (go_at_call 54; (with_reducible refine (HLO_e2.out _).mono ?_); rintro _ _ ⟨rfl, rfl⟩))
      go_step3
      refine And.intro rfl ?_
      show Code.wp Try.prog Code.skip _ _ _
      go_wp2
      rw [Exit.noGoto_normal]
      go_wp2
      rw [rounds_succ]
      go_wp2_with (first
        | ((with_reducible refine at_slot 29 ?_); refine wpList_build_is rfl 43 #[] rfl [] (by simp) _ HBZ.out ?_)
        | ((with_reducible refine at_store 6 ?_); refine wpList_store_all rfl 43 (.tmp 6) (.tmp 29) rfl y2.heap.size 43 _ (HS_y13.out.own.blk 2 rfl) rfl (secL zeroSec) rfl (msec_size _) (msec_len _ zeroSec) (secL_one _) ?_; intro y14 hbz hg hs; have HS_y14 : Hid (Bel w y14 b F S [(w.heap.size, 33, plL xd xk), (y1.heap.size, 33, plL yd yk), (y2.heap.size, 43, secL zeroSec), (y3.heap.size, 33, plL (xd) (xk)), (y6.heap.size, 43, secL s), (y8.heap.size, 33, plL (yd) (yk)), (y11.heap.size, 43, secL t)]) := hide (HS_y13.out.poke 2 rfl hbz hg); clear hs hg hbz))
      refine ret_cell_tmp rfl _ 43 (secL zeroSec) _ (HS_y14.out.own.blk 2 rfl) rfl Try.underlying43 rfl (msec_size _) (.int .i64 5) rfl rfl ⟨by rw [HR.out]; rfl, HS_y14.out.below⟩
    · have hf_e2 : lostB e2 = false := by simpa using hl_e2
      have HLO_e2 := hide (fun w => hf_e2 ▸ lost_any e2 w)
      have HR := hide (show S.mread (nI xd) (nI xk) (nI yd) (nI yk) = (t, e2) by rw [HMR.out, if_pos hl_e1, if_neg hl_e2])
      clear hl_e1 hl_e2 hf_e2
      go_enter Try.func24, Try.ntmps24
      go_wp2_with (first
        | ((with_reducible refine at_slot 4 ?_); refine wpList_box_blk rfl 33 _ rfl (.agg #[.int .i64 xd, .int .i64 xk]) rfl ?_; intro y1 hbq hl1 hs1; have HS_y1 : Hid (Bel w y1 b F S [(w.heap.size, 33, plL xd xk)]) := hide (HS_w.out.var hl1 (Nat.le_refl _) hbq); clear hbq hl1 hs1)
        | ((with_reducible refine at_slot 5 ?_); refine wpList_box_blk rfl 33 _ rfl (.agg #[.int .i64 yd, .int .i64 yk]) rfl ?_; intro y2 hbq hl1 hs1; have HS_y2 : Hid (Bel w y2 b F S [(w.heap.size, 33, plL xd xk), (y1.heap.size, 33, plL yd yk)]) := hide (HS_y1.out.var hl1 (Nat.le_refl _) hbq); clear hbq hl1 hs1)
        | ((with_reducible refine at_slot 6 ?_); refine wpList_alloc_blk rfl 43 rfl _ (sec_zero _) ?_; intro y3 hbq hl1 hs1; have HS_y3 : Hid (Bel w y3 b F S [(w.heap.size, 33, plL xd xk), (y1.heap.size, 33, plL yd yk), (y2.heap.size, 43, secL zeroSec)]) := hide (HS_y2.out.var hl1 (Nat.le_refl _) hbq); clear hbq hl1 hs1)
        | ((with_reducible refine at_slot 12 ?_); refine when_own rfl (.tmp 4) rfl HS_y3.out.own 0 rfl rfl Try.underlying33 rfl mplace_info ?_)
        | ((with_reducible refine at_slot 13 ?_); refine when_own rfl (.tmp 5) rfl HS_y3.out.own 1 rfl rfl Try.underlying33 rfl mplace_info ?_)
        | ((with_reducible refine at_slot 14 ?_); refine wpList_build_is rfl 96 #[(0, .tmp 12), (1, .tmp 13)] rfl [(0, .agg #[.int .i64 xd, .int .i64 xk]), (1, .agg #[.int .i64 yd, .int .i64 yk])] (by simp only [List.map_toArray, List.map_cons, List.map_nil]; rfl) _ (two_built _ _ _ _) ?_))
      refine wp_loop_rounds 3 ?_
      rw [rounds_succ]
      go_wp2_with (first
        | ((with_reducible refine at_slot 17 ?_); refine wpList_two0 rfl (.tmp 14) (.tmp 15) rfl xd xk yd yk rfl rfl ?_)
        | ((with_reducible refine at_slot 9 ?_); refine wpList_alloc_blk rfl 33 rfl _ (mplace_zero _) ?_; intro y4 hbq hl1 hs1; clear hs1)
        | ((with_reducible refine at_store 9 ?_); refine wpList_store_all rfl 33 (.tmp 9) (.tmp 17) rfl y3.heap.size 33 _ hbq rfl (plL (xd) (xk)) rfl mplace_info rfl (mplace_one _ _) ?_; intro y5 hbz hg hs; have HS_y5 : Hid (Bel w y5 b F S [(w.heap.size, 33, plL xd xk), (y1.heap.size, 33, plL yd yk), (y2.heap.size, 43, secL zeroSec), (y3.heap.size, 33, plL (xd) (xk))]) := hide (HS_y3.out.new hl1 hg hbz); clear hs hbq hl1 hg hbz))
      refine wp_scope_fwd 0 rfl ?_
      go_wp2_with (first
        | ((with_reducible refine at_slot 20 ?_); refine when_own rfl (.tmp 9) rfl HS_y5.out.own 3 rfl rfl Try.underlying33 rfl mplace_info ?_)
        | (go_at_call 17; (with_reducible refine (HS_y5.out.read (di := xd) (ki := xk) rfl rfl).mono ?_); rintro _ y6 ⟨rfl, hsq⟩; rw [HX.out.1, HX.out.2]; have HS_y6 : Hid (Bel w y6 b F S [(w.heap.size, 33, plL xd xk), (y1.heap.size, 33, plL yd yk), (y2.heap.size, 43, secL zeroSec), (y3.heap.size, 33, plL (xd) (xk))]) := hide (hsq); clear hsq)
        | ((with_reducible refine at_slot 10 ?_); refine wpList_alloc_blk rfl 43 rfl _ (sec_zero _) ?_; intro y7 hbq hl1 hs1; clear hs1)
        | ((with_reducible refine at_store 10 ?_); refine wpList_store_all rfl 43 (.tmp 10) (.tmp 22) rfl y6.heap.size 43 _ hbq rfl (secL s) rfl (msec_size _) (msec_len _ _) (secL_one _) ?_; intro y8 hbz hg hs; have HS_y8 : Hid (Bel w y8 b F S [(w.heap.size, 33, plL xd xk), (y1.heap.size, 33, plL yd yk), (y2.heap.size, 43, secL zeroSec), (y3.heap.size, 33, plL (xd) (xk)), (y6.heap.size, 43, secL s)]) := hide (HS_y6.out.new hl1 hg hbz); clear hs hbq hl1 hg hbz)
        | (go_at_call 54; (with_reducible refine (HLO_e1.out _).mono ?_); rintro _ _ ⟨rfl, rfl⟩))
      go_step3
      refine And.intro rfl ?_
      show Code.wp Try.prog Code.skip _ _ _
      go_wp2
      rw [Exit.noGoto_normal]
      go_wp2
      rw [rounds_succ]
      go_wp2_with (first
        | ((with_reducible refine at_slot 17 ?_); refine wpList_two1 rfl (.tmp 14) (.tmp 15) rfl xd xk yd yk rfl rfl ?_)
        | ((with_reducible refine at_slot 9 ?_); refine wpList_alloc_blk rfl 33 rfl _ (mplace_zero _) ?_; intro y9 hbq hl1 hs1; clear hs1)
        | ((with_reducible refine at_store 9 ?_); refine wpList_store_all rfl 33 (.tmp 9) (.tmp 17) rfl y8.heap.size 33 _ hbq rfl (plL (yd) (yk)) rfl mplace_info rfl (mplace_one _ _) ?_; intro y10 hbz hg hs; have HS_y10 : Hid (Bel w y10 b F S [(w.heap.size, 33, plL xd xk), (y1.heap.size, 33, plL yd yk), (y2.heap.size, 43, secL zeroSec), (y3.heap.size, 33, plL (xd) (xk)), (y6.heap.size, 43, secL s), (y8.heap.size, 33, plL (yd) (yk))]) := hide (HS_y8.out.new hl1 hg hbz); clear hs hbq hl1 hg hbz))
      go_step3
      go_wp2_with (first
        | ((with_reducible refine at_slot 20 ?_); refine when_own rfl (.tmp 9) rfl HS_y10.out.own 5 rfl rfl Try.underlying33 rfl mplace_info ?_)
        | (go_at_call 17; (with_reducible refine (HS_y10.out.read (di := yd) (ki := yk) rfl rfl).mono ?_); rintro _ y11 ⟨rfl, hsq⟩; rw [HY.out.1, HY.out.2]; have HS_y11 : Hid (Bel w y11 b F S [(w.heap.size, 33, plL xd xk), (y1.heap.size, 33, plL yd yk), (y2.heap.size, 43, secL zeroSec), (y3.heap.size, 33, plL (xd) (xk)), (y6.heap.size, 43, secL s), (y8.heap.size, 33, plL (yd) (yk))]) := hide (hsq); clear hsq)
        | ((with_reducible refine at_slot 10 ?_); refine wpList_alloc_blk rfl 43 rfl _ (sec_zero _) ?_; intro y12 hbq hl1 hs1; clear hs1)
        | ((with_reducible refine at_store 10 ?_); refine wpList_store_all rfl 43 (.tmp 10) (.tmp 22) rfl y11.heap.size 43 _ hbq rfl (secL t) rfl (msec_size _) (msec_len _ _) (secL_one _) ?_; intro y13 hbz hg hs; have HS_y13 : Hid (Bel w y13 b F S [(w.heap.size, 33, plL xd xk), (y1.heap.size, 33, plL yd yk), (y2.heap.size, 43, secL zeroSec), (y3.heap.size, 33, plL (xd) (xk)), (y6.heap.size, 43, secL s), (y8.heap.size, 33, plL (yd) (yk)), (y11.heap.size, 43, secL t)]) := hide (HS_y11.out.new hl1 hg hbz); clear hs hbq hl1 hg hbz)
        | (go_at_call 54; (with_reducible refine (HLO_e2.out _).mono ?_); rintro _ _ ⟨rfl, rfl⟩)
        | ((with_reducible refine at_slot 26 ?_); refine when_own rfl (.tmp 10) rfl HS_y13.out.own 6 rfl rfl Try.underlying43 rfl (msec_size _) ?_)
        | ((with_reducible refine at_store 6 ?_); refine wpList_store_all rfl 43 (.tmp 6) (.tmp 26) rfl y2.heap.size 43 _ (HS_y13.out.own.blk 2 rfl) rfl (secL t) rfl (msec_size _) (msec_len _ zeroSec) (secL_one _) ?_; intro y14 hbz hg hs; have HS_y14 : Hid (Bel w y14 b F S [(w.heap.size, 33, plL xd xk), (y1.heap.size, 33, plL yd yk), (y2.heap.size, 43, secL t), (y3.heap.size, 33, plL (xd) (xk)), (y6.heap.size, 43, secL s), (y8.heap.size, 33, plL (yd) (yk)), (y11.heap.size, 43, secL t)]) := hide (HS_y13.out.poke 2 rfl hbz hg); clear hs hg hbz))
      rw [Exit.noGoto_ret]
      simp only [go_sem]
      refine ret_cell_tmp rfl _ 43 (secL t) _ (HS_y14.out.own.blk 2 rfl) rfl Try.underlying43 rfl (msec_size _) (.int .i64 (e2 : Int)) rfl rfl ⟨by rw [HR.out]; rfl, HS_y14.out.below⟩
  · have hf_e1 : lostB e1 = false := by simpa using hl_e1
    have HLO_e1 := hide (fun w => hf_e1 ▸ lost_any e1 w)
    have HR := hide (show S.mread (nI xd) (nI xk) (nI yd) (nI yk) = (s, e1) by rw [HMR.out, if_neg hl_e1])
    clear hl_e1 hf_e1
    go_enter Try.func24, Try.ntmps24
    go_wp2_with (first
      | ((with_reducible refine at_slot 4 ?_); refine wpList_box_blk rfl 33 _ rfl (.agg #[.int .i64 xd, .int .i64 xk]) rfl ?_; intro y1 hbq hl1 hs1; have HS_y1 : Hid (Bel w y1 b F S [(w.heap.size, 33, plL xd xk)]) := hide (HS_w.out.var hl1 (Nat.le_refl _) hbq); clear hbq hl1 hs1)
      | ((with_reducible refine at_slot 5 ?_); refine wpList_box_blk rfl 33 _ rfl (.agg #[.int .i64 yd, .int .i64 yk]) rfl ?_; intro y2 hbq hl1 hs1; have HS_y2 : Hid (Bel w y2 b F S [(w.heap.size, 33, plL xd xk), (y1.heap.size, 33, plL yd yk)]) := hide (HS_y1.out.var hl1 (Nat.le_refl _) hbq); clear hbq hl1 hs1)
      | ((with_reducible refine at_slot 6 ?_); refine wpList_alloc_blk rfl 43 rfl _ (sec_zero _) ?_; intro y3 hbq hl1 hs1; have HS_y3 : Hid (Bel w y3 b F S [(w.heap.size, 33, plL xd xk), (y1.heap.size, 33, plL yd yk), (y2.heap.size, 43, secL zeroSec)]) := hide (HS_y2.out.var hl1 (Nat.le_refl _) hbq); clear hbq hl1 hs1)
      | ((with_reducible refine at_slot 12 ?_); refine when_own rfl (.tmp 4) rfl HS_y3.out.own 0 rfl rfl Try.underlying33 rfl mplace_info ?_)
      | ((with_reducible refine at_slot 13 ?_); refine when_own rfl (.tmp 5) rfl HS_y3.out.own 1 rfl rfl Try.underlying33 rfl mplace_info ?_)
      | ((with_reducible refine at_slot 14 ?_); refine wpList_build_is rfl 96 #[(0, .tmp 12), (1, .tmp 13)] rfl [(0, .agg #[.int .i64 xd, .int .i64 xk]), (1, .agg #[.int .i64 yd, .int .i64 yk])] (by simp only [List.map_toArray, List.map_cons, List.map_nil]; rfl) _ (two_built _ _ _ _) ?_))
    refine wp_loop_rounds 3 ?_
    rw [rounds_succ]
    go_wp2_with (first
      | ((with_reducible refine at_slot 17 ?_); refine wpList_two0 rfl (.tmp 14) (.tmp 15) rfl xd xk yd yk rfl rfl ?_)
      | ((with_reducible refine at_slot 9 ?_); refine wpList_alloc_blk rfl 33 rfl _ (mplace_zero _) ?_; intro y4 hbq hl1 hs1; clear hs1)
      | ((with_reducible refine at_store 9 ?_); refine wpList_store_all rfl 33 (.tmp 9) (.tmp 17) rfl y3.heap.size 33 _ hbq rfl (plL (xd) (xk)) rfl mplace_info rfl (mplace_one _ _) ?_; intro y5 hbz hg hs; have HS_y5 : Hid (Bel w y5 b F S [(w.heap.size, 33, plL xd xk), (y1.heap.size, 33, plL yd yk), (y2.heap.size, 43, secL zeroSec), (y3.heap.size, 33, plL (xd) (xk))]) := hide (HS_y3.out.new hl1 hg hbz); clear hs hbq hl1 hg hbz))
    go_step3
    go_wp2_with (first
      | ((with_reducible refine at_slot 20 ?_); refine when_own rfl (.tmp 9) rfl HS_y5.out.own 3 rfl rfl Try.underlying33 rfl mplace_info ?_)
      | (go_at_call 17; (with_reducible refine (HS_y5.out.read (di := xd) (ki := xk) rfl rfl).mono ?_); rintro _ y6 ⟨rfl, hsq⟩; rw [HX.out.1, HX.out.2]; have HS_y6 : Hid (Bel w y6 b F S [(w.heap.size, 33, plL xd xk), (y1.heap.size, 33, plL yd yk), (y2.heap.size, 43, secL zeroSec), (y3.heap.size, 33, plL (xd) (xk))]) := hide (hsq); clear hsq)
      | ((with_reducible refine at_slot 10 ?_); refine wpList_alloc_blk rfl 43 rfl _ (sec_zero _) ?_; intro y7 hbq hl1 hs1; clear hs1)
      | ((with_reducible refine at_store 10 ?_); refine wpList_store_all rfl 43 (.tmp 10) (.tmp 22) rfl y6.heap.size 43 _ hbq rfl (secL s) rfl (msec_size _) (msec_len _ _) (secL_one _) ?_; intro y8 hbz hg hs; have HS_y8 : Hid (Bel w y8 b F S [(w.heap.size, 33, plL xd xk), (y1.heap.size, 33, plL yd yk), (y2.heap.size, 43, secL zeroSec), (y3.heap.size, 33, plL (xd) (xk)), (y6.heap.size, 43, secL s)]) := hide (HS_y6.out.new hl1 hg hbz); clear hs hbq hl1 hg hbz)
      | (go_at_call 54; (with_reducible refine (HLO_e1.out _).mono ?_); rintro _ _ ⟨rfl, rfl⟩)
      | ((with_reducible refine at_slot 26 ?_); refine when_own rfl (.tmp 10) rfl HS_y8.out.own 4 rfl rfl Try.underlying43 rfl (msec_size _) ?_)
      | ((with_reducible refine at_store 6 ?_); refine wpList_store_all rfl 43 (.tmp 6) (.tmp 26) rfl y2.heap.size 43 _ (HS_y8.out.own.blk 2 rfl) rfl (secL s) rfl (msec_size _) (msec_len _ zeroSec) (secL_one _) ?_; intro y9 hbz hg hs; have HS_y9 : Hid (Bel w y9 b F S [(w.heap.size, 33, plL xd xk), (y1.heap.size, 33, plL yd yk), (y2.heap.size, 43, secL s), (y3.heap.size, 33, plL (xd) (xk)), (y6.heap.size, 43, secL s)]) := hide (HS_y8.out.poke 2 rfl hbz hg); clear hs hg hbz))
    rw [Exit.noGoto_ret]
    simp only [go_sem]
    refine ret_cell_tmp rfl _ 43 (secL s) _ (HS_y9.out.own.blk 2 rfl) rfl Try.underlying43 rfl (msec_size _) (.int .i64 (e1 : Int)) rfl rfl ⟨by rw [HR.out]; rfl, HS_y9.out.below⟩
set_option maxRecDepth 100000 in
set_option maxHeartbeats 8000000 in
theorem mcopy_any (h : BankOn w b F S) (hw : S.writes < 4611686018427387000) (xd xk yd yk : Int) :
    Calls Try.prog 31 #[.pointer (some ⟨b, 0, none⟩), .agg #[.int .i64 xd, .int .i64 xk], .agg #[.int .i64 yd, .int .i64 yk]] w fun e w' => e = .returned (.int .i64 ((S.mcopy (nI xd) (nI xk) (nI yd) (nI yk)).1 : Int)) ∧ BankOn w' b F (S.mcopy (nI xd) (nI xk) (nI yd) (nI yk)).2 ∧ Turn F w w' := by
  have HL := hide h.1
  have HS_w : Hid (Cit w w b F S []) := hide (Cit.begin h)
  have HWR := hide hw
  clear h hw
  obtain ⟨e1, he1⟩ : ∃ e, S.place (nI xd) (nI xk) = e := ⟨_, rfl⟩
  obtain ⟨s, hs⟩ : ∃ s, S.readS (nI xd) (nI xk) = s := ⟨_, rfl⟩
  obtain ⟨e3, he3⟩ : ∃ e, (S.write (nI yd) (nI yk) s).1 = e := ⟨_, rfl⟩
  obtain ⟨C, hC⟩ : ∃ A, (S.write (nI yd) (nI yk) s).2 = A := ⟨_, rfl⟩
  have hmc : S.mcopy (nI xd) (nI xk) (nI yd) (nI yk) = if e1 = 0 then (e3, C) else (e1, S) := by
    unfold Bank.mcopy
    rw [he1]
    by_cases h0 : e1 = 0
    · have hs' : s = S.newest (nI xd) (nI xk) := by rw [← hs]; unfold Bank.readS; rw [if_pos (he1.trans h0)]
      rw [if_pos h0, if_pos h0, ← hs', ← he3, ← hC]
    · rw [if_neg h0, if_neg h0]
  have HX := hide (And.intro hs he1)
  have HE3 := hide he3
  have HC := hide hC
  have HMC := hide hmc
  clear he1 hs he3 hC hmc
  by_cases hz_e1 : e1 = 0
  · have HZ_e1 := hide hz_e1
    have HR := hide (HMC.out.trans (if_pos hz_e1))
    clear hz_e1
    go_enter Try.func31, Try.ntmps31
    go_wp2_with (first
      | ((with_reducible refine at_slot 4 ?_); refine wpList_box_blk rfl 33 _ rfl (.agg #[.int .i64 xd, .int .i64 xk]) rfl ?_; intro y1 hbq hl1 hs1; have HS_y1 : Hid (Cit w y1 b F S [(w.heap.size, 33, plL xd xk)]) := hide (HS_w.out.var hl1 (Nat.le_refl _) hbq); clear hbq hl1 hs1)
      | ((with_reducible refine at_slot 5 ?_); refine wpList_box_blk rfl 33 _ rfl (.agg #[.int .i64 yd, .int .i64 yk]) rfl ?_; intro y2 hbq hl1 hs1; have HS_y2 : Hid (Cit w y2 b F S [(w.heap.size, 33, plL xd xk), (y1.heap.size, 33, plL yd yk)]) := hide (HS_y1.out.var hl1 (Nat.le_refl _) hbq); clear hbq hl1 hs1)
      | ((with_reducible refine at_slot 11 ?_); refine when_own rfl (.tmp 4) rfl HS_y2.out.own 0 rfl rfl Try.underlying33 rfl mplace_info ?_)
      | (go_at_call 17; (with_reducible refine (HS_y2.out.read (di := xd) (ki := xk) rfl rfl).mono ?_); rintro _ y3 ⟨rfl, hsq⟩; rw [HX.out.1, HX.out.2, HZ_e1.out]; have HS_y3 : Hid (Cit w y3 b F S [(w.heap.size, 33, plL xd xk), (y1.heap.size, 33, plL yd yk)]) := hide (hsq); clear hsq)
      | ((with_reducible refine at_slot 7 ?_); refine wpList_alloc_blk rfl 43 rfl _ (sec_zero _) ?_; intro y4 hbq hl1 hs1; clear hs1)
      | ((with_reducible refine at_store 7 ?_); refine wpList_store_all rfl 43 (.tmp 7) (.tmp 13) rfl y3.heap.size 43 _ hbq rfl (secL s) rfl (msec_size _) (msec_len _ _) (secL_one _) ?_; intro y5 hbz hg hs; have HS_y5 : Hid (Cit w y5 b F S [(w.heap.size, 33, plL xd xk), (y1.heap.size, 33, plL yd yk), (y3.heap.size, 43, secL s)]) := hide (HS_y3.out.new hl1 hg hbz); clear hs hbq hl1 hg hbz)
      | ((with_reducible refine at_slot 19 ?_); refine when_own rfl (.tmp 5) rfl HS_y5.out.own 1 rfl rfl Try.underlying33 rfl mplace_info ?_)
      | ((with_reducible refine at_slot 20 ?_); refine when_own rfl (.tmp 7) rfl HS_y5.out.own 2 rfl rfl Try.underlying43 rfl (msec_size _) ?_)
      | (go_at_call 29; refine (HS_y5.out.write (by have := HWR.out; omega) (di := yd) (ki := yk) rfl rfl s).mono ?_; rintro _ y6 ⟨rfl, hsq⟩; rw [HC.out] at hsq; rw [HE3.out]; have HS_y6 : Hid (Cit w y6 b F C [(w.heap.size, 33, plL xd xk), (y1.heap.size, 33, plL yd yk), (y3.heap.size, 43, secL s)]) := hide (hsq); clear hsq))
    go_ret
    rw [HR.out]
    exact ⟨rfl, HS_y6.out.fin⟩
  · have HN_e1 := hide hz_e1
    have HR := hide (HMC.out.trans (if_neg hz_e1))
    clear hz_e1
    have NE_e1 := neN HN_e1.out
    obtain ⟨na_e1, nb_e1, nc_e1⟩ := NE_e1
    go_enter Try.func31, Try.ntmps31
    go_wp2_with (first
      | ((with_reducible refine at_slot 4 ?_); refine wpList_box_blk rfl 33 _ rfl (.agg #[.int .i64 xd, .int .i64 xk]) rfl ?_; intro y1 hbq hl1 hs1; have HS_y1 : Hid (Cit w y1 b F S [(w.heap.size, 33, plL xd xk)]) := hide (HS_w.out.var hl1 (Nat.le_refl _) hbq); clear hbq hl1 hs1)
      | ((with_reducible refine at_slot 5 ?_); refine wpList_box_blk rfl 33 _ rfl (.agg #[.int .i64 yd, .int .i64 yk]) rfl ?_; intro y2 hbq hl1 hs1; have HS_y2 : Hid (Cit w y2 b F S [(w.heap.size, 33, plL xd xk), (y1.heap.size, 33, plL yd yk)]) := hide (HS_y1.out.var hl1 (Nat.le_refl _) hbq); clear hbq hl1 hs1)
      | ((with_reducible refine at_slot 11 ?_); refine when_own rfl (.tmp 4) rfl HS_y2.out.own 0 rfl rfl Try.underlying33 rfl mplace_info ?_)
      | (go_at_call 17; (with_reducible refine (HS_y2.out.read (di := xd) (ki := xk) rfl rfl).mono ?_); rintro _ y3 ⟨rfl, hsq⟩; rw [HX.out.1, HX.out.2]; have HS_y3 : Hid (Cit w y3 b F S [(w.heap.size, 33, plL xd xk), (y1.heap.size, 33, plL yd yk)]) := hide (hsq); clear hsq)
      | ((with_reducible refine at_slot 7 ?_); refine wpList_alloc_blk rfl 43 rfl _ (sec_zero _) ?_; intro y4 hbq hl1 hs1; clear hs1)
      | ((with_reducible refine at_store 7 ?_); refine wpList_store_all rfl 43 (.tmp 7) (.tmp 13) rfl y3.heap.size 43 _ hbq rfl (secL s) rfl (msec_size _) (msec_len _ _) (secL_one _) ?_; intro y5 hbz hg hs; have HS_y5 : Hid (Cit w y5 b F S [(w.heap.size, 33, plL xd xk), (y1.heap.size, 33, plL yd yk), (y3.heap.size, 43, secL s)]) := hide (HS_y3.out.new hl1 hg hbz); clear hs hbq hl1 hg hbz))
    go_ret
    rw [HR.out]
    exact ⟨rfl, HS_y5.out.fin⟩
end
#print axioms mwrite_any
#print axioms mread_any
#print axioms mcopy_any
end Go.Proofs.Ytgfbndmdndpelaa
