/- Texts of the proof laid one behind the other: RetC StrR StrS StrU StrV StrW StrX. -/
import Derived.Test.YtmjjnbabfldbcaaGreatStill
import Derived.Test.YtmjjnbabfldbcaaGreatLump1
import Derived.Test.YtmjjnbabfldbcaaGreatTwoRows
import Derived.Test.YtmjjnbabfldbcaaGreatWhen
import Derived.Test.YtmjjnbabfldbcaaGreatMade
import Derived.Test.YtmjjnbabfldbcaaGreatKeep
import Derived.Test.YtmjjnbabfldbcaaGreatStepK
import Derived.Test.YtmjjnbabfldbcaaGreatStepB
namespace Go.Proofs.YtmjjnbabfldbcaaGreat
open Go.RowKit
section
variable {P : Program}
theorem results_cell_one {fn : Func} {p : Tmp} {ty : TypeId} (h : fn.results = #[.cell p ty]) (tmps : Array Value) (w : World) :
    (results fn tmps).run P w = ((asAddr (tmps.getD p undef)).run P w).andThen fun a w₁ => (loadVar ty a).run P w₁ := by
  simp only [results, h]
  simp [Sem.run_bind, Result.andThen]
/-- A function that hands back a struct out of its block. -/
theorem ret_cell_one {fn : Func} {R : Ending → World → Prop} {a : Act} {w : World} {p : Tmp} {ty : TypeId} (h : fn.results = #[.cell p ty]) (g : Nat) (t : TypeId) (cs : List Value) (d : TypeDesc) (hb : Blk w g t cs.toArray)
    (hx : a.tmps.getD p undef = .pointer (some ⟨g, 0, none⟩)) (hu : P.underlying ty = some d) (hd : (match d with | .struct _ | .array _ _ => true | _ => false) = true) (hi : (P.info? ty).map (·.size) = some cs.length)
    (hdf : a.defers = []) (hR : R (.returned (.agg cs.toArray)) w) : bodyPost P fn R .ret a w := by
  refine bodyPost_ret (v := .agg cs.toArray) ?_ hdf hR
  rw [results_cell_one h, hx]
  have := run_loadVar_blk (P := P) w g 0 t ty cs.toArray hb cs d (fun j v hv => by rw [Nat.zero_add]; simpa using hv) hu hd hi
  simp only [asAddr, Sem.run_pure, Result.andThen_ok, this]
end
end Go.Proofs.YtmjjnbabfldbcaaGreat
namespace Go.Proofs.YtmjjnbabfldbcaaGreat
open Go.RowKit
set_option linter.unusedVariables false
theorem pl_zero (w : World) : (zeroValue 47).run Tryz.prog w = .ok (.agg (plC (0, 0)).toArray) w := by kernel_rfl
theorem pl_info : (Tryz.prog.info? 47).map (·.size) = some 2 := by kernel_rfl
theorem plC_one (p : PlI) : ∀ v ∈ plC p, v.oneCell' = true := by
  intro v hv
  rcases List.mem_cons.1 hv with e | hv
  · subst e; rfl
  · rw [List.mem_singleton.1 hv]; rfl
/-- No sector's number is so great that a stripe's goes over. -/
def SmallX (X : List PlI) : Prop := ∀ p ∈ X, 0 ≤ p.2 ∧ p.2 ≤ 1000000
section
variable {w : World} {A : Option Addr} {n c : Nat} {X : List PlI}
theorem Reads.pl_at {B k : Nat} {p : PlI} (h : Reads w B 2 A n (plsL X)) (hk : X[k]? = some p) : ∃ ad, A = some ad ∧ ad.block < B ∧ w.cell? (ad.add (k * 2)) = some (.int .i64 p.1) ∧ w.cell? ((ad.add (k * 2)).add 1) = some (.int .i64 p.2) := by
  have hlt := (List.getElem?_eq_some_iff.1 hk).1
  have hl := h.1
  rw [plsL_length] at hl
  obtain ⟨ad, e, hb, hc⟩ := h.2 (by omega)
  obtain ⟨h1, h2⟩ := plsL_at hk
  exact ⟨ad, e, hb, hc _ _ h1, by rw [add_of_add]; exact hc _ _ h2⟩
theorem refStripe_any (t : Int) (hn : n ≤ 1000000) (w : World) :
    Calls Tryz.prog 74 #[.slice A n c, .int .i64 t] w fun e w' => e = .returned (.int .i64 (strE n t : Int)) ∧ w = w' := by
  unfold strE
  by_cases h : n < 2
  · have hi : (n : Int) < 2 := by omega
    rw [if_pos h]
    go_enter Tryz.func74, Tryz.ntmps74
    go_wp2
    go_ret
    exact ⟨rfl, rfl⟩
  · have hi : ¬ (n : Int) < 2 := by omega
    rw [if_neg h]
    by_cases h0 : t < 0
    · rw [if_pos (.inl h0)]
      go_enter Tryz.func74, Tryz.ntmps74
      go_wp2
      go_ret
      exact ⟨rfl, rfl⟩
    · by_cases h8 : 8 ≤ t
      · rw [if_pos (.inr h8)]
        go_enter Tryz.func74, Tryz.ntmps74
        go_wp2
        go_ret
        exact ⟨rfl, rfl⟩
      · rw [if_neg (by omega)]
        go_enter Tryz.func74, Tryz.ntmps74
        go_wp2
        go_ret
        exact ⟨rfl, rfl⟩
theorem refHolder_any (t : Nat) (hn : 0 < n) (hn2 : n ≤ 1000000) (ht : t < 8) (w : World) :
    Calls Tryz.prog 75 #[.slice A n c, .int .i64 (t : Int)] w fun e w' => e = .returned (.int .i64 (strH n t : Int)) ∧ w = w' := by
  have hm : ((t : Int).tmod (n : Int)) = ((t % n : Nat) : Int) := by rw [Int.tmod_eq_emod_of_nonneg (by omega)]; rfl
  have hl : t % n < n := Nat.mod_lt _ hn
  have hne : ¬ ((n : Int) = 0) := by omega
  obtain ⟨q, hq⟩ : ∃ q, q = t % n := ⟨_, rfl⟩
  have e : ((n : Int) - 1 - (q : Int)) = ((strH n t : Nat) : Int) := by unfold strH; omega
  rw [← hq] at hm hl
  rw [← e]
  clear e hq
  go_enter Tryz.func75, Tryz.ntmps75
  go_wp2
  go_ret
  exact ⟨rfl, rfl⟩
theorem pl_built (a b : Int) : Tryz.prog.built 47 [(0, .int .i64 a), (1, .int .i64 b)] = some #[.int .i64 a, .int .i64 b] := by kernel_rfl
set_option maxRecDepth 100000 in
theorem refAt_any {k t : Nat} {p : PlI} (hr : Reads w w.heap.size 2 A n (plsL X)) (hk : X[k]? = some p) (hs : SmallX X) (hn : n ≤ 1000000) (ht : t < 8) :
    Calls Tryz.prog 69 #[.slice A n c, .int .i64 (k : Int), .int .i64 (t : Int)] w fun e w' => e = .returned (.agg (plC (p.1, p.2 + (t : Int))).toArray) ∧ Below w.heap.size w w' := by
  obtain ⟨h1, h2⟩ := hs p (List.mem_of_getElem? hk)
  have hX : X.length = n := by have := hr.1; rw [plsL_length] at this; omega
  have hkn : k < n := by rw [← hX]; exact (List.getElem?_eq_some_iff.1 hk).1
  have hki : (k : Int) < (n : Int) := by omega
  obtain ⟨ad, rfl, hb, c0, c1⟩ := hr.pl_at hk
  clear hk hs hX
  go_enter Tryz.func69, Tryz.ntmps69
  go_wp2_with (first
    | ((with_reducible refine at_slot 6 ?_); refine wpList_alloc_blk rfl 47 rfl _ (pl_zero _) ?_; intro w1 hb1 hl1 hs1))
  have c0d : w1.drew.cell? (ad.add (k * 2)) = some (.int .i64 p.1) := (hl1.cell (by rw [block_of_add]; exact hb)).trans c0
  have c1d : w1.drew.cell? ⟨(ad.add (k * 2)).block, (ad.add (k * 2)).off + 1, none⟩ = some (.int .i64 p.2) := (hl1.cell (p := (ad.add (k * 2)).add 1) (by rw [block_of_add, block_of_add]; exact hb)).trans c1
  clear c0 c1
  refine wp_region_still_tail 13 (by kernel_rfl) (by kernel_rfl) ?_
  change wpStill _ _ w1.drew _ _ _
  simp only [List.take_succ_cons, List.take_zero, List.drop_succ_cons, List.drop_zero]
  have hw : IntKind.i64.wrap (p.2 + (t : Int)) = p.2 + (t : Int) := IntWalk.i64_in _ (by omega)
  iterate 12 still_step
  refine still_build rfl 47 #[(0, .tmp 11), (1, .tmp 18)] rfl [(0, .int .i64 p.1), (1, .int .i64 (p.2 + (t : Int)))] (by simp only [List.map_toArray, List.map_cons, List.map_nil]; rfl) _ (pl_built _ _) ?_
  refine wpStill_nil ?_
  simp only [Act.put, List.setIfInBounds_toArray, List.set_cons_succ, List.set_cons_zero]
  change wpList _ _ _ _ _ w1.drew
  go_wp2_with (first
    | ((with_reducible refine at_store 6 ?_); refine wpList_store_all rfl 47 (.tmp 6) (.tmp 19) rfl w.heap.size 47 _ hb1.drew rfl (plC (p.1, p.2 + (t : Int))) rfl pl_info rfl (plC_one _) ?_; intro w2 hbz hg hs2))
  refine ret_cell_one rfl _ 47 (plC (p.1, p.2 + (t : Int))) _ hbz rfl Tryz.underlying47 rfl pl_info rfl ⟨rfl, ?_⟩
  exact hl1.drew.grown hg (by have := hl1.size; exact this) (fun g e => by injection e with e; omega)
theorem reads_len (hr : Reads w w.heap.size 2 A n (plsL X)) : X.length = n := by have := hr.1; rw [plsL_length] at this; omega
set_option maxRecDepth 100000 in
theorem refPar_no (t : Int) (hn : n ≤ 1000000) (he : strE n t ≠ 0) (w : World) :
    Calls Tryz.prog 33 #[.slice A n c, .int .i64 t] w fun e w' => e = .returned (.tuple #[.agg (plC (0, 0)).toArray, .int .i64 (strE n t : Int)]) ∧ Below w.heap.size w w' := by
  have HE := hide (fun w => refStripe_any (A := A) (c := c) t hn w)
  obtain ⟨q, hq⟩ : ∃ q, q = strE n t := ⟨_, rfl⟩
  rw [← hq] at HE he ⊢
  have hq0 : ¬ ((q : Int) = 0) := by omega
  have HZ := hide (show Tryz.prog.built 47 [] = some #[.int .i64 0, .int .i64 0] by kernel_rfl)
  clear hq he
  go_enter Tryz.func33, Tryz.ntmps33
  go_wp2_with (first
    | ((with_reducible refine at_slot 4 ?_); refine wpList_alloc_blk rfl 47 rfl _ (pl_zero _) ?_; intro w1 hb1 hl1 hs1)
    | (go_at_call 74; refine (HE.out _).mono ?_; rintro _ _ ⟨rfl, rfl⟩)
    | ((with_reducible refine at_slot 12 ?_); refine wpList_build_is rfl 47 #[] rfl [] (by simp) _ HZ.out ?_)
    | ((with_reducible refine at_store 4 ?_); refine wpList_store_all rfl 47 (.tmp 4) (.tmp 12) rfl w.heap.size 47 _ hb1 rfl (plC (0, 0)) rfl pl_info rfl (plC_one _) ?_; intro w2 hbz hg hs2))
  refine ret_cell_tmp rfl _ 47 (plC (0, 0)) _ hbz rfl Tryz.underlying47 rfl pl_info (.int .i64 (q : Int)) rfl rfl ⟨rfl, ?_⟩
  exact hl1.grown hg (by have := hl1.size; exact this) (fun g e => by injection e with e; omega)
set_option maxRecDepth 100000 in
theorem refPar_yes {t : Nat} (hr : Reads w w.heap.size 2 A n (plsL X)) (hs : SmallX X) (hn : n ≤ 1000000) (hn2 : 2 ≤ n) (ht : t < 8) :
    Calls Tryz.prog 33 #[.slice A n c, .int .i64 (t : Int)] w fun e w' => e = .returned (.tuple #[.agg (plC (strP X t)).toArray, .int .i64 0]) ∧ Below w.heap.size w w' := by
  have hX := reads_len hr
  have hE0 : strE n (t : Int) = 0 := by unfold strE; rw [if_neg (by omega), if_neg (by omega)]
  have HE := hide (fun w => refStripe_any (A := A) (c := c) (t : Int) hn w)
  rw [hE0] at HE
  have HH := hide (fun w => refHolder_any (A := A) (c := c) t (by omega : 0 < n) hn ht w)
  have hk : X[strH n t]? = some (X[strH n t]'(by rw [hX]; exact strH_lt (by omega))) := List.getElem?_eq_getElem _
  obtain ⟨p, hp⟩ : ∃ p, p = X[strH n t]'(by rw [hX]; exact strH_lt (by omega)) := ⟨_, rfl⟩
  rw [← hp] at hk
  have hpar : strP X t = (p.1, p.2 + (t : Int)) := strP_is (by rw [hX]; exact hk)
  rw [hpar]
  have HA := hide (fun (w2 : World) (hb : Below w.heap.size w w2) => refAt_any (c := c) (hr.later hb) hk hs hn ht)
  clear hp hpar hE0 hX hk hr
  go_enter Tryz.func33, Tryz.ntmps33
  go_wp2_with (first
    | ((with_reducible refine at_slot 4 ?_); refine wpList_alloc_blk rfl 47 rfl _ (pl_zero _) ?_; intro w1 hb1 hl1 hs1)
    | (go_at_call 74; refine (HE.out _).mono ?_; rintro _ _ ⟨rfl, rfl⟩)
    | (go_at_call 75; refine (HH.out _).mono ?_; rintro _ _ ⟨rfl, rfl⟩)
    | (go_at_call 69; refine (HA.out _ hl1).mono ?_; rintro _ w2 ⟨rfl, hl2⟩; have hb2 := hb1.below hl2 hb1.lt; have hl3 := hl1.trans (hl2.mono hl1.size); clear hb1 hl1)
    | ((with_reducible refine at_store 4 ?_); refine wpList_store_all rfl 47 (.tmp 4) (.tmp 19) rfl w.heap.size 47 _ hb2 rfl (plC (p.1, p.2 + (t : Int))) rfl pl_info rfl (plC_one _) ?_; intro w3 hbz hg hs3))
  refine ret_cell_tmp rfl _ 47 (plC (p.1, p.2 + (t : Int))) _ hbz rfl Tryz.underlying47 rfl pl_info (.int .i64 0) rfl rfl ⟨rfl, ?_⟩
  exact hl3.grown hg (by have := hl3.size; exact this) (fun g e => by injection e with e; omega)
end
end Go.Proofs.YtmjjnbabfldbcaaGreat
namespace Go.Proofs.YtmjjnbabfldbcaaGreat
open Go.RowKit
set_option linter.unusedVariables false
theorem spl_parts : (Tryz.prog.info? 47).map (fun i => (i.zero, i.size, i.bytes)) = some (some (.agg #[.int .i64 0, .int .i64 0]), 2, 16) := by kernel_rfl
theorem wpList_none2 {ops : Array Oper} {rest : List Oper} {o : Oper} {ac : Act} {w : World} {Q : Exit → Act → World → Prop} (hgd : o.guard = none) (ho : o.op = .buildSlice 39 0 #[])
    (h : wpList Tryz.prog ops Q rest (ac.put o.dst (.slice (some ⟨w.heap.size, 0, none⟩) 0 0)) (w.alloc (.cells #[] 47))) : wpList Tryz.prog ops Q (o :: rest) ac w :=
  wpList_plain hgd fun _ hK => by
    have hrun : (Instr.buildSlice 39 0 #[]).run Tryz.prog w = .ok (.slice (some ⟨w.heap.size, 0, none⟩) 0 0) (w.alloc (.cells #[] 47)) := by kernel_rfl
    unfold Oper.wp
    simp [execOp, ho, hrun, Result.andThen]
    exact hK _ _ h
/-- A row of places of the call's own. -/
def PlOwn (w : World) (base : Nat) (A : Option Addr) (n c : Nat) (L : List PlI) : Prop := w.ownsRow base 47 2 (.slice A n c) n (plsL L)
/-- A place behind a row of the call's own. -/
theorem wpList_push2 {ops : Array Oper} {rest : List Oper} {o : Oper} {a : Act} {Q : Exit → Act → World → Prop} {w w0 : World} (hgd : o.guard = none) (s x : Operand) (ho : o.op = .call { callee := .builtin .append, args := #[s, x], argTypes := #[39, 39] })
    (base : Nat) (A : Option Addr) (n c : Nat) (L : List PlI) (p : PlI) (hs : a.eval s = .slice A n c) (hown : PlOwn w0 base A n c L) (hw : w = w0.alloc (.cells (plC p).toArray 47)) (hx : a.eval x = .slice (some ⟨w0.heap.size, 0, none⟩) 1 1) (hn : n ≤ 1000000) (hb : base ≤ w0.heap.size)
    (h : ∀ A' c' w', PlOwn w' base A' (n + 1) c' (L ++ [p]) → Below base w0 w' → wpList Tryz.prog ops Q rest (a.put o.dst (.slice A' (n + 1) c')) w') : wpList Tryz.prog ops Q (o :: rest) a w := by
  obtain ⟨i0, hi0, hz0, hz1, hz2⟩ := info_parts spl_parts
  subst hw
  refine wpList_append_any _ hgd s x 39 ho base 47 i0 _ 2 16 Tryz.underlying39 hi0 hz0 hz1 hz2 rfl (by decide) _ n _ hs (own_later hown ((Below.refl _ _).alloc (Nat.le_refl _) _)) (w0.heap.size + 1) _ 1 1 (plC p) hx (Reads.lump _ (plC p) _ _ 2 (by omega) rfl) (plC_one p) (by simp only [maxLen]; omega) (by omega) (le_alloc hb _) ?_
  intro v' w' ho' hl'
  obtain ⟨A', c', rfl, _, _⟩ := own_shape ho'
  refine h A' c' w' ?_ (((Below.refl _ _).alloc hb _).trans hl')
  unfold PlOwn
  rw [plsL_append]
  exact ho'
theorem wpList_one2 {ops : Array Oper} {rest : List Oper} {o : Oper} {a : Act} {Q : Exit → Act → World → Prop} {w : World} (hgd : o.guard = none) (x : Operand) (ho : o.op = .buildSlice 39 1 #[(0, x)]) (p : PlI) (hx : a.eval x = .agg (plC p).toArray)
    (h : wpList Tryz.prog ops Q rest (a.put o.dst (.slice (some ⟨w.heap.size, 0, none⟩) 1 1)) (w.alloc (.cells (plC p).toArray 47))) : wpList Tryz.prog ops Q (o :: rest) a w := by
  obtain ⟨i0, hi0, hz0, hz1, hz2⟩ := info_parts spl_parts
  exact wpList_build_agg _ hgd x 39 ho 47 i0 _ 2 Tryz.underlying39 hi0 (pl_zero _) hz1 (by decide) (by decide) (plC p).toArray hx rfl h
/-- All but the h-th of the first k. -/
def strT (X : List PlI) (h t k : Nat) : List PlI := (strM (X.take k) t).eraseIdx h
theorem strT_all (X : List PlI) (h t : Nat) : strT X h t X.length = strO X h t := by unfold strT strO; rw [List.take_length]
theorem strT_succ {X : List PlI} {h t k : Nat} {p : PlI} (hk : X[k]? = some p) : strT X h t (k + 1) = if k = h then strT X h t k else strT X h t k ++ [(p.1, p.2 + (t : Int))] := by
  have hlt := (List.getElem?_eq_some_iff.1 hk).1
  have hl : (strM (X.take k) t).length = k := by rw [strM_length, List.length_take]; omega
  have e : strM (X.take (k + 1)) t = strM (X.take k) t ++ [(p.1, p.2 + (t : Int))] := by
    rw [List.take_add_one, hk]
    unfold strM
    rw [List.map_append]
    rfl
  unfold strT
  rw [e]
  split
  · rename_i hh
    subst hh
    rw [List.eraseIdx_append_of_length_le (by omega), hl, Nat.sub_self, List.eraseIdx_of_length_le (l := strM (X.take k) t) (by omega)]
    simp
  · rename_i hh
    rcases Nat.lt_or_ge h k with h1 | h1
    · rw [List.eraseIdx_append_of_lt_length (by omega)]
    · rw [List.eraseIdx_append_of_length_le (by omega), hl, List.eraseIdx_of_length_le (l := strM (X.take k) t) (by omega), List.eraseIdx_of_length_le (by simp; omega)]
theorem strT_le (X : List PlI) (h t k : Nat) : (strT X h t k).length ≤ k := by
  unfold strT
  have := List.length_eraseIdx_le (strM (X.take k) t) h
  rw [strM_length, List.length_take] at this
  omega
section
variable {w : World} {A : Option Addr} {n c : Nat} {X : List PlI}
set_option maxRecDepth 100000 in
theorem refData_no (t : Int) (hn : n ≤ 1000000) (he : strE n t ≠ 0) (w : World) :
    Calls Tryz.prog 64 #[.slice A n c, .int .i64 t] w fun e w' => e = .returned (.tuple #[.slice none 0 0, .int .i64 (strE n t : Int)]) ∧ w = w' := by
  have HE := hide (fun w => refStripe_any (A := A) (c := c) t hn w)
  obtain ⟨q, hq⟩ : ∃ q, q = strE n t := ⟨_, rfl⟩
  rw [← hq] at HE he ⊢
  have hq0 : ¬ ((q : Int) = 0) := by omega
  clear hq he
  go_enter Tryz.func64, Tryz.ntmps64
  go_wp2_with (first
    | (go_at_call 74; refine (HE.out _).mono ?_; rintro _ _ ⟨rfl, rfl⟩))
  go_ret2
  exact ⟨rfl, rfl⟩
set_option maxRecDepth 100000 in
set_option maxHeartbeats 4000000 in
theorem refData_yes {t : Nat} (hr : Reads w w.heap.size 2 A n (plsL X)) (hs : SmallX X) (hn : n ≤ 1000000) (hn2 : 2 ≤ n) (ht : t < 8) :
    Calls Tryz.prog 64 #[.slice A n c, .int .i64 (t : Int)] w fun e w' => ∃ A' c', e = .returned (.tuple #[.slice A' (n - 1) c', .int .i64 0]) ∧ PlOwn w' w.heap.size A' (n - 1) c' (strD X t) ∧ Below w.heap.size w w' := by
  have hX := reads_len hr
  have hE0 : strE n (t : Int) = 0 := by unfold strE; rw [if_neg (by omega), if_neg (by omega)]
  have HE := hide (fun w => refStripe_any (A := A) (c := c) (t : Int) hn w)
  rw [hE0] at HE
  obtain ⟨h, hh⟩ : ∃ h, h = strH n t := ⟨_, rfl⟩
  have hhn : h < n := hh ▸ strH_lt (by omega)
  have HH := hide (fun w => hh ▸ refHolder_any (A := A) (c := c) t (by omega : 0 < n) hn ht w)
  have hlen : (strD X t).length = n - 1 := by rw [strD_length (by omega), hX]
  have hD : strD X t = strT X h t n := by unfold strD; rw [hX, ← hh, ← hX, strT_all]
  rw [hD] at hlen ⊢
  have HA := hide (fun (w2 : World) (hb : Below w.heap.size w w2) (k : Nat) (p : PlI) (hk : X[k]? = some p) => refAt_any (c := c) (hr.later hb) hk hs hn ht)
  have HLN := hide hlen
  have HX := hide hX
  clear hE0 hr hlen hD hh hX
  go_enter Tryz.func64, Tryz.ntmps64
  go_wp2_with (first
    | (go_at_call 74; refine (HE.out _).mono ?_; rintro _ _ ⟨rfl, rfl⟩)
    | ((with_reducible refine at_slot 15 ?_); refine wpList_none2 rfl rfl ?_))
  go_loopw [7, 8] (fun s7 s8 wr => ∃ (k m : Nat) (A1 : Option Addr) (c1 : Nat), k ≤ n ∧ s8 = .int .i64 (k : Int) ∧ s7 = .slice A1 m c1 ∧ Hid ((strT X h t k).length = m) ∧ Hid (PlOwn wr w.heap.size A1 m c1 (strT X h t k)) ∧ Hid (Below w.heap.size w wr)) (fun _ s8 _ => n - (intOf s8).toNat)
  case atStart =>
    refine ⟨0, 0, _, _, Nat.zero_le _, rfl, rfl, hide (by unfold strT strM; simp), hide ?_, hide ((Below.refl _ _).alloc (Nat.le_refl _) _)⟩
    have e : strT X h t 0 = [] := by unfold strT strM; simp
    rw [e]
    exact World.ownsRow_made w #[] 0 (Nat.le_refl _) (Nat.zero_le _) rfl
  case round =>
    obtain ⟨k, m, A1, c1, hk, rfl, rfl, HM, HO, HL⟩ := hrel
    by_cases hkn : k < n
    · have hki : (k : Int) < (n : Int) := by omega
      have hkX : k < X.length := by rw [HX.out]; exact hkn
      obtain ⟨p, hp⟩ : ∃ p, X[k]? = some p := ⟨_, List.getElem?_eq_getElem hkX⟩
      have HS := hide (strT_succ (h := h) (t := t) hp)
      have HP := hide hp
      have hmle := strT_le X h t k
      rw [HM.out] at hmle
      clear hp
      by_cases hkh : k = h
      · have hkh2 : (k : Int) = (h : Int) := by omega
        have HS2 := hide (HS.out.trans (if_pos hkh))
        clear HS
        go_wp2_with (first
          | (go_at_call 75; refine (HH.out _).mono ?_; rintro _ _ ⟨rfl, rfl⟩))
        go_roundw
        case rel => exact ⟨k + 1, m, A1, c1, by omega, by simp; omega, rfl, hide (by rw [HS2.out]; exact HM.out), hide (by rw [HS2.out]; exact HO.out), HL⟩
        case measure => simp [intOf]; omega
      · have hkh2 : ¬ (k : Int) = (h : Int) := by omega
        have HS2 := hide (HS.out.trans (if_neg hkh))
        clear HS
        go_wp2_with (first
          | (go_at_call 75; refine (HH.out _).mono ?_; rintro _ _ ⟨rfl, rfl⟩)
          | (go_at_call 69; refine (HA.out _ HL.out k p HP.out).mono ?_; rintro _ w2 ⟨rfl, hl2⟩; have HL2 := hide (HL.out.trans (hl2.mono HL.out.size)); have HO2 := hide (own_later HO.out hl2); clear hl2)
          | ((with_reducible refine at_slot 32 ?_); refine wpList_one2 rfl (.tmp 31) rfl (p.1, p.2 + (t : Int)) rfl ?_)
          | ((with_reducible refine at_slot 33 ?_); refine wpList_push2 rfl (.tmp 27) (.tmp 32) rfl w.heap.size A1 m c1 (strT X h t k) (p.1, p.2 + (t : Int)) rfl HO2.out rfl rfl (by omega) HL2.out.size ?_; intro A3 c3 w3 ho3 hl3; have HO3 := hide ho3; have HL3 := hide (HL2.out.trans hl3); clear ho3 hl3))
        go_roundw
        case rel => exact ⟨k + 1, m + 1, A3, c3, by omega, by simp, rfl, hide (by rw [HS2.out, List.length_append, HM.out]; rfl), hide (by rw [HS2.out]; exact HO3.out), HL3⟩
        case measure => simp [intOf]; omega
    · obtain rfl : k = n := by omega
      have hki : ¬ (k : Int) < (k : Int) := by omega
      obtain rfl : m = k - 1 := HM.out.symm.trans HLN.out
      go_wp2
      go_ret2
      exact ⟨A1, c1, rfl, HO.out, HL.out⟩
end
end Go.Proofs.YtmjjnbabfldbcaaGreat
namespace Go.Proofs.YtmjjnbabfldbcaaGreat
open Go.RowKit
set_option linter.unusedVariables false
/-- Places behind a row of the call's own. -/
theorem wpList_append2 {ops : Array Oper} {rest : List Oper} {o : Oper} {a : Act} {Q : Exit → Act → World → Prop} {w : World} (hgd : o.guard = none) (s x : Operand) (ho : o.op = .call { callee := .builtin .append, args := #[s, x], argTypes := #[39, 39] })
    (base : Nat) (A : Option Addr) (n c : Nat) (L : List PlI) (hs : a.eval s = .slice A n c) (hown : PlOwn w base A n c L) (B : Nat) (A2 : Option Addr) (m c2 : Nat) (M : List PlI) (hx : a.eval x = .slice A2 m c2) (hr : Reads w B 2 A2 m (plsL M)) (hn : n + m ≤ 10000000) (hb : base ≤ w.heap.size)
    (h : ∀ A' c' w', PlOwn w' base A' (n + m) c' (L ++ M) → Below base w w' → wpList Tryz.prog ops Q rest (a.put o.dst (.slice A' (n + m) c')) w') : wpList Tryz.prog ops Q (o :: rest) a w := by
  obtain ⟨i0, hi0, hz0, hz1, hz2⟩ := info_parts spl_parts
  refine wpList_append_any _ hgd s x 39 ho base 47 i0 _ 2 16 Tryz.underlying39 hi0 hz0 hz1 hz2 rfl (by decide) _ n _ hs hown B A2 m c2 (plsL M) hx hr (fun u hu => ?_) (by simp only [maxLen]; omega) (by omega) hb ?_
  · unfold plsL at hu
    obtain ⟨p, _, hp⟩ := List.mem_flatMap.1 hu
    exact plC_one p u hp
  · intro v' w' ho' hl'
    obtain ⟨A', c', rfl, _, _⟩ := own_shape ho'
    refine h A' c' w' ?_ hl'
    unfold PlOwn
    rw [plsL_append]
    exact ho'
section
variable {w : World} {A : Option Addr} {n c : Nat} {X : List PlI}
set_option maxRecDepth 100000 in
set_option maxHeartbeats 4000000 in
theorem refAll_any (hr : Reads w w.heap.size 2 A n (plsL X)) (hs : SmallX X) (hn : n ≤ 1000) (hn2 : 2 ≤ n) :
    Calls Tryz.prog 73 #[.slice A n c] w fun e w' => ∃ A' c', e = .returned (.slice A' (8 * (n - 1)) c') ∧ PlOwn w' w.heap.size A' (8 * (n - 1)) c' (strA X 8) ∧ Below w.heap.size w w' := by
  have HD := hide (fun (w2 : World) (hb : Below w.heap.size w w2) (t : Nat) (ht : t < 8) => refData_yes (c := c) (t := t) (hr.later hb) hs (by omega) hn2 ht)
  clear hr hs
  go_enter Tryz.func73, Tryz.ntmps73
  go_wp2_with (first
    | ((with_reducible refine at_slot 7 ?_); refine wpList_none2 rfl rfl ?_))
  go_loopw [3, 4] (fun s3 s4 wr => ∃ (t m : Nat) (A1 : Option Addr) (c1 : Nat), t ≤ 8 ∧ s4 = .int .i64 (t : Int) ∧ s3 = .slice A1 m c1 ∧ m = t * (n - 1) ∧ Hid (PlOwn wr w.heap.size A1 m c1 (strA X t)) ∧ Hid (Below w.heap.size w wr)) (fun _ s4 _ => 8 - (intOf s4).toNat)
  case atStart => exact ⟨0, 0, _, _, Nat.zero_le _, rfl, rfl, by omega, hide (World.ownsRow_made w #[] 0 (Nat.le_refl _) (Nat.zero_le _) rfl), hide ((Below.refl _ _).alloc (Nat.le_refl _) _)⟩
  case round =>
    obtain ⟨t, m, A1, c1, ht, rfl, rfl, hm, HO, HL⟩ := hrel
    by_cases ht8 : t < 8
    · have hti : (t : Int) < 8 := by omega
      have hm2 : m + (n - 1) = (t + 1) * (n - 1) := by rw [Nat.succ_mul, hm]
      have hmn : m + (n - 1) ≤ 10000000 := by
        have : (t + 1) * (n - 1) ≤ 8 * 1000 := Nat.mul_le_mul (by omega) (by omega)
        omega
      have HM2 := hide hm2
      have HMN := hide hmn
      clear hm2 hmn hm
      go_wp2_with (first
        | (go_at_call 64; refine (HD.out _ HL.out t ht8).mono ?_; rintro _ w2 ⟨A2, c2, rfl, ho2, hl2⟩; have HR2 := hide (Reads.of_own ho2); have HL2 := hide (HL.out.trans (hl2.mono HL.out.size)); have HO2 := hide (own_later HO.out hl2); clear ho2 hl2)
        | ((with_reducible refine at_slot 20 ?_); refine wpList_append2 rfl (.tmp 18) (.tmp 19) rfl w.heap.size A1 m c1 (strA X t) rfl HO2.out w2.heap.size A2 (n - 1) c2 (strD X t) rfl HR2.out HMN.out HL2.out.size ?_; intro A3 c3 w3 ho3 hl3; have HO3 := hide ho3; have HL3 := hide (HL2.out.trans hl3); clear ho3 hl3))
      go_roundw
      case rel => exact ⟨t + 1, m + (n - 1), A3, c3, by omega, by simp, rfl, HM2.out, HO3, HL3⟩
      case measure => simp [intOf]; omega
    · obtain rfl : t = 8 := by omega
      subst hm
      go_wp2
      go_ret
      exact ⟨A1, c1, rfl, HO.out, HL.out⟩
theorem homeE_in' {n slot : Nat} (hn : ¬ n < 2) (hs : slot < slotsN n) : homeE n (slot : Int) = 0 := by
  unfold homeE
  rw [if_neg hn, if_neg (by omega)]
theorem pl_cells {w : World} {ad : Addr} {p : PlI} (h0 : w.cell? ad = some (.int .i64 p.1)) (h1 : w.cell? (ad.add 1) = some (.int .i64 p.2)) : ∀ (j : Nat) (v : Value), (plC p)[j]? = some v → w.cell? (ad.add j) = some v := by
  intro j v hv
  match j, hv with
  | 0, hv => rw [show ad.add 0 = ad by unfold Addr.add; simp, h0]; exact hv
  | 1, hv => rw [h1]; exact hv
  | j + 2, hv => simp [plC] at hv
def homeR (X : List PlI) (n : Nat) (slot : Int) : PlI := if homeE n slot = 0 then homeP X slot.toNat else (0, 0)
theorem spl_none : Tryz.prog.built 47 [] = some #[.int .i64 0, .int .i64 0] := by kernel_rfl
set_option maxRecDepth 100000 in
theorem refHome_any (slot : Int) (hr : Reads w w.heap.size 2 A n (plsL X)) (hs : SmallX X) (hn : n ≤ 1000) :
    Calls Tryz.prog 32 #[.slice A n c, .int .i64 slot] w fun e w' => e = .returned (.tuple #[.agg (plC (homeR X n slot)).toArray, .int .i64 (homeE n slot : Int)]) ∧ Below w.heap.size w w' := by
  have hX := reads_len hr
  have HZ := hide spl_none
  by_cases hn2 : n < 2
  · have hE : homeE n slot = 1 := by unfold homeE; rw [if_pos hn2]
    have hR : homeR X n slot = (0, 0) := by unfold homeR; rw [hE, if_neg (by decide)]
    rw [hE, hR]
    have hni : (n : Int) < 2 := by omega
    clear hE hR hr hs hX
    go_enter Tryz.func32, Tryz.ntmps32
    go_wp2_with (first
      | ((with_reducible refine at_slot 4 ?_); refine wpList_alloc_blk rfl 47 rfl _ (pl_zero _) ?_; intro w1 hb1 hl1 hs1)
      | ((with_reducible refine at_slot 10 ?_); refine wpList_build_is rfl 47 #[] rfl [] (by simp) _ HZ.out ?_)
      | ((with_reducible refine at_store 4 ?_); refine wpList_store_all rfl 47 (.tmp 4) (.tmp 10) rfl w.heap.size 47 _ hb1 rfl (plC (0, 0)) rfl pl_info rfl (plC_one _) ?_; intro w2 hbz hg hs2))
    refine ret_cell_tmp rfl _ 47 (plC (0, 0)) _ hbz rfl Tryz.underlying47 rfl pl_info (.int .i64 1) rfl rfl ⟨rfl, ?_⟩
    exact hl1.grown hg (by have := hl1.size; exact this) (fun g e => by injection e with e; omega)
  · have hni : ¬ (n : Int) < 2 := by omega
    have HA := hide (fun (w2 : World) (hb : Below w.heap.size w w2) => refAll_any (c := c) (hr.later hb) hs hn (by omega))
    obtain ⟨q, hq⟩ : ∃ q, q = 8 * (n - 1) := ⟨_, rfl⟩
    rw [← hq] at HA
    by_cases hin : slot < 0 ∨ (q : Int) ≤ slot
    · have hE : homeE n slot = 3 := by unfold homeE slotsN; rw [if_neg hn2, ← hq, if_pos hin]
      have hR : homeR X n slot = (0, 0) := by unfold homeR; rw [hE, if_neg (by decide)]
      rw [hE, hR]
      have hov : decide (slot < 0) = true ∨ (decide (slot < 0) = false ∧ (q : Int) ≤ slot) := by
        by_cases h0 : slot < 0
        · exact .inl (decide_eq_true h0)
        · exact .inr ⟨decide_eq_false h0, hin.resolve_left h0⟩
      clear hE hR hr hs hX hq hin
      rcases hov with h0 | ⟨h0, hq0⟩
      · have h00 : slot < 0 := of_decide_eq_true h0
        go_enter Tryz.func32, Tryz.ntmps32
        go_wp2_with (first
          | ((with_reducible refine at_slot 4 ?_); refine wpList_alloc_blk rfl 47 rfl _ (pl_zero _) ?_; intro w1 hb1 hl1 hs1)
          | (go_at_call 73; refine (HA.out _ hl1).mono ?_; rintro _ w2 ⟨A2, c2, rfl, ho2, hl2⟩; have hb2 := hb1.below hl2 hb1.lt; have hl3 := hl1.trans (hl2.mono hl1.size); clear ho2 hl2 hb1 hl1)
          | ((with_reducible refine at_slot 21 ?_); refine wpList_build_is rfl 47 #[] rfl [] (by simp) _ HZ.out ?_)
          | ((with_reducible refine at_store 4 ?_); refine wpList_store_all rfl 47 (.tmp 4) (.tmp 21) rfl w.heap.size 47 _ hb2 rfl (plC (0, 0)) rfl pl_info rfl (plC_one _) ?_; intro w3 hbz hg hs3))
        refine ret_cell_tmp rfl _ 47 (plC (0, 0)) _ hbz rfl Tryz.underlying47 rfl pl_info (.int .i64 3) rfl rfl ⟨rfl, ?_⟩
        exact hl3.grown hg (by have := hl3.size; exact this) (fun g e => by injection e with e; omega)
      · have h00 : ¬ slot < 0 := of_decide_eq_false h0
        go_enter Tryz.func32, Tryz.ntmps32
        go_wp2_with (first
          | ((with_reducible refine at_slot 4 ?_); refine wpList_alloc_blk rfl 47 rfl _ (pl_zero _) ?_; intro w1 hb1 hl1 hs1)
          | (go_at_call 73; refine (HA.out _ hl1).mono ?_; rintro _ w2 ⟨A2, c2, rfl, ho2, hl2⟩; have hb2 := hb1.below hl2 hb1.lt; have hl3 := hl1.trans (hl2.mono hl1.size); clear ho2 hl2 hb1 hl1)
          | ((with_reducible refine at_slot 21 ?_); refine wpList_build_is rfl 47 #[] rfl [] (by simp) _ HZ.out ?_)
          | ((with_reducible refine at_store 4 ?_); refine wpList_store_all rfl 47 (.tmp 4) (.tmp 21) rfl w.heap.size 47 _ hb2 rfl (plC (0, 0)) rfl pl_info rfl (plC_one _) ?_; intro w3 hbz hg hs3))
        refine ret_cell_tmp rfl _ 47 (plC (0, 0)) _ hbz rfl Tryz.underlying47 rfl pl_info (.int .i64 3) rfl rfl ⟨rfl, ?_⟩
        exact hl3.grown hg (by have := hl3.size; exact this) (fun g e => by injection e with e; omega)
    · obtain ⟨s, rfl⟩ : ∃ s : Nat, slot = (s : Int) := ⟨slot.toNat, by omega⟩
      have hsq : s < q := by omega
      have hE : homeE n (s : Int) = 0 := homeE_in' hn2 (by unfold slotsN; omega)
      have hR : homeR X n (s : Int) = homeP X s := by unfold homeR; rw [if_pos hE, Int.toNat_natCast]
      have hat : (strA X 8)[s]? = some (homeP X s) := strA_at (by omega) 8 s (by rw [hX]; omega)
      rw [hE, hR]
      have h0 : ¬ (s : Int) < 0 := by omega
      have hsi : (s : Int) < (q : Int) := by omega
      have hsn : ¬ (q : Int) ≤ (s : Int) := by omega
      generalize homeP X s = p at hat ⊢
      have HAT := hide hat
      clear hE hR hr hs hX hq hin hat
      go_enter Tryz.func32, Tryz.ntmps32
      go_wp2_with (first
        | ((with_reducible refine at_slot 4 ?_); refine wpList_alloc_blk rfl 47 rfl _ (pl_zero _) ?_; intro w1 hb1 hl1 hs1)
        | (go_at_call 73; refine (HA.out _ hl1).mono ?_; rintro _ w2 ⟨A2, c2, rfl, ho2, hl2⟩; have hb2 := hb1.below hl2 hb1.lt; have hl3 := hl1.trans (hl2.mono hl1.size); obtain ⟨ad, rfl, hb, d0, d1⟩ := (Reads.of_own ho2).pl_at HAT.out; clear ho2 hl2 hb1 hl1)
        | ((with_reducible refine at_slot 25 ?_); refine wpList_load_at rfl 47 (.tmp 24) rfl (ad.add (s * 2)) rfl (plC p) _ (pl_cells d0 d1) Tryz.underlying47 rfl pl_info ?_)
        | ((with_reducible refine at_store 4 ?_); refine wpList_store_all rfl 47 (.tmp 4) (.tmp 25) rfl w.heap.size 47 _ hb2 rfl (plC p) rfl pl_info rfl (plC_one _) ?_; intro w3 hbz hg hs3))
      refine ret_cell_tmp rfl _ 47 (plC p) _ hbz rfl Tryz.underlying47 rfl pl_info (.int .i64 0) rfl rfl ⟨rfl, ?_⟩
      exact hl3.grown hg (by have := hl3.size; exact this) (fun g e => by injection e with e; omega)
end
end Go.Proofs.YtmjjnbabfldbcaaGreat
namespace Go.Proofs.YtmjjnbabfldbcaaGreat
open Go.RowKit
set_option linter.unusedVariables false
/-- All but the j-th of the first k. -/
def eT (L : List PlI) (j k : Nat) : List PlI := (L.take k).eraseIdx j
theorem eT_all (L : List PlI) (j : Nat) : eT L j L.length = L.eraseIdx j := by unfold eT; rw [List.take_length]
theorem eT_succ {L : List PlI} {j k : Nat} {p : PlI} (hk : L[k]? = some p) : eT L j (k + 1) = if k = j then eT L j k else eT L j k ++ [p] := by
  have hlt := (List.getElem?_eq_some_iff.1 hk).1
  have hl : (L.take k).length = k := by rw [List.length_take]; omega
  have e : L.take (k + 1) = L.take k ++ [p] := by rw [List.take_add_one, hk]; rfl
  unfold eT
  rw [e]
  split
  · rename_i hh
    subst hh
    rw [List.eraseIdx_append_of_length_le (by omega), hl, Nat.sub_self, List.eraseIdx_of_length_le (l := L.take k) (by omega)]
    simp
  · rename_i hh
    rcases Nat.lt_or_ge j k with h1 | h1
    · rw [List.eraseIdx_append_of_lt_length (by omega)]
    · rw [List.eraseIdx_append_of_length_le (by omega), hl, List.eraseIdx_of_length_le (l := L.take k) (by omega), List.eraseIdx_of_length_le (by simp; omega)]
theorem eT_le (L : List PlI) (j k : Nat) : (eT L j k).length ≤ k := by
  unfold eT
  have := List.length_eraseIdx_le (L.take k) j
  rw [List.length_take] at this
  omega
theorem own_down {w : World} {base base' : Nat} {e : TypeId} {size : Nat} {v : Value} {n : Nat} {xs : List Value} (h : w.ownsRow base e size v n xs) (hb : base' ≤ base) : w.ownsRow base' e size v n xs :=
  ⟨h.1, h.2.imp id (fun ⟨g, cap, cur, e, h1, h2⟩ => ⟨g, cap, cur, e, Nat.le_trans hb h1, h2⟩)⟩
section
variable {w : World} {A : Option Addr} {n c : Nat} {X : List PlI}
set_option maxRecDepth 100000 in
theorem refMates_no (slot : Int) (hr : Reads w w.heap.size 2 A n (plsL X)) (hs : SmallX X) (hn : n ≤ 1000) (he : homeE n slot ≠ 0) :
    Calls Tryz.prog 67 #[.slice A n c, .int .i64 slot] w fun e w' => e = .returned (.tuple #[.slice none 0 0, .int .i64 (homeE n slot : Int)]) ∧ Below w.heap.size w w' := by
  have HH := hide (refHome_any (c := c) slot hr hs hn)
  obtain ⟨q, hq⟩ : ∃ q, q = homeE n slot := ⟨_, rfl⟩
  rw [← hq] at HH he ⊢
  have hq0 : ¬ ((q : Int) = 0) := by omega
  generalize homeR X n slot = p at HH
  clear hq he hr hs
  go_enter Tryz.func67, Tryz.ntmps67
  go_wp2_with (first
    | (go_at_call 32; refine HH.out.mono ?_; rintro _ w1 ⟨rfl, hl1⟩)
    | ((with_reducible refine at_slot 6 ?_); refine wpList_alloc_blk rfl 47 rfl _ (pl_zero _) ?_; intro w2 hb2 hl2 hs2)
    | ((with_reducible refine at_store 6 ?_); refine wpList_store_all rfl 47 (.tmp 6) (.tmp 20) rfl w1.heap.size 47 _ hb2 rfl (plC p) rfl pl_info rfl (plC_one _) ?_; intro w3 hbz hg hs3))
  go_ret2
  exact ⟨rfl, (hl1.trans (hl2.mono hl1.size)).grown hg (by have h1 := hl1.size; have h2 := hl2.size; omega) (fun g e => by injection e with e; have h1 := hl1.size; omega)⟩
set_option maxRecDepth 100000 in
set_option maxHeartbeats 8000000 in
theorem refMates_yes {s : Nat} (hr : Reads w w.heap.size 2 A n (plsL X)) (hs : SmallX X) (hn : n ≤ 1000) (hn2 : 2 ≤ n) (hsl : s < slotsN n) :
    Calls Tryz.prog 67 #[.slice A n c, .int .i64 (s : Int)] w fun e w' => ∃ A' c', e = .returned (.tuple #[.slice A' (n - 1) c', .int .i64 0]) ∧ PlOwn w' w.heap.size A' (n - 1) c' (matesP X s) ∧ Below w.heap.size w w' := by
  have hX := reads_len hr
  have HH := hide (refHome_any (c := c) (s : Int) hr hs hn)
  rw [homeE_in' (by omega) hsl] at HH
  generalize homeR X n (s : Int) = p0 at HH
  obtain ⟨t, ht⟩ : ∃ t, t = s / (n - 1) := ⟨_, rfl⟩
  obtain ⟨j, hj⟩ : ∃ j, j = s % (n - 1) := ⟨_, rfl⟩
  have ht8 : t < 8 := ht ▸ slot_div hn2 hsl
  have hjn : j < n - 1 := hj ▸ Nat.mod_lt _ (by omega)
  have hq1 : (s : Int).tdiv ((n : Int) - 1) = (t : Int) := by
    rw [show (n : Int) - 1 = ((n - 1 : Nat) : Int) by omega, Int.tdiv_eq_ediv_of_nonneg (by omega), ht]; rfl
  have hr1 : (s : Int).tmod ((n : Int) - 1) = (j : Int) := by
    rw [show (n : Int) - 1 = ((n - 1 : Nat) : Int) by omega, Int.tmod_eq_emod_of_nonneg (by omega), hj]; rfl
  have hne1 : ¬ ((n : Int) - 1 = 0) := by omega
  have hM : matesP X s = (strD X t).eraseIdx j ++ [strP X t] := by unfold matesP; rw [hX, ← ht, ← hj]
  have hl : (strD X t).length = n - 1 := by rw [strD_length (by omega), hX]
  rw [hM]
  have HD := hide (fun (w2 : World) (hb : Below w.heap.size w w2) => refData_yes (c := c) (t := t) (hr.later hb) hs (by omega) hn2 ht8)
  have HP := hide (fun (w2 : World) (hb : Below w.heap.size w w2) => refPar_yes (c := c) (t := t) (hr.later hb) hs (by omega) hn2 ht8)
  generalize strD X t = L at HD hl ⊢
  generalize strP X t = pp at HP ⊢
  have HLL := hide hl
  have htb : t ≤ 8 := by omega
  have hsb : (s : Int) ≤ 10000000 := by unfold slotsN at hsl; omega
  clear hM hX hr hs hsl ht hj hl
  go_enter Tryz.func67, Tryz.ntmps67
  go_wp2_with (first
    | (go_at_call 32; refine HH.out.mono ?_; rintro _ w1 ⟨rfl, hl1⟩)
    | ((with_reducible refine at_slot 6 ?_); refine wpList_alloc_blk rfl 47 rfl _ (pl_zero _) ?_; intro w2 hb2 hl2 hs2)
    | ((with_reducible refine at_store 6 ?_); refine wpList_store_all rfl 47 (.tmp 6) (.tmp 20) rfl w1.heap.size 47 _ hb2 rfl (plC p0) rfl pl_info rfl (plC_one _) ?_; intro w3 hbz hg hs3; have HL3 : Hid (Below w.heap.size w w3) := hide ((hl1.trans (hl2.mono hl1.size)).grown hg (by have h1 := hl1.size; have h2 := hl2.size; omega) (fun g e => by injection e with e; have h1 := hl1.size; omega)); clear hb2 hl1 hl2 hs2 hbz hg hs3)
    | (go_at_call 64; refine (HD.out _ HL3.out).mono ?_; rintro _ w4 ⟨A2, c2, rfl, ho4, hl4⟩; have HR4 := hide (Reads.of_own ho4); have HL4 := hide (HL3.out.trans (hl4.mono HL3.out.size)); clear ho4 hl4)
    | ((with_reducible refine at_slot 41 ?_); refine wpList_none2 rfl rfl ?_))
  go_loopw [12, 13] (fun s12 s13 wr => ∃ (k m : Nat) (A1 : Option Addr) (c1 : Nat), k ≤ n - 1 ∧ s13 = .int .i64 (k : Int) ∧ s12 = .slice A1 m c1 ∧ Hid ((eT L j k).length = m) ∧ Hid (PlOwn wr w4.heap.size A1 m c1 (eT L j k)) ∧ Hid (Below w4.heap.size w4 wr)) (fun _ s13 _ => (n - 1) - (intOf s13).toNat)
  case atStart =>
    refine ⟨0, 0, _, _, Nat.zero_le _, rfl, rfl, hide (by unfold eT; simp), hide ?_, hide ((Below.refl _ _).alloc (Nat.le_refl _) _)⟩
    have e : eT L j 0 = [] := by unfold eT; simp
    rw [e]
    exact World.ownsRow_made w4 #[] 0 (Nat.le_refl _) (Nat.zero_le _) rfl
  case round =>
    obtain ⟨k, m, A1, c1, hk, rfl, rfl, HM, HO, HL⟩ := hrel
    have HR := hide (HR4.out.later HL.out)
    by_cases hkn : k < n - 1
    · have hki : (k : Int) < ((n - 1 : Nat) : Int) := by omega
      have hkX : k < L.length := by rw [HLL.out]; exact hkn
      obtain ⟨p, hp⟩ : ∃ p, L[k]? = some p := ⟨_, List.getElem?_eq_getElem hkX⟩
      have HS := hide (eT_succ (j := j) hp)
      have HPK := hide hp
      have hmle := eT_le L j k
      rw [HM.out] at hmle
      clear hp
      by_cases hkh : k = j
      · have hkh2 : (k : Int) = (j : Int) := by omega
        have HS2 := hide (HS.out.trans (if_pos hkh))
        clear HS
        go_wp2
        go_roundw
        case rel => exact ⟨k + 1, m, A1, c1, by omega, by simp; omega, rfl, hide (by rw [HS2.out]; exact HM.out), hide (by rw [HS2.out]; exact HO.out), HL⟩
        case measure => simp [intOf]; omega
      · have hkh2 : ¬ (k : Int) = (j : Int) := by omega
        have HS2 := hide (HS.out.trans (if_neg hkh))
        clear HS
        obtain ⟨ad, hA2, hb, d0, d1⟩ := HR.out.pl_at HPK.out
        subst hA2
        go_wp2_with (first
          | ((with_reducible refine at_slot 55 ?_); refine wpList_load_at rfl 47 (.tmp 54) rfl (ad.add (k * 2)) rfl (plC p) _ (pl_cells d0 d1) Tryz.underlying47 rfl pl_info ?_)
          | ((with_reducible refine at_slot 56 ?_); refine wpList_one2 rfl (.tmp 55) rfl p rfl ?_)
          | ((with_reducible refine at_slot 57 ?_); refine wpList_push2 rfl (.tmp 51) (.tmp 56) rfl w4.heap.size A1 m c1 (eT L j k) p rfl HO.out rfl rfl (by omega) HL.out.size ?_; intro A3 c3 w5 ho3 hl3; have HO3 := hide ho3; have HL5 := hide (HL.out.trans hl3); clear ho3 hl3))
        go_roundw
        case rel => exact ⟨k + 1, m + 1, A3, c3, by omega, by simp, rfl, hide (by rw [HS2.out, List.length_append, HM.out]; rfl), hide (by rw [HS2.out]; exact HO3.out), HL5⟩
        case measure => simp [intOf]; omega
    · obtain rfl : k = n - 1 := by omega
      have hki : ¬ ((n - 1 : Nat) : Int) < ((n - 1 : Nat) : Int) := by omega
      have hE : eT L j (n - 1) = L.eraseIdx j := by rw [← HLL.out]; exact eT_all L j
      have hm1 : m + 1 = n - 1 := by
        have h := HM.out
        rw [hE, List.length_eraseIdx, HLL.out, if_pos hjn] at h
        omega
      rw [hE] at HO
      have HLW := hide (HL4.out.trans (HL.out.mono HL4.out.size))
      have HO0 := hide (own_down HO.out HL4.out.size)
      clear hE HM
      go_wp2_with (first
        | (go_at_call 33; refine (HP.out _ HLW.out).mono ?_; rintro _ w6 ⟨rfl, hl6⟩; have HL6 := hide (HLW.out.trans (hl6.mono HLW.out.size)); have HO6 := hide (own_later HO0.out hl6); clear hl6)
        | ((with_reducible refine at_slot 14 ?_); refine wpList_alloc_blk rfl 47 rfl _ (pl_zero _) ?_; intro w7 hb7 hl7 hs7)
        | ((with_reducible refine at_store 14 ?_); refine wpList_store_all rfl 47 (.tmp 14) (.tmp 62) rfl w6.heap.size 47 _ hb7 rfl (plC pp) rfl pl_info rfl (plC_one _) ?_; intro w8 hbz hg hs8; have hlw : Below w6.heap.size w6 w8 := hl7.grown hg (by omega) (fun g e => by injection e with e; omega); have HO8 := hide (own_later HO6.out hlw); have HL8 := hide (HL6.out.trans (hlw.mono HL6.out.size)); clear hb7 hl7 hs7 hlw hs8 hg)
        | ((with_reducible refine at_slot 65 ?_); refine wpList_load_blk rfl 47 (.tmp 14) rfl w6.heap.size 0 47 _ hbz rfl (plC pp) _ (fun j v hj => by rw [Nat.zero_add]; simpa using hj) Tryz.underlying47 rfl pl_info ?_)
        | ((with_reducible refine at_slot 66 ?_); refine wpList_one2 rfl (.tmp 65) rfl pp rfl ?_)
        | ((with_reducible refine at_slot 67 ?_); refine wpList_push2 rfl (.tmp 64) (.tmp 66) rfl w.heap.size A1 m c1 (L.eraseIdx j) pp rfl HO8.out rfl rfl (by omega) HL8.out.size ?_; intro A3 c3 w9 ho3 hl3; rw [hm1] at ho3 ⊢; have HO9 := hide ho3; have HL9 := hide (HL8.out.trans hl3); clear ho3 hl3))
      go_ret2
      exact ⟨A3, c3, rfl, HO9.out, HL9.out⟩
end
end Go.Proofs.YtmjjnbabfldbcaaGreat
namespace Go.Proofs.YtmjjnbabfldbcaaGreat
open Go.RowKit
set_option linter.unusedVariables false
end Go.Proofs.YtmjjnbabfldbcaaGreat
namespace Go.Proofs.YtmjjnbabfldbcaaGreat
open Go.RowKit
set_option linter.unusedVariables false
theorem xt_zero (w : World) : (zeroValue 64).run Tryz.prog w = .ok (.agg (plC (0, 0)).toArray) w := by kernel_rfl
theorem xt_parts : (Tryz.prog.info? 64).map (fun i => (i.zero, i.size, i.bytes)) = some (some (.agg #[.int .i64 0, .int .i64 0]), 2, 16) := by kernel_rfl
theorem xt_built (a b : Int) : Tryz.prog.built 64 [(0, .int .i64 a), (1, .int .i64 b)] = some #[.int .i64 a, .int .i64 b] := by kernel_rfl
theorem wpList_noneX {ops : Array Oper} {rest : List Oper} {o : Oper} {ac : Act} {w : World} {Q : Exit → Act → World → Prop} (hgd : o.guard = none) (ho : o.op = .buildSlice 22 0 #[])
    (h : wpList Tryz.prog ops Q rest (ac.put o.dst (.slice (some ⟨w.heap.size, 0, none⟩) 0 0)) (w.alloc (.cells #[] 64))) : wpList Tryz.prog ops Q (o :: rest) ac w :=
  wpList_plain hgd fun _ hK => by
    have hrun : (Instr.buildSlice 22 0 #[]).run Tryz.prog w = .ok (.slice (some ⟨w.heap.size, 0, none⟩) 0 0) (w.alloc (.cells #[] 64)) := by kernel_rfl
    unfold Oper.wp
    simp [execOp, ho, hrun, Result.andThen]
    exact hK _ _ h
/-- A row of extents of the call's own. -/
def XtOwn (w : World) (base : Nat) (A : Option Addr) (n c : Nat) (L : List PlI) : Prop := w.ownsRow base 64 2 (.slice A n c) n (plsL L)
theorem wpList_pushX {ops : Array Oper} {rest : List Oper} {o : Oper} {a : Act} {Q : Exit → Act → World → Prop} {w w0 : World} (hgd : o.guard = none) (s x : Operand) (ho : o.op = .call { callee := .builtin .append, args := #[s, x], argTypes := #[22, 22] })
    (base : Nat) (A : Option Addr) (n c : Nat) (L : List PlI) (p : PlI) (hs : a.eval s = .slice A n c) (hown : XtOwn w0 base A n c L) (hw : w = w0.alloc (.cells (plC p).toArray 64)) (hx : a.eval x = .slice (some ⟨w0.heap.size, 0, none⟩) 1 1) (hn : n ≤ 1000000) (hb : base ≤ w0.heap.size)
    (h : ∀ A' c' w', XtOwn w' base A' (n + 1) c' (L ++ [p]) → Below base w0 w' → wpList Tryz.prog ops Q rest (a.put o.dst (.slice A' (n + 1) c')) w') : wpList Tryz.prog ops Q (o :: rest) a w := by
  obtain ⟨i0, hi0, hz0, hz1, hz2⟩ := info_parts xt_parts
  subst hw
  refine wpList_append_any _ hgd s x 22 ho base 64 i0 _ 2 16 Tryz.underlying22 hi0 hz0 hz1 hz2 rfl (by decide) _ n _ hs (own_later hown ((Below.refl _ _).alloc (Nat.le_refl _) _)) (w0.heap.size + 1) _ 1 1 (plC p) hx (Reads.lump _ (plC p) _ _ 2 (by omega) rfl) (plC_one p) (by simp only [maxLen]; omega) (by omega) (le_alloc hb _) ?_
  intro v' w' ho' hl'
  obtain ⟨A', c', rfl, _, _⟩ := own_shape ho'
  refine h A' c' w' ?_ (((Below.refl _ _).alloc hb _).trans hl')
  unfold XtOwn
  rw [plsL_append]
  exact ho'
theorem wpList_oneX {ops : Array Oper} {rest : List Oper} {o : Oper} {a : Act} {Q : Exit → Act → World → Prop} {w : World} (hgd : o.guard = none) (x : Operand) (ho : o.op = .buildSlice 22 1 #[(0, x)]) (p : PlI) (hx : a.eval x = .agg (plC p).toArray)
    (h : wpList Tryz.prog ops Q rest (a.put o.dst (.slice (some ⟨w.heap.size, 0, none⟩) 1 1)) (w.alloc (.cells (plC p).toArray 64))) : wpList Tryz.prog ops Q (o :: rest) a w := by
  obtain ⟨i0, hi0, hz0, hz1, hz2⟩ := info_parts xt_parts
  exact wpList_build_agg _ hgd x 22 ho 64 i0 _ 2 Tryz.underlying22 hi0 (xt_zero _) hz1 (by decide) (by decide) (plC p).toArray hx rfl h
set_option maxRecDepth 100000 in
theorem row_any (n : Nat) (hn : n ≤ 1000) (w : World) :
    Calls Tryz.prog 15 #[.int .i64 (n : Int)] w fun e w' => ∃ A' c', e = .returned (.slice A' n c') ∧ XtOwn w' w.heap.size A' n c' (rowX idN n) ∧ Below w.heap.size w w' := by
  go_enter Tryz.func15, Tryz.ntmps15
  go_wp2
  go_loopw [3, 4] (fun s3 s4 wr => ∃ (k : Nat) (A1 : Option Addr) (c1 : Nat), k ≤ n ∧ s4 = .int .i64 (k : Int) ∧ s3 = .slice A1 k c1 ∧ Hid (XtOwn wr w.heap.size A1 k c1 (rowX idN k)) ∧ Hid (Below w.heap.size w wr)) (fun _ s4 _ => n - (intOf s4).toNat)
  case atStart => exact ⟨0, none, 0, Nat.zero_le _, rfl, rfl, hide (World.ownsRow_nil _ _ _ _), hide (Below.refl _ _)⟩
  case round =>
    obtain ⟨k, A1, c1, hk, rfl, rfl, HO, HL⟩ := hrel
    by_cases hkn : k < n
    · have hki : (k : Int) < (n : Int) := by omega
      have HB := hide (xt_built (k : Int) (k : Int))
      go_wp2_with (first
        | ((with_reducible refine at_slot 13 ?_); refine wpList_build_is rfl 64 #[(0, .tmp 11), (1, .tmp 12)] rfl [(0, .int .i64 (k : Int)), (1, .int .i64 (k : Int))] (by simp only [List.map_toArray, List.map_cons, List.map_nil]; rfl) _ HB.out ?_)
        | ((with_reducible refine at_slot 14 ?_); refine wpList_oneX rfl (.tmp 13) rfl ((k : Int), (k : Int)) rfl ?_)
        | ((with_reducible refine at_slot 15 ?_); refine wpList_pushX rfl (.tmp 10) (.tmp 14) rfl w.heap.size A1 k c1 (rowX idN k) ((k : Int), (k : Int)) rfl HO.out rfl rfl (by omega) HL.out.size ?_; intro A3 c3 w3 ho3 hl3; have HO3 := hide ho3; have HL3 := hide (HL.out.trans hl3); clear ho3 hl3))
      go_roundw
      case rel => exact ⟨k + 1, A3, c3, by omega, by simp, rfl, hide (by rw [rowX_succ]; exact HO3.out), HL3⟩
      case measure => simp [intOf]; omega
    · obtain rfl : k = n := by omega
      have hki : ¬ (k : Int) < (k : Int) := by omega
      go_wp2
      go_ret
      exact ⟨A1, c1, rfl, HO.out, HL.out⟩
theorem maskS (v : Int) : ∃ N : Nat, bits .and .i64 v 1023 = (N : Int) ∧ N ≤ 1023 := by
  have h := i64_mask v 10 (by decide)
  have h2 : bits .and .i64 v 1023 = v % 1024 := h
  exact ⟨(v % 1024).toNat, by rw [h2]; omega, by omega⟩
/-- All sectors' numbers are below 1024. -/
def FewX (X : List PlI) : Prop := ∀ p ∈ X, 0 ≤ p.2 ∧ p.2 ≤ 1023
theorem FewX.small {X : List PlI} (h : FewX X) : SmallX X := fun p hp => ⟨(h p hp).1, by have := (h p hp).2; omega⟩
set_option maxRecDepth 100000 in
set_option maxHeartbeats 4000000 in
theorem few_any {w : World} {A : Option Addr} {n c : Nat} {X : List PlI} (hr : Reads w w.heap.size 2 A n (plsL X)) (hn : n ≤ c) (hc : c ≤ 9223372036854775807) :
    Calls Tryz.prog 8 #[.slice A n c] w fun e w' => ∃ A' m c' F, e = .returned (.slice A' m c') ∧ m ≤ 9 ∧ F.length = m ∧ FewX F ∧ XtOwn w' w.heap.size A' m c' F ∧ Below w.heap.size w w' := by
  have hX := reads_len hr
  have HR := hide hr
  have HX := hide hX
  clear hr hX
  go_enter Tryz.func8, Tryz.ntmps8
  go_wp2_with (first
    | ((with_reducible refine at_slot 5 ?_); refine wpList_noneX rfl rfl ?_))
  go_loopw [3, 4] (fun s3 s4 wr => ∃ (k : Nat) (A1 : Option Addr) (c1 : Nat) (F : List PlI), k ≤ n ∧ k ≤ 9 ∧ s4 = .int .i64 (k : Int) ∧ s3 = .slice A1 k c1 ∧ Hid (F.length = k ∧ FewX F) ∧ Hid (XtOwn wr w.heap.size A1 k c1 F) ∧ Hid (Below w.heap.size w wr)) (fun _ s4 _ => n - (intOf s4).toNat)
  case atStart => exact ⟨0, _, _, [], Nat.zero_le _, Nat.zero_le _, rfl, rfl, hide ⟨rfl, fun p hp => by cases hp⟩, hide (World.ownsRow_made w #[] 0 (Nat.le_refl _) (Nat.zero_le _) rfl), hide ((Below.refl _ _).alloc (Nat.le_refl _) _)⟩
  case round =>
    obtain ⟨k, A1, c1, F, hk, hk9, rfl, rfl, HF, HO, HL⟩ := hrel
    by_cases hkn : k < n
    · have hki : (k : Int) < (n : Int) := by omega
      by_cases h9 : k < 9
      · have h9i : (k : Int) < 9 := by omega
        obtain ⟨p, hp⟩ : ∃ p, X[k]? = some p := ⟨_, List.getElem?_eq_getElem (by rw [HX.out]; exact hkn)⟩
        obtain ⟨ad, rfl, _, c0, c1'⟩ := (HR.out.below HL.out).pl_at hp
        have c0d : wr.drew.cell? (ad.add (k * 2)) = some (.int .i64 p.1) := c0
        have c1d : wr.drew.cell? ⟨(ad.add (k * 2)).block, (ad.add (k * 2)).off + 1, none⟩ = some (.int .i64 p.2) := c1'
        obtain ⟨M, hM, hM2⟩ := maskS p.2
        obtain ⟨i0, hi0, hz0, hz1, hz2⟩ := info_parts xt_parts
        have hbt := xt_built p.1 (M : Int)
        obtain ⟨wa, hwa⟩ : ∃ wa, wa = (wr.alloc (.cells #[.int .i64 p.1, .int .i64 (M : Int)] 64)).drew := ⟨_, rfl⟩
        have hga : Below wr.heap.size wr wa := by rw [hwa]; exact ((Below.refl _ _).alloc (Nat.le_refl _) _).drew
        have hrowa : XtOwn wa w.heap.size A1 k c1 F := own_later HO.out hga
        have hza := hga.size
        have hzr := HL.out.size
        obtain ⟨v', wb, hrun, hown, hgb, _⟩ := run_append_any (P := Tryz.prog) wa w.heap.size 22 22 64 i0 _ 2 16 Tryz.underlying22 hi0 hz0 hz1 hz2 rfl (by decide) _ _ _ hrowa (wr.heap.size + 1) (some ⟨wr.heap.size, 0, none⟩) 1 1 (plC (p.1, (M : Int))) (by rw [hwa]; exact (Reads.lump _ (plC (p.1, (M : Int))) _ _ 2 (by omega) rfl).drew) (plC_one _) (by simp only [maxLen]; omega) (by omega) (by omega)
        have hlb : Below w.heap.size w wb := (HL.out.trans (hga.mono hzr)).grown hgb (by omega) (fun g e => (hrowa.lt g e).1)
        obtain ⟨A3, c3, hv', _, _⟩ := own_shape hown
        have HO3 : Hid (XtOwn wb w.heap.size A3 (k + 1) c3 (F ++ [(p.1, (M : Int))])) := hide (by unfold XtOwn; rw [plsL_append, ← hv']; exact hown)
        have HL3 := hide hlb
        subst hv'
        rw [hwa] at hrun
        clear hown hlb hgb hrowa hga hza hwa hp c0 c1' hi0 hz0 hz1 hz2
        go_wp2
        go_region_law (first
          | (refine step_known rfl (.tmp 16) (.tmp 29) 22 rfl _ _ rfl rfl _ wb hrun ?_))
        all_goals
          go_wp2
          go_roundw
          case rel =>
            refine ⟨k + 1, A3, c3, F ++ [(p.1, (M : Int))], by omega, by omega, by simp, rfl, hide ⟨by rw [List.length_append, HF.out.1]; rfl, fun x hx => ?_⟩, HO3, HL3⟩
            rcases List.mem_append.1 hx with hx | hx
            · exact HF.out.2 x hx
            · rw [List.mem_singleton.1 hx]
              exact ⟨by show (0 : Int) ≤ (M : Int); omega, by show (M : Int) ≤ 1023; omega⟩
          case measure => simp [intOf]; omega
      · have h9i : ¬ (k : Int) < 9 := by omega
        go_wp2
        go_ret
        exact ⟨A1, k, c1, rfl, hk9, F, HF.out.1, HF.out.2, HO.out, HL.out⟩
    · have hki : ¬ (k : Int) < (n : Int) := by omega
      go_wp2
      go_ret
      exact ⟨A1, k, c1, rfl, hk9, F, HF.out.1, HF.out.2, HO.out, HL.out⟩
end Go.Proofs.YtmjjnbabfldbcaaGreat
