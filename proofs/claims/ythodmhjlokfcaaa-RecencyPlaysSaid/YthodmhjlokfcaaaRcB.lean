/- Who was written last: a link is hung and cut; what Drop and Touch answer and leave. -/
import Derived.Test.YthodmhjlokfcaaaRcN
import Derived.Deep.DeepCutAuto
import Derived.Deep.CutBlock
namespace Go.Proofs.Ythodmhjlokfcaaa
open Go.RowKit Go.Maps
set_option linter.unusedVariables false
section
variable {P : Program} {ops : Array Oper} {o : Oper} {a : Act} {w : World} {K : Act → World → Prop} {Q : Exit → Act → World → Prop} {E : Prop}
theorem step_poke (hgd : o.guard = none) (ty : TypeId) (x y : Operand) (ho : o.op = .store ty x y)
    (g off : Nat) (t : TypeId) (cur : Array Value) (h : Blk w g t cur) (hx : a.eval x = .pointer (some ⟨g, off, none⟩)) (v : Value) (hy : a.eval y = v) (h1 : v.oneCell' = true) (hi : (P.info? ty).map (·.size) = some 1) (hl : off < cur.size)
    (hK : ∀ w', Blk w' g t (cur.setIfInBounds off v) → w.grownBy w' (some g) → K (a.put o.dst undef) w') : if Region.wanted o (yielded ops a.tmps) = true then Oper.wp P o a w K Q else E := by
  have hw : Region.wanted o (yielded ops a.tmps) = true := by simp [Region.wanted, hgd]
  obtain ⟨w', hrun, h2, h3, h4⟩ := run_storeVar_poke (P := P) w g off t ty cur h v h1 hi hl
  rw [if_pos hw]
  unfold Oper.wp execOp
  simp only [ho, hx, hy, Instr.storeAt, Instr.sureAddr, Sem.run_bind, Sem.run_pure, Result.andThen_ok, hrun]
  exact hK w' h2 h3
theorem step_boxR (hg : o.guard = none) (ty : TypeId) (x : Operand) (ho : o.op = .box ty x) (v : Value) (hx : a.eval x = v)
    (hK : ∀ w', Blk w' w.heap.size ty v.cells → Below w.heap.size w w' → K (a.put o.dst (.pointer (some ⟨w.heap.size, 0, none⟩))) w') : if Region.wanted o (yielded ops a.tmps) = true then Oper.wp P o a w K Q else E := by
  have hw : Region.wanted o (yielded ops a.tmps) = true := by simp [Region.wanted, hg]
  have hrun : (Instr.box ty v).run P w = .ok (.pointer (some ⟨w.heap.size, 0, none⟩)) (w.alloc (.cells v.cells ty)) := by
    simp [Instr.box, newVar, newRow, Result.andThen, go_sem]
  rw [if_pos hw]
  unfold Oper.wp
  simp [execOp, ho, hx, hrun, Result.andThen]
  exact hK _ (Blk.new _ _ _) ((Below.refl _ _).alloc (Nat.le_refl _) _)
end
theorem step_putI {ops : Array Oper} {o : Oper} {a : Act} {w : World} {K : Act → World → Prop} {Q : Exit → Act → World → Prop} {E : Prop} (hgd : o.guard = none) (m x v : Operand) (t e : TypeId) (hop : o.op = Op.mapUpdate t m x v) (ht : Try.prog.underlying t = some (.map intKey.kt e)) (b : Nat) (f : Int → Option Value) (hm : a.eval m = .map (some b)) (h : MapIs intKey w b f)
    (k : Int) (hk : okI64 k) (val : Value) (hx : a.eval x = .int .i64 k) (hv : a.eval v = val) (ks : List Int) (hks : ks.Nodup) (hkm : ∀ k, k ∈ ks ↔ (f k).isSome = true) (hkl : ks.length < 1073741824)
    (hK : ∀ w', MapIs intKey w' b (upd f k (some val)) → w.grownBy w' (some b) → K (a.put o.dst undef) w') : if Region.wanted o (yielded ops a.tmps) = true then Oper.wp Try.prog o a w K Q else E := by
  have hw : Region.wanted o (yielded ops a.tmps) = true := by simp [Region.wanted, hgd]
  obtain ⟨w', hrun, h1, h2⟩ := h.put ht (k := k) hk val hks hkm hkl
  have hrun2 : (Instr.mapUpdate t (.map (some b)) (.int .i64 k) val).run Try.prog w = .ok () w' := hrun
  rw [if_pos hw]
  unfold Oper.wp
  simp [execOp, hop, hm, hx, hv, hrun2, Result.andThen]
  exact hK w' h1 h2
section
variable {a : Act}
theorem run_load_chain (W : World) (o : Oper) (x : Operand) (ho : o.op = .load 43 x) (m k : Nat) (hc : W.cell? ⟨m, 0, none⟩ = some (.pointer (some ⟨k, 0, none⟩))) (hx : a.eval x = .pointer (some ⟨m, 0, none⟩)) :
    (execOp a.eval o).run Try.prog W = .ok (.value (.agg #[.pointer (some ⟨k, 0, none⟩)])) W := by
  have hcc : ∀ (j : Nat) (v : Value), [Value.pointer (some ⟨k, 0, none⟩)][j]? = some v → W.cell? ((⟨m, 0, none⟩ : Addr).add j) = some v := fun j v hj => by
    cases j with
    | zero => injection hj with hj; rw [← hj]; exact hc
    | succ j => cases hj
  unfold execOp
  simp only [ho, hx, Instr.loadAt, Instr.sureAddr, Sem.run_bind, Sem.run_pure, Result.andThen_ok, run_loadVar_at W ⟨m, 0, none⟩ 43 [.pointer (some ⟨k, 0, none⟩)] _ hcc Try.underlying43 rfl (chain_info _)]
theorem link_built3 (b : Int) (p n : Nat) : Try.prog.built 51 [(0, .int .i64 b), (1, .pointer (some ⟨p, 0, none⟩)), (2, .pointer (some ⟨n, 0, none⟩))] = some (lkC b p n).toArray := by kernel_rfl
theorem run_build_link (W : World) (o : Oper) (x y z : Operand) (ho : o.op = .build 51 #[(0, x), (1, y), (2, z)]) (b : Int) (p n : Nat) (hx : a.eval x = .int .i64 b) (hy : a.eval y = .pointer (some ⟨p, 0, none⟩)) (hz : a.eval z = .pointer (some ⟨n, 0, none⟩)) :
    (execOp a.eval o).run Try.prog W = .ok (.value (.agg (lkC b p n).toArray)) W := by
  have hb : Try.prog.built 51 ((#[(0, x), (1, y), (2, z)] : Array (Nat × Operand)).map fun (i, x) => (i, a.eval x)).toList = some (lkC b p n).toArray := by
    simp [hx, hy, hz, link_built3]
  unfold execOp
  simp only [ho, Sem.run_bind, run_build W 51 _ _ hb, Result.andThen_ok, Sem.run_pure]
end
section
variable {w w' : World} {m k y : Nat} {G A B : List Nat} {nx pv : Nat → Nat} {it : Nat → Int} {f : Int → Option Value} {L : List Int}
set_option maxRecDepth 100000 in
/-- 'l.cut()'. -/
theorem cut_any {x : Nat} (hl : Lks w (k :: (A ++ x :: B)) nx pv it) (hr : Ring k (A ++ x :: B) nx pv) :
    Calls Try.prog 25 #[.pointer (some ⟨x, 0, none⟩)] w fun e w' => e = .returned (.tuple #[]) ∧ Lks w' (k :: (A ++ x :: B)) (upd nx (pv x) (nx x)) (upd pv (nx x) (pv x)) it ∧ Turn (fun i => i ∈ k :: (A ++ B)) w w' := by
  have hmid := hr.mid
  have hxm : x ∈ k :: (A ++ x :: B) := by simp
  have HX := hide (show Blk w.drew x 51 (lkC (it x) (pv x) (nx x)).toArray from hl x hxm)
  have HPV := hide (show pv x ∈ k :: (A ++ x :: B) from hr.pv_mem hxm)
  have HNX := hide (show nx x ∈ k :: (A ++ x :: B) from hr.nx_mem hxm)
  have HL := hide (show Lks w.drew (k :: (A ++ x :: B)) nx pv it from hl)
  have HM := hide hmid
  clear hl hr hmid hxm
  go_enter Try.func25, Try.ntmps25
  refine wp_region_held_drew (S := (fun W => Blk W x 51 (lkC (it x) (pv x) (nx x)).toArray)) (by kernel_rfl) ?_ (fun hHeld => ?_)
  · exact HX.out
  refine heldTake (i := 0) (v := ?_) rfl (by kernel_rfl) (by kernel_rfl) (by kernel_rfl) (fun _ _ _ h => h) (Or.inl ⟨by rfl, ?_⟩) (by assumption) ?_
  rotate_left
  · intro w hSw; (try dsimp only at hSw); go_simp <;> (with_reducible rfl)
  try simp only [Act.put, List.setIfInBounds_toArray, List.set_cons_zero, List.set_cons_succ]
  refine heldTake (i := 1) (v := ?_) rfl (by kernel_rfl) (by kernel_rfl) (by kernel_rfl) (fun _ _ _ h => h) (Or.inl ⟨by rfl, ?_⟩) (by assumption) ?_
  rotate_left
  · intro w hSw; (try dsimp only at hSw); go_simp <;> (with_reducible rfl)
  try simp only [Act.put, List.setIfInBounds_toArray, List.set_cons_zero, List.set_cons_succ]
  refine heldTake (i := 2) (v := ?_) rfl (by kernel_rfl) (by kernel_rfl) (by kernel_rfl) (fun _ _ _ h => h) (Or.inl ⟨by rfl, ?_⟩) (by assumption) ?_
  rotate_left
  · intro w hSw; (try dsimp only at hSw); go_simp <;> (with_reducible rfl)
  try simp only [Act.put, List.setIfInBounds_toArray, List.set_cons_zero, List.set_cons_succ]
  refine heldTake (i := 3) (v := .pointer (some ⟨pv x, 0, none⟩)) rfl (by kernel_rfl) (by kernel_rfl) (by kernel_rfl) (fun _ _ _ h => h) (Or.inl ⟨by rfl, fun W hW => ?_⟩) (by assumption) ?_
  · dsimp only at hW
    have hc2 : W.cell? ⟨x, 1, none⟩ = some (.pointer (some ⟨pv x, 0, none⟩)) := hW.cell 1
    go_simp <;> rfl
  try simp only [Act.put, List.setIfInBounds_toArray, List.set_cons_zero, List.set_cons_succ]
  refine heldTake (i := 4) (v := ?_) rfl (by kernel_rfl) (by kernel_rfl) (by kernel_rfl) (fun _ _ _ h => h) (Or.inl ⟨by rfl, ?_⟩) (by assumption) ?_
  rotate_left
  · intro w hSw; (try dsimp only at hSw); go_simp <;> (with_reducible rfl)
  try simp only [Act.put, List.setIfInBounds_toArray, List.set_cons_zero, List.set_cons_succ]
  refine heldTake (i := 5) (v := ?_) rfl (by kernel_rfl) (by kernel_rfl) (by kernel_rfl) (fun _ _ _ h => h) (Or.inl ⟨by rfl, ?_⟩) (by assumption) ?_
  rotate_left
  · intro w hSw; (try dsimp only at hSw); go_simp <;> (with_reducible rfl)
  try simp only [Act.put, List.setIfInBounds_toArray, List.set_cons_zero, List.set_cons_succ]
  refine heldTake (i := 6) (v := ?_) rfl (by kernel_rfl) (by kernel_rfl) (by kernel_rfl) (fun _ _ _ h => h) (Or.inl ⟨by rfl, ?_⟩) (by assumption) ?_
  rotate_left
  · intro w hSw; (try dsimp only at hSw); go_simp <;> (with_reducible rfl)
  try simp only [Act.put, List.setIfInBounds_toArray, List.set_cons_zero, List.set_cons_succ]
  refine heldTake (i := 7) (v := .pointer (some ⟨nx x, 0, none⟩)) rfl (by kernel_rfl) (by kernel_rfl) (by kernel_rfl) (fun _ _ _ h => h) (Or.inl ⟨by rfl, fun W hW => ?_⟩) (by assumption) ?_
  · dsimp only at hW
    have hc2 : W.cell? ⟨x, 2, none⟩ = some (.pointer (some ⟨nx x, 0, none⟩)) := hW.cell 2
    go_simp <;> rfl
  try simp only [Act.put, List.setIfInBounds_toArray, List.set_cons_zero, List.set_cons_succ]
  refine heldTake (i := 8) (v := ?_) rfl (by kernel_rfl) (by kernel_rfl) (by kernel_rfl) (fun _ _ _ h => h) (Or.inl ⟨by rfl, ?_⟩) (by assumption) ?_
  rotate_left
  · intro w hSw; (try dsimp only at hSw); go_simp <;> (with_reducible rfl)
  try simp only [Act.put, List.setIfInBounds_toArray, List.set_cons_zero, List.set_cons_succ]
  refine heldTake (i := 9) (v := ?_) rfl (by kernel_rfl) (by kernel_rfl) (by kernel_rfl) (fun _ _ _ h => h) (Or.inl ⟨by rfl, ?_⟩) (by assumption) ?_
  rotate_left
  · intro w hSw; (try dsimp only at hSw); go_simp <;> (with_reducible rfl)
  try simp only [Act.put, List.setIfInBounds_toArray, List.set_cons_zero, List.set_cons_succ]
  refine heldTake (i := 10) (v := ?_) rfl (by kernel_rfl) (by kernel_rfl) (by kernel_rfl) (fun _ _ _ h => h) (Or.inl ⟨by rfl, ?_⟩) (by assumption) ?_
  rotate_left
  · intro w hSw; (try dsimp only at hSw); go_simp <;> (with_reducible rfl)
  try simp only [Act.put, List.setIfInBounds_toArray, List.set_cons_zero, List.set_cons_succ]
  refine heldTake (i := 11) (v := .pointer (some ⟨nx x, 0, none⟩)) rfl (by kernel_rfl) (by kernel_rfl) (by kernel_rfl) (fun _ _ _ h => h) (Or.inl ⟨by rfl, fun W hW => ?_⟩) (by assumption) ?_
  · dsimp only at hW
    have hc2 : W.cell? ⟨x, 2, none⟩ = some (.pointer (some ⟨nx x, 0, none⟩)) := hW.cell 2
    go_simp <;> rfl
  try simp only [Act.put, List.setIfInBounds_toArray, List.set_cons_zero, List.set_cons_succ]
  refine heldTake (i := 12) (v := ?_) rfl (by kernel_rfl) (by kernel_rfl) (by kernel_rfl) (fun _ _ _ h => h) (Or.inl ⟨by rfl, ?_⟩) (by assumption) ?_
  rotate_left
  · intro w hSw; (try dsimp only at hSw); go_simp <;> (with_reducible rfl)
  try simp only [Act.put, List.setIfInBounds_toArray, List.set_cons_zero, List.set_cons_succ]
  refine heldTake (i := 13) (v := ?_) rfl (by kernel_rfl) (by kernel_rfl) (by kernel_rfl) (fun _ _ _ h => h) (Or.inl ⟨by rfl, ?_⟩) (by assumption) ?_
  rotate_left
  · intro w hSw; (try dsimp only at hSw); go_simp <;> (with_reducible rfl)
  try simp only [Act.put, List.setIfInBounds_toArray, List.set_cons_zero, List.set_cons_succ]
  refine heldTake (i := 14) (v := ?_) rfl (by kernel_rfl) (by kernel_rfl) (by kernel_rfl) (fun _ _ _ h => h) (Or.inl ⟨by rfl, ?_⟩) (by assumption) ?_
  rotate_left
  · intro w hSw; (try dsimp only at hSw); go_simp <;> (with_reducible rfl)
  try simp only [Act.put, List.setIfInBounds_toArray, List.set_cons_zero, List.set_cons_succ]
  refine heldTake (i := 15) (v := .pointer (some ⟨pv x, 0, none⟩)) rfl (by kernel_rfl) (by kernel_rfl) (by kernel_rfl) (fun _ _ _ h => h) (Or.inl ⟨by rfl, fun W hW => ?_⟩) (by assumption) ?_
  · dsimp only at hW
    have hc2 : W.cell? ⟨x, 1, none⟩ = some (.pointer (some ⟨pv x, 0, none⟩)) := hW.cell 1
    go_simp <;> rfl
  try simp only [Act.put, List.setIfInBounds_toArray, List.set_cons_zero, List.set_cons_succ]
  refine heldTake (i := 16) (v := ?_) rfl (by kernel_rfl) (by kernel_rfl) (by kernel_rfl) (fun _ _ _ h => h) (Or.inl ⟨by rfl, ?_⟩) (by assumption) ?_
  rotate_left
  · intro w hSw; (try dsimp only at hSw); go_simp <;> (with_reducible rfl)
  try simp only [Act.put, List.setIfInBounds_toArray, List.set_cons_zero, List.set_cons_succ]
  refine heldTake (i := 17) (v := ?_) rfl (by kernel_rfl) (by kernel_rfl) (by kernel_rfl) (fun _ _ _ h => h) (Or.inl ⟨by rfl, ?_⟩) (by assumption) ?_
  rotate_left
  · intro w hSw; (try dsimp only at hSw); go_simp <;> (with_reducible rfl)
  try simp only [Act.put, List.setIfInBounds_toArray, List.set_cons_zero, List.set_cons_succ]
  refine wpAnyH_ready (rs := [18]) (by kernel_rfl) (by simp) ?_
  refine heldCons (i := 18) rfl (fun Kq hKq => ?_) AllReadyH.nil
  refine step_poke rfl 41 (.tmp 19) (.tmp 13) rfl (pv x) 2 51 _ (HL.out (pv x) HPV.out) rfl (.pointer (some ⟨nx x, 0, none⟩)) rfl rfl ptr_info (by show 2 < 3; decide) ?_
  intro w1 hb1 hg1
  have HL1 := hide (HL.out.newer hb1 hg1)
  have HX1 := hide (HX.out.grown hg1 (fun e => by injection e with e; exact HM.out.1 e.symm))
  have HT1 := hide (show Turn (fun i => i ∈ k :: (A ++ B)) w w1 from ((Turn.refl _ w).drew).grown hg1 (fun g e => by injection e with e; subst e; exact .inl HM.out.2.2.1))
  clear hb1 hg1
  first | (refine hKq.out _ _ HX1.out (fun hHeld => ?_)) | (go_wp2_with fail; refine hKq.out _ _ HX1.out (fun hHeld => ?_))
  clear hKq Kq
  try simp only [Act.put]
  refine heldTake (i := 19) (v := ?_) rfl (by kernel_rfl) (by kernel_rfl) (by kernel_rfl) (fun _ _ _ h => h) (Or.inl ⟨by rfl, ?_⟩) (by assumption) ?_
  rotate_left
  · intro w hSw; (try dsimp only at hSw); go_simp <;> (with_reducible rfl)
  try simp only [Act.put, List.setIfInBounds_toArray, List.set_cons_zero, List.set_cons_succ]
  refine heldTake (i := 20) (v := ?_) rfl (by kernel_rfl) (by kernel_rfl) (by kernel_rfl) (fun _ _ _ h => h) (Or.inl ⟨by rfl, ?_⟩) (by assumption) ?_
  rotate_left
  · intro w hSw; (try dsimp only at hSw); go_simp <;> (with_reducible rfl)
  try simp only [Act.put, List.setIfInBounds_toArray, List.set_cons_zero, List.set_cons_succ]
  refine wpAnyH_ready (rs := [21]) (by kernel_rfl) (by simp) ?_
  refine heldCons (i := 21) rfl (fun Kq hKq => ?_) AllReadyH.nil
  refine step_poke rfl 41 (.tmp 21) (.tmp 17) rfl (nx x) 1 51 _ (HL1.out (nx x) HNX.out) rfl (.pointer (some ⟨pv x, 0, none⟩)) rfl rfl ptr_info (by show 1 < 3; decide) ?_
  intro w2 hb2 hg2
  have HL2 := hide (HL1.out.older hb2 hg2)
  have HX2 := hide (HX1.out.grown hg2 (fun e => by injection e with e; exact HM.out.2.1 e.symm))
  have HT2 := hide (HT1.out.grown hg2 (fun g e => by injection e with e; subst e; exact .inl HM.out.2.2.2.1))
  clear hb2 hg2
  first | (refine hKq.out _ _ HX2.out (fun hHeld => ?_)) | (go_wp2_with fail; refine hKq.out _ _ HX2.out (fun hHeld => ?_))
  clear hKq Kq
  try simp only [Act.put]
  refine wpAnyH_done (by kernel_rfl) ?_ _
  try go_wp2_with fail
  go_end0
  exact ⟨rfl, HL2.out, HT2.out⟩
set_option maxRecDepth 100000 in
/-- 'c.hang(item)'. -/
theorem hang_any (hl : Lks w (k :: G) nx pv it) (hr : Ring k G nx pv) (b : Int) :
    Calls Try.prog 27 #[.agg #[.pointer (some ⟨k, 0, none⟩)], .int .i64 b] w fun e w' => ∃ l, e = .returned (.pointer (some ⟨l, 0, none⟩)) ∧ w.heap.size ≤ l ∧ l < w'.heap.size ∧ Lks w' (k :: (G ++ [l])) (upd (upd nx l k) (pv k) l) (upd (upd pv l (pv k)) k l) (upd it l b) ∧ Turn (fun i => i ∈ k :: G) w w' := by
  have HL := hide hl
  have HPV := hide (show pv k ∈ k :: G from hr.pv_mem (List.mem_cons_self ..))
  clear hl hr
  go_enter Try.func27, Try.ntmps27
  go_upto_region 1 with (first
    | ((with_reducible refine at_slot 2 ?_); refine wpList_box_blk rfl 43 _ rfl (.agg #[.pointer (some ⟨k, 0, none⟩)]) rfl ?_; intro w1 hb1 hl1 hs1; clear hs1; have hc1 : Blk w1 w.heap.size 43 #[.pointer (some ⟨k, 0, none⟩)] := hb1; have HC1 := hide hc1; have HB1 := hide hl1; have hz1 := hl1.size; clear hb1 hl1 hc1))
  have HLK := hide (show Blk w1.drew k 51 (lkC (it k) (pv k) (nx k)).toArray from (HL.out.later HB1.out) k (List.mem_cons_self ..))
  refine wp_region_held_drew (S := (fun W => Blk W w.heap.size 43 #[.pointer (some ⟨k, 0, none⟩)] ∧ Blk W k 51 (lkC (it k) (pv k) (nx k)).toArray ∧ Below w.heap.size w W)) (by kernel_rfl) ?_ (fun hHeld => ?_)
  · exact ⟨HC1.out, HLK.out, HB1.out.drew⟩
  refine heldTake (i := 0) (v := ?_) rfl (by kernel_rfl) (by kernel_rfl) (by kernel_rfl) (fun _ _ _ h => h) (Or.inl ⟨by rfl, ?_⟩) (by assumption) ?_
  rotate_left
  · intro w hSw; (try dsimp only at hSw); go_simp <;> (with_reducible rfl)
  try simp only [Act.put, List.setIfInBounds_toArray, List.set_cons_zero, List.set_cons_succ]
  refine heldTake (i := 1) (v := ?_) rfl (by kernel_rfl) (by kernel_rfl) (by kernel_rfl) (fun _ _ _ h => h) (Or.inl ⟨by rfl, ?_⟩) (by assumption) ?_
  rotate_left
  · intro w hSw; (try dsimp only at hSw); go_simp <;> (with_reducible rfl)
  try simp only [Act.put, List.setIfInBounds_toArray, List.set_cons_zero, List.set_cons_succ]
  refine heldTake (i := 2) (v := .pointer (some ⟨k, 0, none⟩)) rfl (by kernel_rfl) (by kernel_rfl) (by kernel_rfl) (fun _ _ _ h => h) (Or.inl ⟨by rfl, fun W hW => ?_⟩) (by assumption) ?_
  · dsimp only at hW
    have hc2 : W.cell? ⟨w.heap.size, 0, none⟩ = some (.pointer (some ⟨k, 0, none⟩)) := hW.1.cell 0
    go_simp <;> rfl
  try simp only [Act.put, List.setIfInBounds_toArray, List.set_cons_zero, List.set_cons_succ]
  refine heldTake (i := 3) (v := ?_) rfl (by kernel_rfl) (by kernel_rfl) (by kernel_rfl) (fun _ _ _ h => h) (Or.inl ⟨by rfl, ?_⟩) (by assumption) ?_
  rotate_left
  · intro w hSw; (try dsimp only at hSw); go_simp <;> (with_reducible rfl)
  try simp only [Act.put, List.setIfInBounds_toArray, List.set_cons_zero, List.set_cons_succ]
  refine heldTake (i := 4) (v := ?_) rfl (by kernel_rfl) (by kernel_rfl) (by kernel_rfl) (fun _ _ _ h => h) (Or.inl ⟨by rfl, ?_⟩) (by assumption) ?_
  rotate_left
  · intro w hSw; (try dsimp only at hSw); go_simp <;> (with_reducible rfl)
  try simp only [Act.put, List.setIfInBounds_toArray, List.set_cons_zero, List.set_cons_succ]
  refine heldTake (i := 5) (v := .pointer (some ⟨pv k, 0, none⟩)) rfl (by kernel_rfl) (by kernel_rfl) (by kernel_rfl) (fun _ _ _ h => h) (Or.inl ⟨by rfl, fun W hW => ?_⟩) (by assumption) ?_
  · dsimp only at hW
    have hc2 : W.cell? ⟨k, 1, none⟩ = some (.pointer (some ⟨pv k, 0, none⟩)) := hW.2.1.cell 1
    go_simp <;> rfl
  try simp only [Act.put, List.setIfInBounds_toArray, List.set_cons_zero, List.set_cons_succ]
  refine heldTake (i := 6) (v := ?_) rfl (by kernel_rfl) (by kernel_rfl) (by kernel_rfl) (fun _ _ _ h => h) (Or.inl ⟨by rfl, ?_⟩) (by assumption) ?_
  rotate_left
  · intro w hSw; (try dsimp only at hSw); go_simp <;> (with_reducible rfl)
  try simp only [Act.put, List.setIfInBounds_toArray, List.set_cons_zero, List.set_cons_succ]
  refine heldTake (i := 7) (v := .pointer (some ⟨k, 0, none⟩)) rfl (by kernel_rfl) (by kernel_rfl) (by kernel_rfl) (fun _ _ _ h => h) (Or.inl ⟨by rfl, fun W hW => ?_⟩) (by assumption) ?_
  · dsimp only at hW
    have hc2 : W.cell? ⟨w.heap.size, 0, none⟩ = some (.pointer (some ⟨k, 0, none⟩)) := hW.1.cell 0
    go_simp <;> rfl
  try simp only [Act.put, List.setIfInBounds_toArray, List.set_cons_zero, List.set_cons_succ]
  refine heldTake (i := 8) (v := .agg (lkC b (pv k) k).toArray) rfl (by kernel_rfl) (by kernel_rfl) (by kernel_rfl) (fun _ _ _ h => h) (Or.inl ⟨by rfl, fun W hW => ?_⟩) (by assumption) ?_
  · dsimp only at hW
    exact run_build_link W _ (.tmp 6) (.tmp 11) (.tmp 13) rfl b (pv k) k rfl rfl rfl
  try simp only [Act.put, List.setIfInBounds_toArray, List.set_cons_zero, List.set_cons_succ]
  refine wpAnyH_ready (rs := [9]) (by kernel_rfl) (by simp) ?_
  refine heldCons (i := 9) rfl (fun Kq hKq => ?_) AllReadyH.nil
  refine step_boxR rfl 51 (.tmp 14) rfl (.agg (lkC b (pv k) k).toArray) rfl ?_
  intro w2 hb2 hl2
  have hz : w1.drew.heap.size = w1.heap.size := rfl
  rw [hz] at hb2 hl2 ⊢
  have HN := hide (show Blk w2 w1.heap.size 51 (lkC b (pv k) k).toArray from hb2)
  have HB2 := hide (show Below w.heap.size w w2 from HB1.out.trans (Below.mono (show Below w1.heap.size w1 w2 from ⟨hl2.os, hl2.tape, hl2.output, hl2.size, hl2.block⟩) hz1))
  have HC2 := hide (HC1.out.drew.below hl2 HC1.out.lt)
  have HK2 := hide (HLK.out.below hl2 HLK.out.lt)
  clear hb2 hl2
  first | (refine hKq.out _ _ ⟨HC2.out, HK2.out, HB2.out⟩ (fun hHeld => ?_)) | (go_wp2_with fail; refine hKq.out _ _ ⟨HC2.out, HK2.out, HB2.out⟩ (fun hHeld => ?_))
  clear hKq Kq
  try simp only [Act.put, List.setIfInBounds_toArray, List.set_cons_zero, List.set_cons_succ]
  refine heldTake (i := 10) (v := ?_) rfl (by kernel_rfl) (by kernel_rfl) (by kernel_rfl) (fun _ _ _ h => h) (Or.inl ⟨by rfl, ?_⟩) (by assumption) ?_
  rotate_left
  · intro w hSw; (try dsimp only at hSw); go_simp <;> (with_reducible rfl)
  try simp only [Act.put, List.setIfInBounds_toArray, List.set_cons_zero, List.set_cons_succ]
  refine wpAnyH_done (by kernel_rfl) ?_ _
  obtain ⟨l, hlz⟩ : ∃ l, w1.heap.size = l := ⟨_, rfl⟩
  rw [hlz] at HN
  have hlw : w.heap.size ≤ l := by omega
  have hlk : ∀ x ∈ k :: G, x ≠ l := fun x hx => by have := HL.out.lt hx; omega
  have HL3 : Hid (Lks w2.drew (k :: (G ++ [l])) (upd nx l k) (upd pv l (pv k)) (upd it l b)) := hide (fun x hx => by
    rw [show k :: (G ++ [l]) = (k :: G) ++ [l] from rfl, List.mem_append, List.mem_singleton] at hx
    rcases hx with hx | rfl
    · rw [upd_ne _ _ (hlk x hx), upd_ne _ _ (hlk x hx), upd_ne _ _ (hlk x hx)]
      exact (HL.out.later HB2.out) x hx
    · rw [upd_self, upd_self, upd_self]
      exact HN.out)
  have HLL := hide hlk
  clear hlk
  have HPL := hide (show pv k ∈ k :: (G ++ [l]) from by rw [show k :: (G ++ [l]) = (k :: G) ++ [l] from rfl, List.mem_append]; exact .inl HPV.out)
  try rw [hlz]
  go_upto_region 2 with fail
  refine wp_region_held_drew (S := (fun W => Blk W l 51 (lkC b (pv k) k).toArray)) (by kernel_rfl) ?_ (fun hHeld => ?_)
  · exact HN.out
  refine heldTake (i := 0) (v := ?_) rfl (by kernel_rfl) (by kernel_rfl) (by kernel_rfl) (fun _ _ _ h => h) (Or.inl ⟨by rfl, ?_⟩) (by assumption) ?_
  rotate_left
  · intro w hSw; (try dsimp only at hSw); go_simp <;> (with_reducible rfl)
  try simp only [Act.put, List.setIfInBounds_toArray, List.set_cons_zero, List.set_cons_succ]
  refine heldTake (i := 1) (v := ?_) rfl (by kernel_rfl) (by kernel_rfl) (by kernel_rfl) (fun _ _ _ h => h) (Or.inl ⟨by rfl, ?_⟩) (by assumption) ?_
  rotate_left
  · intro w hSw; (try dsimp only at hSw); go_simp <;> (with_reducible rfl)
  try simp only [Act.put, List.setIfInBounds_toArray, List.set_cons_zero, List.set_cons_succ]
  refine heldTake (i := 2) (v := ?_) rfl (by kernel_rfl) (by kernel_rfl) (by kernel_rfl) (fun _ _ _ h => h) (Or.inl ⟨by rfl, ?_⟩) (by assumption) ?_
  rotate_left
  · intro w hSw; (try dsimp only at hSw); go_simp <;> (with_reducible rfl)
  try simp only [Act.put, List.setIfInBounds_toArray, List.set_cons_zero, List.set_cons_succ]
  refine heldTake (i := 3) (v := .pointer (some ⟨pv k, 0, none⟩)) rfl (by kernel_rfl) (by kernel_rfl) (by kernel_rfl) (fun _ _ _ h => h) (Or.inl ⟨by rfl, fun W hW => ?_⟩) (by assumption) ?_
  · dsimp only at hW
    have hc2 : W.cell? ⟨l, 1, none⟩ = some (.pointer (some ⟨pv k, 0, none⟩)) := hW.cell 1
    go_simp <;> rfl
  try simp only [Act.put, List.setIfInBounds_toArray, List.set_cons_zero, List.set_cons_succ]
  refine heldTake (i := 4) (v := ?_) rfl (by kernel_rfl) (by kernel_rfl) (by kernel_rfl) (fun _ _ _ h => h) (Or.inl ⟨by rfl, ?_⟩) (by assumption) ?_
  rotate_left
  · intro w hSw; (try dsimp only at hSw); go_simp <;> (with_reducible rfl)
  try simp only [Act.put, List.setIfInBounds_toArray, List.set_cons_zero, List.set_cons_succ]
  refine heldTake (i := 5) (v := ?_) rfl (by kernel_rfl) (by kernel_rfl) (by kernel_rfl) (fun _ _ _ h => h) (Or.inl ⟨by rfl, ?_⟩) (by assumption) ?_
  rotate_left
  · intro w hSw; (try dsimp only at hSw); go_simp <;> (with_reducible rfl)
  try simp only [Act.put, List.setIfInBounds_toArray, List.set_cons_zero, List.set_cons_succ]
  refine heldTake (i := 6) (v := ?_) rfl (by kernel_rfl) (by kernel_rfl) (by kernel_rfl) (fun _ _ _ h => h) (Or.inl ⟨by rfl, ?_⟩) (by assumption) ?_
  rotate_left
  · intro w hSw; (try dsimp only at hSw); go_simp <;> (with_reducible rfl)
  try simp only [Act.put, List.setIfInBounds_toArray, List.set_cons_zero, List.set_cons_succ]
  refine heldTake (i := 7) (v := .pointer (some ⟨k, 0, none⟩)) rfl (by kernel_rfl) (by kernel_rfl) (by kernel_rfl) (fun _ _ _ h => h) (Or.inl ⟨by rfl, fun W hW => ?_⟩) (by assumption) ?_
  · dsimp only at hW
    have hc2 : W.cell? ⟨l, 2, none⟩ = some (.pointer (some ⟨k, 0, none⟩)) := hW.cell 2
    go_simp <;> rfl
  try simp only [Act.put, List.setIfInBounds_toArray, List.set_cons_zero, List.set_cons_succ]
  refine heldTake (i := 8) (v := ?_) rfl (by kernel_rfl) (by kernel_rfl) (by kernel_rfl) (fun _ _ _ h => h) (Or.inl ⟨by rfl, ?_⟩) (by assumption) ?_
  rotate_left
  · intro w hSw; (try dsimp only at hSw); go_simp <;> (with_reducible rfl)
  try simp only [Act.put, List.setIfInBounds_toArray, List.set_cons_zero, List.set_cons_succ]
  refine heldTake (i := 9) (v := ?_) rfl (by kernel_rfl) (by kernel_rfl) (by kernel_rfl) (fun _ _ _ h => h) (Or.inl ⟨by rfl, ?_⟩) (by assumption) ?_
  rotate_left
  · intro w hSw; (try dsimp only at hSw); go_simp <;> (with_reducible rfl)
  try simp only [Act.put, List.setIfInBounds_toArray, List.set_cons_zero, List.set_cons_succ]
  refine heldTake (i := 10) (v := ?_) rfl (by kernel_rfl) (by kernel_rfl) (by kernel_rfl) (fun _ _ _ h => h) (Or.inl ⟨by rfl, ?_⟩) (by assumption) ?_
  rotate_left
  · intro w hSw; (try dsimp only at hSw); go_simp <;> (with_reducible rfl)
  try simp only [Act.put, List.setIfInBounds_toArray, List.set_cons_zero, List.set_cons_succ]
  refine heldTake (i := 11) (v := ?_) rfl (by kernel_rfl) (by kernel_rfl) (by kernel_rfl) (fun _ _ _ h => h) (Or.inl ⟨by rfl, ?_⟩) (by assumption) ?_
  rotate_left
  · intro w hSw; (try dsimp only at hSw); go_simp <;> (with_reducible rfl)
  try simp only [Act.put, List.setIfInBounds_toArray, List.set_cons_zero, List.set_cons_succ]
  refine wpAnyH_ready (rs := [12]) (by kernel_rfl) (by simp) ?_
  refine heldCons (i := 12) rfl (fun Kq hKq => ?_) AllReadyH.nil
  refine step_poke rfl 41 (.tmp 27) (.tmp 24) rfl (pv k) 2 51 _ (HL3.out (pv k) HPL.out) rfl (.pointer (some ⟨l, 0, none⟩)) rfl rfl ptr_info (by show 2 < 3; decide) ?_
  intro w3 hb3 hg3
  have HL4 := hide (HL3.out.newer hb3 hg3)
  have HN3 := hide (show Blk w3 l 51 (lkC b (pv k) k).toArray from Blk.grown (show Blk w2.drew l _ _ from HN.out) hg3 (fun e => by injection e with e; exact HLL.out _ HPV.out e.symm))
  have HT3 := hide (show Turn (fun i => i ∈ k :: G) w w3 from ((Turn.of_below HB2.out).drew).grown hg3 (fun g e => by injection e with e; subst e; exact .inl HPV.out))
  have hz3 := hg3.size
  clear hb3 hg3
  first | (refine hKq.out _ _ HN3.out (fun hHeld => ?_)) | (go_wp2_with fail; refine hKq.out _ _ HN3.out (fun hHeld => ?_))
  clear hKq Kq
  try simp only [Act.put]
  refine heldTake (i := 13) (v := ?_) rfl (by kernel_rfl) (by kernel_rfl) (by kernel_rfl) (fun _ _ _ h => h) (Or.inl ⟨by rfl, ?_⟩) (by assumption) ?_
  rotate_left
  · intro w hSw; (try dsimp only at hSw); go_simp <;> (with_reducible rfl)
  try simp only [Act.put, List.setIfInBounds_toArray, List.set_cons_zero, List.set_cons_succ]
  refine heldTake (i := 14) (v := ?_) rfl (by kernel_rfl) (by kernel_rfl) (by kernel_rfl) (fun _ _ _ h => h) (Or.inl ⟨by rfl, ?_⟩) (by assumption) ?_
  rotate_left
  · intro w hSw; (try dsimp only at hSw); go_simp <;> (with_reducible rfl)
  try simp only [Act.put, List.setIfInBounds_toArray, List.set_cons_zero, List.set_cons_succ]
  refine wpAnyH_ready (rs := [15]) (by kernel_rfl) (by simp) ?_
  refine heldCons (i := 15) rfl (fun Kq hKq => ?_) AllReadyH.nil
  refine step_poke rfl 41 (.tmp 29) (.tmp 25) rfl k 1 51 _ (HL4.out k (List.mem_cons_self ..)) rfl (.pointer (some ⟨l, 0, none⟩)) rfl rfl ptr_info (by show 1 < 3; decide) ?_
  intro w4 hb4 hg4
  have HL5 := hide (HL4.out.older hb4 hg4)
  have HN4 := hide (HN3.out.grown hg4 (fun e => by injection e with e; exact HLL.out k (List.mem_cons_self ..) e.symm))
  have HT4 := hide (HT3.out.grown hg4 (fun g e => by injection e with e; subst e; exact .inl (List.mem_cons_self ..)))
  clear hb4 hg4
  first | (refine hKq.out _ _ HN4.out (fun hHeld => ?_)) | (go_wp2_with fail; refine hKq.out _ _ HN4.out (fun hHeld => ?_))
  clear hKq Kq
  try simp only [Act.put]
  refine wpAnyH_done (by kernel_rfl) ?_ _
  go_wp2_with fail
  go_ret
  exact ⟨l, rfl, hlw, HN4.out.lt, HL5.out, HT4.out⟩
/-- A block that is there goes. -/
theorem RcIn.cut {k' : Nat} {b : Int} (h : RcIn w m k y (A ++ k' :: B) nx pv it f L) (he : it k' = b) {w2 : World} (hm : Blk w2 m 47 #[.pointer (some ⟨k, 0, none⟩), .map (some y)])
    (hl : Lks w2 (k :: (A ++ k' :: B)) (upd nx (pv k') (nx k')) (upd pv (nx k') (pv k')) it) (hp : MapIs intKey w2 y (upd f b none)) :
    RcIn w2 m k y (A ++ B) (upd nx (pv k') (nx k')) (upd pv (nx k') (pv k')) it (upd f b none) (wo b L) := by
  have hi : L = A.map it ++ b :: B.map it := by rw [← h.items, List.map_append, List.map_cons, he]
  have hsub : ∀ x, x ∈ A ++ B → x ∈ A ++ k' :: B := fun x hx => by
    rw [List.mem_append] at hx ⊢
    exact hx.imp id (List.mem_cons_of_mem _)
  have hsub2 : ∀ x, x ∈ k :: (A ++ B) → x ∈ k :: (A ++ k' :: B) := fun x hx => by
    rw [List.mem_cons] at hx ⊢
    exact hx.imp id (hsub x)
  have hwo : wo b L = (A ++ B).map it := by
    have hu := h.uniq
    rw [hi] at hu ⊢
    rw [wo_mid hu, List.map_append]
  refine ⟨hm, fun x hx => hl x (hsub2 x hx), h.ring.mid.2.2.2.2, hwo.symm, wo_nodup h.uniq, hp, fun x hx => ?_, fun c hc => ?_, fun hx => h.far.1 (hsub2 _ hx), fun hx => h.far.2.1 (hsub2 _ hx), h.far.2.2⟩
  · have h1 : it x ∈ wo b L := by rw [hwo]; exact List.mem_map_of_mem hx
    rw [upd_ne _ _ (mem_wo.1 h1).2]
    exact h.yes x (hsub x hx)
  · by_cases e : c = b
    · rw [e, upd_self]
    · rw [upd_ne _ _ e]
      exact h.no c fun hcl => hc (mem_wo.2 ⟨hcl, e⟩)
/-- One more block. -/
theorem RcIn.hung (h : RcIn w m k y G nx pv it f L) {b : Int} (hb : b ∉ L) {l : Nat} (hlw : w.heap.size ≤ l) {w2 : World} (hm : Blk w2 m 47 #[.pointer (some ⟨k, 0, none⟩), .map (some y)])
    (hl : Lks w2 (k :: (G ++ [l])) (upd (upd nx l k) (pv k) l) (upd (upd pv l (pv k)) k l) (upd it l b)) (hp : MapIs intKey w2 y (upd f b (some (.pointer (some ⟨l, 0, none⟩))))) :
    RcIn w2 m k y (G ++ [l]) (upd (upd nx l k) (pv k) l) (upd (upd pv l (pv k)) k l) (upd it l b) (upd f b (some (.pointer (some ⟨l, 0, none⟩)))) (L ++ [b]) := by
  have hlk : ∀ x ∈ k :: G, x ≠ l := fun x hx => by have := h.lks.lt hx; omega
  have hln : l ∉ k :: G := fun hx => hlk l hx rfl
  have hit : ∀ x ∈ G, upd it l b x = it x := fun x hx => upd_ne _ _ (hlk x (List.mem_cons_of_mem _ hx))
  refine ⟨hm, hl, h.ring.hang hln, ?_, ?_, hp, fun x hx => ?_, fun c hc => ?_, fun hx => ?_, fun hx => ?_, h.far.2.2⟩
  · rw [List.map_append, map_off hit, h.items, List.map_cons, upd_self]
    rfl
  · rw [List.nodup_append]
    refine ⟨h.uniq, by simp, fun a ha c hc e => ?_⟩
    rw [List.mem_singleton] at hc
    exact hb (hc ▸ e ▸ ha)
  · rw [List.mem_append, List.mem_singleton] at hx
    rcases hx with hx | rfl
    · rw [hit x hx, upd_ne _ _ (fun e => hb (by rw [← e, ← h.items]; exact List.mem_map_of_mem hx))]
      exact h.yes x hx
    · rw [upd_self, upd_self]
  · rw [List.mem_append, List.mem_singleton, not_or] at hc
    rw [upd_ne _ _ hc.2]
    exact h.no c hc.1
  · rw [show k :: (G ++ [l]) = (k :: G) ++ [l] from rfl, List.mem_append, List.mem_singleton] at hx
    rcases hx with hx | hx
    · exact h.far.1 hx
    · have := h.head.lt
      omega
  · rw [show k :: (G ++ [l]) = (k :: G) ++ [l] from rfl, List.mem_append, List.mem_singleton] at hx
    rcases hx with hx | hx
    · exact h.far.2.1 hx
    · have := h.map.lt
      omega
set_option maxRecDepth 100000 in
theorem drop_any (h : RcIn w m k y G nx pv it f L) (b : Int) (hb : okI64 b) :
    Calls Try.prog 11 #[.pointer (some ⟨m, 0, none⟩), .int .i64 b] w fun e w' => e = .returned (.bool (decide (b ∈ L))) ∧ (∃ G' nx' pv' f', RcIn w' m k y G' nx' pv' it f' (wo b L) ∧ ∀ x ∈ G', x ∈ G) ∧ Turn (fun i => i = m ∨ i = y ∨ i ∈ k :: G) w w' := by
  by_cases hin : b ∈ L
  · rw [decide_eq_true hin]
    obtain ⟨A, x, B, rfl, hx, hf⟩ := h.at_ hin
    have HH := hide h
    have HX := hide hx
    have HG := hide hb
    have hc := h.c1
    have HL := hide (show (if true = true then Value.tuple #[(f b).getD (.pointer none), .bool (f b).isSome] else (f b).getD (.pointer none)) = .tuple #[.pointer (some ⟨x, 0, none⟩), .bool true] from by rw [hf]; rfl)
    clear h hx hb hin hf
    go_enter Try.func11, Try.ntmps11
    go_wp2_with (first
      | (refine wpList_look rfl (.tmp 11) (.tmp 12) 45 41 true rfl Try.underlying45 _ (Try.zeroValue41 _) y f rfl HH.out.map b rfl HG.out _ HL.out ?_)
      | (go_at_call 25; refine (cut_any HH.out.lks HH.out.ring).mono ?_; rintro _ w1 ⟨rfl, hlk, hT⟩; have HLK := hide hlk; have HT := hide hT; have HM1 := hide (HH.out.head.of_block (hT.block _ HH.out.head.lt (fun hx => HH.out.far.1 (by rw [List.mem_cons, List.mem_append] at hx ⊢; exact hx.imp id (Or.imp id (List.mem_cons_of_mem _)))))); have HP1 := hide (HH.out.map.of_block (hT.block _ HH.out.map.lt (fun hx => HH.out.far.2.1 (by rw [List.mem_cons, List.mem_append] at hx ⊢; exact hx.imp id (Or.imp id (List.mem_cons_of_mem _)))))); have c1 : w1.cell? ⟨m, 1, none⟩ = some (.map (some y)) := HM1.out.cell 1; clear hlk hT)
      | (refine wpList_del rfl (.tmp 23) (.tmp 24) 45 41 rfl Try.underlying45 y f rfl HP1.out b HG.out rfl ?_; intro w2 hp2 hg2; have HP2 := hide hp2; have HM2 := hide (HM1.out.grown hg2 (fun e => by injection e with e; exact HH.out.far.2.2 e)); have HL2 := hide (HLK.out.kept (fun x hx => hg2.block x (HLK.out.lt hx) (fun e => by injection e with e; exact HH.out.far.2.1 (e ▸ hx)))); have HT2 := hide (Turn.grown (F := fun i => i = m ∨ i = y ∨ i ∈ k :: (A ++ x :: B)) (HT.out.wider (fun i hi => .inr (.inr (by rw [List.mem_cons, List.mem_append] at hi ⊢; exact hi.imp id (Or.imp id (List.mem_cons_of_mem _)))))) hg2 (fun g e => by injection e with e; exact .inl (.inr (.inl e.symm)))); clear hp2 hg2))
    go_ret
    exact ⟨rfl, ⟨A ++ B, _, _, _, HH.out.cut HX.out HM2.out HL2.out HP2.out, fun u hu => by rw [List.mem_append] at hu ⊢; exact hu.imp id (List.mem_cons_of_mem _)⟩, HT2.out⟩
  · rw [decide_eq_false hin, wo_none hin]
    have HH := hide h
    have HG := hide hb
    have hc := h.c1
    have HL := hide (show (if true = true then Value.tuple #[(f b).getD (.pointer none), .bool (f b).isSome] else (f b).getD (.pointer none)) = .tuple #[.pointer none, .bool false] from by rw [h.no b hin]; rfl)
    clear h hb hin
    go_enter Try.func11, Try.ntmps11
    go_wp2_with (first
      | (refine wpList_look rfl (.tmp 11) (.tmp 12) 45 41 true rfl Try.underlying45 _ (Try.zeroValue41 _) y f rfl HH.out.map b rfl HG.out _ HL.out ?_))
    go_ret
    exact ⟨rfl, ⟨G, ⟨_, _, _, HH.out⟩, fun u hu => hu⟩, Turn.refl _ _⟩
set_option maxRecDepth 100000 in
theorem touch_any (h : RcIn w m k y G nx pv it f L) (b : Int) (hb : okI64 b) (hL : L.length ≤ 1000000) :
    Calls Try.prog 20 #[.pointer (some ⟨m, 0, none⟩), .int .i64 b] w fun e w' => e = .returned (.tuple #[]) ∧ (∃ G' nx' pv' it' f', RcIn w' m k y G' nx' pv' it' f' (tch b L) ∧ ∀ x ∈ G', x ∈ G ∨ w.heap.size ≤ x) ∧ Turn (fun i => i = m ∨ i = y ∨ i ∈ k :: G) w w' := by
  have HD := hide (drop_any h b hb)
  have HG := hide hb
  have HN := hide (show (wo b L).length ≤ 1000000 by have := wo_len b L; omega)
  have HNB := hide (not_mem_wo b L)
  clear h hb hL
  go_enter Try.func20, Try.ntmps20
  go_upto_region 1 with (first
    | (go_at_call 11; refine HD.out.mono ?_; rintro _ w1 ⟨rfl, ⟨G1, nx1, pv1, f1, h1, hs1⟩, hT1⟩; have HH := hide h1; have HS := hide hs1; have HT1 := hide hT1; clear h1 hs1 hT1))
  have hz1 := HT1.out.size
  have HM0 := hide (show Blk w1.drew m 47 #[.pointer (some ⟨k, 0, none⟩), .map (some y)] from HH.out.head)
  refine wp_region_held_drew (S := (fun W => Blk W m 47 #[.pointer (some ⟨k, 0, none⟩), .map (some y)])) (by kernel_rfl) ?_ (fun hHeld => ?_)
  · exact HM0.out
  refine heldTake (i := 0) (v := ?_) rfl (by kernel_rfl) (by kernel_rfl) (by kernel_rfl) (fun _ _ _ h => h) (Or.inl ⟨by rfl, ?_⟩) (by assumption) ?_
  rotate_left
  · intro w hSw; (try dsimp only at hSw); go_simp <;> (with_reducible rfl)
  try simp only [Act.put, List.setIfInBounds_toArray, List.set_cons_zero, List.set_cons_succ]
  refine heldTake (i := 1) (v := ?_) rfl (by kernel_rfl) (by kernel_rfl) (by kernel_rfl) (fun _ _ _ h => h) (Or.inl ⟨by rfl, ?_⟩) (by assumption) ?_
  rotate_left
  · intro w hSw; (try dsimp only at hSw); go_simp <;> (with_reducible rfl)
  try simp only [Act.put, List.setIfInBounds_toArray, List.set_cons_zero, List.set_cons_succ]
  refine heldTake (i := 2) (v := ?_) rfl (by kernel_rfl) (by kernel_rfl) (by kernel_rfl) (fun _ _ _ h => h) (Or.inl ⟨by rfl, ?_⟩) (by assumption) ?_
  rotate_left
  · intro w hSw; (try dsimp only at hSw); go_simp <;> (with_reducible rfl)
  try simp only [Act.put, List.setIfInBounds_toArray, List.set_cons_zero, List.set_cons_succ]
  refine heldTake (i := 3) (v := .map (some y)) rfl (by kernel_rfl) (by kernel_rfl) (by kernel_rfl) (fun _ _ _ h => h) (Or.inl ⟨by rfl, fun W hW => ?_⟩) (by assumption) ?_
  · dsimp only at hW
    have hc2 : W.cell? ⟨m, 1, none⟩ = some (.map (some y)) := hW.cell 1
    go_simp <;> rfl
  try simp only [Act.put, List.setIfInBounds_toArray, List.set_cons_zero, List.set_cons_succ]
  refine heldTake (i := 4) (v := ?_) rfl (by kernel_rfl) (by kernel_rfl) (by kernel_rfl) (fun _ _ _ h => h) (Or.inl ⟨by rfl, ?_⟩) (by assumption) ?_
  rotate_left
  · intro w hSw; (try dsimp only at hSw); go_simp <;> (with_reducible rfl)
  try simp only [Act.put, List.setIfInBounds_toArray, List.set_cons_zero, List.set_cons_succ]
  refine heldTake (i := 5) (v := ?_) rfl (by kernel_rfl) (by kernel_rfl) (by kernel_rfl) (fun _ _ _ h => h) (Or.inl ⟨by rfl, ?_⟩) (by assumption) ?_
  rotate_left
  · intro w hSw; (try dsimp only at hSw); go_simp <;> (with_reducible rfl)
  try simp only [Act.put, List.setIfInBounds_toArray, List.set_cons_zero, List.set_cons_succ]
  refine heldTake (i := 6) (v := ?_) rfl (by kernel_rfl) (by kernel_rfl) (by kernel_rfl) (fun _ _ _ h => h) (Or.inl ⟨by rfl, ?_⟩) (by assumption) ?_
  rotate_left
  · intro w hSw; (try dsimp only at hSw); go_simp <;> (with_reducible rfl)
  try simp only [Act.put, List.setIfInBounds_toArray, List.set_cons_zero, List.set_cons_succ]
  refine heldTake (i := 7) (v := ?_) rfl (by kernel_rfl) (by kernel_rfl) (by kernel_rfl) (fun _ _ _ h => h) (Or.inl ⟨by rfl, ?_⟩) (by assumption) ?_
  rotate_left
  · intro w hSw; (try dsimp only at hSw); go_simp <;> (with_reducible rfl)
  try simp only [Act.put, List.setIfInBounds_toArray, List.set_cons_zero, List.set_cons_succ]
  refine heldTake (i := 8) (v := .agg #[.pointer (some ⟨k, 0, none⟩)]) rfl (by kernel_rfl) (by kernel_rfl) (by kernel_rfl) (fun _ _ _ h => h) (Or.inl ⟨by rfl, fun W hW => ?_⟩) (by assumption) ?_
  · dsimp only at hW
    exact run_load_chain W _ (.tmp 14) rfl m k (hW.cell 0) rfl
  try simp only [Act.put, List.setIfInBounds_toArray, List.set_cons_zero, List.set_cons_succ]
  refine heldTake (i := 9) (v := ?_) rfl (by kernel_rfl) (by kernel_rfl) (by kernel_rfl) (fun _ _ _ h => h) (Or.inl ⟨by rfl, ?_⟩) (by assumption) ?_
  rotate_left
  · intro w hSw; (try dsimp only at hSw); go_simp <;> (with_reducible rfl)
  try simp only [Act.put, List.setIfInBounds_toArray, List.set_cons_zero, List.set_cons_succ]
  refine wpAnyH_ready (rs := [10]) (by kernel_rfl) (by simp) ?_
  refine heldCons (i := 10) rfl (fun Kq hKq => ?_) AllReadyH.nil
  go_simp
  go_at_call 27
  refine (hang_any (w := w1.drew) (show Lks w1.drew _ _ _ _ from HH.out.lks) HH.out.ring b).mono ?_
  rintro _ w2 ⟨l, rfl, hlw, hlt, hlk, hT⟩
  have HLW := hide (show w1.heap.size ≤ l from hlw)
  have HLK := hide hlk
  have HT2 := hide hT
  have HM2 := hide (HM0.out.of_block (hT.block _ HM0.out.lt HH.out.far.1))
  have HP2 := hide (MapIs.of_block (w := w1.drew) (show MapIs intKey w1.drew y f1 from HH.out.map) (hT.block _ HH.out.map.lt HH.out.far.2.1))
  clear hlw hlk hT
  first | (refine hKq.out _ _ HM2.out (fun hHeld => ?_)) | (go_wp2_with fail; refine hKq.out _ _ HM2.out (fun hHeld => ?_))
  clear hKq Kq
  try simp only [Act.put, List.setIfInBounds_toArray, List.set_cons_zero, List.set_cons_succ]
  refine wpAnyH_ready (rs := [11]) (by kernel_rfl) (by simp) ?_
  refine heldCons (i := 11) rfl (fun Kq hKq => ?_) AllReadyH.nil
  refine step_putI rfl (.tmp 10) (.tmp 11) (.tmp 17) 45 41 rfl Try.underlying45 y f1 rfl HP2.out b HG.out (.pointer (some ⟨l, 0, none⟩)) rfl rfl (wo b L) HH.out.uniq HH.out.keys (by have := HN.out; omega) ?_
  intro w3 hp3 hg3
  have HP3 := hide hp3
  have HM3 := hide (HM2.out.grown hg3 (fun e => by injection e with e; exact HH.out.far.2.2 e))
  have HL3 := hide (HLK.out.kept (fun x hx => hg3.block x (HLK.out.lt hx) (fun e => by
    injection e with e
    subst e
    rw [show k :: (G1 ++ [l]) = (k :: G1) ++ [l] from rfl, List.mem_append, List.mem_singleton] at hx
    rcases hx with hx | hx
    · exact HH.out.far.2.1 hx
    · have := HH.out.map.lt; have := HLW.out; omega)))
  have HT3 := hide (Turn.grown (HT1.out.trans (Turn.wider (show Turn (fun i => i ∈ k :: G1) w1 w2 from ⟨HT2.out.os, HT2.out.tape, HT2.out.output, HT2.out.size, HT2.out.block⟩) (fun i hi => .inr (.inr (by rw [List.mem_cons] at hi ⊢; exact hi.imp id (HS.out i)))))) hg3 (fun g e => by injection e with e; exact .inl (.inr (.inl e.symm))))
  clear hp3 hg3
  first | (refine hKq.out _ _ HM3.out (fun hHeld => ?_)) | (go_wp2_with fail; refine hKq.out _ _ HM3.out (fun hHeld => ?_))
  clear hKq Kq
  try simp only [Act.put]
  refine wpAnyH_done (by kernel_rfl) ?_ _
  try go_wp2_with fail
  go_end0
  exact ⟨rfl, ⟨_, _, _, _, _, HH.out.hung HNB.out HLW.out HM3.out HL3.out HP3.out, fun u hu => by
    rw [List.mem_append, List.mem_singleton] at hu
    rcases hu with hu | rfl
    · exact .inl (HS.out u hu)
    · exact .inr (by have := HLW.out; omega)⟩, HT3.out⟩
end
#print axioms cut_any
#print axioms hang_any
#print axioms drop_any
#print axioms touch_any
end Go.Proofs.Ythodmhjlokfcaaa
