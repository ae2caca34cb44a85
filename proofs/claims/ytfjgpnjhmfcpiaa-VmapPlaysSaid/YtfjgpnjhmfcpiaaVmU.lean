/- Each call of vmap, and of the document's map, over a law's memory (Sta). -/
import Derived.Test.YtfjgpnjhmfcpiaaVmT
import Derived.Test.YtfjgpnjhmfcpiaaFill
namespace Go.Proofs.Ytfjgpnjhmfcpiaa
open Go.RowKit Go.Maps
set_option linter.unusedVariables false
theorem own_rdW {w : World} {base n : Nat} {A : Option Addr} {c : Nat} {e : TypeId} {size : Nat} {l : List Value} (h : w.ownsRow base e size (.slice A n c) n l) : Reads w w.heap.size size A n l := by
  refine ⟨h.1, fun hn => ?_⟩
  obtain ⟨g, cap, hv, _, hlt⟩ := h.form hn
  have hA : A = some ⟨g, 0, none⟩ := by injection hv
  subst hA
  exact ⟨_, rfl, (h.lt g rfl).2, h.cells (g := g) rfl⟩
section
variable {w0 W W' : World} {Hs : List Thing} {U : VarsT} {m r : Nat} {V : List Wh} {A : Option Addr} {n c : Nat} {L : List Ch}
/-- A new map. -/
theorem Sta.mk_ (h : Sta w0 W Hs U) (ni : Int) : Calls Try.prog 10 #[.int .i64 ni] W fun e W' => ∃ m, e = .returned (.pointer (some ⟨m, 0, none⟩)) ∧ Sta w0 W' (Hs ++ [vmT m (newV ni)]) U :=
  (new_any ni W).mono fun e W' ⟨m, p, y, c, cur, he, hI, h1, h2, h3, hb⟩ => ⟨m, he, h.add (vmT m (newV ni)) (F := fun i => i = m ∨ i = p ∨ i = y) hb ⟨p, y, c, cur, hI, fun _ => Iff.rfl⟩ fun x hx => by rcases hx with rfl | rfl | rfl <;> assumption⟩
theorem Sta.rmk (h : Sta w0 W Hs U) (ni : Int) : Calls Try.prog 11 #[.int .i64 ni] W fun e W' => ∃ r, e = .returned (.pointer (some ⟨r, 0, none⟩)) ∧ Sta w0 W' (Hs ++ [rvT r (newV ni)]) U :=
  (rnew_any ni W).mono fun e W' ⟨r, p, c, cur, he, hI, h1, h2, hb⟩ => ⟨r, he, h.add (rvT r (newV ni)) (F := fun i => i = r ∨ i = p) hb ⟨p, c, cur, hI, fun _ => Iff.rfl⟩ fun x hx => by rcases hx with rfl | rfl <;> assumption⟩
theorem Sta.set_ (h : Sta w0 W Hs U) (i : Nat) (e : Hs[i]? = some (vmT m V)) (hl : ChIn W A n c L) : Calls Try.prog 12 #[.pointer (some ⟨m, 0, none⟩), .slice A n c] W fun e W' => e = .returned (.int .i64 (setE V L : Int)) ∧ Sta w0 W' (Hs.set i (vmT m (setV V L))) U :=
  h.call i e fun F ⟨p, y, c', cur, hI, hF⟩ => (set_any hI hl).mono fun e W' ⟨he, ⟨p', y', c2, cur', hI', hp, hy⟩, hT⟩ => ⟨he, ⟨fun i => i = m ∨ i = p' ∨ i = y', ⟨p', y', c2, cur', hI', fun _ => Iff.rfl⟩, fun x hx => by
    rcases hx with rfl | rfl | rfl
    · exact .inl ((hF _).2 (.inl rfl))
    · exact hp.imp (fun e => (hF _).2 (.inr (.inl e))) id
    · exact hy.imp (fun e => (hF _).2 (.inr (.inr e))) id⟩, hT.wider fun i hi => (hF i).2 (.inl hi)⟩
theorem Sta.rset (h : Sta w0 W Hs U) (i : Nat) (e : Hs[i]? = some (rvT r V)) (hl : ChIn W A n c L) : Calls Try.prog 13 #[.pointer (some ⟨r, 0, none⟩), .slice A n c] W fun e W' => e = .returned (.int .i64 (setE V L : Int)) ∧ Sta w0 W' (Hs.set i (rvT r (setV V L))) U :=
  h.call i e fun F ⟨p, c', cur, hI, hF⟩ => (rset_any hI hl).mono fun e W' ⟨he, ⟨p', c2, cur', hI', hp⟩, hT⟩ => ⟨he, ⟨fun i => i = r ∨ i = p', ⟨p', c2, cur', hI', fun _ => Iff.rfl⟩, fun x hx => by
    rcases hx with rfl | rfl
    · exact .inl ((hF _).2 (.inl rfl))
    · exact hp.imp (fun e => (hF _).2 (.inr e)) id⟩, hT.wider fun i hi => (hF i).2 (.inl hi)⟩
theorem Sta.len_ (h : Sta w0 W Hs U) (i : Nat) (e : Hs[i]? = some (vmT m V)) : Calls Try.prog 23 #[.pointer (some ⟨m, 0, none⟩)] W fun e W' => e = .returned (.int .i64 (V.length : Int)) ∧ W = W' :=
  h.still i e fun F ⟨p, y, c', cur, hI, hF⟩ => len_any hI
theorem Sta.at_ (h : Sta w0 W Hs U) (i : Nat) (e : Hs[i]? = some (vmT m V)) (b : Int) : Calls Try.prog 16 #[.pointer (some ⟨m, 0, none⟩), .int .i64 b] W fun e W' => e = .returned (.tuple #[.agg (whC (atW V b)).toArray, .int .i64 (atE V b : Int)]) ∧ Sta w0 W' Hs U :=
  (h.rd i e (R := fun e _ => e = .returned (.tuple #[.agg (whC (atW V b)).toArray, .int .i64 (atE V b : Int)])) fun F ⟨p, y, c', cur, hI, hF⟩ => at_any hI b).mono fun _ _ ⟨he, h1, _⟩ => ⟨he, h1⟩
theorem Sta.rat (h : Sta w0 W Hs U) (i : Nat) (e : Hs[i]? = some (rvT r V)) (b : Int) : Calls Try.prog 17 #[.pointer (some ⟨r, 0, none⟩), .int .i64 b] W fun e W' => e = .returned (.tuple #[.agg (whC (atW V b)).toArray, .int .i64 (atE V b : Int)]) ∧ Sta w0 W' Hs U :=
  (h.rd i e (R := fun e _ => e = .returned (.tuple #[.agg (whC (atW V b)).toArray, .int .i64 (atE V b : Int)])) fun F ⟨p, c', cur, hI, hF⟩ => rat_any hI b).mono fun _ _ ⟨he, h1, _⟩ => ⟨he, h1⟩
theorem Sta.holder (h : Sta w0 W Hs U) (i : Nat) (e : Hs[i]? = some (vmT m V)) (q : Wh) (hq : q.fits) : Calls Try.prog 18 #[.pointer (some ⟨m, 0, none⟩), .agg (whC q).toArray] W fun e W' => e = .returned (.tuple #[.int .i64 (((hold V q).getD 0 : Nat) : Int), .bool (hold V q).isSome]) ∧ Sta w0 W' Hs U :=
  (h.rd i e (R := fun e _ => e = .returned (.tuple #[.int .i64 (((hold V q).getD 0 : Nat) : Int), .bool (hold V q).isSome])) fun F ⟨p, y, c', cur, hI, hF⟩ => holder_any hI q hq).mono fun _ _ ⟨he, h1, _⟩ => ⟨he, h1⟩
theorem Sta.rholder (h : Sta w0 W Hs U) (i : Nat) (e : Hs[i]? = some (rvT r V)) (q : Wh) : Calls Try.prog 19 #[.pointer (some ⟨r, 0, none⟩), .agg (whC q).toArray] W fun e W' => e = .returned (.tuple #[.int .i64 (((hold V q).getD 0 : Nat) : Int), .bool (hold V q).isSome]) ∧ Sta w0 W' Hs U :=
  (h.rd i e (R := fun e _ => e = .returned (.tuple #[.int .i64 (((hold V q).getD 0 : Nat) : Int), .bool (hold V q).isSome])) fun F ⟨p, c', cur, hI, hF⟩ => rholder_any hI q).mono fun _ _ ⟨he, h1, _⟩ => ⟨he, h1⟩
theorem Sta.in_ (h : Sta w0 W Hs U) (i : Nat) (e : Hs[i]? = some (vmT m V)) (g : Int) : Calls Try.prog 21 #[.pointer (some ⟨m, 0, none⟩), .int .i64 g] W fun e W' => ∃ A c, e = .returned (.slice A (inZ V g V.length).length c) ∧ Reads W' W'.heap.size 1 A (inZ V g V.length).length (I64 (inZ V g V.length)) ∧ Sta w0 W' Hs U ∧ Below W.heap.size W W' :=
  (h.rd i e (R := fun e W' => ∃ A c, e = .returned (.slice A (inZ V g V.length).length c) ∧ Reads W' W'.heap.size 1 A (inZ V g V.length).length (I64 (inZ V g V.length))) fun F ⟨p, y, c', cur, hI, hF⟩ => (in_any hI g).mono fun _ _ ⟨v, he, ho, hb⟩ => by
    obtain ⟨A, c, rfl, _, _⟩ := own_shape ho
    exact ⟨⟨A, c, he, own_rdW ho⟩, hb⟩).mono fun _ _ ⟨⟨A, c, he, hr⟩, h1, h2⟩ => ⟨A, c, he, hr, h1, h2⟩
theorem Sta.rin (h : Sta w0 W Hs U) (i : Nat) (e : Hs[i]? = some (rvT r V)) (g : Int) : Calls Try.prog 22 #[.pointer (some ⟨r, 0, none⟩), .int .i64 g] W fun e W' => ∃ A c, e = .returned (.slice A (inZ V g V.length).length c) ∧ Reads W' W'.heap.size 1 A (inZ V g V.length).length (I64 (inZ V g V.length)) ∧ Sta w0 W' Hs U ∧ Below W.heap.size W W' :=
  (h.rd i e (R := fun e W' => ∃ A c, e = .returned (.slice A (inZ V g V.length).length c) ∧ Reads W' W'.heap.size 1 A (inZ V g V.length).length (I64 (inZ V g V.length))) fun F ⟨p, c', cur, hI, hF⟩ => (rin_any hI g).mono fun _ _ ⟨v, he, ho, hb⟩ => by
    obtain ⟨A, c, rfl, _, _⟩ := own_shape ho
    exact ⟨⟨A, c, he, own_rdW ho⟩, hb⟩).mono fun _ _ ⟨⟨A, c, he, hr⟩, h1, h2⟩ => ⟨A, c, he, hr, h1, h2⟩
/-- All of its places: a row of the law's own. -/
theorem Sta.all_ (h : Sta w0 W Hs U) (i : Nat) (e : Hs[i]? = some (vmT m V)) : Calls Try.prog 14 #[.pointer (some ⟨m, 0, none⟩)] W fun e W' => ∃ g c cs, e = .returned (.slice (some ⟨g, 0, none⟩) V.length c) ∧ cs.take (V.length * 3) = whsL V ∧ Sta w0 W' Hs (U ++ [(g, 24, cs)]) := by
  obtain ⟨F, p, y, c', cur, hI, hF⟩ := h.thing i e
  refine (all_any hI).mono fun _ W' ⟨v, he, ho, hb⟩ => ?_
  obtain ⟨g, c, cu, rfl, hk, ht, hg, _, _⟩ := row_blk ho hI.ok.one
  exact ⟨g, c, cu.toList, he, ht, h.var hb hg (by rw [Array.toArray_toList]; exact hk)⟩
theorem Sta.okV (h : Sta w0 W Hs U) (i : Nat) (e : Hs[i]? = some (vmT m V)) : OkV V := by
  obtain ⟨F, p, y, c', cur, hI, hF⟩ := h.thing i e
  exact hI.ok
theorem Sta.rcell (h : Sta w0 W Hs U) (i : Nat) (e : Hs[i]? = some (rvT r V)) : ∃ p c, W.cell? ⟨r, 0, none⟩ = some (.slice (some ⟨p, 0, none⟩) V.length c) ∧ Reads W W.heap.size 3 (some ⟨p, 0, none⟩) V.length (whsL V) := by
  obtain ⟨F, p, c', cur, hI, hF⟩ := h.thing i e
  exact ⟨p, c', hI.c0, hI.reads⟩
/-- A row of the law's own is read. -/
theorem Sta.reads (h : Sta w0 W Hs U) (i : Nat) {g : Nat} {cs : List Value} (e : U[i]? = some (g, 24, cs)) (hc : cs.take (V.length * 3) = whsL V) : Reads W W.heap.size 3 (some ⟨g, 0, none⟩) V.length (whsL V) :=
  row_reads (cur := cs.toArray) (h.own.blk i e) hc
end
/-! ### Changes laid down -/
theorem ch_built (b : Int) (q : Wh) : Try.prog.built 34 [(0, .int .i64 b), (1, .agg (whC q).toArray)] = some (chC (b, q)).toArray := by kernel_rfl
theorem ch_built0 (b : Int) : Try.prog.built 34 [(0, .int .i64 b)] = some (chC (b, Wh.none_)).toArray := by kernel_rfl
theorem wh_built3 (t g s : Int) : Try.prog.built 24 [(0, .int .i64 t), (1, .int .i64 g), (2, .int .i64 s)] = some (whC ⟨t, g, s⟩).toArray := by kernel_rfl
theorem ch_parts : (Try.prog.info? 34).map (fun i => (i.zero, i.size, i.bytes)) = some (some (.agg #[.int .i64 0, .int .i64 0, .int .i64 0, .int .i64 0]), 4, 32) := by kernel_rfl
theorem chIn_blk {w : World} {g c : Nat} {L : List Ch} (hb : Blk w g 34 (chsL L).toArray) (hf : ∀ x ∈ L, okI64 x.1 ∧ x.2.fits) (hl : L.length ≤ 1000) (hc : L.length ≤ c) : ChIn w (some ⟨g, 0, none⟩) L.length c L := by
  refine ⟨⟨chsL_len L, fun _ => ⟨_, rfl, hb.lt, fun j u hj => ?_⟩⟩, hf, by omega, hc⟩
  rw [add0, hb.cell j]
  simpa using hj
section
variable {ops : Array Oper} {rest : List Oper} {o : Oper} {a : Act} {Q : Exit → Act → World → Prop} {w : World}
theorem wpList_oneC (hgd : o.guard = none) (x : Operand) (ho : o.op = .buildSlice 30 1 #[(0, x)]) (q : Ch) (hx : a.eval x = .agg (chC q).toArray)
    (h : ∀ w', Blk w' w.heap.size 34 (chsL [q]).toArray → Below w.heap.size w w' → wpList Try.prog ops Q rest (a.put o.dst (.slice (some ⟨w.heap.size, 0, none⟩) 1 1)) w') : wpList Try.prog ops Q (o :: rest) a w := by
  obtain ⟨i0, hi0, hz0, hz1, hz2⟩ := info_parts ch_parts
  exact wpList_build_agg _ hgd x 30 ho 34 i0 _ 4 Try.underlying30 hi0 (ch_zero _) hz1 (by decide) (by decide) (chC q).toArray hx rfl (h _ (Blk.new w _ _) ((Below.refl _ _).alloc (Nat.le_refl _) _))
theorem wpList_twoC (hgd : o.guard = none) (x y : Operand) (ho : o.op = .buildSlice 30 2 #[(0, x), (1, y)]) (p q : Ch) (hx : a.eval x = .agg (chC p).toArray) (hy : a.eval y = .agg (chC q).toArray)
    (h : ∀ w', Blk w' w.heap.size 34 (chsL [p, q]).toArray → Below w.heap.size w w' → wpList Try.prog ops Q rest (a.put o.dst (.slice (some ⟨w.heap.size, 0, none⟩) 2 2)) w') : wpList Try.prog ops Q (o :: rest) a w := by
  obtain ⟨i0, hi0, hz0, hz1, hz2⟩ := info_parts ch_parts
  have hrun := run_build_aggs (P := Try.prog) w 30 34 i0 _ 4 Try.underlying30 hi0 (ch_zero _) hz1 (by decide) (by decide) 2 (by decide) (by decide) #[(0, .agg (chC p).toArray), (1, .agg (chC q).toArray)] (chsL [p, q]).toArray (fun C hC => fill_two 4 _ _ rfl rfl C hC)
  refine wpList_plain hgd fun _ hK => ?_
  unfold Oper.wp
  simp [execOp, ho, hx, hy, hrun, Result.andThen]
  exact hK _ _ (h _ (Blk.new w _ _) ((Below.refl _ _).alloc (Nat.le_refl _) _))
end
theorem run_eql_vm (w : World) (g : Nat) : (binOp .eql 26 (.pointer (some ⟨g, 0, none⟩)) (.pointer none)).run Try.prog w = .ok (.bool false) w := by kernel_rfl
#print axioms wpList_twoC
end Go.Proofs.Ytfjgpnjhmfcpiaa
