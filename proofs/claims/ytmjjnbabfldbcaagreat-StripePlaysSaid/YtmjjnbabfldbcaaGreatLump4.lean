/- Texts of the proof laid one behind the other: SitS StrI ZStrC StrC Fill StrY StrQ. -/
import Derived.Test.YtmjjnbabfldbcaaGreatCalls
import Derived.Test.YtmjjnbabfldbcaaGreatWhen
import Derived.Test.YtmjjnbabfldbcaaGreatTwoRows
import Derived.Test.YtmjjnbabfldbcaaGreatMirP
import Derived.Test.YtmjjnbabfldbcaaGreatNegP
import Derived.Test.YtmjjnbabfldbcaaGreatStepK
import Derived.Test.YtmjjnbabfldbcaaGreatLump3
import Derived.Test.YtmjjnbabfldbcaaGreatAgg
import Derived.Test.YtmjjnbabfldbcaaGreatPoke
namespace Go.Proofs.YtmjjnbabfldbcaaGreat
open Go.RowKit
theorem mplace_zero (w : World) : (zeroValue 47).run Tryz.prog w = .ok (.agg #[.int .i64 0, .int .i64 0]) w := by kernel_rfl
theorem mplace_info : (Tryz.prog.info? 47).map (·.size) = some 2 := by kernel_rfl
theorem mplace_one (x y : Int) : ∀ v ∈ [Value.int .i64 x, Value.int .i64 y], v.oneCell' = true := by
  intro v hv
  simp at hv
  rcases hv with rfl | rfl <;> rfl
/-- A place's cells. -/
abbrev plL (d k : Int) : List Value := [.int .i64 d, .int .i64 k]
/-- Blocks of a law's own: each with its type and cells; all lie behind the bank. -/
def OwnV (W : World) (hi : Nat) (V : List (Nat × TypeId × List Value)) : Prop := ∀ (i : Nat) (p : Nat × TypeId × List Value), V[i]? = some p → hi ≤ p.1 ∧ Blk W p.1 p.2.1 p.2.2.toArray
section
variable {W W' : World} {hi : Nat} {V : List (Nat × TypeId × List Value)}
theorem OwnV.blk (h : OwnV W hi V) (i : Nat) {g : Nat} {t : TypeId} {cs : List Value} (e : V[i]? = some (g, t, cs)) : Blk W g t cs.toArray := (h i _ e).2
theorem OwnV.range (h : OwnV W hi V) (i : Nat) {g : Nat} {t : TypeId} {cs : List Value} (e : V[i]? = some (g, t, cs)) : W.rangeAt g 0 cs := fun j v hj => by rw [Nat.zero_add, (h.blk i e).cell j]; simpa using hj
theorem OwnV.nil (W : World) (hi : Nat) : OwnV W hi [] := fun i p e => by simp at e
theorem OwnV.later (h : OwnV W hi V) (hb : Below W.heap.size W W') : OwnV W' hi V := fun i p e => ⟨(h i p e).1, (h i p e).2.below hb (h i p e).2.lt⟩
theorem OwnV.upto {lo : Nat} (h : OwnV W hi V) (hu : Upto lo hi W W') : OwnV W' hi V := fun i p e => ⟨(h i p e).1, (h i p e).2.upto hu (.inl (h i p e).1)⟩
theorem OwnV.add (h : OwnV W hi V) {g : Nat} {t : TypeId} {cs : List Value} (hg : hi ≤ g) (hb : Blk W g t cs.toArray) : OwnV W hi (V ++ [(g, t, cs)]) := fun i p e => by
  rw [List.getElem?_append] at e
  split at e
  · exact h i p e
  · have : p = (g, t, cs) := by
      have h2 : i - V.length = 0 := by
        by_cases hz : i - V.length = 0
        · exact hz
        · rw [List.getElem?_eq_none (by simp; omega)] at e; cases e
      rw [h2] at e
      simpa using e.symm
    rw [this]
    exact ⟨hg, hb⟩
/-- One of them is written over. -/
theorem OwnV.poke (h : OwnV W hi V) (k : Nat) {g : Nat} {t : TypeId} {cs cs' : List Value} (e : V[k]? = some (g, t, cs)) (hne : ∀ i p, V[i]? = some p → i ≠ k → p.1 ≠ g) (hb : Blk W' g t cs'.toArray) (hg : W.grownBy W' (some g)) : OwnV W' hi (V.set k (g, t, cs')) := fun i p ei => by
  rw [List.getElem?_set] at ei
  split at ei
  · split at ei
    · injection ei with ei
      subst ei
      exact ⟨(h k _ e).1, hb⟩
    · cases ei
  · rename_i hik
    obtain ⟨h1, h2⟩ := h i p ei
    exact ⟨h1, h2.grown hg (fun hs => by injection hs with hs; exact hne i p ei (fun e => hik e.symm) hs)⟩
end
/-- A law at work: nothing that was there ahead of it has turned; block b is bank S, below hi; V: its own variables. -/
structure Sit (w0 W : World) (b hi : Nat) (S : Bank) (V : List (Nat × TypeId × List Value)) : Prop where
  low : Below w0.heap.size w0 W
  bank : BankAt W b w0.heap.size hi S
  own : OwnV W hi V
  rise : (V.map (·.1)).Nodup
theorem nodup_other {V : List (Nat × TypeId × List Value)} (h : (V.map (·.1)).Nodup) {i k : Nat} {p q : Nat × TypeId × List Value} (hi : V[i]? = some p) (hk : V[k]? = some q) (hne : i ≠ k) : p.1 ≠ q.1 := by
  intro e
  have h1 : (V.map (·.1))[i]? = some p.1 := by rw [List.getElem?_map, hi]; rfl
  have h2 : (V.map (·.1))[k]? = some p.1 := by rw [List.getElem?_map, hk, e]; rfl
  have hil : i < (V.map (·.1)).length := by
    rcases Nat.lt_or_ge i (V.map (·.1)).length with h | h
    · exact h
    · rw [List.getElem?_eq_none h] at h1; cases h1
  exact hne ((List.getElem?_inj hil h).1 (h1.trans h2.symm))
section
variable {w0 W W' : World} {b hi : Nat} {S S' : Bank} {V : List (Nat × TypeId × List Value)}
theorem Sit.hi_le (h : Sit w0 W b hi S V) : hi ≤ W.heap.size := h.bank.1
theorem Sit.later (h : Sit w0 W b hi S V) (hb : Below W.heap.size W W') : Sit w0 W' b hi S V := ⟨h.low.trans (hb.mono h.low.size), h.bank.later hb, h.own.later hb, h.rise⟩
theorem Sit.turned (h : Sit w0 W b hi S V) (hB : BankAt W' b w0.heap.size hi S') (hu : Upto w0.heap.size hi W W') : Sit w0 W' b hi S' V := ⟨h.low.trans (hu.low (Nat.le_refl _) h.low.size), hB, h.own.upto hu, h.rise⟩
theorem Sit.var (h : Sit w0 W b hi S V) {g : Nat} {t : TypeId} {cs : List Value} (hb : Below W.heap.size W W') (hg : W.heap.size ≤ g) (hk : Blk W' g t cs.toArray) : Sit w0 W' b hi S (V ++ [(g, t, cs)]) :=
  ⟨h.low.trans (hb.mono h.low.size), h.bank.later hb, (h.own.later hb).add (Nat.le_trans h.hi_le hg) hk, by
    rw [List.map_append, List.nodup_append]
    refine ⟨h.rise, by simp, fun a ha c hc e => ?_⟩
    have hc' : c = g := by simpa using hc
    obtain ⟨p, hp, hpa⟩ := List.mem_map.1 ha
    obtain ⟨i, hip⟩ := List.getElem?_of_mem hp
    have hl := (h.own i p hip).2.lt
    omega⟩
/-- From what lies in its blocks to what lies in its span. -/
theorem sit_on (h : Sit w0 W b hi S V) (hB : BankOn W' b (In w0.heap.size hi) S') (hT : Turn (In w0.heap.size hi) W W') : Sit w0 W' b hi S' V := h.turned (hB.at_ (Nat.le_trans h.hi_le hT.size)) hT.upto_in
end
end Go.Proofs.YtmjjnbabfldbcaaGreat
namespace Go.Proofs.YtmjjnbabfldbcaaGreat
open Go.RowKit
set_option linter.unusedVariables false
structure Sox (w0 W : World) (b hi : Nat) (S : Bank) (V : List (Nat × TypeId × List Value)) (A : Option Addr) (n c : Nat) (X : List PlI) : Prop where
  sit : Sit w0 W b hi S V
  own : XtOwn W hi A n c X
  small : SmallX X
  few : n ≤ 12
theorem sit_laid13 (w0 w : World) (h : Below w0.heap.size w0 w) (n : Nat) (hn : n ≤ 8) :
    Calls Tryz.prog 5 #[.int .i64 (n : Int)] w fun e w' => e = .returned (.pointer (some ⟨w.heap.size, 0, none⟩)) ∧ Sit w0 w' w.heap.size w'.heap.size (LaidS n) [] := by
  refine (laid_any w n hn).mono ?_
  rintro _ w' ⟨rfl, hB, hl⟩
  have hs := h.size
  obtain ⟨h1, h2, L, h3, h4⟩ := hB
  exact ⟨rfl, h.trans (hl.mono hs), ⟨h1, h2, L, h3, h4.wider (fun x hx => ⟨by have := hx.1; omega, hx.2⟩)⟩, OwnV.nil _ _, by simp⟩
section
variable {w0 W W' : World} {b hi n c : Nat} {S S' : Bank} {V : List (Nat × TypeId × List Value)} {A : Option Addr} {X : List PlI}
/-- The row of extents is made. -/
theorem Sit.row (h : Sit w0 W b hi S V) (m : Nat) (hm : m ≤ 12) :
    Calls Tryz.prog 15 #[.int .i64 (m : Int)] W fun e W' => ∃ A c, e = .returned (.slice A m c) ∧ Sox w0 W' b hi S V A m c (rowX idN m) := by
  refine (row_any m (by omega) W).mono ?_
  rintro e W' ⟨A', c', he, ho, hb⟩
  refine ⟨A', c', he, h.later hb, own_mono ho h.hi_le, fun p hp => ?_, hm⟩
  unfold rowX at hp
  obtain ⟨i, hi', e⟩ := List.mem_map.1 hp
  have := List.mem_range.1 hi'
  subst e
  exact ⟨by show (0 : Int) ≤ (i : Int); omega, by show (i : Int) ≤ 1000000; omega⟩
theorem Sox.later (h : Sox w0 W b hi S V A n c X) (hb : Below W.heap.size W W') : Sox w0 W' b hi S V A n c X := ⟨h.sit.later hb, own_later h.own hb, h.small, h.few⟩
theorem Sox.var (h : Sox w0 W b hi S V A n c X) {g : Nat} {t : TypeId} {cs : List Value} (hb : Below W.heap.size W W') (hg : W.heap.size ≤ g) (hk : Blk W' g t cs.toArray) : Sox w0 W' b hi S (V ++ [(g, t, cs)]) A n c X :=
  ⟨h.sit.var hb hg hk, own_later h.own hb, h.small, h.few⟩
theorem own_upto {lo : Nat} {e : TypeId} {size m : Nat} {v : Value} {xs : List Value} (h : W.ownsRow hi e size v m xs) (hu : Upto lo hi W W') : W'.ownsRow hi e size v m xs :=
  ⟨h.1, h.2.imp id (fun ⟨g, cap, cur, e, h1, h2, h3⟩ => ⟨g, cap, cur, e, h1, Blk.upto h2 hu (.inl h1), h3⟩)⟩
theorem Sox.in_ (h : Sox w0 W b hi S V A n c X) : XtIn W A n c X := h.own.in_ h.small h.few
theorem Sox.off (h : Sox w0 W b hi S V A n c X) : Off (In w0.heap.size hi) A n := fun ad e hn hf => by
  have h1 : XtOwn W hi A n c X := h.own
  rcases h1.2 with ⟨_, e0⟩ | ⟨g, cap, cur, e0, h2, _⟩
  · omega
  · injection e0 with e1 _ _
    rw [e] at e1
    injection e1 with e1
    subst e1
    have := hf.2
    have h3 : g < hi := this
    omega
theorem Sox.on (h : Sox w0 W b hi S V A n c X) (hB : BankOn W' b (In w0.heap.size hi) S') (hT : Turn (In w0.heap.size hi) W W') : Sox w0 W' b hi S' V A n c X :=
  ⟨sit_on h.sit hB hT, own_upto h.own hT.upto_in, h.small, h.few⟩
end
end Go.Proofs.YtmjjnbabfldbcaaGreat
namespace Go.Proofs.YtmjjnbabfldbcaaGreat
open Go.RowKit
theorem mpl_guard : Tryz.prog.eqGuardType Tryz.prog.depth 47 = false := by kernel_rfl
theorem mpl_fields : Tryz.prog.underlying 47 = some (.struct (Tryz.prog.fieldsOf 47)) := by kernel_rfl
theorem mpl_stood : Tryz.prog.stoodInHeld 47 = false := by kernel_rfl
theorem mpl_fieldsL : (Tryz.prog.fieldsOf 47).toList.map (fun f => (f.name, f.type, f.offset)) = [("Disk", 3, 0), ("At", 3, 1)] := by kernel_rfl
set_option maxRecDepth 100000 in
theorem run_eql_plI (a1 a2 b1 b2 : Int) (w : World) : (binOp .eql 47 (.agg (plL a1 a2).toArray) (.agg (plL b1 b2).toArray)).run Tryz.prog w = .ok (.bool (decide (a1 = b1 ∧ a2 = b2))) w := by
  have h := run_equalIn_struct (P := Tryz.prog) w 9999 47 (plL a1 a2).toArray (plL b1 b2).toArray mpl_fields mpl_stood
  have hl := mpl_fieldsL
  generalize (Tryz.prog.fieldsOf 47).toList = fs at h hl
  rcases fs with _ | ⟨f0, _ | ⟨f1, _ | ⟨f2, fs⟩⟩⟩ <;> simp at hl
  obtain ⟨⟨n0, t0, o0⟩, n1, t1, o1⟩ := hl
  have p0 : ∀ (x y : Int), (part f0.type (plL x y).toArray f0.offset).run Tryz.prog w = .ok (.int .i64 x) w := fun x y => by rw [t0, o0]; exact run_part_plain (P := Tryz.prog) w (by kernel_rfl) (xs := (plL x y).toArray) (off := 0) (v := .int .i64 x) rfl
  have p1 : ∀ (x y : Int), (part f1.type (plL x y).toArray f1.offset).run Tryz.prog w = .ok (.int .i64 y) w := fun x y => by rw [t1, o1]; exact run_part_plain (P := Tryz.prog) w (by kernel_rfl) (xs := (plL x y).toArray) (off := 1) (v := .int .i64 y) rfl
  have e0 : ∀ x y : Int, (Op.equalIn 9999 f0.type (.int .i64 x) (.int .i64 y)).run Tryz.prog w = .ok (x == y) w := fun x y => by rw [t0]; exact run_equalIn_int (P := Tryz.prog) w 9998 3 .i64 .i64 x y Tryz.underlying3
  have e1 : ∀ x y : Int, (Op.equalIn 9999 f1.type (.int .i64 x) (.int .i64 y)).run Tryz.prog w = .ok (x == y) w := fun x y => by rw [t1]; exact run_equalIn_int (P := Tryz.prog) w 9998 3 .i64 .i64 x y Tryz.underlying3
  rw [run_eql_struct, h]
  simp only [Op.eqFields]
  by_cases h1 : a1 = b1 <;> by_cases h2 : a2 = b2 <;> simp [n0, n1, p0, p1, e0, e1, h1, h2]
theorem msec_u8 : ∃ ui, Tryz.prog.info? 5 = some ui := ⟨(Tryz.prog.info? 5).get!, by kernel_rfl⟩
theorem msec_size (s : Sec) : (Tryz.prog.info? 43).map (·.size) = some (secL s).length := by rw [secL_length]; exact sec_info
theorem msec_len (s t : Sec) : (secL s).length = (secV t).cells.size := (secL_length s).trans (secL_length t).symm
theorem sec_bytes (s t : Sec) : decide (s.1 = t.1) = decide (s = t) := by
  by_cases h : s = t
  · subst h; simp
  · rw [decide_eq_false h, decide_eq_false (fun e => h (Subtype.ext e))]
section
variable {ops : Array Oper} {rest : List Oper} {o : Oper} {a : Act} {w : World} {Q : Exit → Act → World → Prop}
theorem run_eqS (W : World) (o : Oper) (p q : Operand) (tr : TypeId) (ho : o.op = .binOp .eql 43 p q tr) (s t : Sec) (hp : a.eval p = .agg (secL s).toArray) (hq : a.eval q = .agg (secL t).toArray) (r : Bool) (hr : decide (s = t) = r) : (execOp a.eval o).run Tryz.prog W = .ok (.value (.bool r)) W := by
  obtain ⟨ui, hui⟩ := msec_u8
  have hp' : a.eval p = .agg (B8 s.1).toArray := hp
  have hq' : a.eval q = .agg (B8 t.1).toArray := hq
  unfold execOp
  simp only [ho, hp', hq', Sem.run_bind, run_eqGuard_agg (P := Tryz.prog) W .eql 43 p q _ _ (by kernel_rfl), Result.andThen_ok, run_eql_bytes (P := Tryz.prog) W 43 5 64 ui Tryz.underlying43 Tryz.underlying5 hui (by kernel_rfl) s.1 t.1 s.2 t.2, Sem.run_pure, sec_bytes, hr]
theorem run_neS (W : World) (o : Oper) (p q : Operand) (tr : TypeId) (ho : o.op = .binOp .neq 43 p q tr) (s t : Sec) (hp : a.eval p = .agg (secL s).toArray) (hq : a.eval q = .agg (secL t).toArray) (r : Bool) (hr : (!decide (s = t)) = r) : (execOp a.eval o).run Tryz.prog W = .ok (.value (.bool r)) W := by
  obtain ⟨ui, hui⟩ := msec_u8
  have hp' : a.eval p = .agg (B8 s.1).toArray := hp
  have hq' : a.eval q = .agg (B8 t.1).toArray := hq
  unfold execOp
  simp only [ho, hp', hq', Sem.run_bind, run_eqGuard_agg (P := Tryz.prog) W .neq 43 p q _ _ (by kernel_rfl), Result.andThen_ok, run_neq_bytes (P := Tryz.prog) W 43 5 64 ui Tryz.underlying43 Tryz.underlying5 hui (by kernel_rfl) s.1 t.1 s.2 t.2, Sem.run_pure, sec_bytes, hr]
theorem run_eqPl (W : World) (o : Oper) (p q : Operand) (tr : TypeId) (ho : o.op = .binOp .eql 47 p q tr) (a1 a2 b1 b2 : Int) (hp : a.eval p = .agg (plL a1 a2).toArray) (hq : a.eval q = .agg (plL b1 b2).toArray) (r : Bool) (hr : decide (a1 = b1 ∧ a2 = b2) = r) : (execOp a.eval o).run Tryz.prog W = .ok (.value (.bool r)) W := by
  unfold execOp
  simp only [ho, hp, hq, Sem.run_bind, run_eqGuard_agg (P := Tryz.prog) W .eql 47 p q _ _ mpl_guard, Result.andThen_ok, run_eql_plI a1 a2 b1 b2 W, Sem.run_pure, hr]
theorem when_eqS (hw : Region.wanted o (yielded ops a.tmps) = true) (p q : Operand) (tr : TypeId) (ho : o.op = .binOp .eql 43 p q tr) (s t : Sec) (hp : a.eval p = .agg (secL s).toArray) (hq : a.eval q = .agg (secL t).toArray) (r : Bool) (hr : decide (s = t) = r)
    (h : wpList Tryz.prog ops Q rest (a.put o.dst (.bool r)) w) : wpList Tryz.prog ops Q (o :: rest) a w := when_gives hw _ (run_eqS w o p q tr ho s t hp hq r hr) h
theorem when_neS (hw : Region.wanted o (yielded ops a.tmps) = true) (p q : Operand) (tr : TypeId) (ho : o.op = .binOp .neq 43 p q tr) (s t : Sec) (hp : a.eval p = .agg (secL s).toArray) (hq : a.eval q = .agg (secL t).toArray) (r : Bool) (hr : (!decide (s = t)) = r)
    (h : wpList Tryz.prog ops Q rest (a.put o.dst (.bool r)) w) : wpList Tryz.prog ops Q (o :: rest) a w := when_gives hw _ (run_neS w o p q tr ho s t hp hq r hr) h
/-- A variable of the law's own is read whole. -/
theorem when_own {P : Program} {hi : Nat} {V : List (Nat × TypeId × List Value)} (hw : Region.wanted o (yielded ops a.tmps) = true) (x : Operand) {t : TypeId} (ho : o.op = .load t x) (h : OwnV w hi V) (i : Nat) {g : Nat} {cs : List Value} (e : V[i]? = some (g, t, cs)) (hx : a.eval x = .pointer (some ⟨g, 0, none⟩))
    {d : TypeDesc} (hu : P.underlying t = some d) (hd : (match d with | .struct _ | .array _ _ => true | _ => false) = true) (hz : (P.info? t).map (·.size) = some cs.length)
    (hK : wpList P ops Q rest (a.put o.dst (.agg cs.toArray)) w) : wpList P ops Q (o :: rest) a w :=
  when_load hw t x ho g 0 t cs.toArray (h.blk i e) hx cs d (fun j v hj => by rw [Nat.zero_add]; simpa using hj) hu hd hz hK
end
end Go.Proofs.YtmjjnbabfldbcaaGreat
namespace Go.Proofs.YtmjjnbabfldbcaaGreat
end Go.Proofs.YtmjjnbabfldbcaaGreat
namespace Go.Proofs.YtmjjnbabfldbcaaGreat
open Go.RowKit
theorem pfold_set (l : List Value) : ∀ (k : Nat) (cs : Array Value), k + l.length ≤ cs.size → (l.zipIdx k).foldl (fun cs x => cs.setIfInBounds x.2 x.1) cs = (cs.toList.take k ++ l ++ cs.toList.drop (k + l.length)).toArray := by
  induction l with
  | nil =>
    intro k cs h
    rw [List.zipIdx_nil, List.foldl_nil, List.append_nil, List.length_nil, Nat.add_zero, List.take_append_drop, Array.toArray_toList]
  | cons v l ih =>
    intro k cs h
    rw [List.length_cons] at h
    rw [List.zipIdx_cons, List.foldl_cons, ih (k + 1) _ (by rw [Array.size_setIfInBounds]; omega)]
    have hk : k < cs.toList.length := by rw [Array.length_toList]; omega
    congr 1
    rw [Array.toList_setIfInBounds, List.take_add_one, List.take_set, List.set_eq_of_length_le (by simp; omega), List.getElem?_set, if_pos rfl, if_pos hk, List.drop_set, if_pos (by omega), List.length_cons]
    simp
    congr 1
    omega
theorem pfold_shift (off : Nat) : ∀ (l : List Value) (k : Nat) (D : Array Value), (l.zipIdx k).foldl (fun cs (x : Value × Nat) => cs.setIfInBounds (off + x.2) x.1) D = (l.zipIdx (off + k)).foldl (fun cs x => cs.setIfInBounds x.2 x.1) D := by
  intro l
  induction l with
  | nil => intro k D; rfl
  | cons x l ih =>
    intro k D
    rw [List.zipIdx_cons, List.zipIdx_cons, List.foldl_cons, List.foldl_cons, ih]
    rfl
/-- One array or struct laid in its place. -/
theorem pfill_one (F : Array Value) (off : Nat) (C : Array Value) (h : off + F.size ≤ C.size) : F.zipIdx.foldl (fun cs (x : Value × Nat) => cs.setIfInBounds (off + x.2) x.1) C = (C.toList.take off ++ F.toList ++ C.toList.drop (off + F.size)).toArray := by
  have h1 := pfold_set F.toList off C (by rw [Array.length_toList]; exact h)
  rw [Array.length_toList] at h1
  rw [← h1, ← Array.foldl_toList, Array.toList_zipIdx, pfold_shift]
  rfl
section
variable {P : Program} (w : World)
theorem run_build_aggs (t e : TypeId) (i : TypeInfo) (z : Value) (size : Nat) (ht : P.underlying t = some (.slice e)) (hi : P.info? e = some i) (hz : (zeroValue e).run P w = .ok z w) (hsize : i.size = size) (h0 : 0 < size) (h24 : size ≤ 1048576)
    (n : Nat) (hn : 0 < n) (hn9 : n ≤ 9) (parts : Array (Nat × Value)) (cells : Array Value) (hf : ∀ C : Array Value, C.size = n * size → Instr.fill (fun i => some (i * size, size)) C parts.toList = some cells) : (Instr.buildSlice t n parts).run P w = .ok (.slice (some ⟨w.heap.size, 0, none⟩) n n) (w.alloc (.cells cells e)) := by
  have hne : ¬ n * size = 0 := by
    have := Nat.mul_pos hn h0
    omega
  have hle : ¬ 16777216 < n * size := by
    have := Nat.mul_le_mul hn9 h24
    omega
  have hf2 := hf ((Array.range (n * size)).map (z.cells[· % z.cells.size]!)) (by simp)
  have hnr : (newRow e cells).run P w = .ok ⟨w.heap.size, 0, none⟩ (w.alloc (.cells cells e)) := rfl
  simp [Instr.buildSlice, run_underlying ht, sizeOf, typeInfo, hi, hsize, hz, hle, hne, hf2]
  rw [hnr]
  rfl
theorem fill_two (size : Nat) (F G : Array Value) (hF : F.size = size) (hG : G.size = size) (C : Array Value) (hC : C.size = 2 * size) : Instr.fill (fun i => some (i * size, size)) C [(0, .agg F), (1, .agg G)] = some (F.toList ++ G.toList).toArray := by
  have hcF : (Value.agg F).cells = F := rfl
  have hcG : (Value.agg G).cells = G := rfl
  unfold Instr.fill
  simp only [hcF, Nat.zero_mul, Nat.zero_add, hF]
  rw [if_neg (by simp; omega)]
  have e1 := pfill_one F 0 C (by omega)
  simp only [Nat.zero_add] at e1
  rw [e1, List.take_zero, List.nil_append, hF]
  unfold Instr.fill
  have hl : (F.toList ++ C.toList.drop size).toArray.size = 2 * size := by simp [hF, hC]; omega
  simp only [hcG, Nat.one_mul, hG]
  rw [if_neg (by rw [hl]; simp; omega), pfill_one G size _ (by rw [hl, hG]; omega)]
  unfold Instr.fill
  have e2 : (F.toList ++ C.toList.drop size).take size = F.toList := by rw [List.take_append_of_le_length (by simp [hF]), List.take_of_length_le (by simp [hF])]
  have e3 : (F.toList ++ C.toList.drop size).drop (size + size) = [] := List.drop_of_length_le (by simp [hF, hC]; omega)
  rw [hG, e2, e3, List.append_nil]
end
end Go.Proofs.YtmjjnbabfldbcaaGreat
namespace Go.Proofs.YtmjjnbabfldbcaaGreat
open Go.RowKit
set_option linter.unusedVariables false
theorem ysec_parts : (Tryz.prog.info? 43).map (fun i => (i.zero, i.size, i.bytes)) = some (some (secV zeroSec), 64, 64) := by kernel_rfl
/-- Sectors, one behind the other, as cells. -/
def secD (L : List Sec) : List Value := B8 (rawS L).flatten
theorem secD_length (L : List Sec) : (secD L).length = L.length * 64 := by
  induction L with
  | nil => rfl
  | cons s L ih =>
    have : secD (s :: L) = secL s ++ secD L := by unfold secD; simp [rawS, secL, B8_append]
    rw [this, List.length_append, secL_length, ih, List.length_cons]
    omega
structure Sux (w0 W : World) (b hi : Nat) (S : Bank) (V : List (Nat × TypeId × List Value)) (A : Option Addr) (n c : Nat) (X : List PlI) (AI : Option Addr) (mI cI : Nat) (LI : List Int) (AD : Option Addr) (mD cD : Nat) (LD : List Sec) : Prop where
  sox : Sox w0 W b hi S V A n c X
  ints : W.ownsRow hi 3 1 (.slice AI mI cI) mI (I64 LI)
  secs : W.ownsRow hi 43 64 (.slice AD mD cD) mD (secD LD)
  offI : ∀ g, (Value.slice AI mI cI).ownBlock = some g → ∀ (i : Nat) (p : Nat × TypeId × List Value), V[i]? = some p → p.1 ≠ g
  offD : ∀ g, (Value.slice AD mD cD).ownBlock = some g → ∀ (i : Nat) (p : Nat × TypeId × List Value), V[i]? = some p → p.1 ≠ g
theorem yvars_add {V : List (Nat × TypeId × List Value)} {g : Nat} {t : TypeId} {cs : List Value} {p : Nat → Prop} (h : ∀ (i : Nat) (q : Nat × TypeId × List Value), V[i]? = some q → p q.1) (hg : p g) : ∀ (i : Nat) (q : Nat × TypeId × List Value), (V ++ [(g, t, cs)])[i]? = some q → p q.1 := fun i q e => by
  rw [List.getElem?_append] at e
  split at e
  · exact h i q e
  · by_cases hz : i - V.length = 0
    · rw [hz] at e
      have : q = (g, t, cs) := by simpa using e.symm
      rw [this]
      exact hg
    · rw [List.getElem?_eq_none (by simp; omega)] at e; cases e
section
variable {w0 W W' : World} {b hi n c mI cI mD cD : Nat} {S S' : Bank} {V : List (Nat × TypeId × List Value)} {A AI AD : Option Addr} {X : List PlI} {LI : List Int} {LD : List Sec}
theorem Sox.up (h : Sox w0 W b hi S V A n c X) : Sux w0 W b hi S V A n c X none 0 0 [] none 0 0 [] := ⟨h, World.ownsRow_nil _ _ _ _, World.ownsRow_nil _ _ _ _, fun g e => by simp [Value.ownBlock] at e, fun g e => by simp [Value.ownBlock] at e⟩
theorem Sit.up (h : Sit w0 W b hi S V) : Sox w0 W b hi S V none 0 0 [] := ⟨h, World.ownsRow_nil _ _ _ _, (fun p hp => by cases hp), by omega⟩
theorem Sux.own (h : Sux w0 W b hi S V A n c X AI mI cI LI AD mD cD LD) : OwnV W hi V := h.sox.sit.own
theorem Sux.low (h : Sux w0 W b hi S V A n c X AI mI cI LI AD mD cD LD) : Below w0.heap.size w0 W := h.sox.sit.low
theorem Sux.later (h : Sux w0 W b hi S V A n c X AI mI cI LI AD mD cD LD) (hb : Below W.heap.size W W') : Sux w0 W' b hi S V A n c X AI mI cI LI AD mD cD LD := ⟨h.sox.later hb, own_later h.ints hb, own_later h.secs hb, h.offI, h.offD⟩
theorem Sux.drew (h : Sux w0 W b hi S V A n c X AI mI cI LI AD mD cD LD) : Sux w0 W.drew b hi S V A n c X AI mI cI LI AD mD cD LD := h.later ((Below.refl _ _).drew)
theorem Sux.var (h : Sux w0 W b hi S V A n c X AI mI cI LI AD mD cD LD) {g : Nat} {t : TypeId} {cs : List Value} (hb : Below W.heap.size W W') (hg : W.heap.size ≤ g) (hk : Blk W' g t cs.toArray) : Sux w0 W' b hi S (V ++ [(g, t, cs)]) A n c X AI mI cI LI AD mD cD LD :=
  ⟨h.sox.var hb hg hk, own_later h.ints hb, own_later h.secs hb, fun x e => yvars_add (p := fun y => y ≠ x) (h.offI x e) (by have := (h.ints.lt x e).2; show g ≠ x; omega), fun x e => yvars_add (p := fun y => y ≠ x) (h.offD x e) (by have := (h.secs.lt x e).2; show g ≠ x; omega)⟩
theorem Sux.new {Wa : World} (h : Sux w0 W b hi S V A n c X AI mI cI LI AD mD cD LD) {t : TypeId} {cs : List Value} (hl : Below W.heap.size W Wa) (hg : Wa.grownBy W' (some W.heap.size)) (hk : Blk W' W.heap.size t cs.toArray) : Sux w0 W' b hi S (V ++ [(W.heap.size, t, cs)]) A n c X AI mI cI LI AD mD cD LD :=
  h.var (hl.grown hg hl.size (fun g e => by injection e with e; omega)) (Nat.le_refl _) hk
theorem Sux.on (h : Sux w0 W b hi S V A n c X AI mI cI LI AD mD cD LD) (hB : BankOn W' b (In w0.heap.size hi) S') (hT : Turn (In w0.heap.size hi) W W') : Sux w0 W' b hi S' V A n c X AI mI cI LI AD mD cD LD :=
  ⟨h.sox.on hB hT, own_upto h.ints hT.upto_in, own_upto h.secs hT.upto_in, h.offI, h.offD⟩
theorem Sux.fewD (h : Sux w0 W b hi S V A n c X AI mI cI LI AD mD cD LD) : mD ≤ cD ∧ cD ≤ 9223372036854775807 ∧ LD.length = mD := by
  obtain ⟨_, _, e, h1, h2⟩ := own_shape h.secs
  injection e with e1 e2 e3
  subst e3
  have h3 := h.secs.1
  rw [secD_length] at h3
  exact ⟨h1, by simpa [maxLen] using h2, by omega⟩
/-! ### Calls -/
theorem Sux.home (h : Sux w0 W b hi S V A n c X AI mI cI LI AD mD cD LD) (K : StrK) (slot : Int) (hs : I64In slot) : Calls Tryz.prog 17 #[.slice A n c, .int .i64 slot] W fun e W' => e = .returned (.tuple #[.agg (plC (homeR X n slot)).toArray, .int .i64 (homeE n slot : Int)]) ∧ Sux w0 W' b hi S V A n c X AI mI cI LI AD mD cD LD :=
  (K.home_any W A n c X h.sox.in_ slot hs).mono fun _ _ ⟨he, hb⟩ => ⟨he, h.later hb⟩
theorem Sux.par (h : Sux w0 W b hi S V A n c X AI mI cI LI AD mD cD LD) (K : StrK) (t : Int) (ht : I64In t) : Calls Tryz.prog 16 #[.slice A n c, .int .i64 t] W fun e W' => e = .returned (.tuple #[.agg (plC (parR X n t)).toArray, .int .i64 (strE n t : Int)]) ∧ Sux w0 W' b hi S V A n c X AI mI cI LI AD mD cD LD :=
  (K.par_any W A n c X h.sox.in_ t ht).mono fun _ _ ⟨he, hb⟩ => ⟨he, h.later hb⟩
theorem Sux.mates (h : Sux w0 W b hi S V A n c X AI mI cI LI AD mD cD LD) (K : StrK) (slot : Int) (hs : I64In slot) : Calls Tryz.prog 18 #[.slice A n c, .int .i64 slot] W fun e W' => ∃ A' m c', e = .returned (.tuple #[.slice A' m c', .int .i64 (homeE n slot : Int)]) ∧ Reads W' W'.heap.size 2 A' m (plsL (matesR X n slot)) ∧ m ≤ c' ∧ c' ≤ 9223372036854775807 ∧ Below W.heap.size W W' ∧ Sux w0 W' b hi S V A n c X AI mI cI LI AD mD cD LD :=
  (K.mates_any W A n c X h.sox.in_ slot hs).mono fun _ _ ⟨A', m, c', he, h1, h2, h3, hb⟩ => ⟨A', m, c', he, h1, h2, h3, hb, h.later hb⟩
theorem Sux.sread (h : Sux w0 W b hi S V A n c X AI mI cI LI AD mD cD LD) (K : StrK) (slot : Int) (hs : I64In slot) : Calls Tryz.prog 22 #[.pointer (some ⟨b, 0, none⟩), .slice A n c, .int .i64 slot] W fun e W' => e = .returned (.tuple #[secV (S.sread X slot).1, .int .i64 ((S.sread X slot).2 : Int)]) ∧ Sux w0 W' b hi S V A n c X AI mI cI LI AD mD cD LD :=
  (K.read_any W b _ S h.sox.sit.bank.on A n c X h.sox.in_ slot hs).mono fun _ _ ⟨he, hb⟩ => ⟨he, h.later hb⟩
theorem row_off {base lo m k : Nat} {B : Option Addr} {e : TypeId} {size : Nat} {xs : List Value} (h : W.ownsRow base e size (.slice B m k) m xs) (hm : hi ≤ base) : Off (In lo hi) B m := fun ad e hn hf => by
  rcases h.2 with ⟨_, e0⟩ | ⟨g, cap, cur, e0, h2, _⟩
  · omega
  · injection e0 with e1 _ _
    rw [e] at e1
    injection e1 with e1
    subst e1
    have h3 : g < hi := hf.2
    omega
/-- The row of sectors is written whole. -/
theorem Sux.sfull (h : Sux w0 W b hi S V A n c X AI mI cI LI AD mD cD LD) (K : StrK) (hw : S.writes < 4611686018427387000) (t : Int) (ht : I64In t) (h1 : mD ≤ 1000) :
    Calls Tryz.prog 19 #[.pointer (some ⟨b, 0, none⟩), .slice A n c, .int .i64 t, .slice AD mD cD] W fun e W' => e = .returned (.int .i64 ((S.sfull X t LD).1 : Int)) ∧ Sux w0 W' b hi (S.sfull X t LD).2 V A n c X AI mI cI LI AD mD cD LD :=
  (K.full_any W b _ S h.sox.sit.bank.on hw A n c X h.sox.in_ h.sox.off t ht AD mD cD LD (Reads.of_own h.secs) h.fewD.2.2 h1 h.fewD.1 h.fewD.2.1 (row_off h.secs (Nat.le_refl _))).mono fun _ _ ⟨he, hB, hT⟩ => ⟨he, h.on hB hT⟩
theorem Sux.fail (h : Sux w0 W b hi S V A n c X AI mI cI LI AD mD cD LD) (di : Int) :
    Calls Tryz.prog 21 #[.pointer (some ⟨b, 0, none⟩), .int .i64 di] W fun e W' => ∃ q : Int, e = .returned (.int .i64 q) ∧ Sux w0 W' b hi (S.failI (nI di)) V A n c X AI mI cI LI AD mD cD LD :=
  (onI_fail h.sox.sit.bank.on di).mono fun _ _ ⟨he, hB, hT⟩ => ⟨_, he, h.on hB hT⟩
/-! ### The rows -/
end
section
variable {w0 W W' : World} {b hi n c mI cI mD cD : Nat} {S S' : Bank} {V : List (Nat × TypeId × List Value)} {A AI AD : Option Addr} {X : List PlI} {LI : List Int} {LD : List Sec}
/-- A new row of sectors, laid at once. -/
theorem Sux.newD (h : Sux w0 W b hi S V A n c X AI mI cI LI AD mD cD LD) (L : List Sec) (m : Nat) (hm : L.length = m) (hs : m ≤ 1000) : Sux w0 (W.alloc (.cells (secD L).toArray 43)) b hi S V A n c X AI mI cI LI (some ⟨W.heap.size, 0, none⟩) m m L := by
  have hh := h.later ((Below.refl _ _).alloc (Nat.le_refl _) (.cells (secD L).toArray 43))
  have hl : (secD L).length = m * 64 := by rw [secD_length, hm]
  refine ⟨hh.sox, hh.ints, ⟨hl, .inr ⟨W.heap.size, m, _, rfl, h.sox.sit.hi_le, heap_alloc_new W _, Nat.le_refl _, by simp only [maxLen]; omega, by rw [List.size_toArray]; exact hl, ?_⟩⟩, hh.offI, fun g e i p hp => ?_⟩
  · show (secD L).take (m * 64) = secD L
    exact List.take_of_length_le (by omega)
  · have : W.heap.size = g := by simpa [Value.ownBlock] using e
    have := (h.own i p hp).2.lt
    omega
theorem secD_two (s t : Sec) : secD [s, t] = secL s ++ secL t := by unfold secD; simp [rawS, secL, B8_append]
theorem wpList_twoS {ops : Array Oper} {rest : List Oper} {o : Oper} {a : Act} {Q : Exit → Act → World → Prop} {w : World} (hgd : o.guard = none) (x y : Operand) (ho : o.op = .buildSlice 56 2 #[(0, x), (1, y)]) (s t : Sec) (hx : a.eval x = .agg (secL s).toArray) (hy : a.eval y = .agg (secL t).toArray)
    (h : wpList Tryz.prog ops Q rest (a.put o.dst (.slice (some ⟨w.heap.size, 0, none⟩) 2 2)) (w.alloc (.cells (secD [s, t]).toArray 43))) : wpList Tryz.prog ops Q (o :: rest) a w := by
  obtain ⟨i0, hi0, hz0, hz1, hz2⟩ := info_parts ysec_parts
  have hrun := run_build_aggs (P := Tryz.prog) w 56 43 i0 _ 64 Tryz.underlying56 hi0 (sec_zero _) hz1 (by decide) (by decide) 2 (by decide) (by decide) #[(0, .agg (secL s).toArray), (1, .agg (secL t).toArray)] (secD [s, t]).toArray (fun C hC => by rw [secD_two]; exact fill_two 64 (secL s).toArray (secL t).toArray (by rw [List.size_toArray, secL_length]) (by rw [List.size_toArray, secL_length]) C hC)
  refine wpList_plain hgd fun _ hK => ?_
  unfold Oper.wp execOp
  simp [ho, hx, hy, hrun, Result.andThen]
  exact hK _ _ h
end
end Go.Proofs.YtmjjnbabfldbcaaGreat
namespace Go.Proofs.YtmjjnbabfldbcaaGreat
open Go.RowKit
set_option linter.unusedVariables false
theorem st5 : homeR (rowX idN 3) 3 16 = (0, 0) := by decide +kernel
theorem st6 : homeR ((rowX idN 3).take 1) 1 0 = (0, 0) := by decide +kernel
theorem st7 : ss1.failI 2 = ss2 := by unfold Bank.failI; rw [if_pos (by rw [st2]; decide)]; rfl
section
variable {w0 W W' : World} {b hi n c mI cI mD cD : Nat} {S S' : Bank} {V : List (Nat × TypeId × List Value)} {A AI AD : Option Addr} {X : List PlI} {LI : List Int} {LD : List Sec}
theorem Sux.homeHead (h : Sux w0 W b hi S V A n c X AI mI cI LI AD mD cD LD) (K : StrK) (m : Nat) (hm : m ≤ n) (slot : Int) (hs : I64In slot) : Calls Tryz.prog 17 #[.slice A m c, .int .i64 slot] W fun e W' => e = .returned (.tuple #[.agg (plC (homeR (X.take m) m slot)).toArray, .int .i64 (homeE m slot : Int)]) ∧ Sux w0 W' b hi S V A n c X AI mI cI LI AD mD cD LD := by
  have h1 := h.sox.in_
  refine (K.home_any W A m c (X.take m) ⟨?_, fun p hp => h1.small p (List.mem_of_mem_take hp), Nat.le_trans hm h1.few, Nat.le_trans hm h1.cap, h1.max⟩ slot hs).mono fun _ _ ⟨he, hb⟩ => ⟨he, h.later hb⟩
  have := h1.reads.head hm
  rwa [plsL_take] at this
end
set_option maxRecDepth 100000 in
set_option maxHeartbeats 8000000 in
theorem shown13_any (K : StrK) (w : World) : Calls Tryz.prog 4 #[] w fun e w' => e = .returned (.bool true) ∧ Below w.heap.size w w' := by
  obtain ⟨a, ha⟩ : ∃ a, a = secOf 1 := ⟨_, rfl⟩
  obtain ⟨d, hd⟩ : ∃ d, d = secOf 2 := ⟨_, rfl⟩
  have HA := hide (fun w => ha ▸ sector_any 1 w)
  have HC := hide (fun w => hd ▸ sector_any 2 w)
  have HQ1 := hide (show ss0.writes = 0 ∧ (ss0.sfull (rowX idN 3) 1 [a, d]).1 = 0 by rw [ha, hd]; exact st1)
  have HS1 := hide (show (ss0.sfull (rowX idN 3) 1 [a, d]).2 = ss1 by rw [ha, hd]; rfl)
  have HQ3 := hide (show (ss2.sread (rowX idN 3) 3).1 = d ∧ (ss2.sread (rowX idN 3) 3).2 = 0 by rw [hd]; exact st3)
  clear ha hd
  go_enter Tryz.func4, Tryz.ntmps4
  go_upto_region 4 with (first
    | (go_at_call 5; refine (sit_laid13 w w (Below.refl _ _) 3 (by decide)).mono ?_; rintro _ y1 ⟨rfl, hsq⟩; have HS_y1 : Hid (Sux w y1 w.heap.size y1.heap.size ss0 [] none 0 0 ([]) none 0 0 ([]) none 0 0 ([])) := hide hsq.up.up; clear hsq))
  go_upto_region 5 with (first
    | (go_at_call 15; refine (HS_y1.out.sox.sit.row 3 (by decide)).mono ?_; rintro _ y2 ⟨A_y2, c_y2, rfl, hsq⟩; have HS_y2 : Hid (Sux w y2 w.heap.size y1.heap.size ss0 [] A_y2 3 c_y2 (rowX idN 3) none 0 0 ([]) none 0 0 ([])) := hide hsq.up; clear hsq))
  go_upto_region 6 with (first
    | (go_at_call 16; refine (HS_y2.out.par K 1 ⟨by decide, by decide⟩).mono ?_; rintro _ y3 ⟨rfl, hsq⟩; rw [st4.1, st4.2.1]; have HS_y3 : Hid (Sux w y3 w.heap.size y1.heap.size ss0 [] A_y2 3 c_y2 (rowX idN 3) none 0 0 ([]) none 0 0 ([])) := hide (hsq); clear hsq)
    | ((with_reducible refine at_slot 3 ?_); refine wpList_alloc_blk rfl 47 rfl _ (mplace_zero _) ?_; intro y4 hbq hl1 hs1; clear hs1)
    | ((with_reducible refine at_store 3 ?_); refine wpList_store_all rfl 47 (.tmp 3) (.tmp 23) rfl y3.heap.size 47 _ hbq rfl (plL (1) (2)) rfl mplace_info rfl (mplace_one _ _) ?_; intro y5 hbz hg hs; have HS_y5 : Hid (Sux w y5 w.heap.size y1.heap.size ss0 [(y3.heap.size, 47, plL (1) (2))] A_y2 3 c_y2 (rowX idN 3) none 0 0 ([]) none 0 0 ([])) := hide (HS_y3.out.new hl1 hg hbz); clear hs hbq hl1 hg hbz))
  go_upto_region 7 with (first
    | (go_at_call 17; refine (HS_y5.out.home K 3 ⟨by decide, by decide⟩).mono ?_; rintro _ y6 ⟨rfl, hsq⟩; rw [st4.2.2.1, st4.2.2.2.1]; have HS_y6 : Hid (Sux w y6 w.heap.size y1.heap.size ss0 [(y3.heap.size, 47, plL (1) (2))] A_y2 3 c_y2 (rowX idN 3) none 0 0 ([]) none 0 0 ([])) := hide (hsq); clear hsq)
    | ((with_reducible refine at_slot 5 ?_); refine wpList_alloc_blk rfl 47 rfl _ (mplace_zero _) ?_; intro y7 hbq hl1 hs1; clear hs1)
    | ((with_reducible refine at_store 5 ?_); refine wpList_store_all rfl 47 (.tmp 5) (.tmp 28) rfl y6.heap.size 47 _ hbq rfl (plL (2) (3)) rfl mplace_info rfl (mplace_one _ _) ?_; intro y8 hbz hg hs; have HS_y8 : Hid (Sux w y8 w.heap.size y1.heap.size ss0 [(y3.heap.size, 47, plL (1) (2)), (y6.heap.size, 47, plL (2) (3))] A_y2 3 c_y2 (rowX idN 3) none 0 0 ([]) none 0 0 ([])) := hide (HS_y6.out.new hl1 hg hbz); clear hs hbq hl1 hg hbz))
  go_upto_region 8 with (first
    | (go_at_call 18; refine (HS_y8.out.mates K 3 ⟨by decide, by decide⟩).mono ?_; rintro _ y9 ⟨B_y9, m_y9, k_y9, rfl, hrd, hcp, hcm, hlq, hsq⟩; rw [st4.2.2.2.1]; have HR_y9 := hide hrd; have HC_y9 := hide (And.intro hcp hcm); have HL_y9 := hide hlq; have HS_y9 : Hid (Sux w y9 w.heap.size y1.heap.size ss0 [(y3.heap.size, 47, plL (1) (2)), (y6.heap.size, 47, plL (2) (3))] A_y2 3 c_y2 (rowX idN 3) none 0 0 ([]) none 0 0 ([])) := hide hsq; clear hsq hrd hcp hcm hlq))
  obtain rfl : m_y9 = 2 := by have := reads_len HR_y9.out; rw [st4.2.2.2.2.1] at this; exact this.symm
  go_upto_region 9 with (first
    | (go_at_call 20; (with_reducible refine (HC.out _).mono ?_); rintro _ y11 ⟨rfl, hlq⟩; have HS_y11 : Hid (Sux w y11 w.heap.size y1.heap.size ss0 [(y3.heap.size, 47, plL (1) (2)), (y6.heap.size, 47, plL (2) (3))] A_y2 3 c_y2 (rowX idN 3) none 0 0 ([]) none 0 0 ([])) := hide (HS_y10.out.later hlq); clear hlq)
    | (go_at_call 20; (with_reducible refine (HA.out _).mono ?_); rintro _ y10 ⟨rfl, hlq⟩; have HS_y10 : Hid (Sux w y10 w.heap.size y1.heap.size ss0 [(y3.heap.size, 47, plL (1) (2)), (y6.heap.size, 47, plL (2) (3))] A_y2 3 c_y2 (rowX idN 3) none 0 0 ([]) none 0 0 ([])) := hide (HS_y9.out.later hlq); clear hlq)
    | ((with_reducible refine at_slot 39 ?_); refine wpList_twoS rfl (.tmp 37) (.tmp 38) rfl a d rfl rfl ?_; have HS_y12 : Hid (Sux w (y11.alloc (.cells (secD [a, d]).toArray 43)) w.heap.size y1.heap.size ss0 [(y3.heap.size, 47, plL (1) (2)), (y6.heap.size, 47, plL (2) (3))] A_y2 3 c_y2 (rowX idN 3) none 0 0 ([]) (some ⟨y11.heap.size, 0, none⟩) 2 2 ([a, d])) := hide (HS_y11.out.newD [a, d] 2 rfl (by decide)))
    | (go_at_call 19; refine (HS_y12.out.sfull K (by rw [HQ1.out.1]; decide) 1 ⟨by decide, by decide⟩ (by decide)).mono ?_; rintro _ y13 ⟨rfl, hsq⟩; rw [HS1.out] at hsq; rw [HQ1.out.2]; have HS_y13 : Hid (Sux w y13 w.heap.size y1.heap.size ss1 [(y3.heap.size, 47, plL (1) (2)), (y6.heap.size, 47, plL (2) (3))] A_y2 3 c_y2 (rowX idN 3) none 0 0 ([]) (some ⟨y11.heap.size, 0, none⟩) 2 2 ([a, d])) := hide (hsq); clear hsq))
  go_upto_region 10 with (first
    | (go_at_call 21; refine (HS_y13.out.fail 2).mono ?_; rintro _ y14 ⟨_, rfl, hsq⟩; rw [show nI 2 = 2 from rfl, st7] at hsq; have HS_y14 : Hid (Sux w y14 w.heap.size y1.heap.size ss2 [(y3.heap.size, 47, plL (1) (2)), (y6.heap.size, 47, plL (2) (3))] A_y2 3 c_y2 (rowX idN 3) none 0 0 ([]) (some ⟨y11.heap.size, 0, none⟩) 2 2 ([a, d])) := hide (hsq); clear hsq))
  go_upto_region 11 with (first
    | (go_at_call 22; refine (HS_y14.out.sread K 3 ⟨by decide, by decide⟩).mono ?_; rintro _ y15 ⟨rfl, hsq⟩; rw [HQ3.out.1, HQ3.out.2]; have HS_y15 : Hid (Sux w y15 w.heap.size y1.heap.size ss2 [(y3.heap.size, 47, plL (1) (2)), (y6.heap.size, 47, plL (2) (3))] A_y2 3 c_y2 (rowX idN 3) none 0 0 ([]) (some ⟨y11.heap.size, 0, none⟩) 2 2 ([a, d])) := hide (hsq); clear hsq)
    | ((with_reducible refine at_slot 10 ?_); refine wpList_alloc_blk rfl 43 rfl _ (sec_zero _) ?_; intro y16 hbq hl1 hs1; clear hs1)
    | ((with_reducible refine at_store 10 ?_); refine wpList_store_all rfl 43 (.tmp 10) (.tmp 47) rfl y15.heap.size 43 _ hbq rfl (secL d) rfl (msec_size _) (msec_len _ _) (secL_one _) ?_; intro y17 hbz hg hs; have HS_y17 : Hid (Sux w y17 w.heap.size y1.heap.size ss2 [(y3.heap.size, 47, plL (1) (2)), (y6.heap.size, 47, plL (2) (3)), (y15.heap.size, 43, secL d)] A_y2 3 c_y2 (rowX idN 3) none 0 0 ([]) (some ⟨y11.heap.size, 0, none⟩) 2 2 ([a, d])) := hide (HS_y15.out.new hl1 hg hbz); clear hs hbq hl1 hg hbz))
  go_upto_region 12 with (first
    | (go_at_call 17; refine (HS_y17.out.home K 16 ⟨by decide, by decide⟩).mono ?_; rintro _ y18 ⟨rfl, hsq⟩; rw [st5, st4.2.2.2.2.2.1]; have HS_y18 : Hid (Sux w y18 w.heap.size y1.heap.size ss2 [(y3.heap.size, 47, plL (1) (2)), (y6.heap.size, 47, plL (2) (3)), (y15.heap.size, 43, secL d)] A_y2 3 c_y2 (rowX idN 3) none 0 0 ([]) (some ⟨y11.heap.size, 0, none⟩) 2 2 ([a, d])) := hide (hsq); clear hsq)
    | ((with_reducible refine at_slot 12 ?_); refine wpList_alloc_blk rfl 47 rfl _ (mplace_zero _) ?_; intro y19 hbq hl1 hs1; clear hs1)
    | ((with_reducible refine at_store 12 ?_); refine wpList_store_all rfl 47 (.tmp 12) (.tmp 52) rfl y18.heap.size 47 _ hbq rfl (plL (0) (0)) rfl mplace_info rfl (mplace_one _ _) ?_; intro y20 hbz hg hs; have HS_y20 : Hid (Sux w y20 w.heap.size y1.heap.size ss2 [(y3.heap.size, 47, plL (1) (2)), (y6.heap.size, 47, plL (2) (3)), (y15.heap.size, 43, secL d), (y18.heap.size, 47, plL (0) (0))] A_y2 3 c_y2 (rowX idN 3) none 0 0 ([]) (some ⟨y11.heap.size, 0, none⟩) 2 2 ([a, d])) := hide (HS_y18.out.new hl1 hg hbz); clear hs hbq hl1 hg hbz))
  have hcx := (HS_y20.out.sox.in_).cap
  go_wp2_with (first
    | (go_at_call 17; refine (HS_y20.out.homeHead K 1 (by decide) 0 ⟨by decide, by decide⟩).mono ?_; rintro _ y21 ⟨rfl, hsq⟩; rw [st6, st4.2.2.2.2.2.2.1]; have HS_y21 : Hid (Sux w y21 w.heap.size y1.heap.size ss2 [(y3.heap.size, 47, plL (1) (2)), (y6.heap.size, 47, plL (2) (3)), (y15.heap.size, 43, secL d), (y18.heap.size, 47, plL (0) (0))] A_y2 3 c_y2 (rowX idN 3) none 0 0 ([]) (some ⟨y11.heap.size, 0, none⟩) 2 2 ([a, d])) := hide (hsq); clear hsq)
    | ((with_reducible refine at_slot 14 ?_); refine wpList_alloc_blk rfl 47 rfl _ (mplace_zero _) ?_; intro y22 hbq hl1 hs1; clear hs1)
    | ((with_reducible refine at_store 14 ?_); refine wpList_store_all rfl 47 (.tmp 14) (.tmp 58) rfl y21.heap.size 47 _ hbq rfl (plL (0) (0)) rfl mplace_info rfl (mplace_one _ _) ?_; intro y23 hbz hg hs; have HS_y23 : Hid (Sux w y23 w.heap.size y1.heap.size ss2 [(y3.heap.size, 47, plL (1) (2)), (y6.heap.size, 47, plL (2) (3)), (y15.heap.size, 43, secL d), (y18.heap.size, 47, plL (0) (0)), (y21.heap.size, 47, plL (0) (0))] A_y2 3 c_y2 (rowX idN 3) none 0 0 ([]) (some ⟨y11.heap.size, 0, none⟩) 2 2 ([a, d])) := hide (HS_y21.out.new hl1 hg hbz); clear hs hbq hl1 hg hbz))
  refine wp_region_held_drew (S := (fun W => OwnV W y1.heap.size [(y3.heap.size, 47, plL (1) (2)), (y6.heap.size, 47, plL (2) (3)), (y15.heap.size, 43, secL d), (y18.heap.size, 47, plL (0) (0)), (y21.heap.size, 47, plL (0) (0))])) (by kernel_rfl) ?_ (fun hHeld => ?_)
  · exact HS_y23.out.drew.own
  have HS_dy23 := hide (HS_y23.out.drew)
  refine wpAnyH_ready (rs := [0]) (by kernel_rfl) (by simp) ?_
  refine heldCons (i := 0) rfl (fun Kq hKq => ?_) AllReadyH.nil
  go_simp
  go_at_call 23
  (with_reducible refine (K.slots_any _ 3 (by decide) (by decide)).mono ?_)
  rintro _ y24 ⟨rfl, hlq⟩
  rw [show slotsN (3 : Int).toNat = 16 from rfl]
  have HS_y24 : Hid (Sux w y24 w.heap.size y1.heap.size ss2 [(y3.heap.size, 47, plL (1) (2)), (y6.heap.size, 47, plL (2) (3)), (y15.heap.size, 43, secL d), (y18.heap.size, 47, plL (0) (0)), (y21.heap.size, 47, plL (0) (0))] A_y2 3 c_y2 (rowX idN 3) none 0 0 ([]) (some ⟨y11.heap.size, 0, none⟩) 2 2 ([a, d])) := hide (HS_dy23.out.later hlq)
  clear hlq
  first | (refine hKq.out _ _ HS_y24.out.own (fun hHeld => ?_)) | (go_wp2_with fail; refine hKq.out _ _ HS_y24.out.own (fun hHeld => ?_))
  clear hKq Kq
  try simp only [Act.put, List.setIfInBounds_toArray, List.set_cons_zero, List.set_cons_succ]
  refine heldTake (i := 1) (v := ?_) rfl (by kernel_rfl) (by kernel_rfl) (by kernel_rfl) (fun _ _ _ h => h) (Or.inl ⟨by rfl, ?_⟩) (by assumption) ?_
  rotate_left
  · intro w hSw; (try dsimp only at hSw); go_simp <;> (with_reducible rfl)
  try simp only [Act.put, List.setIfInBounds_toArray, List.set_cons_zero, List.set_cons_succ]
  refine heldTake (i := 2) (v := ?_) rfl (by kernel_rfl) (by kernel_rfl) (by kernel_rfl) (fun _ _ _ h => h) (Or.inl ⟨by rfl, ?_⟩) (by assumption) ?_
  rotate_left
  · intro w hSw; (try dsimp only at hSw); go_simp <;> (with_reducible rfl)
  try simp only [Act.put, List.setIfInBounds_toArray, List.set_cons_zero, List.set_cons_succ]
  refine wpAnyH_ready (rs := [3]) (by kernel_rfl) (by simp) ?_
  refine heldCons (i := 3) rfl (fun Kq hKq => ?_) AllReadyH.nil
  go_simp
  go_at_call 23
  (with_reducible refine (K.slots_any _ 1 (by decide) (by decide)).mono ?_)
  rintro _ y25 ⟨rfl, hlq⟩
  rw [show slotsN (1 : Int).toNat = 0 from rfl]
  have HS_y25 : Hid (Sux w y25 w.heap.size y1.heap.size ss2 [(y3.heap.size, 47, plL (1) (2)), (y6.heap.size, 47, plL (2) (3)), (y15.heap.size, 43, secL d), (y18.heap.size, 47, plL (0) (0)), (y21.heap.size, 47, plL (0) (0))] A_y2 3 c_y2 (rowX idN 3) none 0 0 ([]) (some ⟨y11.heap.size, 0, none⟩) 2 2 ([a, d])) := hide (HS_y24.out.later hlq)
  clear hlq
  first | (refine hKq.out _ _ HS_y25.out.own (fun hHeld => ?_)) | (go_wp2_with fail; refine hKq.out _ _ HS_y25.out.own (fun hHeld => ?_))
  clear hKq Kq
  try simp only [Act.put, List.setIfInBounds_toArray, List.set_cons_zero, List.set_cons_succ]
  refine heldTake (i := 4) (v := ?_) rfl (by kernel_rfl) (by kernel_rfl) (by kernel_rfl) (fun _ _ _ h => h) (Or.inl ⟨by rfl, ?_⟩) (by assumption) ?_
  rotate_left
  · intro w hSw; (try dsimp only at hSw); go_simp <;> (with_reducible rfl)
  try simp only [Act.put, List.setIfInBounds_toArray, List.set_cons_zero, List.set_cons_succ]
  refine heldTake (i := 5) (v := ?_) rfl (by kernel_rfl) (by kernel_rfl) (by kernel_rfl) (fun _ _ _ h => h) (Or.inl ⟨by rfl, ?_⟩) (by assumption) ?_
  rotate_left
  · intro w hSw; (try dsimp only at hSw); go_simp <;> (with_reducible rfl)
  try simp only [Act.put, List.setIfInBounds_toArray, List.set_cons_zero, List.set_cons_succ]
  refine heldTake (i := 6) (v := ?_) rfl (by kernel_rfl) (by kernel_rfl) (by kernel_rfl) (fun _ _ _ h => h) (Or.inl ⟨by rfl, ?_⟩) (by assumption) ?_
  rotate_left
  · intro w hSw; (try dsimp only at hSw); go_simp <;> (with_reducible rfl)
  try simp only [Act.put, List.setIfInBounds_toArray, List.set_cons_zero, List.set_cons_succ]
  refine heldTake (i := 7) (v := .agg (plL (1) (2)).toArray) rfl (by kernel_rfl) (by kernel_rfl) (by kernel_rfl) (fun _ _ _ h => h) (yieldsIf_load_mid (by rfl) _ _ rfl _ _ rfl (plL (1) (2)) _ (fun W hW => hW.range 0 rfl) Tryz.underlying47 rfl mplace_info) (by assumption) ?_
  try simp only [Act.put, List.setIfInBounds_toArray, List.set_cons_zero, List.set_cons_succ]
  refine heldTake (i := 8) (v := ?_) rfl (by kernel_rfl) (by kernel_rfl) (by kernel_rfl) (fun _ _ _ h => h) (Or.inl ⟨by rfl, ?_⟩) (by assumption) ?_
  rotate_left
  · intro w hSw; (try dsimp only at hSw); go_simp <;> (with_reducible rfl)
  try simp only [Act.put, List.setIfInBounds_toArray, List.set_cons_zero, List.set_cons_succ]
  refine heldTake (i := 9) (v := .bool true) rfl (by kernel_rfl) (by kernel_rfl) (by kernel_rfl) (fun _ _ _ h => h) (Or.inl ⟨by rfl, fun W hW => run_eqPl W _ (.tmp 67) (.tmp 68) _ rfl 1 2 1 2 rfl rfl true (by decide)⟩) (by assumption) ?_
  try simp only [Act.put, List.setIfInBounds_toArray, List.set_cons_zero, List.set_cons_succ]
  refine heldTake (i := 10) (v := ?_) rfl (by kernel_rfl) (by kernel_rfl) (by kernel_rfl) (fun _ _ _ h => h) (Or.inl ⟨by rfl, ?_⟩) (by assumption) ?_
  rotate_left
  · intro w hSw; (try dsimp only at hSw); go_simp <;> (with_reducible rfl)
  try simp only [Act.put, List.setIfInBounds_toArray, List.set_cons_zero, List.set_cons_succ]
  refine heldTake (i := 11) (v := ?_) rfl (by kernel_rfl) (by kernel_rfl) (by kernel_rfl) (fun _ _ _ h => h) (Or.inl ⟨by rfl, ?_⟩) (by assumption) ?_
  rotate_left
  · intro w hSw; (try dsimp only at hSw); go_simp <;> (with_reducible rfl)
  try simp only [Act.put, List.setIfInBounds_toArray, List.set_cons_zero, List.set_cons_succ]
  refine heldTake (i := 12) (v := ?_) rfl (by kernel_rfl) (by kernel_rfl) (by kernel_rfl) (fun _ _ _ h => h) (Or.inl ⟨by rfl, ?_⟩) (by assumption) ?_
  rotate_left
  · intro w hSw; (try dsimp only at hSw); go_simp <;> (with_reducible rfl)
  try simp only [Act.put, List.setIfInBounds_toArray, List.set_cons_zero, List.set_cons_succ]
  refine heldTake (i := 13) (v := ?_) rfl (by kernel_rfl) (by kernel_rfl) (by kernel_rfl) (fun _ _ _ h => h) (Or.inl ⟨by rfl, ?_⟩) (by assumption) ?_
  rotate_left
  · intro w hSw; (try dsimp only at hSw); go_simp <;> (with_reducible rfl)
  try simp only [Act.put, List.setIfInBounds_toArray, List.set_cons_zero, List.set_cons_succ]
  refine heldTake (i := 14) (v := ?_) rfl (by kernel_rfl) (by kernel_rfl) (by kernel_rfl) (fun _ _ _ h => h) (Or.inl ⟨by rfl, ?_⟩) (by assumption) ?_
  rotate_left
  · intro w hSw; (try dsimp only at hSw); go_simp <;> (with_reducible rfl)
  try simp only [Act.put, List.setIfInBounds_toArray, List.set_cons_zero, List.set_cons_succ]
  refine heldTake (i := 15) (v := ?_) rfl (by kernel_rfl) (by kernel_rfl) (by kernel_rfl) (fun _ _ _ h => h) (Or.inl ⟨by rfl, ?_⟩) (by assumption) ?_
  rotate_left
  · intro w hSw; (try dsimp only at hSw); go_simp <;> (with_reducible rfl)
  try simp only [Act.put, List.setIfInBounds_toArray, List.set_cons_zero, List.set_cons_succ]
  refine heldTake (i := 16) (v := .agg (plL (2) (3)).toArray) rfl (by kernel_rfl) (by kernel_rfl) (by kernel_rfl) (fun _ _ _ h => h) (yieldsIf_load_mid (by rfl) _ _ rfl _ _ rfl (plL (2) (3)) _ (fun W hW => hW.range 1 rfl) Tryz.underlying47 rfl mplace_info) (by assumption) ?_
  try simp only [Act.put, List.setIfInBounds_toArray, List.set_cons_zero, List.set_cons_succ]
  refine heldTake (i := 17) (v := ?_) rfl (by kernel_rfl) (by kernel_rfl) (by kernel_rfl) (fun _ _ _ h => h) (Or.inl ⟨by rfl, ?_⟩) (by assumption) ?_
  rotate_left
  · intro w hSw; (try dsimp only at hSw); go_simp <;> (with_reducible rfl)
  try simp only [Act.put, List.setIfInBounds_toArray, List.set_cons_zero, List.set_cons_succ]
  refine heldTake (i := 18) (v := .bool true) rfl (by kernel_rfl) (by kernel_rfl) (by kernel_rfl) (fun _ _ _ h => h) (Or.inl ⟨by rfl, fun W hW => run_eqPl W _ (.tmp 76) (.tmp 77) _ rfl 2 3 2 3 rfl rfl true (by decide)⟩) (by assumption) ?_
  try simp only [Act.put, List.setIfInBounds_toArray, List.set_cons_zero, List.set_cons_succ]
  refine heldTake (i := 19) (v := ?_) rfl (by kernel_rfl) (by kernel_rfl) (by kernel_rfl) (fun _ _ _ h => h) (Or.inl ⟨by rfl, ?_⟩) (by assumption) ?_
  rotate_left
  · intro w hSw; (try dsimp only at hSw); go_simp <;> (with_reducible rfl)
  try simp only [Act.put, List.setIfInBounds_toArray, List.set_cons_zero, List.set_cons_succ]
  refine heldTake (i := 20) (v := ?_) rfl (by kernel_rfl) (by kernel_rfl) (by kernel_rfl) (fun _ _ _ h => h) (Or.inl ⟨by rfl, ?_⟩) (by assumption) ?_
  rotate_left
  · intro w hSw; (try dsimp only at hSw); go_simp <;> (with_reducible rfl)
  try simp only [Act.put, List.setIfInBounds_toArray, List.set_cons_zero, List.set_cons_succ]
  refine heldTake (i := 21) (v := ?_) rfl (by kernel_rfl) (by kernel_rfl) (by kernel_rfl) (fun _ _ _ h => h) (Or.inl ⟨by rfl, ?_⟩) (by assumption) ?_
  rotate_left
  · intro w hSw; (try dsimp only at hSw); go_simp <;> (with_reducible rfl)
  try simp only [Act.put, List.setIfInBounds_toArray, List.set_cons_zero, List.set_cons_succ]
  refine heldTake (i := 22) (v := ?_) rfl (by kernel_rfl) (by kernel_rfl) (by kernel_rfl) (fun _ _ _ h => h) (Or.inl ⟨by rfl, ?_⟩) (by assumption) ?_
  rotate_left
  · intro w hSw; (try dsimp only at hSw); go_simp <;> (with_reducible rfl)
  try simp only [Act.put, List.setIfInBounds_toArray, List.set_cons_zero, List.set_cons_succ]
  refine heldTake (i := 23) (v := ?_) rfl (by kernel_rfl) (by kernel_rfl) (by kernel_rfl) (fun _ _ _ h => h) (Or.inl ⟨by rfl, ?_⟩) (by assumption) ?_
  rotate_left
  · intro w hSw; (try dsimp only at hSw); go_simp <;> (with_reducible rfl)
  try simp only [Act.put, List.setIfInBounds_toArray, List.set_cons_zero, List.set_cons_succ]
  refine heldTake (i := 24) (v := ?_) rfl (by kernel_rfl) (by kernel_rfl) (by kernel_rfl) (fun _ _ _ h => h) (Or.inl ⟨by rfl, ?_⟩) (by assumption) ?_
  rotate_left
  · intro w hSw; (try dsimp only at hSw); go_simp <;> (with_reducible rfl)
  try simp only [Act.put, List.setIfInBounds_toArray, List.set_cons_zero, List.set_cons_succ]
  refine heldTake (i := 25) (v := ?_) rfl (by kernel_rfl) (by kernel_rfl) (by kernel_rfl) (fun _ _ _ h => h) (Or.inl ⟨by rfl, ?_⟩) (by assumption) ?_
  rotate_left
  · intro w hSw; (try dsimp only at hSw); go_simp <;> (with_reducible rfl)
  try simp only [Act.put, List.setIfInBounds_toArray, List.set_cons_zero, List.set_cons_succ]
  refine heldTake (i := 26) (v := ?_) rfl (by kernel_rfl) (by kernel_rfl) (by kernel_rfl) (fun _ _ _ h => h) (Or.inl ⟨by rfl, ?_⟩) (by assumption) ?_
  rotate_left
  · intro w hSw; (try dsimp only at hSw); go_simp <;> (with_reducible rfl)
  try simp only [Act.put, List.setIfInBounds_toArray, List.set_cons_zero, List.set_cons_succ]
  refine heldTake (i := 27) (v := ?_) rfl (by kernel_rfl) (by kernel_rfl) (by kernel_rfl) (fun _ _ _ h => h) (Or.inl ⟨by rfl, ?_⟩) (by assumption) ?_
  rotate_left
  · intro w hSw; (try dsimp only at hSw); go_simp <;> (with_reducible rfl)
  try simp only [Act.put, List.setIfInBounds_toArray, List.set_cons_zero, List.set_cons_succ]
  refine heldTake (i := 28) (v := ?_) rfl (by kernel_rfl) (by kernel_rfl) (by kernel_rfl) (fun _ _ _ h => h) (Or.inl ⟨by rfl, ?_⟩) (by assumption) ?_
  rotate_left
  · intro w hSw; (try dsimp only at hSw); go_simp <;> (with_reducible rfl)
  try simp only [Act.put, List.setIfInBounds_toArray, List.set_cons_zero, List.set_cons_succ]
  refine heldTake (i := 29) (v := ?_) rfl (by kernel_rfl) (by kernel_rfl) (by kernel_rfl) (fun _ _ _ h => h) (Or.inl ⟨by rfl, ?_⟩) (by assumption) ?_
  rotate_left
  · intro w hSw; (try dsimp only at hSw); go_simp <;> (with_reducible rfl)
  try simp only [Act.put, List.setIfInBounds_toArray, List.set_cons_zero, List.set_cons_succ]
  refine heldTake (i := 30) (v := ?_) rfl (by kernel_rfl) (by kernel_rfl) (by kernel_rfl) (fun _ _ _ h => h) (Or.inl ⟨by rfl, ?_⟩) (by assumption) ?_
  rotate_left
  · intro w hSw; (try dsimp only at hSw); go_simp <;> (with_reducible rfl)
  try simp only [Act.put, List.setIfInBounds_toArray, List.set_cons_zero, List.set_cons_succ]
  refine heldTake (i := 31) (v := ?_) rfl (by kernel_rfl) (by kernel_rfl) (by kernel_rfl) (fun _ _ _ h => h) (Or.inl ⟨by rfl, ?_⟩) (by assumption) ?_
  rotate_left
  · intro w hSw; (try dsimp only at hSw); go_simp <;> (with_reducible rfl)
  try simp only [Act.put, List.setIfInBounds_toArray, List.set_cons_zero, List.set_cons_succ]
  refine heldTake (i := 32) (v := ?_) rfl (by kernel_rfl) (by kernel_rfl) (by kernel_rfl) (fun _ _ _ h => h) (Or.inl ⟨by rfl, ?_⟩) (by assumption) ?_
  rotate_left
  · intro w hSw; (try dsimp only at hSw); go_simp <;> (with_reducible rfl)
  try simp only [Act.put, List.setIfInBounds_toArray, List.set_cons_zero, List.set_cons_succ]
  refine heldTake (i := 33) (v := ?_) rfl (by kernel_rfl) (by kernel_rfl) (by kernel_rfl) (fun _ _ _ h => h) (Or.inl ⟨by rfl, ?_⟩) (by assumption) ?_
  rotate_left
  · intro w hSw; (try dsimp only at hSw); go_simp <;> (with_reducible rfl)
  try simp only [Act.put, List.setIfInBounds_toArray, List.set_cons_zero, List.set_cons_succ]
  refine heldTake (i := 34) (v := ?_) rfl (by kernel_rfl) (by kernel_rfl) (by kernel_rfl) (fun _ _ _ h => h) (Or.inl ⟨by rfl, ?_⟩) (by assumption) ?_
  rotate_left
  · intro w hSw; (try dsimp only at hSw); go_simp <;> (with_reducible rfl)
  try simp only [Act.put, List.setIfInBounds_toArray, List.set_cons_zero, List.set_cons_succ]
  refine heldTake (i := 35) (v := ?_) rfl (by kernel_rfl) (by kernel_rfl) (by kernel_rfl) (fun _ _ _ h => h) (Or.inl ⟨by rfl, ?_⟩) (by assumption) ?_
  rotate_left
  · intro w hSw; (try dsimp only at hSw); go_simp <;> (with_reducible rfl)
  try simp only [Act.put, List.setIfInBounds_toArray, List.set_cons_zero, List.set_cons_succ]
  refine heldTake (i := 36) (v := ?_) rfl (by kernel_rfl) (by kernel_rfl) (by kernel_rfl) (fun _ _ _ h => h) (Or.inl ⟨by rfl, ?_⟩) (by assumption) ?_
  rotate_left
  · intro w hSw; (try dsimp only at hSw); go_simp <;> (with_reducible rfl)
  try simp only [Act.put, List.setIfInBounds_toArray, List.set_cons_zero, List.set_cons_succ]
  refine heldTake (i := 37) (v := ?_) rfl (by kernel_rfl) (by kernel_rfl) (by kernel_rfl) (fun _ _ _ h => h) (Or.inl ⟨by rfl, ?_⟩) (by assumption) ?_
  rotate_left
  · intro w hSw; (try dsimp only at hSw); go_simp <;> (with_reducible rfl)
  try simp only [Act.put, List.setIfInBounds_toArray, List.set_cons_zero, List.set_cons_succ]
  refine heldTake (i := 38) (v := .agg (secL d).toArray) rfl (by kernel_rfl) (by kernel_rfl) (by kernel_rfl) (fun _ _ _ h => h) (yieldsIf_load_mid (by rfl) _ _ rfl _ _ rfl (secL d) _ (fun W hW => hW.range 2 rfl) Tryz.underlying43 rfl (msec_size _)) (by assumption) ?_
  try simp only [Act.put, List.setIfInBounds_toArray, List.set_cons_zero, List.set_cons_succ]
  refine wpAnyH_ready (rs := [39]) (by kernel_rfl) (by simp) ?_
  refine heldCons (i := 39) rfl (fun Kq hKq => ?_) AllReadyH.nil
  go_simp
  go_at_call 20
  (with_reducible refine (HC.out _).mono ?_)
  rintro _ y26 ⟨rfl, hlq⟩
  have HS_y26 : Hid (Sux w y26 w.heap.size y1.heap.size ss2 [(y3.heap.size, 47, plL (1) (2)), (y6.heap.size, 47, plL (2) (3)), (y15.heap.size, 43, secL d), (y18.heap.size, 47, plL (0) (0)), (y21.heap.size, 47, plL (0) (0))] A_y2 3 c_y2 (rowX idN 3) none 0 0 ([]) (some ⟨y11.heap.size, 0, none⟩) 2 2 ([a, d])) := hide (HS_y25.out.later hlq)
  clear hlq
  first | (refine hKq.out _ _ HS_y26.out.own (fun hHeld => ?_)) | (go_wp2_with fail; refine hKq.out _ _ HS_y26.out.own (fun hHeld => ?_))
  clear hKq Kq
  try simp only [Act.put, List.setIfInBounds_toArray, List.set_cons_zero, List.set_cons_succ]
  refine heldTake (i := 40) (v := .bool true) rfl (by kernel_rfl) (by kernel_rfl) (by kernel_rfl) (fun _ _ _ h => h) (Or.inl ⟨by rfl, fun W hW => run_eqS W _ (.tmp 98) (.tmp 99) _ rfl d d rfl rfl true (by simp)⟩) (by assumption) ?_
  try simp only [Act.put, List.setIfInBounds_toArray, List.set_cons_zero, List.set_cons_succ]
  refine heldTake (i := 41) (v := ?_) rfl (by kernel_rfl) (by kernel_rfl) (by kernel_rfl) (fun _ _ _ h => h) (Or.inl ⟨by rfl, ?_⟩) (by assumption) ?_
  rotate_left
  · intro w hSw; (try dsimp only at hSw); go_simp <;> (with_reducible rfl)
  try simp only [Act.put, List.setIfInBounds_toArray, List.set_cons_zero, List.set_cons_succ]
  refine heldTake (i := 42) (v := ?_) rfl (by kernel_rfl) (by kernel_rfl) (by kernel_rfl) (fun _ _ _ h => h) (Or.inl ⟨by rfl, ?_⟩) (by assumption) ?_
  rotate_left
  · intro w hSw; (try dsimp only at hSw); go_simp <;> (with_reducible rfl)
  try simp only [Act.put, List.setIfInBounds_toArray, List.set_cons_zero, List.set_cons_succ]
  refine heldTake (i := 43) (v := ?_) rfl (by kernel_rfl) (by kernel_rfl) (by kernel_rfl) (fun _ _ _ h => h) (Or.inl ⟨by rfl, ?_⟩) (by assumption) ?_
  rotate_left
  · intro w hSw; (try dsimp only at hSw); go_simp <;> (with_reducible rfl)
  try simp only [Act.put, List.setIfInBounds_toArray, List.set_cons_zero, List.set_cons_succ]
  refine heldTake (i := 44) (v := ?_) rfl (by kernel_rfl) (by kernel_rfl) (by kernel_rfl) (fun _ _ _ h => h) (Or.inl ⟨by rfl, ?_⟩) (by assumption) ?_
  rotate_left
  · intro w hSw; (try dsimp only at hSw); go_simp <;> (with_reducible rfl)
  try simp only [Act.put, List.setIfInBounds_toArray, List.set_cons_zero, List.set_cons_succ]
  refine heldTake (i := 45) (v := ?_) rfl (by kernel_rfl) (by kernel_rfl) (by kernel_rfl) (fun _ _ _ h => h) (Or.inl ⟨by rfl, ?_⟩) (by assumption) ?_
  rotate_left
  · intro w hSw; (try dsimp only at hSw); go_simp <;> (with_reducible rfl)
  try simp only [Act.put, List.setIfInBounds_toArray, List.set_cons_zero, List.set_cons_succ]
  refine heldTake (i := 46) (v := ?_) rfl (by kernel_rfl) (by kernel_rfl) (by kernel_rfl) (fun _ _ _ h => h) (Or.inl ⟨by rfl, ?_⟩) (by assumption) ?_
  rotate_left
  · intro w hSw; (try dsimp only at hSw); go_simp <;> (with_reducible rfl)
  try simp only [Act.put, List.setIfInBounds_toArray, List.set_cons_zero, List.set_cons_succ]
  refine heldTake (i := 47) (v := ?_) rfl (by kernel_rfl) (by kernel_rfl) (by kernel_rfl) (fun _ _ _ h => h) (Or.inl ⟨by rfl, ?_⟩) (by assumption) ?_
  rotate_left
  · intro w hSw; (try dsimp only at hSw); go_simp <;> (with_reducible rfl)
  try simp only [Act.put, List.setIfInBounds_toArray, List.set_cons_zero, List.set_cons_succ]
  refine heldTake (i := 48) (v := ?_) rfl (by kernel_rfl) (by kernel_rfl) (by kernel_rfl) (fun _ _ _ h => h) (Or.inl ⟨by rfl, ?_⟩) (by assumption) ?_
  rotate_left
  · intro w hSw; (try dsimp only at hSw); go_simp <;> (with_reducible rfl)
  try simp only [Act.put, List.setIfInBounds_toArray, List.set_cons_zero, List.set_cons_succ]
  refine heldTake (i := 49) (v := ?_) rfl (by kernel_rfl) (by kernel_rfl) (by kernel_rfl) (fun _ _ _ h => h) (Or.inl ⟨by rfl, ?_⟩) (by assumption) ?_
  rotate_left
  · intro w hSw; (try dsimp only at hSw); go_simp <;> (with_reducible rfl)
  try simp only [Act.put, List.setIfInBounds_toArray, List.set_cons_zero, List.set_cons_succ]
  refine heldTake (i := 50) (v := ?_) rfl (by kernel_rfl) (by kernel_rfl) (by kernel_rfl) (fun _ _ _ h => h) (Or.inl ⟨by rfl, ?_⟩) (by assumption) ?_
  rotate_left
  · intro w hSw; (try dsimp only at hSw); go_simp <;> (with_reducible rfl)
  try simp only [Act.put, List.setIfInBounds_toArray, List.set_cons_zero, List.set_cons_succ]
  refine heldTake (i := 51) (v := ?_) rfl (by kernel_rfl) (by kernel_rfl) (by kernel_rfl) (fun _ _ _ h => h) (Or.inl ⟨by rfl, ?_⟩) (by assumption) ?_
  rotate_left
  · intro w hSw; (try dsimp only at hSw); go_simp <;> (with_reducible rfl)
  try simp only [Act.put, List.setIfInBounds_toArray, List.set_cons_zero, List.set_cons_succ]
  refine heldTake (i := 52) (v := ?_) rfl (by kernel_rfl) (by kernel_rfl) (by kernel_rfl) (fun _ _ _ h => h) (Or.inl ⟨by rfl, ?_⟩) (by assumption) ?_
  rotate_left
  · intro w hSw; (try dsimp only at hSw); go_simp <;> (with_reducible rfl)
  try simp only [Act.put, List.setIfInBounds_toArray, List.set_cons_zero, List.set_cons_succ]
  refine heldTake (i := 53) (v := ?_) rfl (by kernel_rfl) (by kernel_rfl) (by kernel_rfl) (fun _ _ _ h => h) (Or.inl ⟨by rfl, ?_⟩) (by assumption) ?_
  rotate_left
  · intro w hSw; (try dsimp only at hSw); go_simp <;> (with_reducible rfl)
  try simp only [Act.put, List.setIfInBounds_toArray, List.set_cons_zero, List.set_cons_succ]
  refine heldTake (i := 54) (v := ?_) rfl (by kernel_rfl) (by kernel_rfl) (by kernel_rfl) (fun _ _ _ h => h) (Or.inl ⟨by rfl, ?_⟩) (by assumption) ?_
  rotate_left
  · intro w hSw; (try dsimp only at hSw); go_simp <;> (with_reducible rfl)
  try simp only [Act.put, List.setIfInBounds_toArray, List.set_cons_zero]
  refine wpAnyH_done (by kernel_rfl) ?_ _
  go_wp2_with fail
  go_ret
  exact ⟨rfl, HS_y26.out.low⟩
end Go.Proofs.YtmjjnbabfldbcaaGreat
