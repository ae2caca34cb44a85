/- A map of members and their extents in memory. -/
import Derived.Test.YtmaiikmgpeafkabDoorExtC
import Derived.Test.YtmaiikmgpeafkabDoorMapsN
import Derived.Test.YtmaiikmgpeafkabDoorCount
import Derived.Test.YtmaiikmgpeafkabDoorNext
import Derived.Test.YtmaiikmgpeafkabDoorStill
namespace Go.Proofs.YtmaiikmgpeafkabDoor
open Go.RowKit

/-- The members' numbers, in the order in which they came; how many extents each has; which are taken. -/
structure Ext where
  ks : List Nat
  n : Nat → Nat
  t : Nat → Nat → Bool
structure Ext.Ok (S : Ext) : Prop where
  nodup : S.ks.Nodup
  lt : ∀ d ∈ S.ks, d < 9223372036854775808
  few : S.ks.length < 1000000
  small : ∀ d ∈ S.ks, S.n d ≤ 497
def Ext.none_ : Ext := ⟨[], fun _ => 0, fun _ _ => false⟩
theorem Ext.ok_none : Ext.none_.Ok := ⟨List.nodup_nil, (fun _ h => by cases h), by decide, (fun _ h => by cases h)⟩
/-- One more member. -/
def Ext.add (S : Ext) (d n : Nat) : Ext := ⟨S.ks ++ [d], upd S.n d n, upd S.t d fun _ => false⟩
/-- What is taken of one member is now so. -/
def Ext.setT (S : Ext) (d : Nat) (t : Nat → Bool) : Ext := ⟨S.ks, S.n, upd S.t d t⟩
theorem Ext.Ok.add {S : Ext} (h : S.Ok) {d n : Nat} (hd : d ∉ S.ks) (h63 : d < 9223372036854775808) (hf : S.ks.length < 999999) (hn : n ≤ 497) : (S.add d n).Ok := by
  refine ⟨?_, ?_, by simp [Ext.add]; omega, ?_⟩
  · refine List.nodup_append.2 ⟨h.nodup, by simp, ?_⟩
    intro a ha b hb e
    simp at hb
    subst hb
    subst e
    exact hd ha
  · intro x hx
    rcases List.mem_append.1 hx with hx | hx
    · exact h.lt x hx
    · simp at hx; omega
  · intro x hx
    show upd S.n d n x ≤ 497
    by_cases e : x = d
    · subst e; rw [upd_self]; exact hn
    · rw [upd_ne _ _ e]
      rcases List.mem_append.1 hx with hx | hx
      · exact h.small x hx
      · simp at hx; omega
theorem Ext.Ok.setT {S : Ext} (h : S.Ok) (d : Nat) (t : Nat → Bool) : (S.setT d t).Ok := ⟨h.nodup, h.lt, h.few, h.small⟩

/-- What the map in memory holds: for each member a pointer to its own map. -/
def extF (ks : List Nat) (q : Nat → Nat) : Nat → Option Value := fun k => if k ∈ ks then some (.pointer (some ⟨q k, 0, none⟩)) else none
theorem extF_in {ks : List Nat} {q : Nat → Nat} {k : Nat} (h : k ∈ ks) : extF ks q k = some (.pointer (some ⟨q k, 0, none⟩)) := if_pos h
theorem extF_out {ks : List Nat} {q : Nat → Nat} {k : Nat} (h : k ∉ ks) : extF ks q k = none := if_neg h
theorem extF_mem (ks : List Nat) (q : Nat → Nat) : ∀ k, k ∈ ks ↔ (extF ks q k).isSome = true := by
  intro k
  by_cases h : k ∈ ks
  · rw [extF_in h]; simp [h]
  · rw [extF_out h]; simp [h]

structure ExtIn (w : World) (b x : Nat) (q : Nat → Nat) (S : Ext) : Prop where
  head : Blk w b 44 #[.map (some x)]
  map : MapIs w x (extF S.ks q)
  mem : ∀ d ∈ S.ks, MapAt w (q d) (S.n d) (S.t d)
  inj : ∀ d ∈ S.ks, ∀ e ∈ S.ks, q d = q e → d = e
/-- The blocks that it takes. -/
def EFoot (b x : Nat) (q : Nat → Nat) (S : Ext) : Nat → Prop := fun y => y = b ∨ y = x ∨ ∃ d ∈ S.ks, y = q d
section
variable {w w' : World} {b x : Nat} {q : Nat → Nat} {S : Ext}
theorem ExtIn.c0 (h : ExtIn w b x q S) : w.cell? ⟨b, 0, none⟩ = some (.map (some x)) := h.head.cell 0
theorem ExtIn.foot_lt (h : ExtIn w b x q S) : ∀ y, EFoot b x q S y → y < w.heap.size := by
  rintro y (rfl | rfl | ⟨d, hd, rfl⟩)
  · exact h.head.lt
  · exact h.map.lt
  · exact (h.mem d hd).lt
theorem MapIs.not_blk {w : World} {x : Nat} {f : Nat → Option Value} (h : MapIs w x f) {t : TypeId} {cs : Array Value} : ¬ Blk w x t cs := by
  intro hb
  obtain ⟨D, ⟨es, clock, h1, _⟩, _⟩ := h
  unfold Blk at hb
  rw [h1] at hb
  cases hb
theorem ExtIn.x_ne_b (h : ExtIn w b x q S) : x ≠ b := fun e => h.map.not_blk (by rw [e]; exact h.head)
theorem ExtIn.x_ne_q (h : ExtIn w b x q S) {d : Nat} (hd : d ∈ S.ks) : x ≠ q d := fun e => h.map.not_blk (by rw [e]; exact (h.mem d hd).blk)
theorem Blk.kind {w : World} {g : Nat} {t u : TypeId} {cs ds : Array Value} (h : Blk w g t cs) (k : Blk w g u ds) : t = u := by
  unfold Blk at h k
  rw [h] at k
  injection k with k
  injection k with _ k
theorem ExtIn.b_ne_q (h : ExtIn w b x q S) {d : Nat} (hd : d ∈ S.ks) : b ≠ q d := by
  intro e
  have h2 := (h.mem d hd).blk
  rw [← e] at h2
  exact absurd (h.head.kind h2) (by decide)
theorem ExtIn.kept (h : ExtIn w b x q S) (hk : ∀ y, EFoot b x q S y → w'.heap[y]? = w.heap[y]?) : ExtIn w' b x q S :=
  ⟨h.head.of_block (hk b (.inl rfl)), h.map.of_block (hk x (.inr (.inl rfl))), fun d hd => ⟨(h.mem d hd).le, (h.mem d hd).out, (h.mem d hd).blk.of_block (hk _ (.inr (.inr ⟨d, hd, rfl⟩)))⟩, h.inj⟩
theorem ExtIn.later (h : ExtIn w b x q S) (hb : Below w.heap.size w w') : ExtIn w' b x q S := h.kept fun y hy => hb.block y (h.foot_lt y hy)
theorem ExtIn.drew (h : ExtIn w b x q S) : ExtIn w.drew b x q S := h.kept fun _ _ => rfl
theorem ExtIn.drewN (h : ExtIn w b x q S) (n : Nat) : ExtIn (w.drewN n) b x q S := h.kept fun _ _ => rfl
/-- One member's map has turned. -/
theorem ExtIn.setT (h : ExtIn w b x q S) {d : Nat} (hd : d ∈ S.ks) {t : Nat → Bool} (hm : MapAt w' (q d) (S.n d) t) (hg : w.grownBy w' (some (q d))) : ExtIn w' b x q (S.setT d t) := by
  refine ⟨h.head.grown hg (fun e => h.b_ne_q hd (by injection e)), h.map.grown hg (fun e => h.x_ne_q hd (by injection e)), fun e he => ?_, h.inj⟩
  show MapAt w' (q e) (S.n e) (upd S.t d t e)
  by_cases hed : e = d
  · subst hed
    rw [upd_self]
    exact hm
  · rw [upd_ne _ _ hed]
    exact (h.mem e he).grown hg (fun hq => hed (h.inj e he d hd (by injection hq)))
end

/-- Block b is the map S, all of which lies in the blocks of F. -/
def ExtOn (w : World) (b : Nat) (F : Nat → Prop) (S : Ext) : Prop := (∀ y, F y → 0 < y ∧ y < w.heap.size) ∧ S.Ok ∧ ∃ x q, ExtIn w b x q S ∧ ∀ y, EFoot b x q S y → F y
section
variable {w w' : World} {b : Nat} {F G : Nat → Prop} {S : Ext}
theorem ExtOn.ok (h : ExtOn w b F S) : S.Ok := h.2.1
theorem ExtOn.lt (h : ExtOn w b F S) : b < w.heap.size := by
  obtain ⟨_, _, x, q, h3, _⟩ := h
  exact h3.head.lt
theorem ExtOn.kept (h : ExtOn w b F S) (hu : Turn G w w') (ha : ∀ y, F y → ¬ G y) : ExtOn w' b F S := by
  obtain ⟨h1, h2, x, q, h3, h4⟩ := h
  exact ⟨fun y hy => ⟨(h1 y hy).1, Nat.lt_of_lt_of_le (h1 y hy).2 hu.size⟩, h2, x, q, h3.kept fun y hy => hu.block y (h3.foot_lt y hy) (ha y (h4 y hy)), h4⟩
theorem ExtOn.later (h : ExtOn w b F S) (hb : Below w.heap.size w w') : ExtOn w' b F S := by
  obtain ⟨h1, h2, x, q, h3, h4⟩ := h
  exact ⟨fun y hy => ⟨(h1 y hy).1, Nat.lt_of_lt_of_le (h1 y hy).2 hb.size⟩, h2, x, q, h3.later hb, h4⟩
theorem ExtOn.grown {row : Option Nat} (h : ExtOn w b F S) (hg : w.grownBy w' row) (hr : ∀ g, row = some g → ¬ F g) : ExtOn w' b F S := by
  obtain ⟨h1, h2, x, q, h3, h4⟩ := h
  exact ⟨fun y hy => ⟨(h1 y hy).1, Nat.lt_of_lt_of_le (h1 y hy).2 hg.size⟩, h2, x, q, h3.kept fun y hy => hg.block y (h3.foot_lt y hy) (fun e => hr y e.symm (h4 y hy)), h4⟩
theorem ExtOn.drew (h : ExtOn w b F S) : ExtOn w.drew b F S := h.later ((Below.refl _ _).drew)
theorem ExtOn.drewN (h : ExtOn w b F S) (n : Nat) : ExtOn (w.drewN n) b F S := h.later ⟨rfl, rfl, rfl, Nat.le_refl _, fun _ _ => rfl⟩
theorem ExtOn.alloc (h : ExtOn w b F S) (o : Obj) : ExtOn (w.alloc o) b F S := h.later ((Below.refl _ w).alloc (Nat.le_refl _) o)
theorem Tab.turned (h : Tab w) (hu : Turn F w w') (hF : ¬ F 0) : Tab w' := fun j hj => (hu.cell (p := ⟨0, j, none⟩) h.pos hF).trans (h j hj)
end
/-- What 'p, is := m.members[d]' tells. -/
def inE (S : Ext) (d : Int) : Bool := decide (0 ≤ d) && decide (d.toNat ∈ S.ks)
def lookV (q : Nat → Nat) (S : Ext) (d : Int) : Value := if inE S d then .tuple #[.pointer (some ⟨q d.toNat, 0, none⟩), .bool true] else .tuple #[.pointer none, .bool false]
theorem inE_nat {S : Ext} {d : Int} (h : inE S d = true) : ∃ m : Nat, d = (m : Int) ∧ m ∈ S.ks := by
  unfold inE at h
  simp only [Bool.and_eq_true, decide_eq_true_eq] at h
  exact ⟨d.toNat, by omega, h.2⟩
theorem inE_of {S : Ext} {m : Nat} (h : m ∈ S.ks) : inE S (m : Int) = true := by simp [inE, h]
theorem inE_not {S : Ext} {d : Int} (h : inE S d = false) : d < 0 ∨ ∃ m : Nat, d = (m : Int) ∧ m ∉ S.ks := by
  unfold inE at h
  by_cases h0 : 0 ≤ d
  · right
    refine ⟨d.toNat, by omega, ?_⟩
    simpa [h0] using h
  · left; omega
theorem lookV_in {q : Nat → Nat} {S : Ext} {m : Nat} (h : m ∈ S.ks) : lookV q S (m : Int) = .tuple #[.pointer (some ⟨q m, 0, none⟩), .bool true] := by unfold lookV; rw [if_pos (inE_of h)]; rfl
theorem lookV_out {q : Nat → Nat} {S : Ext} {d : Int} (h : inE S d = false) : lookV q S d = .tuple #[.pointer none, .bool false] := by unfold lookV; rw [h]; rfl
theorem ExtIn.look {w : World} {b x : Nat} {q : Nat → Nat} {S : Ext} (h : ExtIn w b x q S) (d : Int) (g1 : -9223372036854775808 ≤ d) (g2 : d < 9223372036854775808) :
    (Instr.lookup 42 (.map (some x)) (.int .i64 d) true).run Tryd.prog w = .ok (lookV q S d) w := by
  cases hd : inE S d with
  | true =>
    obtain ⟨m, rfl, hm⟩ := inE_nat hd
    rw [lookV_in hm]
    exact h.map.look_some Tryd.underlying42 (Tryd.zeroValue51 w) (extF_in hm) true
  | false =>
    rw [lookV_out hd]
    rcases inE_not hd with hn | ⟨m, rfl, hm⟩
    · exact h.map.look_neg Tryd.underlying42 (Tryd.zeroValue51 w) hn g1 true
    · exact h.map.look_none Tryd.underlying42 (Tryd.zeroValue51 w) (extF_out hm) (by omega) true
section
variable {P : Program} {ops : Array Oper} {rest : List Oper} {o : Oper} {a : Act} {w : World}
theorem still_look {Q : Act → Prop} (hgd : o.guard = none) (t : TypeId) (m x : Operand) (c : Bool) (hop : o.op = .lookup t m x c) (mv kv : Value) (hm : a.eval m = mv) (hx : a.eval x = kv) (u : Value) (hrun : (Instr.lookup t mv kv c).run P w = .ok u w)
    (hK : wpStill P ops w Q rest (a.put o.dst u)) : wpStill P ops w Q (o :: rest) a := still_gives hgd u (by unfold execOp; simp [hop, hm, hx, hrun, Result.andThen]) hK
theorem quiet_look {C : World → Prop} {Q : Act → Prop} (hgd : o.guard = none) (t : TypeId) (m x : Operand) (c : Bool) (hop : o.op = .lookup t m x c) (mv kv : Value) (hm : a.eval m = mv) (hx : a.eval x = kv) (u : Value) (hrun : ∀ w, C w → (Instr.lookup t mv kv c).run P w = .ok u w)
    (h : wpQuiet P ops C Q rest (a.put o.dst u)) : wpQuiet P ops C Q (o :: rest) a := quiet_gives hgd u (fun w hC => by have hr := hrun w hC; unfold execOp; simp [hop, hm, hx, hr, Result.andThen]) h
theorem wpList_look {Q : Exit → Act → World → Prop} (hgd : o.guard = none) (t : TypeId) (m x : Operand) (c : Bool) (hop : o.op = .lookup t m x c) (mv kv : Value) (hm : a.eval m = mv) (hx : a.eval x = kv) (u : Value) (hrun : (Instr.lookup t mv kv c).run P w = .ok u w)
    (hK : wpList P ops Q rest (a.put o.dst u) w) : wpList P ops Q (o :: rest) a w := wpList_gives hgd u (by unfold execOp; simp [hop, hm, hx, hrun, Result.andThen]) hK
end
theorem ext2_info : (Tryd.prog.info? 36).map (·.size) = some 2 := by kernel_rfl
theorem ext2_one (a b : Int) : ∀ v ∈ ([.int .i64 a, .int .i64 b] : List Value), v.oneCell' = true := by
  intro v hv
  simp only [List.mem_cons, List.not_mem_nil, or_false] at hv
  rcases hv with rfl | rfl <;> rfl
#print axioms ExtIn.setT
end Go.Proofs.YtmaiikmgpeafkabDoor
