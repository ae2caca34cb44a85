/- The reference's map in a set of blocks, and its calls. -/
import Derived.Test.YtmaiikmgpeafkabDoorRefT
import Derived.Test.YtmaiikmgpeafkabDoorExtA
namespace Go.Proofs.YtmaiikmgpeafkabDoor
open Go.RowKit

/-- Block r is the reference's map S, all of it in the blocks F. -/
def RefOnE (w : World) (r : Nat) (F : Nat → Prop) (S : Ext) : Prop := (∀ y, F y → 0 < y ∧ y < w.heap.size) ∧ S.Ok ∧ ∃ vm vt, RefE w r vm vt S ∧ ∀ y, RFootE r vm vt S y → F y
section
variable {w w' : World} {r : Nat} {F G : Nat → Prop} {S : Ext}
theorem RefOnE.ok (h : RefOnE w r F S) : S.Ok := h.2.1
theorem RefOnE.lt (h : RefOnE w r F S) : r < w.heap.size := by
  obtain ⟨_, _, x, q, h3, _⟩ := h
  exact h3.head.lt
theorem RefOnE.kept (h : RefOnE w r F S) (hu : Turn G w w') (ha : ∀ y, F y → ¬ G y) : RefOnE w' r F S := by
  obtain ⟨h1, h2, x, q, h3, h4⟩ := h
  exact ⟨fun y hy => ⟨(h1 y hy).1, Nat.lt_of_lt_of_le (h1 y hy).2 hu.size⟩, h2, x, q, h3.kept fun y hy => hu.block y (h3.foot_lt y hy) (ha y (h4 y hy)), h4⟩
theorem RefOnE.later (h : RefOnE w r F S) (hb : Below w.heap.size w w') : RefOnE w' r F S := by
  obtain ⟨h1, h2, x, q, h3, h4⟩ := h
  exact ⟨fun y hy => ⟨(h1 y hy).1, Nat.lt_of_lt_of_le (h1 y hy).2 hb.size⟩, h2, x, q, h3.later hb, h4⟩
theorem RefOnE.drewN (h : RefOnE w r F S) (n : Nat) : RefOnE (w.drewN n) r F S := h.later ⟨rfl, rfl, rfl, Nat.le_refl _, fun _ _ => rfl⟩
theorem RefOnE.drew (h : RefOnE w r F S) : RefOnE w.drew r F S := h.later ((Below.refl _ _).drew)
theorem RefOnE.alloc (h : RefOnE w r F S) (o : Obj) : RefOnE (w.alloc o) r F S := h.later ((Below.refl _ w).alloc (Nat.le_refl _) o)
theorem rOnE_used (h : RefOnE w r F S) (d : Int) (g1 : -9223372036854775808 ≤ d) (g2 : d < 9223372036854775808) :
    Calls Tryd.prog 28 #[.pointer (some ⟨r, 0, none⟩), .int .i64 d] w fun e w' => e = .returned (.int .i64 ((usedE S d : Nat) : Int)) ∧ w = w' := by
  obtain ⟨_, hok, x, q, h3, _⟩ := h
  exact refUsed_any h3 hok d g1 g2
theorem rOnE_room (h : RefOnE w r F S) (d : Int) (g1 : -9223372036854775808 ≤ d) (g2 : d < 9223372036854775808) :
    Calls Tryd.prog 30 #[.pointer (some ⟨r, 0, none⟩), .int .i64 d] w fun e w' => e = .returned (.int .i64 ((roomE S d : Nat) : Int)) ∧ ∃ n, w' = w.drewN n := by
  obtain ⟨_, hok, x, q, h3, _⟩ := h
  exact refRoom_any h3 hok d g1 g2
theorem rOnE_has (h : RefOnE w r F S) (d p : Int) (h1 : -9223372036854775808 ≤ p) (h2 : p < 9223372036854775808) (g1 : -9223372036854775808 ≤ d) (g2 : d < 9223372036854775808) :
    Calls Tryd.prog 23 #[.pointer (some ⟨r, 0, none⟩), .agg #[.int .i64 d, .int .i64 p]] w fun e w' => e = .returned (.bool (decide (findE S d p true = 0))) ∧ RefOnE w' r F S ∧ Turn F w w' := by
  have h' := h
  obtain ⟨_, hok, x, q, h3, _⟩ := h
  exact (refHas_any h3 hok d p h1 h2 g1 g2).mono fun e w' ⟨a1, a2⟩ => ⟨a1, h'.later a2, Turn.of_below a2⟩
theorem rpoke_foot {vm : Value} {vt : Nat → Value} (d p : Int) (v : Bool) (hf : ∀ y, RFootE r vm vt S y → F y) : ∀ y, RFootE r vm vt (S.poke d p v) y → F y := by
  intro y hy
  refine hf y ?_
  unfold Ext.poke at hy
  by_cases h : findE S d p (!v) = 0
  · rw [if_pos h] at hy
    exact hy
  · rw [if_neg h] at hy
    exact hy
theorem rOnE_takeAt (h : RefOnE w r F S) (d p : Int) (h1 : -9223372036854775808 ≤ p) (h2 : p < 9223372036854775808) (g1 : -9223372036854775808 ≤ d) (g2 : d < 9223372036854775808) :
    Calls Tryd.prog 19 #[.pointer (some ⟨r, 0, none⟩), .agg #[.int .i64 d, .int .i64 p]] w fun e w' => e = .returned (.int .i64 (findE S d p false)) ∧ RefOnE w' r F (S.poke d p true) ∧ Turn F w w' := by
  obtain ⟨k1, hok, x, q, h3, hfoot⟩ := h
  exact (refTakeAt_any h3 hok d p h1 h2 g1 g2).mono fun e w' ⟨m1, m2, m3⟩ => ⟨m1, ⟨fun y hy => ⟨(k1 y hy).1, Nat.lt_of_lt_of_le (k1 y hy).2 m3.size⟩, poke_ok hok _ _ _, x, q, m2, rpoke_foot _ _ _ hfoot⟩, m3.wider hfoot⟩
theorem rOnE_free (h : RefOnE w r F S) (d p : Int) (h1 : -9223372036854775808 ≤ p) (h2 : p < 9223372036854775808) (g1 : -9223372036854775808 ≤ d) (g2 : d < 9223372036854775808) :
    Calls Tryd.prog 21 #[.pointer (some ⟨r, 0, none⟩), .agg #[.int .i64 d, .int .i64 p]] w fun e w' => e = .returned (.int .i64 (findE S d p true)) ∧ RefOnE w' r F (S.poke d p false) ∧ Turn F w w' := by
  obtain ⟨k1, hok, x, q, h3, hfoot⟩ := h
  exact (refFree_any h3 hok d p h1 h2 g1 g2).mono fun e w' ⟨m1, m2, m3⟩ => ⟨m1, ⟨fun y hy => ⟨(k1 y hy).1, Nat.lt_of_lt_of_le (k1 y hy).2 m3.size⟩, poke_ok hok _ _ _, x, q, m2, rpoke_foot _ _ _ hfoot⟩, m3.wider hfoot⟩
theorem rOnE_take (h : RefOnE w r F S) (d : Int) (g1 : -9223372036854775808 ≤ d) (g2 : d < 9223372036854775808) :
    Calls Tryd.prog 24 #[.pointer (some ⟨r, 0, none⟩), .int .i64 d] w fun e w' => ∃ v S', e = .returned v ∧ TakeE S d v S' ∧ RefOnE w' r F S' ∧ Turn F w w' := by
  obtain ⟨k1, hok, x, q, h3, hfoot⟩ := h
  refine (refTake_any h3 hok d g1 g2).mono fun e w' ⟨v, S', m1, m2, m3, m4⟩ => ⟨v, S', m1, m2, ⟨fun y hy => ⟨(k1 y hy).1, Nat.lt_of_lt_of_le (k1 y hy).2 m4.size⟩, ?_, x, q, m3, ?_⟩, m4.wider hfoot⟩
  · rcases m2 with ⟨_, _, rfl⟩ | ⟨_, _, _, _, _, rfl⟩ | ⟨m, k, _, hm, _, _, _, _, rfl⟩
    · exact hok
    · exact hok
    · exact ⟨hok.nodup, hok.lt, hok.few, hok.small⟩
  · rcases m2 with ⟨_, _, rfl⟩ | ⟨_, _, _, _, _, rfl⟩ | ⟨m, k, _, hm, _, _, _, _, rfl⟩
    · exact hfoot
    · exact hfoot
    · exact hfoot
end
theorem refMap_built : Tryd.prog.built 47 [] = some #[.slice none 0 0] := by kernel_rfl
theorem rOnE_new (w : World) (hw : 0 < w.heap.size) : Calls Tryd.prog 6 #[] w fun e w' => e = .returned (.pointer (some ⟨w.heap.size, 0, none⟩)) ∧ RefOnE w' w.heap.size (fun y => y = w.heap.size) Ext.none_ ∧ Below w.heap.size w w' ∧ w'.heap.size = w.heap.size + 1 := by
  go_enter Tryd.func6, Tryd.ntmps6
  go_wp2_with (first
    | (refine wpList_build_is rfl 47 #[] rfl [] (by simp) _ refMap_built ?_)
    | (refine wpList_box_blk rfl 47 (.tmp 1) rfl (.agg #[.slice none 0 0]) rfl ?_; intro w1 hb1 hl1 hs1))
  go_ret
  refine ⟨rfl, ⟨fun y hy => by omega, Ext.ok_none, .slice none 0 0, fun _ => .slice none 0 0, ⟨hb1, World.ownsRow_nil _ _ _ _, (fun d hd => by cases hd), (fun d hd => by cases hd)⟩, ?_⟩, hl1, by omega⟩
  rintro y (rfl | hy | ⟨d, hd, _⟩)
  · rfl
  · cases hy
  · cases hd
#print axioms rOnE_new
end Go.Proofs.YtmaiikmgpeafkabDoor
