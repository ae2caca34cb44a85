/- A table of groups in memory: three maps behind one pointer. -/
import Derived.Test.YtgoglgghnjgcdaaMapsG
import Derived.Test.YtgoglgghnjgcdaaUsgP
import Derived.Test.YtgoglgghnjgcdaaStill
import Derived.Test.YtgoglgghnjgcdaaTwoRows
import Derived.Test.YtgoglgghnjgcdaaWhen
import Derived.Test.YtgoglgghnjgcdaaMade
import Derived.Test.YtgoglgghnjgcdaaPoke
namespace Go.Proofs.Ytgoglgghnjgcdaa
open Go.RowKit Go.Maps

/-! ### Keys that are places -/
def okPl (p : Int × Int) : Prop := okI64 p.1 ∧ okI64 p.2
def encPl (p : Int × Int) : Value := .agg #[.int .i64 p.1, .int .i64 p.2]
def litPl (p : Int × Int) : Lit := .string (keyBytes [.int .i64 p.1, .int .i64 p.2])
theorem place_lits (d : Nat) {p : Int × Int} (h : okPl p) : Try.prog.keyLits (d + 2) 66 [.int .i64 p.1, .int .i64 p.2] = some [.int .i64 p.1, .int .i64 p.2] := by
  obtain ⟨h1, h2⟩ := h
  unfold okI64 at h1 h2
  have w1 : (Lit.int .i64 p.1).wf = true := WalkArith.wf_i64 (by omega)
  have w2 : (Lit.int .i64 p.2).wf = true := WalkArith.wf_i64 (by omega)
  have c : Try.prog.cellsOf 66 = 2 := by kernel_rfl
  have c3 : Try.prog.cellsOf 3 = 1 := by kernel_rfl
  simp [Program.keyLits, Try.underlying66, Try.underlying3, c, c3, w1, w2]
theorem place_key {p : Int × Int} (h : okPl p) : keyOf Try.prog 66 (encPl p) = some (litPl p) := by
  have h1 : Try.prog.keyType 66 = true := by kernel_rfl
  have h2 : (encPl p).formed Try.prog 66 = true := by kernel_rfl
  have hz : (Try.prog.types.size == 0) = false := by kernel_rfl
  obtain ⟨d, hd⟩ : ∃ d, Try.prog.types.size = d + 1 := Nat.exists_eq_add_one_of_ne_zero (fun e => by rw [e] at hz; cases hz)
  have h3 := place_lits d h
  unfold keyOf
  rw [Try.underlying66]
  simp only [h1, h2, hd, Bool.and_self, if_true]
  have hc : (encPl p).cells.toList = [.int .i64 p.1, .int .i64 p.2] := rfl
  rw [hc, h3]
  rfl
theorem place_laid : laidOutB Try.prog = true := by kernel_rfl
theorem place_keyed : Keyed Try.prog 66 := Keyed.of_law (deep_law_laid (m := 9999) place_laid (Nat.le_refl _) (by have : decide (66 < Try.prog.types.size) = true := by kernel_rfl
                                                                                                                  exact of_decide_eq_true this) (by kernel_rfl) (by kernel_rfl))
def placeKey : Coded (Int × Int) where
  kt := 66
  ok := okPl
  enc := encPl
  lit := litPl
  keyed := place_keyed
  key _ h := place_key h
  inj i j h := by
    unfold encPl at h
    injection h with h
    have h := congrArg Array.toList h
    simp at h
    exact Prod.ext h.1 h.2

/-! ### The three maps -/
def tallyV (n c : Int) : Value := .agg #[.int .i64 n, .int .i64 c]
def gF (S : Us) : Int → Option Value := fun g => if S.has g then some (tallyV (S.slots g) (S.cnt g : Nat)) else none
def bF (S : Us) : Int × Int → Option Value := fun p => (S.at_ p.1 p.2).map fun b => .int .i64 b
def pF (S : Us) : Int → Option Value := fun b => (S.fnd b).map encPl

/-- Block t is a table whose maps, in blocks x, y and z, hold what f, h and k say. -/
structure UsM (w : World) (t x y z : Nat) (f : Int → Option Value) (h : Int × Int → Option Value) (k : Int → Option Value) : Prop where
  head : Blk w t 56 #[.map (some x), .map (some y), .map (some z)]
  gm : MapIs intKey w x f
  bm : MapIs placeKey w y h
  pm : MapIs intKey w z k
  xy : x ≠ y
  xz : x ≠ z
  yz : y ≠ z
def UsIn (w : World) (t x y z : Nat) (S : Us) : Prop := UsM w t x y z (gF S) (bF S) (pF S)
/-- The blocks that it takes. -/
def UFoot (t x y z : Nat) : Nat → Prop := fun i => i = t ∨ i = x ∨ i = y ∨ i = z
theorem MapIs.not_blk {ι : Type} {C : Coded ι} {w : World} {x : Nat} {f : ι → Option Value} (h : MapIs C w x f) {t : TypeId} {cs : Array Value} : ¬ Blk w x t cs := by
  intro hb
  obtain ⟨D, ⟨es, clock, h1, _⟩, _⟩ := h
  unfold Blk at hb
  rw [h1] at hb
  cases hb
section
variable {w w' : World} {t x y z : Nat} {f : Int → Option Value} {h : Int × Int → Option Value} {k : Int → Option Value}
theorem UsM.c0 (m : UsM w t x y z f h k) : w.cell? ⟨t, 0, none⟩ = some (.map (some x)) := m.head.cell 0
theorem UsM.c1 (m : UsM w t x y z f h k) : w.cell? ⟨t, 1, none⟩ = some (.map (some y)) := m.head.cell 1
theorem UsM.c2 (m : UsM w t x y z f h k) : w.cell? ⟨t, 2, none⟩ = some (.map (some z)) := m.head.cell 2
theorem UsM.tx (m : UsM w t x y z f h k) : t ≠ x := fun e => m.gm.not_blk (by rw [← e]; exact m.head)
theorem UsM.ty (m : UsM w t x y z f h k) : t ≠ y := fun e => m.bm.not_blk (by rw [← e]; exact m.head)
theorem UsM.tz (m : UsM w t x y z f h k) : t ≠ z := fun e => m.pm.not_blk (by rw [← e]; exact m.head)
theorem UsM.foot_lt (m : UsM w t x y z f h k) : ∀ i, UFoot t x y z i → i < w.heap.size := by
  rintro i (rfl | rfl | rfl | rfl)
  · exact m.head.lt
  · exact m.gm.lt
  · exact m.bm.lt
  · exact m.pm.lt
theorem UsM.kept (m : UsM w t x y z f h k) (hk : ∀ i, UFoot t x y z i → w'.heap[i]? = w.heap[i]?) : UsM w' t x y z f h k :=
  ⟨m.head.of_block (hk t (.inl rfl)), m.gm.of_block (hk x (.inr (.inl rfl))), m.bm.of_block (hk y (.inr (.inr (.inl rfl)))), m.pm.of_block (hk z (.inr (.inr (.inr rfl)))), m.xy, m.xz, m.yz⟩
theorem UsM.later (m : UsM w t x y z f h k) (hb : Below w.heap.size w w') : UsM w' t x y z f h k := m.kept fun i hi => hb.block i (m.foot_lt i hi)
theorem UsM.drew (m : UsM w t x y z f h k) : UsM w.drew t x y z f h k := m.kept fun _ _ => rfl
theorem UsM.drewN (m : UsM w t x y z f h k) (n : Nat) : UsM (w.drewN n) t x y z f h k := m.kept fun _ _ => rfl
/-- A block that is none of the table's has turned. -/
theorem UsM.grown (m : UsM w t x y z f h k) {row : Option Nat} (hg : w.grownBy w' row) (hr : ∀ g, row = some g → ¬ UFoot t x y z g) : UsM w' t x y z f h k :=
  m.kept fun i hi => hg.block i (m.foot_lt i hi) fun e => hr i e.symm hi
/-- One of the three maps has turned. -/
theorem UsM.setG (m : UsM w t x y z f h k) {f' : Int → Option Value} (hm : MapIs intKey w' x f') (hg : w.grownBy w' (some x)) : UsM w' t x y z f' h k :=
  ⟨m.head.grown hg (fun e => m.tx (by injection e)), hm, m.bm.grown hg (fun e => m.xy (by injection e with e; exact e.symm)), m.pm.grown hg (fun e => m.xz (by injection e with e; exact e.symm)), m.xy, m.xz, m.yz⟩
theorem UsM.setB (m : UsM w t x y z f h k) {h' : Int × Int → Option Value} (hm : MapIs placeKey w' y h') (hg : w.grownBy w' (some y)) : UsM w' t x y z f h' k :=
  ⟨m.head.grown hg (fun e => m.ty (by injection e)), m.gm.grown hg (fun e => m.xy (by injection e)), hm, m.pm.grown hg (fun e => m.yz (by injection e with e; exact e.symm)), m.xy, m.xz, m.yz⟩
theorem UsM.setP (m : UsM w t x y z f h k) {k' : Int → Option Value} (hm : MapIs intKey w' z k') (hg : w.grownBy w' (some z)) : UsM w' t x y z f h k' :=
  ⟨m.head.grown hg (fun e => m.tz (by injection e)), m.gm.grown hg (fun e => m.xz (by injection e)), m.bm.grown hg (fun e => m.yz (by injection e)), hm, m.xy, m.xz, m.yz⟩
theorem UsM.congr (m : UsM w t x y z f h k) {f' : Int → Option Value} {h' : Int × Int → Option Value} {k' : Int → Option Value} (e1 : ∀ g, f g = f' g) (e2 : ∀ p, h p = h' p) (e3 : ∀ b, k b = k' b) : UsM w t x y z f' h' k' :=
  ⟨m.head, m.gm.congr e1, m.bm.congr e2, m.pm.congr e3, m.xy, m.xz, m.yz⟩
end

/-- What is known of the numbers: no more groups and live slots than there is room for. -/
structure Few (S : Us) : Prop where
  ok : S.Ok
  gs : S.G.length < 1000000
  ls : S.L.length < 1000000
section
variable {S : Us}
theorem gF_mem (S : Us) : ∀ g, g ∈ S.G.map Gr.id ↔ (gF S g).isSome = true := by
  intro g
  unfold gF
  cases hg : S.has g with
  | true =>
    obtain ⟨e, he, rfl⟩ := Us.has_iff.1 hg
    simpa using ⟨e, he, rfl⟩
  | false =>
    simp only [Bool.false_eq_true, if_false, Option.isSome_none, iff_false]
    intro hm
    obtain ⟨e, he, rfl⟩ := List.mem_map.1 hm
    rw [Us.has_iff.2 ⟨e, he, rfl⟩] at hg
    cases hg
theorem bF_mem (h : S.Ok) : ∀ p, p ∈ S.L.map (fun e => (e.g, e.s)) ↔ (bF S p).isSome = true := by
  intro p
  unfold bF
  rw [Option.isSome_map, Option.isSome_iff_exists, List.mem_map]
  constructor
  · rintro ⟨e, he, rfl⟩
    exact ⟨e.b, Us.at_of h he⟩
  · rintro ⟨b, hb⟩
    exact ⟨_, Us.at_some hb, rfl⟩
theorem bF_nodup (h : S.Ok) : (S.L.map (fun e => (e.g, e.s))).Nodup := by
  rw [List.Nodup, List.pairwise_map]
  exact h.places.imp fun {a b} hab e => hab (by injection e with e1 e2; exact ⟨e1, e2⟩)
theorem pF_mem (h : S.Ok) : ∀ b, b ∈ S.L.map Lv.b ↔ (pF S b).isSome = true := by
  intro b
  unfold pF
  rw [Option.isSome_map, Option.isSome_iff_exists, List.mem_map]
  constructor
  · rintro ⟨e, he, rfl⟩
    exact ⟨_, Us.fnd_of h he⟩
  · rintro ⟨p, hp⟩
    obtain ⟨g, s⟩ := p
    exact ⟨_, Us.fnd_some hp, rfl⟩
theorem pF_nodup (h : S.Ok) : (S.L.map Lv.b).Nodup := by
  rw [List.Nodup, List.pairwise_map]
  exact h.bs
theorem gF_yes {g : Int} (h : S.has g = true) : gF S g = some (tallyV (S.slots g) (S.cnt g : Nat)) := if_pos h
theorem gF_no {g : Int} (h : S.has g = false) : gF S g = none := if_neg (by rw [h]; simp)
end
#print axioms placeKey
end Go.Proofs.Ytgoglgghnjgcdaa
