/- Arguments of stage 14's laws: a slice of steps of five ints. -/
import Derived.Test.YtgoglgghnjgcdaaArgI
import Derived.Deep.Slices
namespace Go.Proofs.Ytgoglgghnjgcdaa
open Go.ChangeShapes Go.WideShapes Go.ChangeAt Go.RowKit
/-- A step: its kind, group, slot, block and size. -/
structure OpU where
  k : Int
  g : Int
  s : Int
  b : Int
  n : Int
def OpU.cells (o : OpU) : List Value := [.int .i64 o.k, .int .i64 o.g, .int .i64 o.s, .int .i64 o.b, .int .i64 o.n]
def In64 (i : Int) : Prop := -9223372036854775808 ≤ i ∧ i < 9223372036854775808
def OpU.fits (o : OpU) : Prop := In64 o.k ∧ In64 o.g ∧ In64 o.s ∧ In64 o.b ∧ In64 o.n
/-- The slice of address A and length n holds the steps f, below block B. -/
def OpsU (w : World) (B : Nat) (A : Option Addr) (n : Nat) (f : Nat → OpU) : Prop :=
  0 < n → ∃ ad, A = some ad ∧ ad.block < B ∧ ∀ i, i < n → (∀ (j : Nat) (v : Value), (f i).cells[j]? = some v → w.cell? ((ad.add (i * 5)).add j) = some v) ∧ (f i).fits
theorem OpsU.below {w w' : World} {B : Nat} {A : Option Addr} {n : Nat} {f : Nat → OpU} (h : OpsU w B A n f) (hb : Below B w w') : OpsU w' B A n f := fun hn => by
  obtain ⟨ad, e, hlt, hc⟩ := h hn
  refine ⟨ad, e, hlt, fun i hi => ⟨fun j v hj => ?_, (hc i hi).2⟩⟩
  rw [hb.cell (by rw [block_of_add, block_of_add]; exact hlt)]
  exact (hc i hi).1 j v hj
/-- A step's cells. -/
theorem OpsU.cell {w : World} {B : Nat} {A : Option Addr} {n : Nat} {f : Nat → OpU} (h : OpsU w B A n f) {i : Nat} (hi : i < n) : ∃ ad, A = some ad ∧ ad.block < B ∧ (f i).fits ∧
    w.cell? (ad.add (i * 5)) = some (.int .i64 (f i).k) ∧ w.cell? ⟨(ad.add (i * 5)).block, (ad.add (i * 5)).off + 1, none⟩ = some (.int .i64 (f i).g) ∧ w.cell? ⟨(ad.add (i * 5)).block, (ad.add (i * 5)).off + 2, none⟩ = some (.int .i64 (f i).s) ∧
    w.cell? ⟨(ad.add (i * 5)).block, (ad.add (i * 5)).off + 3, none⟩ = some (.int .i64 (f i).b) ∧ w.cell? ⟨(ad.add (i * 5)).block, (ad.add (i * 5)).off + 4, none⟩ = some (.int .i64 (f i).n) := by
  obtain ⟨ad, e, hlt, hc⟩ := h (by omega)
  obtain ⟨h1, h2⟩ := hc i hi
  have hadd : ∀ (a : Addr) (j : Nat), 0 < j → a.add j = ⟨a.block, a.off + j, none⟩ := fun a j hj => by
    unfold Addr.add
    exact if_neg (by omega)
  refine ⟨ad, e, hlt, h2, ?_, ?_, ?_, ?_, ?_⟩
  · have h3 := h1 0 _ rfl
    rw [show (ad.add (i * 5)).add 0 = ad.add (i * 5) from rfl] at h3
    exact h3
  · have h3 := h1 1 _ rfl
    rwa [hadd _ 1 (by decide)] at h3
  · have h3 := h1 2 _ rfl
    rwa [hadd _ 2 (by decide)] at h3
  · have h3 := h1 3 _ rfl
    rwa [hadd _ 3 (by decide)] at h3
  · have h3 := h1 4 _ rfl
    rwa [hadd _ 4 (by decide)] at h3
theorem opU_cells : Try.prog.cellsOf 29 = 5 := by kernel_rfl
theorem uint_cells : Try.prog.cellsOf 3 = 1 := by kernel_rfl
section
variable {H : Type} {enc : TypeId × Value → H} {W : World} {d : DataW H} {p : List MemPlace}
set_option maxRecDepth 100000 in
theorem arg_opsU {A : Option Addr} {n c : Nat} (h : DataW.Trod enc Try.prog W 0 (fun _ => true) true 22 (.slice A n c) d p) :
    ∃ f : Nat → OpU, OpsU W W.heap.size A n f ∧ n ≤ c ∧ c ≤ 9223372036854775807 := by
  obtain ⟨fuel, hf⟩ := h
  rcases Go.Deep.open_slice Try.underlying22 hf with ⟨hcs, _⟩ | ⟨x, len, cap, m, n', D, Pl, hcs, _, hl, hm, hmm, _, hi⟩
  · simp [Value.cells] at hcs
    obtain ⟨rfl, rfl, rfl⟩ := hcs
    exact ⟨fun _ => ⟨0, 0, 0, 0, 0⟩, fun h => absurd h (by omega), Nat.le_refl _, Nat.zero_le _⟩
  · simp [Value.cells] at hcs
    obtain ⟨rfl, rfl, rfl⟩ := hcs
    have hmc : m = c := by simpa using hmm
    subst hmc
    have hall : ∀ i, i < m → ∃ s : OpU, (∀ (j : Nat) (v : Value), s.cells[j]? = some v → W.cell? ((x.add (i * 5)).add j) = some v) ∧ s.fits := by
      intro i him
      obtain ⟨cs', hc1, hc2⟩ := hi i him
      rw [opU_cells] at hc1
      obtain ⟨ys, k, _, _, hcl, hyl, hfs⟩ := DataW.trod_struct Try.underlying29 hc2
      rw [opU_cells] at hcl
      obtain ⟨_, _, hat⟩ := World.cells?_some hc1
      obtain ⟨c0, c1, c2, c3, c4, r, rfl⟩ : ∃ c0 c1 c2 c3 c4 r, cs' = c0 :: c1 :: c2 :: c3 :: c4 :: r := by
        match cs', hcl with
        | c0 :: c1 :: c2 :: c3 :: c4 :: r, _ => exact ⟨c0, c1, c2, c3, c4, r, rfl⟩
      have f0 := hfs 0 _ rfl
      have f1 := hfs 1 _ rfl
      have f2 := hfs 2 _ rfl
      have f3 := hfs 3 _ rfl
      have f4 := hfs 4 _ rfl
      change DataW.trod enc _ W 0 _ _ k 3 (((c0 :: c1 :: c2 :: c3 :: c4 :: r).drop 0).take (Try.prog.cellsOf 3)) = ys[0]? at f0
      change DataW.trod enc _ W 0 _ _ k 3 (((c0 :: c1 :: c2 :: c3 :: c4 :: r).drop 1).take (Try.prog.cellsOf 3)) = ys[1]? at f1
      change DataW.trod enc _ W 0 _ _ k 3 (((c0 :: c1 :: c2 :: c3 :: c4 :: r).drop 2).take (Try.prog.cellsOf 3)) = ys[2]? at f2
      change DataW.trod enc _ W 0 _ _ k 3 (((c0 :: c1 :: c2 :: c3 :: c4 :: r).drop 3).take (Try.prog.cellsOf 3)) = ys[3]? at f3
      change DataW.trod enc _ W 0 _ _ k 3 (((c0 :: c1 :: c2 :: c3 :: c4 :: r).drop 4).take (Try.prog.cellsOf 3)) = ys[4]? at f4
      rw [uint_cells] at f0 f1 f2 f3 f4
      have y0 : ys[0]? = some (ys[0]'(by rw [hyl]; decide)) := List.getElem?_eq_getElem _
      have y1 : ys[1]? = some (ys[1]'(by rw [hyl]; decide)) := List.getElem?_eq_getElem _
      have y2 : ys[2]? = some (ys[2]'(by rw [hyl]; decide)) := List.getElem?_eq_getElem _
      have y3 : ys[3]? = some (ys[3]'(by rw [hyl]; decide)) := List.getElem?_eq_getElem _
      have y4 : ys[4]? = some (ys[4]'(by rw [hyl]; decide)) := List.getElem?_eq_getElem _
      rw [y0] at f0
      rw [y1] at f1
      rw [y2] at f2
      rw [y3] at f3
      rw [y4] at f4
      obtain ⟨a0, e0, _, w0⟩ := DataW.trod_int Try.underlying3 f0
      obtain ⟨a1, e1, _, w1⟩ := DataW.trod_int Try.underlying3 f1
      obtain ⟨a2, e2, _, w2⟩ := DataW.trod_int Try.underlying3 f2
      obtain ⟨a3, e3, _, w3⟩ := DataW.trod_int Try.underlying3 f3
      obtain ⟨a4, e4, _, w4⟩ := DataW.trod_int Try.underlying3 f4
      have b0 : In64 a0 := by have := bounds_i64 w0; unfold In64; omega
      have b1 : In64 a1 := by have := bounds_i64 w1; unfold In64; omega
      have b2 : In64 a2 := by have := bounds_i64 w2; unfold In64; omega
      have b3 : In64 a3 := by have := bounds_i64 w3; unfold In64; omega
      have b4 : In64 a4 := by have := bounds_i64 w4; unfold In64; omega
      have hcells : (c0 :: c1 :: c2 :: c3 :: c4 :: r).take 5 = OpU.cells ⟨a0, a1, a2, a3, a4⟩ := by
        have q0 : c0 = .int .i64 a0 := by simpa using e0
        have q1 : c1 = .int .i64 a1 := by simpa using e1
        have q2 : c2 = .int .i64 a2 := by simpa using e2
        have q3 : c3 = .int .i64 a3 := by simpa using e3
        have q4 : c4 = .int .i64 a4 := by simpa using e4
        unfold OpU.cells
        simp only
        rw [q0, q1, q2, q3, q4]
        rfl
      refine ⟨⟨a0, a1, a2, a3, a4⟩, fun j v hj => ?_, b0, b1, b2, b3, b4⟩
      rw [← hcells] at hj
      have hj7 : j < 5 := by
        rcases Nat.lt_or_ge j 5 with h | h
        · exact h
        · rw [List.getElem?_take, if_neg (by omega)] at hj; cases hj
      rw [List.getElem?_take, if_pos hj7] at hj
      rw [hat j hj7]
      exact hj
    have hch : ∀ i, ∃ s : OpU, i < m → (∀ (j : Nat) (v : Value), s.cells[j]? = some v → W.cell? ((x.add (i * 5)).add j) = some v) ∧ s.fits := fun i => by
      by_cases him : i < m
      · obtain ⟨s, h⟩ := hall i him
        exact ⟨s, fun _ => h⟩
      · exact ⟨⟨0, 0, 0, 0, 0⟩, fun h => absurd h him⟩
    refine ⟨fun i => (hch i).choose, fun hn => ⟨x, rfl, ?_, fun i hi' => (hch i).choose_spec (by omega)⟩, hl, by simpa [maxLen] using hm⟩
    have h0 := ((hch 0).choose_spec (by omega)).1 0 _ rfl
    have h := World.block_lt_of_cell? W _ h0
    rwa [block_of_add, block_of_add] at h
end
#print axioms arg_opsU
end Go.Proofs.Ytgoglgghnjgcdaa
