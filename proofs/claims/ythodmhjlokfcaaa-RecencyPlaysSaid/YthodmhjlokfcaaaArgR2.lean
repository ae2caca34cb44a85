/- Arguments of stage 16's laws: a slice of steps of two ints. -/
import Derived.Test.YthodmhjlokfcaaaArgI
import Derived.Deep.Slices
namespace Go.Proofs.Ythodmhjlokfcaaa
open Go.ChangeShapes Go.WideShapes Go.ChangeAt Go.RowKit
/-- A step: its kind, and a number. -/
structure OpR where
  k : Int
  n : Int
def OpR.cells (o : OpR) : List Value := [.int .i64 o.k, .int .i64 o.n]
def In64 (i : Int) : Prop := -9223372036854775808 ≤ i ∧ i < 9223372036854775808
def OpR.fits (o : OpR) : Prop := In64 o.k ∧ In64 o.n
/-- The slice of address A and length n holds the steps f, below block B. -/
def OpsR (w : World) (B : Nat) (A : Option Addr) (n : Nat) (f : Nat → OpR) : Prop :=
  0 < n → ∃ ad, A = some ad ∧ ad.block < B ∧ ∀ i, i < n → (∀ (j : Nat) (v : Value), (f i).cells[j]? = some v → w.cell? ((ad.add (i * 2)).add j) = some v) ∧ (f i).fits
theorem OpsR.below {w w' : World} {B : Nat} {A : Option Addr} {n : Nat} {f : Nat → OpR} (h : OpsR w B A n f) (hb : Below B w w') : OpsR w' B A n f := fun hn => by
  obtain ⟨ad, e, hlt, hc⟩ := h hn
  refine ⟨ad, e, hlt, fun i hi => ⟨fun j v hj => ?_, (hc i hi).2⟩⟩
  rw [hb.cell (by rw [block_of_add, block_of_add]; exact hlt)]
  exact (hc i hi).1 j v hj
/-- A step's cells. -/
theorem OpsR.cell {w : World} {B : Nat} {A : Option Addr} {n : Nat} {f : Nat → OpR} (h : OpsR w B A n f) {i : Nat} (hi : i < n) : ∃ ad, A = some ad ∧ ad.block < B ∧ (f i).fits ∧
    w.cell? (ad.add (i * 2)) = some (.int .i64 (f i).k) ∧ w.cell? ⟨(ad.add (i * 2)).block, (ad.add (i * 2)).off + 1, none⟩ = some (.int .i64 (f i).n) := by
  obtain ⟨ad, e, hlt, hc⟩ := h (by omega)
  obtain ⟨h1, h2⟩ := hc i hi
  have hadd : ∀ (a : Addr) (j : Nat), 0 < j → a.add j = ⟨a.block, a.off + j, none⟩ := fun a j hj => by
    unfold Addr.add
    exact if_neg (by omega)
  refine ⟨ad, e, hlt, h2, ?_, ?_⟩
  · have h3 := h1 0 _ rfl
    rw [show (ad.add (i * 2)).add 0 = ad.add (i * 2) from rfl] at h3
    exact h3
  · have h3 := h1 1 _ rfl
    rwa [hadd _ 1 (by decide)] at h3
theorem opR_cells : Try.prog.cellsOf 29 = 2 := by kernel_rfl
theorem rint_cells : Try.prog.cellsOf 3 = 1 := by kernel_rfl
section
variable {H : Type} {enc : TypeId × Value → H} {W : World} {d : DataW H} {p : List MemPlace}
set_option maxRecDepth 100000 in
theorem arg_opsR {A : Option Addr} {n c : Nat} (h : DataW.Trod enc Try.prog W 0 (fun _ => true) true 22 (.slice A n c) d p) :
    ∃ f : Nat → OpR, OpsR W W.heap.size A n f ∧ n ≤ c ∧ c ≤ 9223372036854775807 := by
  obtain ⟨fuel, hf⟩ := h
  rcases Go.Deep.open_slice Try.underlying22 hf with ⟨hcs, _⟩ | ⟨x, len, cap, m, n', D, Pl, hcs, _, hl, hm, hmm, _, hi⟩
  · simp [Value.cells] at hcs
    obtain ⟨rfl, rfl, rfl⟩ := hcs
    exact ⟨fun _ => ⟨0, 0⟩, fun h => absurd h (by omega), Nat.le_refl _, Nat.zero_le _⟩
  · simp [Value.cells] at hcs
    obtain ⟨rfl, rfl, rfl⟩ := hcs
    have hmc : m = c := by simpa using hmm
    subst hmc
    have hall : ∀ i, i < m → ∃ s : OpR, (∀ (j : Nat) (v : Value), s.cells[j]? = some v → W.cell? ((x.add (i * 2)).add j) = some v) ∧ s.fits := by
      intro i him
      obtain ⟨cs', hc1, hc2⟩ := hi i him
      rw [opR_cells] at hc1
      obtain ⟨ys, k, _, _, hcl, hyl, hfs⟩ := DataW.trod_struct Try.underlying29 hc2
      rw [opR_cells] at hcl
      obtain ⟨_, _, hat⟩ := World.cells?_some hc1
      obtain ⟨c0, c1, r, rfl⟩ : ∃ c0 c1 r, cs' = c0 :: c1 :: r := by
        match cs', hcl with
        | c0 :: c1 :: r, _ => exact ⟨c0, c1, r, rfl⟩
      have f0 := hfs 0 _ rfl
      have f1 := hfs 1 _ rfl
      change DataW.trod enc _ W 0 _ _ k 3 (((c0 :: c1 :: r).drop 0).take (Try.prog.cellsOf 3)) = ys[0]? at f0
      change DataW.trod enc _ W 0 _ _ k 3 (((c0 :: c1 :: r).drop 1).take (Try.prog.cellsOf 3)) = ys[1]? at f1
      rw [rint_cells] at f0 f1
      have y0 : ys[0]? = some (ys[0]'(by rw [hyl]; decide)) := List.getElem?_eq_getElem _
      have y1 : ys[1]? = some (ys[1]'(by rw [hyl]; decide)) := List.getElem?_eq_getElem _
      rw [y0] at f0
      rw [y1] at f1
      obtain ⟨a0, e0, _, w0⟩ := DataW.trod_int Try.underlying3 f0
      obtain ⟨a1, e1, _, w1⟩ := DataW.trod_int Try.underlying3 f1
      have b0 : In64 a0 := by have := bounds_i64 w0; unfold In64; omega
      have b1 : In64 a1 := by have := bounds_i64 w1; unfold In64; omega
      have hcells : (c0 :: c1 :: r).take 2 = OpR.cells ⟨a0, a1⟩ := by
        have q0 : c0 = .int .i64 a0 := by simpa using e0
        have q1 : c1 = .int .i64 a1 := by simpa using e1
        unfold OpR.cells
        simp only
        rw [q0, q1]
        rfl
      refine ⟨⟨a0, a1⟩, fun j v hj => ?_, b0, b1⟩
      rw [← hcells] at hj
      have hj7 : j < 2 := by
        rcases Nat.lt_or_ge j 2 with h | h
        · exact h
        · rw [List.getElem?_take, if_neg (by omega)] at hj; cases hj
      rw [List.getElem?_take, if_pos hj7] at hj
      rw [hat j hj7]
      exact hj
    have hch : ∀ i, ∃ s : OpR, i < m → (∀ (j : Nat) (v : Value), s.cells[j]? = some v → W.cell? ((x.add (i * 2)).add j) = some v) ∧ s.fits := fun i => by
      by_cases him : i < m
      · obtain ⟨s, h⟩ := hall i him
        exact ⟨s, fun _ => h⟩
      · exact ⟨⟨0, 0⟩, fun h => absurd h him⟩
    refine ⟨fun i => (hch i).choose, fun hn => ⟨x, rfl, ?_, fun i hi' => (hch i).choose_spec (by omega)⟩, hl, by simpa [maxLen] using hm⟩
    have h0 := ((hch 0).choose_spec (by omega)).1 0 _ rfl
    have h := World.block_lt_of_cell? W _ h0
    rwa [block_of_add, block_of_add] at h
end
#print axioms arg_opsR
end Go.Proofs.Ythodmhjlokfcaaa
