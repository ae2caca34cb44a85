/- An argument that is a slice of steps (three numbers each) reads as a row of steps, nil let in. -/
import Derived.Test.YtmaiikmgpeafkabDoorArgI
import Derived.Deep.Slices
import Derived.ChangeArms
namespace Go.Proofs.YtmaiikmgpeafkabDoor
open Go.ChangeShapes Go.WideShapes Go.ChangeAt Go.RowKit

/-- A step: its kind, disk and number. -/
structure Op6 where
  k : Int
  d : Int
  n : Int
def Op6.fits (s : Op6) : Prop := (-9223372036854775808 ≤ s.d ∧ s.d < 9223372036854775808) ∧ (-9223372036854775808 ≤ s.n ∧ s.n < 9223372036854775808)
def Op6.cells (s : Op6) : List Value := [.int .i64 s.k, .int .i64 s.d, .int .i64 s.n]
/-- The slice of address A and length n holds the steps f, below block B. -/
def Ops6 (w : World) (B : Nat) (A : Option Addr) (n : Nat) (f : Nat → Op6) : Prop :=
  0 < n → ∃ ad, A = some ad ∧ ad.block < B ∧ ∀ i, i < n → (∀ (j : Nat) v, (f i).cells[j]? = some v → w.cell? ((ad.add (i * 3)).add j) = some v) ∧ (f i).fits
theorem Ops6.below {w w' : World} {B : Nat} {A : Option Addr} {n : Nat} {f : Nat → Op6} (h : Ops6 w B A n f) (hb : Below B w w') : Ops6 w' B A n f := fun hn => by
  obtain ⟨ad, e, hlt, hc⟩ := h hn
  exact ⟨ad, e, hlt, fun i hi => ⟨fun j v hv => (hb.cell (by rw [block_of_add, block_of_add]; exact hlt)).trans ((hc i hi).1 j v hv), (hc i hi).2⟩⟩
theorem op6_cells : Tryd.prog.cellsOf 29 = 3 := by kernel_rfl
theorem op6_info : (Tryd.prog.info? 29).map (·.size) = some 3 := by kernel_rfl
theorem int_cells : Tryd.prog.cellsOf 3 = 1 := by kernel_rfl
set_option maxRecDepth 100000 in
theorem arg_ops6 {H : Type} {enc : TypeId × Value → H} {W : World} {A : Option Addr} {n c : Nat} {d : DataW H} {p : List MemPlace} (h : DataW.Trod enc Tryd.prog W 0 (fun _ => true) true 22 (.slice A n c) d p) :
    ∃ f : Nat → Op6, Ops6 W W.heap.size A n f ∧ n ≤ c ∧ c ≤ 9223372036854775807 := by
  obtain ⟨fuel, hf⟩ := h
  rcases Go.Deep.open_slice Tryd.underlying22 hf with ⟨hcs, _⟩ | ⟨x, len, cap, m, n', D, Pl, hcs, _, hl, hm, hmm, _, hi⟩
  · simp [Value.cells] at hcs
    obtain ⟨rfl, rfl, rfl⟩ := hcs
    exact ⟨fun _ => ⟨0, 0, 0⟩, fun h => absurd h (by omega), Nat.le_refl _, Nat.zero_le _⟩
  · simp [Value.cells] at hcs
    obtain ⟨rfl, rfl, rfl⟩ := hcs
    have hmc : m = c := by simpa using hmm
    subst hmc
    have hall : ∀ i, i < m → ∃ s : Op6, (∀ (j : Nat) v, s.cells[j]? = some v → W.cell? ((x.add (i * 3)).add j) = some v) ∧ s.fits := by
      intro i him
      obtain ⟨cs', hc1, hc2⟩ := hi i him
      rw [op6_cells] at hc1
      obtain ⟨ys, k, _, _, hcl, hyl, hfs⟩ := DataW.trod_struct Tryd.underlying29 hc2
      rw [op6_cells] at hcl
      obtain ⟨_, _, hat⟩ := World.cells?_some hc1
      obtain ⟨c0, c1, c2, r, rfl⟩ : ∃ c0 c1 c2 r, cs' = c0 :: c1 :: c2 :: r := by
        match cs', hcl with
        | c0 :: c1 :: c2 :: r, _ => exact ⟨c0, c1, c2, r, rfl⟩
      have f0 := hfs 0 _ rfl
      have f1 := hfs 1 _ rfl
      have f2 := hfs 2 _ rfl
      change DataW.trod enc _ W 0 _ _ k 3 (((c0 :: c1 :: c2 :: r).drop 0).take (Tryd.prog.cellsOf 3)) = ys[0]? at f0
      change DataW.trod enc _ W 0 _ _ k 3 (((c0 :: c1 :: c2 :: r).drop 1).take (Tryd.prog.cellsOf 3)) = ys[1]? at f1
      change DataW.trod enc _ W 0 _ _ k 3 (((c0 :: c1 :: c2 :: r).drop 2).take (Tryd.prog.cellsOf 3)) = ys[2]? at f2
      rw [int_cells] at f0 f1 f2
      have y0 : ys[0]? = some (ys[0]'(by rw [hyl]; decide)) := List.getElem?_eq_getElem _
      have y1 : ys[1]? = some (ys[1]'(by rw [hyl]; decide)) := List.getElem?_eq_getElem _
      have y2 : ys[2]? = some (ys[2]'(by rw [hyl]; decide)) := List.getElem?_eq_getElem _
      rw [y0] at f0
      rw [y1] at f1
      rw [y2] at f2
      obtain ⟨a0, e0, _, _⟩ := DataW.trod_int Tryd.underlying3 f0
      obtain ⟨a1, e1, _, w1⟩ := DataW.trod_int Tryd.underlying3 f1
      obtain ⟨a2, e2, _, w2⟩ := DataW.trod_int Tryd.underlying3 f2
      have b1 := bounds_i64 w1
      have b2 := bounds_i64 w2
      have h0 := hat 0 (by decide)
      have h1 := hat 1 (by decide)
      have h2 := hat 2 (by decide)
      have g0 : c0 = .int .i64 a0 := by simpa using e0
      have g1 : c1 = .int .i64 a1 := by simpa using e1
      have g2 : c2 = .int .i64 a2 := by simpa using e2
      subst g0 g1 g2
      refine ⟨⟨a0, a1, a2⟩, fun j v hv => ?_, ⟨⟨b1.1, show a1 < 9223372036854775808 by omega⟩, ⟨b2.1, show a2 < 9223372036854775808 by omega⟩⟩⟩
      match j, hv with
      | 0, hv => rw [h0]; exact hv
      | 1, hv => rw [h1]; exact hv
      | 2, hv => rw [h2]; exact hv
      | j + 3, hv => cases hv
    have hch : ∀ i, ∃ s : Op6, i < m → (∀ (j : Nat) v, s.cells[j]? = some v → W.cell? ((x.add (i * 3)).add j) = some v) ∧ s.fits := fun i => by
      by_cases him : i < m
      · obtain ⟨s, h⟩ := hall i him
        exact ⟨s, fun _ => h⟩
      · exact ⟨⟨0, 0, 0⟩, fun h => absurd h him⟩
    refine ⟨fun i => (hch i).choose, fun hn => ⟨x, rfl, ?_, fun i hi' => (hch i).choose_spec (by omega)⟩, hl, by simpa [maxLen] using hm⟩
    have h0 := ((hch 0).choose_spec (by omega)).1 0 _ rfl
    have h := World.block_lt_of_cell? W _ h0
    rwa [block_of_add, block_of_add] at h
#print axioms arg_ops6
end Go.Proofs.YtmaiikmgpeafkabDoor
