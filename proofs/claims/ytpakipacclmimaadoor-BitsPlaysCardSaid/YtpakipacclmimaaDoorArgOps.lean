/- An argument that is a slice of steps (two numbers each) reads as two rows of numbers, nil let in. -/
import Derived.Test.YtpakipacclmimaaDoorDoes
import Derived.Deep.Slices
import Derived.ChangeArms
namespace Go.Proofs.YtpakipacclmimaaDoor
open Go.ChangeShapes Go.WideShapes Go.ChangeAt Go.RowKit

/-- The slice of address A and length n holds the steps whose kinds are f and whose numbers are g, below block B. -/
def Ops (w : World) (B : Nat) (A : Option Addr) (n : Nat) (f g : Nat → Int) : Prop :=
  0 < n → ∃ ad, A = some ad ∧ ad.block < B ∧ ∀ i, i < n → w.cell? (ad.add (i * 2)) = some (.int .i64 (f i)) ∧ w.cell? ((ad.add (i * 2)).add 1) = some (.int .i64 (g i))
theorem Ops.below {w w' : World} {B : Nat} {A : Option Addr} {n : Nat} {f g : Nat → Int} (h : Ops w B A n f g) (hb : Below B w w') : Ops w' B A n f g := fun hn => by
  obtain ⟨ad, e, hlt, hc⟩ := h hn
  exact ⟨ad, e, hlt, fun i hi => ⟨(hb.cell (by rw [block_of_add]; exact hlt)).trans (hc i hi).1, (hb.cell (by rw [block_of_add, block_of_add]; exact hlt)).trans (hc i hi).2⟩⟩
theorem op_cells : Tryd.prog.cellsOf 30 = 2 := by kernel_rfl
theorem int_cells : Tryd.prog.cellsOf 3 = 1 := by kernel_rfl
theorem arg_ops {H : Type} {enc : TypeId × Value → H} {W : World} {A : Option Addr} {n c : Nat} {d : DataW H} {p : List MemPlace} (h : DataW.Trod enc Tryd.prog W 0 (fun _ => true) true 22 (.slice A n c) d p) :
    ∃ fg : (Nat → Int) × (Nat → Int), Ops W W.heap.size A n fg.1 fg.2 ∧ n ≤ c ∧ c ≤ 9223372036854775807 := by
  obtain ⟨fuel, hf⟩ := h
  rcases Go.Deep.open_slice Tryd.underlying22 hf with ⟨hcs, _⟩ | ⟨x, len, cap, m, n', D, Pl, hcs, _, hl, hm, hmm, _, hi⟩
  · simp [Value.cells] at hcs
    obtain ⟨rfl, rfl, rfl⟩ := hcs
    exact ⟨(fun _ => 0, fun _ => 0), fun h => absurd h (by omega), Nat.le_refl _, Nat.zero_le _⟩
  · simp [Value.cells] at hcs
    obtain ⟨rfl, rfl, rfl⟩ := hcs
    have hmc : m = c := by simpa using hmm
    subst hmc
    have hall : ∀ i, i < m → ∃ ab : Int × Int, W.cell? (x.add (i * 2)) = some (.int .i64 ab.1) ∧ W.cell? ((x.add (i * 2)).add 1) = some (.int .i64 ab.2) := by
      intro i him
      obtain ⟨cs', hc1, hc2⟩ := hi i him
      rw [op_cells] at hc1
      obtain ⟨ys, k, _, _, hcl, hyl, hfs⟩ := DataW.trod_struct Tryd.underlying30 hc2
      rw [op_cells] at hcl
      obtain ⟨_, _, hat⟩ := World.cells?_some hc1
      have f0 := hfs 0 _ rfl
      have f1 := hfs 1 _ rfl
      change DataW.trod enc _ W 0 _ _ k 3 ((cs'.drop 0).take (Tryd.prog.cellsOf 3)) = ys[0]? at f0
      change DataW.trod enc _ W 0 _ _ k 3 ((cs'.drop 1).take (Tryd.prog.cellsOf 3)) = ys[1]? at f1
      rw [int_cells] at f0 f1
      have y0 : ys[0]? = some (ys[0]'(by rw [hyl]; decide)) := List.getElem?_eq_getElem _
      have y1 : ys[1]? = some (ys[1]'(by rw [hyl]; decide)) := List.getElem?_eq_getElem _
      rw [y0] at f0
      rw [y1] at f1
      obtain ⟨a, e0, _, _⟩ := DataW.trod_int Tryd.underlying3 f0
      obtain ⟨b, e1, _, _⟩ := DataW.trod_int Tryd.underlying3 f1
      refine ⟨(a, b), ?_, ?_⟩
      · have h0 := hat 0 (by decide)
        have hz : (x.add (i * 2)).add 0 = x.add (i * 2) := by rw [add_of_add]; rfl
        rw [hz] at h0
        rw [h0]
        have : (cs'.drop 0).take 1 = [.int .i64 a] := e0
        obtain ⟨c0, r, rfl⟩ : ∃ c0 r, cs' = c0 :: r := by cases cs' with | nil => simp at hcl | cons c0 r => exact ⟨c0, r, rfl⟩
        simpa using this
      · have h1 := hat 1 (by decide)
        rw [h1]
        have : (cs'.drop 1).take 1 = [.int .i64 b] := e1
        obtain ⟨c0, c1, r, rfl⟩ : ∃ c0 c1 r, cs' = c0 :: c1 :: r := by
          match cs', hcl with
          | c0 :: c1 :: r, _ => exact ⟨c0, c1, r, rfl⟩
        simpa using this
    have hch : ∀ i, ∃ ab : Int × Int, i < m → W.cell? (x.add (i * 2)) = some (.int .i64 ab.1) ∧ W.cell? ((x.add (i * 2)).add 1) = some (.int .i64 ab.2) := fun i => by
      by_cases him : i < m
      · obtain ⟨ab, h⟩ := hall i him
        exact ⟨ab, fun _ => h⟩
      · exact ⟨(0, 0), fun h => absurd h him⟩
    refine ⟨(fun i => ((hch i).choose).1, fun i => ((hch i).choose).2), fun hn => ⟨x, rfl, ?_, fun i hi' => (hch i).choose_spec (by omega)⟩, hl, by simpa [maxLen] using hm⟩
    have h0 := ((hch 0).choose_spec (by omega)).1
    have h := World.block_lt_of_cell? W _ h0
    rwa [block_of_add] at h
#print axioms arg_ops
end Go.Proofs.YtpakipacclmimaaDoor
