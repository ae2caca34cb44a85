/- An argument that is a slice of steps (four numbers and a mask each) reads as rows of numbers, nil let in. -/
import Derived.Test.YtdpfjehodnlojaaCalls
import Derived.ProofKit
import Derived.OpenShut
import Derived.ShutString
import Derived.ChangeOld
import Derived.Deep.Slices
import Derived.ChangeArms
namespace Go.Proofs.Ytdpfjehodnlojaa
open Go.ChangeShapes Go.WideShapes Go.ChangeAt Go.RowKit

theorem own : ownKnob Try.prog.godebug = none := by kernel_rfl
theorem laidOut : laidOutB Try.prog = true := by kernel_rfl
/-- A step: its kind, disk, sector, number and mask. -/
structure Step where
  k : Int
  d : Int
  a : Int
  n : Int
  m : Nat
def Step.fits (s : Step) : Prop := (-9223372036854775808 ≤ s.n ∧ s.n ≤ 9223372036854775807) ∧ s.m < 18446744073709551616
/-- The slice of address A and length n holds the steps f, below block B. -/
def Steps (w : World) (B : Nat) (A : Option Addr) (n : Nat) (f : Nat → Step) : Prop :=
  0 < n → ∃ ad, A = some ad ∧ ad.block < B ∧ ∀ i, i < n → w.cell? (ad.add (i * 5)) = some (.int .i64 (f i).k) ∧ w.cell? ⟨(ad.add (i * 5)).block, (ad.add (i * 5)).off + 1, none⟩ = some (.int .i64 (f i).d) ∧ w.cell? ⟨(ad.add (i * 5)).block, (ad.add (i * 5)).off + 2, none⟩ = some (.int .i64 (f i).a) ∧
    w.cell? ⟨(ad.add (i * 5)).block, (ad.add (i * 5)).off + 3, none⟩ = some (.int .i64 (f i).n) ∧ w.cell? ⟨(ad.add (i * 5)).block, (ad.add (i * 5)).off + 4, none⟩ = some (.int .u64 ((f i).m : Int)) ∧ (f i).fits
theorem Steps.below {w w' : World} {B : Nat} {A : Option Addr} {n : Nat} {f : Nat → Step} (h : Steps w B A n f) (hb : Below B w w') : Steps w' B A n f := fun hn => by
  obtain ⟨ad, e, hlt, hc⟩ := h hn
  have hk : ∀ i j, w'.cell? ⟨(ad.add (i * 5)).block, (ad.add (i * 5)).off + j, none⟩ = w.cell? ⟨(ad.add (i * 5)).block, (ad.add (i * 5)).off + j, none⟩ := fun i j => hb.cell (by show (ad.add (i * 5)).block < B; rw [block_of_add]; exact hlt)
  refine ⟨ad, e, hlt, fun i hi => ?_⟩
  obtain ⟨h0, h1, h2, h3, h4, h5⟩ := hc i hi
  exact ⟨(hb.cell (by rw [block_of_add]; exact hlt)).trans h0, (hk i 1).trans h1, (hk i 2).trans h2, (hk i 3).trans h3, (hk i 4).trans h4, h5⟩
theorem step_cells : Try.prog.cellsOf 32 = 5 := by kernel_rfl
theorem int_cells : Try.prog.cellsOf 3 = 1 := by kernel_rfl
theorem u64_cells : Try.prog.cellsOf 23 = 1 := by kernel_rfl
set_option maxRecDepth 100000 in
theorem arg_steps {H : Type} {enc : TypeId × Value → H} {W : World} {A : Option Addr} {n c : Nat} {d : DataW H} {p : List MemPlace} (h : DataW.Trod enc Try.prog W 0 (fun _ => true) true 22 (.slice A n c) d p) :
    ∃ f : Nat → Step, Steps W W.heap.size A n f ∧ n ≤ c ∧ c ≤ 9223372036854775807 := by
  obtain ⟨fuel, hf⟩ := h
  rcases Go.Deep.open_slice Try.underlying22 hf with ⟨hcs, _⟩ | ⟨x, len, cap, m, n', D, Pl, hcs, _, hl, hm, hmm, _, hi⟩
  · simp [Value.cells] at hcs
    obtain ⟨rfl, rfl, rfl⟩ := hcs
    exact ⟨fun _ => ⟨0, 0, 0, 0, 0⟩, fun h => absurd h (by omega), Nat.le_refl _, Nat.zero_le _⟩
  · simp [Value.cells] at hcs
    obtain ⟨rfl, rfl, rfl⟩ := hcs
    have hmc : m = c := by simpa using hmm
    subst hmc
    have hall : ∀ i, i < m → ∃ s : Step, W.cell? (x.add (i * 5)) = some (.int .i64 s.k) ∧ W.cell? ⟨(x.add (i * 5)).block, (x.add (i * 5)).off + 1, none⟩ = some (.int .i64 s.d) ∧ W.cell? ⟨(x.add (i * 5)).block, (x.add (i * 5)).off + 2, none⟩ = some (.int .i64 s.a) ∧ W.cell? ⟨(x.add (i * 5)).block, (x.add (i * 5)).off + 3, none⟩ = some (.int .i64 s.n) ∧ W.cell? ⟨(x.add (i * 5)).block, (x.add (i * 5)).off + 4, none⟩ = some (.int .u64 (s.m : Int)) ∧ s.fits := by
      intro i him
      obtain ⟨cs', hc1, hc2⟩ := hi i him
      rw [step_cells] at hc1
      obtain ⟨ys, k, _, _, hcl, hyl, hfs⟩ := DataW.trod_struct Try.underlying32 hc2
      rw [step_cells] at hcl
      obtain ⟨_, _, hat⟩ := World.cells?_some hc1
      obtain ⟨c0, c1, c2, c3, c4, r, rfl⟩ : ∃ c0 c1 c2 c3 c4 r, cs' = c0 :: c1 :: c2 :: c3 :: c4 :: r := by
        match cs', hcl with
        | c0 :: c1 :: c2 :: c3 :: c4 :: r, _ => exact ⟨c0, c1, c2, c3, c4, r, rfl⟩
      have f0 := hfs 0 _ rfl
      have f1 := hfs 1 _ rfl
      have f2 := hfs 2 _ rfl
      have f3 := hfs 3 _ rfl
      have f4 := hfs 4 _ rfl
      change DataW.trod enc _ W 0 _ _ k 3 (((c0 :: c1 :: c2 :: c3 :: c4 :: r).drop 0).take (Try.prog.cellsOf 3)) = ys[0]? at f0
      change DataW.trod enc _ W 0 _ _ k 3 (((c0 :: c1 :: c2 :: c3 :: c4 :: r).drop 1).take (Try.prog.cellsOf 3)) = ys[1]? at f1
      change DataW.trod enc _ W 0 _ _ k 3 (((c0 :: c1 :: c2 :: c3 :: c4 :: r).drop 2).take (Try.prog.cellsOf 3)) = ys[2]? at f2
      change DataW.trod enc _ W 0 _ _ k 3 (((c0 :: c1 :: c2 :: c3 :: c4 :: r).drop 3).take (Try.prog.cellsOf 3)) = ys[3]? at f3
      change DataW.trod enc _ W 0 _ _ k 23 (((c0 :: c1 :: c2 :: c3 :: c4 :: r).drop 4).take (Try.prog.cellsOf 23)) = ys[4]? at f4
      rw [int_cells] at f0 f1 f2 f3
      rw [u64_cells] at f4
      have y0 : ys[0]? = some (ys[0]'(by rw [hyl]; decide)) := List.getElem?_eq_getElem _
      have y1 : ys[1]? = some (ys[1]'(by rw [hyl]; decide)) := List.getElem?_eq_getElem _
      have y2 : ys[2]? = some (ys[2]'(by rw [hyl]; decide)) := List.getElem?_eq_getElem _
      have y3 : ys[3]? = some (ys[3]'(by rw [hyl]; decide)) := List.getElem?_eq_getElem _
      have y4 : ys[4]? = some (ys[4]'(by rw [hyl]; decide)) := List.getElem?_eq_getElem _
      rw [y0] at f0
      rw [y1] at f1
      rw [y2] at f2
      rw [y3] at f3
      rw [y4] at f4
      obtain ⟨a0, e0, _, _⟩ := DataW.trod_int Try.underlying3 f0
      obtain ⟨a1, e1, _, _⟩ := DataW.trod_int Try.underlying3 f1
      obtain ⟨a2, e2, _, _⟩ := DataW.trod_int Try.underlying3 f2
      obtain ⟨a3, e3, g3, w3⟩ := DataW.trod_int Try.underlying3 f3
      obtain ⟨a4, e4, g4, w4⟩ := DataW.trod_int Try.underlying23 f4
      have h0 := hat 0 (by decide)
      have h1 := hat 1 (by decide)
      change W.cell? ⟨(x.add (i * 5)).block, (x.add (i * 5)).off + 1, none⟩ = _ at h1
      have h2 := hat 2 (by decide)
      change W.cell? ⟨(x.add (i * 5)).block, (x.add (i * 5)).off + 2, none⟩ = _ at h2
      have h3 := hat 3 (by decide)
      change W.cell? ⟨(x.add (i * 5)).block, (x.add (i * 5)).off + 3, none⟩ = _ at h3
      have h4 := hat 4 (by decide)
      change W.cell? ⟨(x.add (i * 5)).block, (x.add (i * 5)).off + 4, none⟩ = _ at h4
      have hz : (x.add (i * 5)).add 0 = x.add (i * 5) := by rw [add_of_add]; rfl
      rw [hz] at h0
      have b3 := bounds_i64 w3
      have b4 := bounds_u64 w4
      have hm4 : ((a4.toNat : Nat) : Int) = a4 := Int.toNat_of_nonneg b4.1
      refine ⟨⟨a0, a1, a2, a3, a4.toNat⟩, ?_, ?_, ?_, ?_, ?_, ⟨b3, by show a4.toNat < _; omega⟩⟩
      · rw [h0]; simpa using e0
      · rw [h1]; simpa using e1
      · rw [h2]; simpa using e2
      · rw [h3]; simpa using e3
      · rw [h4, hm4]; simpa using e4
    have hch : ∀ i, ∃ s : Step, i < m → W.cell? (x.add (i * 5)) = some (.int .i64 s.k) ∧ W.cell? ⟨(x.add (i * 5)).block, (x.add (i * 5)).off + 1, none⟩ = some (.int .i64 s.d) ∧ W.cell? ⟨(x.add (i * 5)).block, (x.add (i * 5)).off + 2, none⟩ = some (.int .i64 s.a) ∧ W.cell? ⟨(x.add (i * 5)).block, (x.add (i * 5)).off + 3, none⟩ = some (.int .i64 s.n) ∧ W.cell? ⟨(x.add (i * 5)).block, (x.add (i * 5)).off + 4, none⟩ = some (.int .u64 (s.m : Int)) ∧ s.fits := fun i => by
      by_cases him : i < m
      · obtain ⟨s, h⟩ := hall i him
        exact ⟨s, fun _ => h⟩
      · exact ⟨⟨0, 0, 0, 0, 0⟩, fun h => absurd h him⟩
    refine ⟨fun i => (hch i).choose, fun hn => ⟨x, rfl, ?_, fun i hi' => (hch i).choose_spec (by omega)⟩, hl, by simpa [maxLen] using hm⟩
    have h0 := ((hch 0).choose_spec (by omega)).1
    have h := World.block_lt_of_cell? W _ h0
    rwa [block_of_add] at h
#print axioms arg_steps
end Go.Proofs.Ytdpfjehodnlojaa
