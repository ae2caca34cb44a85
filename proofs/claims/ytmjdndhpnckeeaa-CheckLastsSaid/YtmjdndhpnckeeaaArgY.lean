/- What an argument of a law is told as: a slice of slices of bytes, each by its place, nil let in. -/
import Derived.Test.YtmjdndhpnckeeaaArgI
import Derived.Deep.Slices
namespace Go.Proofs.Ytmjdndhpnckeeaa
open Go.ChangeShapes Go.WideShapes Go.ChangeAt Go.RowKit

theorem bytes_cellsOf : Try.prog.cellsOf 32 = 1 := by kernel_rfl
/-- Bytes, and where they lie. -/
structure BsV where
  A : Option Addr
  n : Nat
  c : Nat
  l : List UInt8
/-- These bytes lie there. -/
structure BsIn (w : World) (B : Nat) (x : BsV) : Prop where
  reads : Reads w B 1 x.A x.n (B8 x.l)
  le : x.n ≤ x.c
  lt : x.c ≤ 9223372036854775807
theorem BsIn.below {w w' : World} {B : Nat} {x : BsV} (h : BsIn w B x) (hb : Below B w w') : BsIn w' B x := ⟨h.reads.below hb, h.le, h.lt⟩
def BsV.none_ : BsV := ⟨none, 0, 0, []⟩
theorem BsIn.none_ {w : World} {B : Nat} : BsIn w B BsV.none_ := ⟨Reads.none_, Nat.le_refl _, Nat.zero_le _⟩
/-- The rows of a slice of slices of bytes. -/
structure RowsIn (w : World) (B : Nat) (A : Option Addr) (n c : Nat) (f : Nat → BsV) : Prop where
  le : n ≤ c
  lt : c ≤ 9223372036854775807
  row : 0 < n → ∃ ad, A = some ad ∧ ad.block < B ∧ ∀ i, i < n → w.cell? (ad.add i) = some (.slice (f i).A (f i).n (f i).c) ∧ BsIn w B (f i)
theorem RowsIn.below {w w' : World} {B n c : Nat} {A : Option Addr} {f : Nat → BsV} (h : RowsIn w B A n c f) (hb : Below B w w') : RowsIn w' B A n c f := by
  refine ⟨h.le, h.lt, fun hn => ?_⟩
  obtain ⟨ad, e, hlt, hc⟩ := h.row hn
  refine ⟨ad, e, hlt, fun i hi => ⟨?_, (hc i hi).2.below hb⟩⟩
  exact (hb.cell (p := ad.add i) (by rw [block_of_add]; exact hlt)).trans (hc i hi).1
section
variable {H : Type} {enc : TypeId × Value → H} {W : World}
theorem bs_read {fuel : Nat} {hd : Bool} {cs : List Value} {x : DataW H × List MemPlace} (h : DataW.trod enc Try.prog W 0 (fun _ => true) hd fuel 32 cs = some x) : ∃ y : BsV, cs = [.slice y.A y.n y.c] ∧ BsIn W W.heap.size y := by
  rcases open_ints Try.underlying32 Try.underlying5 (by kernel_rfl) h with ⟨rfl, _⟩ | ⟨x, l, c, zs, rfl, _, hl, hm, hz, _, hcell, hwz⟩
  · exact ⟨BsV.none_, rfl, BsIn.none_⟩
  · have hz' : zs.length = c := by simpa using hz
    obtain ⟨bs, _, hbs⟩ := bytes_of (zs.take l) (fun z hzm => bounds_u8 (hwz z (List.mem_of_mem_take hzm)))
    refine ⟨⟨some x, l, c, bs⟩, rfl, ?_, hl, by simpa [maxLen] using hm⟩
    show Reads W W.heap.size 1 (some x) l (B8 bs)
    rw [← hbs]
    exact reads_of_ints hl hz' hcell
theorem arg_rows {d : DataW H} {p : List MemPlace} {A : Option Addr} {n c : Nat} (h : DataW.Trod enc Try.prog W 0 (fun _ => true) true 22 (.slice A n c) d p) : ∃ f : Nat → BsV, RowsIn W W.heap.size A n c f := by
  obtain ⟨fuel, hf⟩ := h
  rcases Go.Deep.open_slice1 Try.underlying22 bytes_cellsOf hf with ⟨hcs, _⟩ | ⟨x, len, cap, m, n', V, D, Pl, hcs, _, hl, hm, hmm, _, hi⟩
  · simp [Value.cells] at hcs
    obtain ⟨rfl, rfl, rfl⟩ := hcs
    exact ⟨fun _ => BsV.none_, Nat.le_refl _, Nat.zero_le _, fun h => absurd h (Nat.lt_irrefl 0)⟩
  · simp [Value.cells] at hcs
    obtain ⟨rfl, rfl, rfl⟩ := hcs
    have hmc : m = c := by simpa using hmm
    subst hmc
    have hall : ∀ i, ∃ y : BsV, i < m → W.cell? (x.add i) = some (.slice y.A y.n y.c) ∧ BsIn W W.heap.size y := by
      intro i
      by_cases him : i < m
      · obtain ⟨hc1, hc2⟩ := hi i him
        obtain ⟨y, hy, hb⟩ := bs_read hc2
        simp at hy
        exact ⟨y, fun _ => ⟨by rw [hc1, hy], hb⟩⟩
      · exact ⟨BsV.none_, fun h => absurd h him⟩
    refine ⟨fun i => Classical.choose (hall i), hl, by simpa [maxLen] using hm, fun hn => ⟨x, rfl, ?_, fun i hi2 => Classical.choose_spec (hall i) (by omega)⟩⟩
    obtain ⟨y, hy⟩ := hall 0
    have h := World.block_lt_of_cell? W _ (hy (by omega)).1
    rwa [block_of_add] at h
end
#print axioms arg_rows
end Go.Proofs.Ytmjdndhpnckeeaa
