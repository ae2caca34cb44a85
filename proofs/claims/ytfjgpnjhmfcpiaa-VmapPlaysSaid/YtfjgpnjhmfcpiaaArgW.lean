/- Arguments of stage 15's laws: a place; a slice of changes; a slice of such slices. -/
import Derived.Test.YtfjgpnjhmfcpiaaArgI
import Derived.Test.YtfjgpnjhmfcpiaaVmC
import Derived.Deep.Slices
namespace Go.Proofs.Ytfjgpnjhmfcpiaa
open Go.ChangeShapes Go.WideShapes Go.ChangeAt Go.RowKit
set_option linter.unusedVariables false
theorem aw_int : Try.prog.cellsOf 3 = 1 := by kernel_rfl
theorem aw_wh : Try.prog.cellsOf 24 = 3 := by kernel_rfl
theorem aw_ch : Try.prog.cellsOf 34 = 4 := by kernel_rfl
theorem aw_sl : Try.prog.cellsOf 30 = 1 := by kernel_rfl
/-- Changes, and where they lie. -/
structure ChV where
  A : Option Addr
  n : Nat
  c : Nat
  L : List Ch
structure ChsIn (w : World) (B : Nat) (x : ChV) : Prop where
  rd : Reads w B 4 x.A x.n (chsL x.L)
  fits : ∀ y ∈ x.L, okI64 y.1 ∧ y.2.fits
  le : x.n ≤ x.c
  lt : x.c ≤ 9223372036854775807
theorem ChsIn.below {w w' : World} {B : Nat} {x : ChV} (h : ChsIn w B x) (hb : Below B w w') : ChsIn w' B x := ⟨h.rd.below hb, h.fits, h.le, h.lt⟩
def ChV.none_ : ChV := ⟨none, 0, 0, []⟩
theorem ChsIn.none_ {w : World} {B : Nat} : ChsIn w B ChV.none_ := ⟨Reads.none_, fun _ h => (by cases h), Nat.le_refl _, Nat.zero_le _⟩
/-- The rows of a slice of slices of changes. -/
structure ChRows (w : World) (B : Nat) (A : Option Addr) (n c : Nat) (f : Nat → ChV) : Prop where
  le : n ≤ c
  lt : c ≤ 9223372036854775807
  row : 0 < n → ∃ ad, A = some ad ∧ ad.block < B ∧ ∀ i, i < n → w.cell? (ad.add i) = some (.slice (f i).A (f i).n (f i).c) ∧ ChsIn w B (f i)
theorem ChRows.below {w w' : World} {B n c : Nat} {A : Option Addr} {f : Nat → ChV} (h : ChRows w B A n c f) (hb : Below B w w') : ChRows w' B A n c f := by
  refine ⟨h.le, h.lt, fun hn => ?_⟩
  obtain ⟨ad, e, hlt, hc⟩ := h.row hn
  refine ⟨ad, e, hlt, fun i hi => ⟨?_, (hc i hi).2.below hb⟩⟩
  exact (hb.cell (p := ad.add i) (by rw [block_of_add]; exact hlt)).trans (hc i hi).1
/-- A head of such a row. -/
theorem ChsIn.head {w w' : World} {x : ChV} (h : ChsIn w w.heap.size x) (hb : Below w.heap.size w w') {m : Nat} (hm : m ≤ x.n) (hm2 : m ≤ 1000000) : ChIn w' x.A m x.c (x.L.take m) := by
  have hl : x.L.length = x.n := by
    have := h.rd.1
    rw [chsL_len] at this
    omega
  refine ⟨⟨?_, fun h0 => ?_⟩, fun y hy => h.fits y (List.mem_of_mem_take hy), hm2, Nat.le_trans hm h.le⟩
  · rw [chsL_len, List.length_take, hl]
    omega
  · obtain ⟨ad, e, hlt, hc⟩ := h.rd.2 (by omega)
    refine ⟨ad, e, Nat.lt_of_lt_of_le hlt hb.size, fun j u hj => ?_⟩
    rw [hb.cell (p := ad.add j) (by rw [block_of_add]; exact hlt)]
    refine hc j u ?_
    have e2 : chsL x.L = chsL (x.L.take m) ++ chsL (x.L.drop m) := by
      unfold chsL
      rw [← List.flatMap_append, List.take_append_drop]
    rw [e2, List.getElem?_append_left (List.getElem?_eq_some_iff.1 hj).1]
    exact hj
/-- One of its changes. -/
theorem ChsIn.one {w w' : World} {x : ChV} (h : ChsIn w w.heap.size x) (hb : Below w.heap.size w w') {i : Nat} {q : Ch} (hq : x.L[i]? = some q) : ∃ ad, x.A = some ad ∧ ChIn w' (some (ad.add (i * 4))) 1 (x.c - i) [q] := by
  have hl : x.L.length = x.n := by
    have := h.rd.1
    rw [chsL_len] at this
    omega
  have hi := (List.getElem?_eq_some_iff.1 hq).1
  obtain ⟨ad, e, hlt, hc⟩ := h.rd.2 (by omega)
  have hle := h.le
  refine ⟨ad, e, ⟨by rw [chsL_len]; rfl, fun _ => ⟨_, rfl, by rw [block_of_add]; exact Nat.lt_of_lt_of_le hlt hb.size, fun j u hj => ?_⟩⟩, fun y hy => by rw [List.mem_singleton.1 hy]; exact h.fits q (List.mem_of_getElem? hq), by omega, by omega⟩
  rw [add_of_add, hb.cell (p := ad.add (i * 4 + j)) (by rw [block_of_add]; exact hlt)]
  refine hc _ u (chsL_at hq j u ?_)
  have e3 : chsL [q] = chC q := by unfold chsL; simp
  rw [e3] at hj
  exact hj
section
variable {H : Type} {enc : TypeId × Value → H} {W : World}
theorem aw_bounds {a : Int} (h : -9223372036854775808 ≤ a ∧ a ≤ 9223372036854775807) : -9223372036854775808 ≤ a ∧ a < 9223372036854775808 := by omega
set_option maxRecDepth 100000 in
theorem wh_read {base fuel : Nat} {sp : Nat → Bool} {hd : Bool} {cs : List Value} {x : DataW H × List MemPlace}
    (h : DataW.trod enc Try.prog W base sp hd fuel 24 cs = some x) : ∃ p : Wh, cs = whC p ∧ p.fits := by
  obtain ⟨ys, k, _, _, hcl, hyl, hfs⟩ := DataW.trod_struct Try.underlying24 h
  rw [aw_wh] at hcl
  obtain ⟨c0, c1, c2, rfl⟩ : ∃ c0 c1 c2, cs = [c0, c1, c2] := by
    rcases cs with _ | ⟨c0, _ | ⟨c1, _ | ⟨c2, _ | ⟨c3, cs⟩⟩⟩⟩
    · cases hcl
    · cases hcl
    · cases hcl
    · exact ⟨c0, c1, c2, rfl⟩
    · simp at hcl
  have f0 := hfs 0 _ rfl
  have f1 := hfs 1 _ rfl
  have f2 := hfs 2 _ rfl
  change DataW.trod enc _ W base _ _ k 3 (([c0, c1, c2].drop 0).take (Try.prog.cellsOf 3)) = ys[0]? at f0
  change DataW.trod enc _ W base _ _ k 3 (([c0, c1, c2].drop 1).take (Try.prog.cellsOf 3)) = ys[1]? at f1
  change DataW.trod enc _ W base _ _ k 3 (([c0, c1, c2].drop 2).take (Try.prog.cellsOf 3)) = ys[2]? at f2
  rw [aw_int] at f0 f1 f2
  have y0 : ys[0]? = some (ys[0]'(by rw [hyl]; decide)) := List.getElem?_eq_getElem _
  have y1 : ys[1]? = some (ys[1]'(by rw [hyl]; decide)) := List.getElem?_eq_getElem _
  have y2 : ys[2]? = some (ys[2]'(by rw [hyl]; decide)) := List.getElem?_eq_getElem _
  rw [y0] at f0
  rw [y1] at f1
  rw [y2] at f2
  obtain ⟨a0, e0, _, w0⟩ := DataW.trod_int Try.underlying3 f0
  obtain ⟨a1, e1, _, w1⟩ := DataW.trod_int Try.underlying3 f1
  obtain ⟨a2, e2, _, w2⟩ := DataW.trod_int Try.underlying3 f2
  have e0' : c0 = .int .i64 a0 := by simpa using e0
  have e1' : c1 = .int .i64 a1 := by simpa using e1
  have e2' : c2 = .int .i64 a2 := by simpa using e2
  exact ⟨⟨a0, a1, a2⟩, by rw [e0', e1', e2']; rfl, aw_bounds (bounds_i64 w0), aw_bounds (bounds_i64 w1), aw_bounds (bounds_i64 w2)⟩
set_option maxRecDepth 100000 in
theorem ch_read {base fuel : Nat} {sp : Nat → Bool} {hd : Bool} {cs : List Value} {x : DataW H × List MemPlace}
    (h : DataW.trod enc Try.prog W base sp hd fuel 34 cs = some x) : ∃ q : Ch, cs = chC q ∧ okI64 q.1 ∧ q.2.fits := by
  obtain ⟨ys, k, _, _, hcl, hyl, hfs⟩ := DataW.trod_struct Try.underlying34 h
  rw [aw_ch] at hcl
  obtain ⟨c0, c1, c2, c3, rfl⟩ : ∃ c0 c1 c2 c3, cs = [c0, c1, c2, c3] := by
    rcases cs with _ | ⟨c0, _ | ⟨c1, _ | ⟨c2, _ | ⟨c3, _ | ⟨c4, cs⟩⟩⟩⟩⟩
    · cases hcl
    · cases hcl
    · cases hcl
    · cases hcl
    · exact ⟨c0, c1, c2, c3, rfl⟩
    · simp at hcl
  have f0 := hfs 0 _ rfl
  have f1 := hfs 1 _ rfl
  change DataW.trod enc _ W base _ _ k 3 (([c0, c1, c2, c3].drop 0).take (Try.prog.cellsOf 3)) = ys[0]? at f0
  change DataW.trod enc _ W base _ _ k 24 (([c0, c1, c2, c3].drop 1).take (Try.prog.cellsOf 24)) = ys[1]? at f1
  rw [aw_int] at f0
  rw [aw_wh] at f1
  have y0 : ys[0]? = some (ys[0]'(by rw [hyl]; decide)) := List.getElem?_eq_getElem _
  have y1 : ys[1]? = some (ys[1]'(by rw [hyl]; decide)) := List.getElem?_eq_getElem _
  rw [y0] at f0
  rw [y1] at f1
  obtain ⟨a0, e0, _, w0⟩ := DataW.trod_int Try.underlying3 f0
  obtain ⟨p, e1, hp⟩ := wh_read f1
  have e0' : c0 = .int .i64 a0 := by simpa using e0
  have e1' : [c1, c2, c3] = whC p := by simpa using e1
  exact ⟨(a0, p), by rw [e0', e1']; rfl, aw_bounds (bounds_i64 w0), hp⟩
theorem chs_read {fuel : Nat} {hd : Bool} {cs : List Value} {x : DataW H × List MemPlace} (h : DataW.trod enc Try.prog W 0 (fun _ => true) hd fuel 30 cs = some x) : ∃ y : ChV, cs = [.slice y.A y.n y.c] ∧ ChsIn W W.heap.size y := by
  rcases Go.Deep.open_slice Try.underlying30 h with ⟨rfl, _⟩ | ⟨ad, len, cap, m, n', D, Pl, rfl, _, hl, hm, hmm, _, hi⟩
  · exact ⟨ChV.none_, rfl, ChsIn.none_⟩
  · have hmc : m = cap := by simpa using hmm
    subst hmc
    have hall : ∀ i, ∃ q : Ch, i < m → (∀ (j : Nat) (v : Value), (chC q)[j]? = some v → W.cell? ((ad.add (i * 4)).add j) = some v) ∧ okI64 q.1 ∧ q.2.fits := fun i => by
      by_cases him : i < m
      · obtain ⟨cs', hc1, hc2⟩ := hi i him
        rw [aw_ch] at hc1
        obtain ⟨_, _, hat⟩ := World.cells?_some hc1
        obtain ⟨q, hq, h1, h2⟩ := ch_read hc2
        subst hq
        refine ⟨q, fun _ => ⟨fun j v hj => ?_, h1, h2⟩⟩
        have hj4 : j < 4 := by rw [← chC_len q]; exact (List.getElem?_eq_some_iff.1 hj).1
        rw [hat j hj4]
        exact hj
      · exact ⟨(0, Wh.none_), fun h => absurd h him⟩
    obtain ⟨f, hf⟩ : ∃ f : Nat → Ch, ∀ i, i < m → (∀ (j : Nat) (v : Value), (chC (f i))[j]? = some v → W.cell? ((ad.add (i * 4)).add j) = some v) ∧ okI64 (f i).1 ∧ (f i).2.fits := ⟨fun i => (hall i).choose, fun i => (hall i).choose_spec⟩
    refine ⟨⟨some ad, len, m, (List.range len).map f⟩, rfl, ⟨by rw [chsL_len, List.length_map, List.length_range], fun h0 => ⟨ad, rfl, ?_, fun j u hj => ?_⟩⟩, fun y hy => ?_, hl, by simpa [maxLen] using hm⟩
    · have h0' : 0 < len := h0
      have h1 := (hf 0 (by omega)).1 0 _ rfl
      have h := World.block_lt_of_cell? W _ h1
      rwa [block_of_add, block_of_add] at h
    · have hj2 : j < len * 4 := by
        have := (List.getElem?_eq_some_iff.1 hj).1
        rwa [chsL_len, List.length_map, List.length_range] at this
      have hi2 : j / 4 < len := by omega
      have hq : ((List.range len).map f)[j / 4]? = some (f (j / 4)) := by rw [List.getElem?_map, List.getElem?_range hi2]; rfl
      have hr : j % 4 < 4 := Nat.mod_lt _ (by decide)
      have e1 := flat_cell chC 4 chC_len _ _ _ _ hq hr
      have e2 : j / 4 * 4 + j % 4 = j := Nat.div_add_mod' j 4
      rw [e2] at e1
      have h3 := (hf (j / 4) (by omega)).1 (j % 4) u (e1.symm.trans hj)
      rwa [add_of_add, e2] at h3
    · obtain ⟨i, hi', rfl⟩ := List.mem_map.1 hy
      have := List.mem_range.1 hi'
      exact (hf i (by omega)).2
variable {d : DataW H} {p : List MemPlace}
theorem arg_chs {A : Option Addr} {n c : Nat} (h : DataW.Trod enc Try.prog W 0 (fun _ => true) true 30 (.slice A n c) d p) : ∃ L : List Ch, ChsIn W W.heap.size ⟨A, n, c, L⟩ := by
  obtain ⟨fuel, hf⟩ := h
  obtain ⟨y, hy, hb⟩ := chs_read hf
  obtain ⟨A', n', c', L⟩ := y
  have : Value.slice A n c = .slice A' n' c' := by simpa [Value.cells] using hy
  injection this with e1 e2 e3
  subst e1 e2 e3
  exact ⟨L, hb⟩
theorem arg_chss {A : Option Addr} {n c : Nat} (h : DataW.Trod enc Try.prog W 0 (fun _ => true) true 22 (.slice A n c) d p) : ∃ f : Nat → ChV, ChRows W W.heap.size A n c f := by
  obtain ⟨fuel, hf⟩ := h
  rcases Go.Deep.open_slice1 Try.underlying22 aw_sl hf with ⟨hcs, _⟩ | ⟨x, len, cap, m, n', V, D, Pl, hcs, _, hl, hm, hmm, _, hi⟩
  · simp [Value.cells] at hcs
    obtain ⟨rfl, rfl, rfl⟩ := hcs
    exact ⟨fun _ => ChV.none_, Nat.le_refl _, Nat.zero_le _, fun h => absurd h (Nat.lt_irrefl 0)⟩
  · simp [Value.cells] at hcs
    obtain ⟨rfl, rfl, rfl⟩ := hcs
    have hmc : m = c := by simpa using hmm
    subst hmc
    have hall : ∀ i, ∃ y : ChV, i < m → W.cell? (x.add i) = some (.slice y.A y.n y.c) ∧ ChsIn W W.heap.size y := by
      intro i
      by_cases him : i < m
      · obtain ⟨hc1, hc2⟩ := hi i him
        obtain ⟨y, hy, hb⟩ := chs_read hc2
        simp at hy
        exact ⟨y, fun _ => ⟨by rw [hc1, hy], hb⟩⟩
      · exact ⟨ChV.none_, fun h => absurd h him⟩
    obtain ⟨f, hf⟩ : ∃ f : Nat → ChV, ∀ i, i < m → W.cell? (x.add i) = some (.slice (f i).A (f i).n (f i).c) ∧ ChsIn W W.heap.size (f i) := ⟨fun i => (hall i).choose, fun i => (hall i).choose_spec⟩
    refine ⟨f, hl, by simpa [maxLen] using hm, fun hn => ⟨x, rfl, ?_, fun i hi => hf i (by omega)⟩⟩
    have h := World.block_lt_of_cell? W _ (hf 0 (by omega)).1
    rwa [block_of_add] at h
theorem arg_where {r : Reach} {b0 : Nat} {v : Value} (hv : Value.okWide Try.prog W r b0 24 v) (h : DataW.Trod enc Try.prog W 0 (fun _ => true) true 24 v d p) : ∃ q : Wh, v = .agg (whC q).toArray ∧ q.fits := by
  simp only [Value.okWide, Try.underlying24] at hv
  obtain ⟨cs, rfl, _⟩ := hv
  obtain ⟨fuel, hf⟩ := h
  obtain ⟨q, hcs, hq⟩ := wh_read hf
  refine ⟨q, ?_, hq⟩
  have : cs.toList = whC q := hcs
  rw [show cs = (whC q).toArray from by rw [← this]]
end
#print axioms arg_chs
end Go.Proofs.Ytfjgpnjhmfcpiaa
