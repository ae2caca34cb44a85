/- Arguments of stage 12's laws: a slice of steps; a place, an extent. -/
import Derived.Test.YtgfbndmdndpelaaArgI
import Derived.Test.YtgfbndmdndpelaaMirD
import Derived.Deep.Slices
namespace Go.Proofs.Ytgfbndmdndpelaa
open Go.ChangeShapes Go.WideShapes Go.ChangeAt Go.RowKit
/-- A step: its kind, number, both places and mask. -/
structure OpM where
  k : Int
  n : Int
  xd : Int
  xk : Int
  yd : Int
  yk : Int
  m : Nat
def OpM.cells (s : OpM) : List Value := opL s.k s.n s.xd s.xk s.yd s.yk s.m
def OpM.fits (s : OpM) : Prop := (-9223372036854775808 ≤ s.n ∧ s.n ≤ 9223372036854775807) ∧ s.m < 18446744073709551616
/-- The slice of address A and length n holds the steps f, below block B. -/
def OpsM (w : World) (B : Nat) (A : Option Addr) (n : Nat) (f : Nat → OpM) : Prop :=
  0 < n → ∃ ad, A = some ad ∧ ad.block < B ∧ ∀ i, i < n → (∀ (j : Nat) (v : Value), (f i).cells[j]? = some v → w.cell? ((ad.add (i * 7)).add j) = some v) ∧ (f i).fits
theorem OpsM.below {w w' : World} {B : Nat} {A : Option Addr} {n : Nat} {f : Nat → OpM} (h : OpsM w B A n f) (hb : Below B w w') : OpsM w' B A n f := fun hn => by
  obtain ⟨ad, e, hlt, hc⟩ := h hn
  refine ⟨ad, e, hlt, fun i hi => ⟨fun j v hj => ?_, (hc i hi).2⟩⟩
  rw [hb.cell (by rw [block_of_add, block_of_add]; exact hlt)]
  exact (hc i hi).1 j v hj
theorem opM_cells : Try.prog.cellsOf 36 = 7 := by kernel_rfl
theorem mint_cells : Try.prog.cellsOf 3 = 1 := by kernel_rfl
theorem mu64_cells : Try.prog.cellsOf 34 = 1 := by kernel_rfl
theorem mpl_cells : Try.prog.cellsOf 33 = 2 := by kernel_rfl
section
variable {H : Type} {enc : TypeId × Value → H} {W : World}
set_option maxRecDepth 100000 in
/-- The cells of one place. -/
theorem place_read {base fuel : Nat} {sp : Nat → Bool} {hd : Bool} {cs : List Value} {x : DataW H × List MemPlace}
    (h : DataW.trod enc Try.prog W base sp hd fuel 33 cs = some x) : ∃ a b : Int, cs = plL a b ∧ (-9223372036854775808 ≤ a ∧ a ≤ 9223372036854775807) ∧ (-9223372036854775808 ≤ b ∧ b ≤ 9223372036854775807) := by
  obtain ⟨ys, k, _, _, hcl, hyl, hfs⟩ := DataW.trod_struct Try.underlying33 h
  rw [mpl_cells] at hcl
  obtain ⟨c0, c1, rfl⟩ : ∃ c0 c1, cs = [c0, c1] := by
    rcases cs with _ | ⟨c0, _ | ⟨c1, _ | ⟨c2, cs⟩⟩⟩
    · cases hcl
    · cases hcl
    · exact ⟨c0, c1, rfl⟩
    · simp at hcl
  have f0 := hfs 0 _ rfl
  have f1 := hfs 1 _ rfl
  change DataW.trod enc _ W base _ _ k 3 (([c0, c1].drop 0).take (Try.prog.cellsOf 3)) = ys[0]? at f0
  change DataW.trod enc _ W base _ _ k 3 (([c0, c1].drop 1).take (Try.prog.cellsOf 3)) = ys[1]? at f1
  rw [mint_cells] at f0 f1
  have y0 : ys[0]? = some (ys[0]'(by rw [hyl]; decide)) := List.getElem?_eq_getElem _
  have y1 : ys[1]? = some (ys[1]'(by rw [hyl]; decide)) := List.getElem?_eq_getElem _
  rw [y0] at f0
  rw [y1] at f1
  obtain ⟨a0, e0, _, w0⟩ := DataW.trod_int Try.underlying3 f0
  obtain ⟨a1, e1, _, w1⟩ := DataW.trod_int Try.underlying3 f1
  have e0' : c0 = .int .i64 a0 := by simpa using e0
  have e1' : c1 = .int .i64 a1 := by simpa using e1
  exact ⟨a0, a1, by rw [e0', e1'], bounds_i64 w0, bounds_i64 w1⟩
set_option maxRecDepth 100000 in
theorem ext_read {base fuel : Nat} {sp : Nat → Bool} {hd : Bool} {cs : List Value} {x : DataW H × List MemPlace}
    (h : DataW.trod enc Try.prog W base sp hd fuel 47 cs = some x) : ∃ a b : Int, cs = plL a b ∧ (-9223372036854775808 ≤ a ∧ a ≤ 9223372036854775807) ∧ (-9223372036854775808 ≤ b ∧ b ≤ 9223372036854775807) := by
  obtain ⟨ys, k, _, _, hcl, hyl, hfs⟩ := DataW.trod_struct Try.underlying47 h
  rw [show Try.prog.cellsOf 47 = 2 by kernel_rfl] at hcl
  obtain ⟨c0, c1, rfl⟩ : ∃ c0 c1, cs = [c0, c1] := by
    rcases cs with _ | ⟨c0, _ | ⟨c1, _ | ⟨c2, cs⟩⟩⟩
    · cases hcl
    · cases hcl
    · exact ⟨c0, c1, rfl⟩
    · simp at hcl
  have f0 := hfs 0 _ rfl
  have f1 := hfs 1 _ rfl
  change DataW.trod enc _ W base _ _ k 3 (([c0, c1].drop 0).take (Try.prog.cellsOf 3)) = ys[0]? at f0
  change DataW.trod enc _ W base _ _ k 3 (([c0, c1].drop 1).take (Try.prog.cellsOf 3)) = ys[1]? at f1
  rw [mint_cells] at f0 f1
  have y0 : ys[0]? = some (ys[0]'(by rw [hyl]; decide)) := List.getElem?_eq_getElem _
  have y1 : ys[1]? = some (ys[1]'(by rw [hyl]; decide)) := List.getElem?_eq_getElem _
  rw [y0] at f0
  rw [y1] at f1
  obtain ⟨a0, e0, _, w0⟩ := DataW.trod_int Try.underlying3 f0
  obtain ⟨a1, e1, _, w1⟩ := DataW.trod_int Try.underlying3 f1
  have e0' : c0 = .int .i64 a0 := by simpa using e0
  have e1' : c1 = .int .i64 a1 := by simpa using e1
  exact ⟨a0, a1, by rw [e0', e1'], bounds_i64 w0, bounds_i64 w1⟩
variable {d : DataW H} {p : List MemPlace}
set_option maxRecDepth 100000 in
theorem arg_place {r : Reach} {b0 : Nat} {v : Value} (hv : Value.okWide Try.prog W r b0 33 v) (h : DataW.Trod enc Try.prog W 0 (fun _ => true) true 33 v d p) : ∃ a b : Int, v = .agg #[.int .i64 a, .int .i64 b] ∧ (-9223372036854775808 ≤ a ∧ a ≤ 9223372036854775807) ∧ (-9223372036854775808 ≤ b ∧ b ≤ 9223372036854775807) := by
  simp only [Value.okWide, Try.underlying33] at hv
  obtain ⟨cs, rfl, _⟩ := hv
  obtain ⟨fuel, hf⟩ := h
  obtain ⟨a, b, hcs, h1, h2⟩ := place_read hf
  refine ⟨a, b, ?_, h1, h2⟩
  have : cs.toList = plL a b := hcs
  rw [show cs = (plL a b).toArray from by rw [← this]]
set_option maxRecDepth 100000 in
theorem arg_ext {r : Reach} {b0 : Nat} {v : Value} (hv : Value.okWide Try.prog W r b0 47 v) (h : DataW.Trod enc Try.prog W 0 (fun _ => true) true 47 v d p) : ∃ a b : Int, v = .agg #[.int .i64 a, .int .i64 b] ∧ (-9223372036854775808 ≤ a ∧ a ≤ 9223372036854775807) ∧ (-9223372036854775808 ≤ b ∧ b ≤ 9223372036854775807) := by
  simp only [Value.okWide, Try.underlying47] at hv
  obtain ⟨cs, rfl, _⟩ := hv
  obtain ⟨fuel, hf⟩ := h
  obtain ⟨a, b, hcs, h1, h2⟩ := ext_read hf
  refine ⟨a, b, ?_, h1, h2⟩
  have : cs.toList = plL a b := hcs
  rw [show cs = (plL a b).toArray from by rw [← this]]
set_option maxRecDepth 100000 in
theorem arg_opsM {A : Option Addr} {n c : Nat} (h : DataW.Trod enc Try.prog W 0 (fun _ => true) true 22 (.slice A n c) d p) :
    ∃ f : Nat → OpM, OpsM W W.heap.size A n f ∧ n ≤ c ∧ c ≤ 9223372036854775807 := by
  obtain ⟨fuel, hf⟩ := h
  rcases Go.Deep.open_slice Try.underlying22 hf with ⟨hcs, _⟩ | ⟨x, len, cap, m, n', D, Pl, hcs, _, hl, hm, hmm, _, hi⟩
  · simp [Value.cells] at hcs
    obtain ⟨rfl, rfl, rfl⟩ := hcs
    exact ⟨fun _ => ⟨0, 0, 0, 0, 0, 0, 0⟩, fun h => absurd h (by omega), Nat.le_refl _, Nat.zero_le _⟩
  · simp [Value.cells] at hcs
    obtain ⟨rfl, rfl, rfl⟩ := hcs
    have hmc : m = c := by simpa using hmm
    subst hmc
    have hall : ∀ i, i < m → ∃ s : OpM, (∀ (j : Nat) (v : Value), s.cells[j]? = some v → W.cell? ((x.add (i * 7)).add j) = some v) ∧ s.fits := by
      intro i him
      obtain ⟨cs', hc1, hc2⟩ := hi i him
      rw [opM_cells] at hc1
      obtain ⟨ys, k, _, _, hcl, hyl, hfs⟩ := DataW.trod_struct Try.underlying36 hc2
      rw [opM_cells] at hcl
      obtain ⟨_, _, hat⟩ := World.cells?_some hc1
      obtain ⟨c0, c1, c2, c3, c4, c5, c6, r, rfl⟩ : ∃ c0 c1 c2 c3 c4 c5 c6 r, cs' = c0 :: c1 :: c2 :: c3 :: c4 :: c5 :: c6 :: r := by
        match cs', hcl with
        | c0 :: c1 :: c2 :: c3 :: c4 :: c5 :: c6 :: r, _ => exact ⟨c0, c1, c2, c3, c4, c5, c6, r, rfl⟩
      have f0 := hfs 0 _ rfl
      have f1 := hfs 1 _ rfl
      have f2 := hfs 2 _ rfl
      have f3 := hfs 3 _ rfl
      have f4 := hfs 4 _ rfl
      change DataW.trod enc _ W 0 _ _ k 3 (((c0 :: c1 :: c2 :: c3 :: c4 :: c5 :: c6 :: r).drop 0).take (Try.prog.cellsOf 3)) = ys[0]? at f0
      change DataW.trod enc _ W 0 _ _ k 3 (((c0 :: c1 :: c2 :: c3 :: c4 :: c5 :: c6 :: r).drop 1).take (Try.prog.cellsOf 3)) = ys[1]? at f1
      change DataW.trod enc _ W 0 _ _ k 33 (((c0 :: c1 :: c2 :: c3 :: c4 :: c5 :: c6 :: r).drop 2).take (Try.prog.cellsOf 33)) = ys[2]? at f2
      change DataW.trod enc _ W 0 _ _ k 33 (((c0 :: c1 :: c2 :: c3 :: c4 :: c5 :: c6 :: r).drop 4).take (Try.prog.cellsOf 33)) = ys[3]? at f3
      change DataW.trod enc _ W 0 _ _ k 34 (((c0 :: c1 :: c2 :: c3 :: c4 :: c5 :: c6 :: r).drop 6).take (Try.prog.cellsOf 34)) = ys[4]? at f4
      rw [mint_cells] at f0 f1
      rw [mpl_cells] at f2 f3
      rw [mu64_cells] at f4
      have y0 : ys[0]? = some (ys[0]'(by rw [hyl]; decide)) := List.getElem?_eq_getElem _
      have y1 : ys[1]? = some (ys[1]'(by rw [hyl]; decide)) := List.getElem?_eq_getElem _
      have y2 : ys[2]? = some (ys[2]'(by rw [hyl]; decide)) := List.getElem?_eq_getElem _
      have y3 : ys[3]? = some (ys[3]'(by rw [hyl]; decide)) := List.getElem?_eq_getElem _
      have y4 : ys[4]? = some (ys[4]'(by rw [hyl]; decide)) := List.getElem?_eq_getElem _
      rw [y0] at f0
      rw [y1] at f1
      rw [y2] at f2
      rw [y3] at f3
      rw [y4] at f4
      obtain ⟨a0, e0, _, _⟩ := DataW.trod_int Try.underlying3 f0
      obtain ⟨a1, e1, _, w1⟩ := DataW.trod_int Try.underlying3 f1
      obtain ⟨a2, a3, e2, _, _⟩ := place_read f2
      obtain ⟨a4, a5, e4, _, _⟩ := place_read f3
      obtain ⟨a6, e6, _, w6⟩ := DataW.trod_int Try.underlying34 f4
      have b1 := bounds_i64 w1
      have b6 := bounds_u64 w6
      have hm6 : ((a6.toNat : Nat) : Int) = a6 := Int.toNat_of_nonneg b6.1
      have hcells : (c0 :: c1 :: c2 :: c3 :: c4 :: c5 :: c6 :: r).take 7 = OpM.cells ⟨a0, a1, a2, a3, a4, a5, a6.toNat⟩ := by
        have q0 : c0 = .int .i64 a0 := by simpa using e0
        have q1 : c1 = .int .i64 a1 := by simpa using e1
        have q2 : c2 = .int .i64 a2 ∧ c3 = .int .i64 a3 := by simpa using e2
        have q4 : c4 = .int .i64 a4 ∧ c5 = .int .i64 a5 := by simpa using e4
        have q6 : c6 = .int .u64 a6 := by simpa using e6
        unfold OpM.cells opL
        simp only
        rw [hm6, q0, q1, q2.1, q2.2, q4.1, q4.2, q6]
        rfl
      refine ⟨⟨a0, a1, a2, a3, a4, a5, a6.toNat⟩, fun j v hj => ?_, b1, by show a6.toNat < _; omega⟩
      rw [← hcells] at hj
      have hj7 : j < 7 := by
        rcases Nat.lt_or_ge j 7 with h | h
        · exact h
        · rw [List.getElem?_take, if_neg (by omega)] at hj; cases hj
      rw [List.getElem?_take, if_pos hj7] at hj
      rw [hat j hj7]
      exact hj
    have hch : ∀ i, ∃ s : OpM, i < m → (∀ (j : Nat) (v : Value), s.cells[j]? = some v → W.cell? ((x.add (i * 7)).add j) = some v) ∧ s.fits := fun i => by
      by_cases him : i < m
      · obtain ⟨s, h⟩ := hall i him
        exact ⟨s, fun _ => h⟩
      · exact ⟨⟨0, 0, 0, 0, 0, 0, 0⟩, fun h => absurd h him⟩
    refine ⟨fun i => (hch i).choose, fun hn => ⟨x, rfl, ?_, fun i hi' => (hch i).choose_spec (by omega)⟩, hl, by simpa [maxLen] using hm⟩
    have h0 := ((hch 0).choose_spec (by omega)).1 0 _ rfl
    have h := World.block_lt_of_cell? W _ h0
    rwa [block_of_add, block_of_add] at h
end
#print axioms arg_opsM
#print axioms arg_place
end Go.Proofs.Ytgfbndmdndpelaa
