/- Arguments of stage 13's laws: a slice of extents; a slice of steps. -/
import Derived.Test.YtmjjnbabfldbcaaGreatArgI
import Derived.Test.YtmjjnbabfldbcaaGreatLump1
import Derived.Deep.Slices
namespace Go.Proofs.YtmjjnbabfldbcaaGreat
open Go.ChangeShapes Go.WideShapes Go.ChangeAt Go.RowKit
theorem sx_cells : Tryz.prog.cellsOf 64 = 2 := by kernel_rfl
theorem sint_cells : Tryz.prog.cellsOf 3 = 1 := by kernel_rfl
theorem su64_cells : Tryz.prog.cellsOf 33 = 1 := by kernel_rfl
theorem sbool_cells : Tryz.prog.cellsOf 4 = 1 := by kernel_rfl
theorem plsL_one (p : PlI) : plsL [p] = plC p := rfl
/-- A step: its kind, the extent, the stripe or slot, the number, how many too many, which row, the mask. -/
structure OpS where
  k : Int
  x : Int
  t : Int
  n : Int
  more : Int
  a : Bool
  m : Nat
def OpS.cells (s : OpS) : List Value := [.int .i64 s.k, .int .i64 s.x, .int .i64 s.t, .int .i64 s.n, .int .i64 s.more, .bool s.a, .int .u64 (s.m : Int)]
structure OpS.fits (s : OpS) : Prop where
  x : -9223372036854775808 ≤ s.x ∧ s.x ≤ 9223372036854775807
  t : -9223372036854775808 ≤ s.t ∧ s.t ≤ 9223372036854775807
  n : -9223372036854775808 ≤ s.n ∧ s.n ≤ 9223372036854775807
  more : -9223372036854775808 ≤ s.more ∧ s.more ≤ 9223372036854775807
  m : s.m < 18446744073709551616
/-- The slice of address A and length n holds the steps f, below block B. -/
def OpsS (w : World) (B : Nat) (A : Option Addr) (n : Nat) (f : Nat → OpS) : Prop :=
  0 < n → ∃ ad, A = some ad ∧ ad.block < B ∧ ∀ i, i < n → (∀ (j : Nat) (v : Value), (f i).cells[j]? = some v → w.cell? ((ad.add (i * 7)).add j) = some v) ∧ (f i).fits
theorem OpsS.below {w w' : World} {B : Nat} {A : Option Addr} {n : Nat} {f : Nat → OpS} (h : OpsS w B A n f) (hb : Below B w w') : OpsS w' B A n f := fun hn => by
  obtain ⟨ad, e, hlt, hc⟩ := h hn
  refine ⟨ad, e, hlt, fun i hi => ⟨fun j v hj => ?_, (hc i hi).2⟩⟩
  rw [hb.cell (by rw [block_of_add, block_of_add]; exact hlt)]
  exact (hc i hi).1 j v hj
section
variable {H : Type} {enc : TypeId × Value → H} {W : World}
set_option maxRecDepth 100000 in
theorem sx_read {base fuel : Nat} {sp : Nat → Bool} {hd : Bool} {cs : List Value} {x : DataW H × List MemPlace}
    (h : DataW.trod enc Tryz.prog W base sp hd fuel 64 cs = some x) : ∃ p : PlI, cs = plC p := by
  obtain ⟨ys, k, _, _, hcl, hyl, hfs⟩ := DataW.trod_struct Tryz.underlying64 h
  rw [sx_cells] at hcl
  obtain ⟨c0, c1, rfl⟩ : ∃ c0 c1, cs = [c0, c1] := by
    rcases cs with _ | ⟨c0, _ | ⟨c1, _ | ⟨c2, cs⟩⟩⟩
    · cases hcl
    · cases hcl
    · exact ⟨c0, c1, rfl⟩
    · simp at hcl
  have f0 := hfs 0 _ rfl
  have f1 := hfs 1 _ rfl
  change DataW.trod enc _ W base _ _ k 3 (([c0, c1].drop 0).take (Tryz.prog.cellsOf 3)) = ys[0]? at f0
  change DataW.trod enc _ W base _ _ k 3 (([c0, c1].drop 1).take (Tryz.prog.cellsOf 3)) = ys[1]? at f1
  rw [sint_cells] at f0 f1
  have y0 : ys[0]? = some (ys[0]'(by rw [hyl]; decide)) := List.getElem?_eq_getElem _
  have y1 : ys[1]? = some (ys[1]'(by rw [hyl]; decide)) := List.getElem?_eq_getElem _
  rw [y0] at f0
  rw [y1] at f1
  obtain ⟨a0, e0, _, _⟩ := DataW.trod_int Tryz.underlying3 f0
  obtain ⟨a1, e1, _, _⟩ := DataW.trod_int Tryz.underlying3 f1
  have e0' : c0 = .int .i64 a0 := by simpa using e0
  have e1' : c1 = .int .i64 a1 := by simpa using e1
  exact ⟨(a0, a1), by rw [e0', e1']; rfl⟩
variable {d : DataW H} {p : List MemPlace}
set_option maxRecDepth 100000 in
theorem arg_exts {A : Option Addr} {n c : Nat} (h : DataW.Trod enc Tryz.prog W 0 (fun _ => true) true 22 (.slice A n c) d p) :
    ∃ l : List PlI, Reads W W.heap.size 2 A n (plsL l) ∧ l.length = n ∧ n ≤ c ∧ c ≤ 9223372036854775807 := by
  obtain ⟨fuel, hf⟩ := h
  rcases Go.Deep.open_slice Tryz.underlying22 hf with ⟨hcs, _⟩ | ⟨x, len, cap, m, n', D, PlI', hcs, _, hl, hm, hmm, _, hi⟩
  · simp [Value.cells] at hcs
    obtain ⟨rfl, rfl, rfl⟩ := hcs
    exact ⟨[], Reads.none_, rfl, Nat.le_refl _, Nat.zero_le _⟩
  · simp [Value.cells] at hcs
    obtain ⟨rfl, rfl, rfl⟩ := hcs
    have hmc : m = c := by simpa using hmm
    subst hmc
    have hall : ∀ i, i < m → ∃ e : PlI, ∀ (j : Nat) v, (plC e)[j]? = some v → W.cell? (x.add (i * 2 + j)) = some v := by
      intro i him
      obtain ⟨cs', hc1, hc2⟩ := hi i him
      rw [sx_cells] at hc1
      obtain ⟨e, rfl⟩ := sx_read hc2
      obtain ⟨_, hlen, hat⟩ := World.cells?_some hc1
      refine ⟨e, fun j v hv => ?_⟩
      have hj : j < 2 := (List.getElem?_eq_some_iff.1 hv).1
      have h2 := hat j hj
      rw [add_of_add] at h2
      rw [h2, hv]
    have hlist : ∀ k, k ≤ m → ∃ l : List PlI, l.length = k ∧ ∀ (j : Nat) v, (plsL l)[j]? = some v → W.cell? (x.add j) = some v := by
      intro k
      induction k with
      | zero => intro _; exact ⟨[], rfl, by simp [plsL]⟩
      | succ k ih =>
        intro hk
        obtain ⟨l, hl1, hl2⟩ := ih (by omega)
        obtain ⟨e, he⟩ := hall k (by omega)
        refine ⟨l ++ [e], by rw [List.length_append, hl1]; rfl, fun j v hv => ?_⟩
        rw [plsL_append, List.getElem?_append] at hv
        split at hv
        · exact hl2 j v hv
        · rename_i hge
          rw [plsL_length, hl1] at hv hge
          rw [plsL_one] at hv
          have := he (j - k * 2) v hv
          rwa [show k * 2 + (j - k * 2) = j by omega] at this
    obtain ⟨l, hl1, hl2⟩ := hlist n hl
    refine ⟨l, ⟨by rw [plsL_length, hl1], fun hn => ⟨x, rfl, ?_, hl2⟩⟩, hl1, hl, by simpa [maxLen] using hm⟩
    obtain ⟨e, he⟩ := hall 0 (by omega)
    have h0 := he 0 (.int .i64 e.1) rfl
    have h := World.block_lt_of_cell? W (x.add (0 * 2 + 0)) h0
    rwa [block_of_add] at h
set_option maxRecDepth 100000 in
theorem arg_opsS {A : Option Addr} {n c : Nat} (h : DataW.Trod enc Tryz.prog W 0 (fun _ => true) true 23 (.slice A n c) d p) :
    ∃ f : Nat → OpS, OpsS W W.heap.size A n f ∧ n ≤ c ∧ c ≤ 9223372036854775807 := by
  obtain ⟨fuel, hf⟩ := h
  rcases Go.Deep.open_slice Tryz.underlying23 hf with ⟨hcs, _⟩ | ⟨x, len, cap, m, n', D, PlI', hcs, _, hl, hm, hmm, _, hi⟩
  · simp [Value.cells] at hcs
    obtain ⟨rfl, rfl, rfl⟩ := hcs
    exact ⟨fun _ => ⟨0, 0, 0, 0, 0, false, 0⟩, fun h => absurd h (by omega), Nat.le_refl _, Nat.zero_le _⟩
  · simp [Value.cells] at hcs
    obtain ⟨rfl, rfl, rfl⟩ := hcs
    have hmc : m = c := by simpa using hmm
    subst hmc
    have op7 : Tryz.prog.cellsOf 35 = 7 := by kernel_rfl
    have hall : ∀ i, i < m → ∃ s : OpS, (∀ (j : Nat) (v : Value), s.cells[j]? = some v → W.cell? ((x.add (i * 7)).add j) = some v) ∧ s.fits := by
      intro i him
      obtain ⟨cs', hc1, hc2⟩ := hi i him
      rw [op7] at hc1
      obtain ⟨ys, k, _, _, hcl, hyl, hfs⟩ := DataW.trod_struct Tryz.underlying35 hc2
      rw [op7] at hcl
      obtain ⟨_, _, hat⟩ := World.cells?_some hc1
      obtain ⟨c0, c1, c2, c3, c4, c5, c6, r, rfl⟩ : ∃ c0 c1 c2 c3 c4 c5 c6 r, cs' = c0 :: c1 :: c2 :: c3 :: c4 :: c5 :: c6 :: r := by
        match cs', hcl with
        | c0 :: c1 :: c2 :: c3 :: c4 :: c5 :: c6 :: r, _ => exact ⟨c0, c1, c2, c3, c4, c5, c6, r, rfl⟩
      have f0 := hfs 0 _ rfl
      have f1 := hfs 1 _ rfl
      have f2 := hfs 2 _ rfl
      have f3 := hfs 3 _ rfl
      have f4 := hfs 4 _ rfl
      have f5 := hfs 5 _ rfl
      have f6 := hfs 6 _ rfl
      change DataW.trod enc _ W 0 _ _ k 3 (((c0 :: c1 :: c2 :: c3 :: c4 :: c5 :: c6 :: r).drop 0).take (Tryz.prog.cellsOf 3)) = ys[0]? at f0
      change DataW.trod enc _ W 0 _ _ k 3 (((c0 :: c1 :: c2 :: c3 :: c4 :: c5 :: c6 :: r).drop 1).take (Tryz.prog.cellsOf 3)) = ys[1]? at f1
      change DataW.trod enc _ W 0 _ _ k 3 (((c0 :: c1 :: c2 :: c3 :: c4 :: c5 :: c6 :: r).drop 2).take (Tryz.prog.cellsOf 3)) = ys[2]? at f2
      change DataW.trod enc _ W 0 _ _ k 3 (((c0 :: c1 :: c2 :: c3 :: c4 :: c5 :: c6 :: r).drop 3).take (Tryz.prog.cellsOf 3)) = ys[3]? at f3
      change DataW.trod enc _ W 0 _ _ k 3 (((c0 :: c1 :: c2 :: c3 :: c4 :: c5 :: c6 :: r).drop 4).take (Tryz.prog.cellsOf 3)) = ys[4]? at f4
      change DataW.trod enc _ W 0 _ _ k 4 (((c0 :: c1 :: c2 :: c3 :: c4 :: c5 :: c6 :: r).drop 5).take (Tryz.prog.cellsOf 4)) = ys[5]? at f5
      change DataW.trod enc _ W 0 _ _ k 33 (((c0 :: c1 :: c2 :: c3 :: c4 :: c5 :: c6 :: r).drop 6).take (Tryz.prog.cellsOf 33)) = ys[6]? at f6
      rw [sint_cells] at f0 f1 f2 f3 f4
      rw [sbool_cells] at f5
      rw [su64_cells] at f6
      have y0 : ys[0]? = some (ys[0]'(by rw [hyl]; decide)) := List.getElem?_eq_getElem _
      have y1 : ys[1]? = some (ys[1]'(by rw [hyl]; decide)) := List.getElem?_eq_getElem _
      have y2 : ys[2]? = some (ys[2]'(by rw [hyl]; decide)) := List.getElem?_eq_getElem _
      have y3 : ys[3]? = some (ys[3]'(by rw [hyl]; decide)) := List.getElem?_eq_getElem _
      have y4 : ys[4]? = some (ys[4]'(by rw [hyl]; decide)) := List.getElem?_eq_getElem _
      have y5 : ys[5]? = some (ys[5]'(by rw [hyl]; decide)) := List.getElem?_eq_getElem _
      have y6 : ys[6]? = some (ys[6]'(by rw [hyl]; decide)) := List.getElem?_eq_getElem _
      rw [y0] at f0
      rw [y1] at f1
      rw [y2] at f2
      rw [y3] at f3
      rw [y4] at f4
      rw [y5] at f5
      rw [y6] at f6
      obtain ⟨a0, e0, _, _⟩ := DataW.trod_int Tryz.underlying3 f0
      obtain ⟨a1, e1, _, w1⟩ := DataW.trod_int Tryz.underlying3 f1
      obtain ⟨a2, e2, _, w2⟩ := DataW.trod_int Tryz.underlying3 f2
      obtain ⟨a3, e3, _, w3⟩ := DataW.trod_int Tryz.underlying3 f3
      obtain ⟨a4, e4, _, w4⟩ := DataW.trod_int Tryz.underlying3 f4
      obtain ⟨a5, e5, _⟩ := DataW.trod_bool Tryz.underlying4 f5
      obtain ⟨a6, e6, _, w6⟩ := DataW.trod_int Tryz.underlying33 f6
      have b6 := bounds_u64 w6
      have hm6 : ((a6.toNat : Nat) : Int) = a6 := Int.toNat_of_nonneg b6.1
      have hcells : (c0 :: c1 :: c2 :: c3 :: c4 :: c5 :: c6 :: r).take 7 = OpS.cells ⟨a0, a1, a2, a3, a4, a5, a6.toNat⟩ := by
        have q0 : c0 = .int .i64 a0 := by simpa using e0
        have q1 : c1 = .int .i64 a1 := by simpa using e1
        have q2 : c2 = .int .i64 a2 := by simpa using e2
        have q3 : c3 = .int .i64 a3 := by simpa using e3
        have q4 : c4 = .int .i64 a4 := by simpa using e4
        have q5 : c5 = .bool a5 := by simpa using e5
        have q6 : c6 = .int .u64 a6 := by simpa using e6
        unfold OpS.cells
        simp only
        rw [hm6, q0, q1, q2, q3, q4, q5, q6]
        rfl
      refine ⟨⟨a0, a1, a2, a3, a4, a5, a6.toNat⟩, fun j v hj => ?_, bounds_i64 w1, bounds_i64 w2, bounds_i64 w3, bounds_i64 w4, by show a6.toNat < _; omega⟩
      rw [← hcells] at hj
      have hj7 : j < 7 := by
        rcases Nat.lt_or_ge j 7 with h | h
        · exact h
        · rw [List.getElem?_take, if_neg (by omega)] at hj; cases hj
      rw [List.getElem?_take, if_pos hj7] at hj
      rw [hat j hj7]
      exact hj
    have hch : ∀ i, ∃ s : OpS, i < m → (∀ (j : Nat) (v : Value), s.cells[j]? = some v → W.cell? ((x.add (i * 7)).add j) = some v) ∧ s.fits := fun i => by
      by_cases him : i < m
      · obtain ⟨s, h⟩ := hall i him
        exact ⟨s, fun _ => h⟩
      · exact ⟨⟨0, 0, 0, 0, 0, false, 0⟩, fun h => absurd h him⟩
    refine ⟨fun i => (hch i).choose, fun hn => ⟨x, rfl, ?_, fun i hi' => (hch i).choose_spec (by omega)⟩, hl, by simpa [maxLen] using hm⟩
    have h0 := ((hch 0).choose_spec (by omega)).1 0 _ rfl
    have h := World.block_lt_of_cell? W _ h0
    rwa [block_of_add, block_of_add] at h
end
end Go.Proofs.YtmjjnbabfldbcaaGreat
