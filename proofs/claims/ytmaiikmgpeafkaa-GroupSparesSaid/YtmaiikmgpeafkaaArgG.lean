/- Slices of groups as arguments of a law, nil let in. -/
import Derived.Test.YtmaiikmgpeafkaaGrp
import Derived.ProofKit
import Derived.OpenShut
import Derived.ShutString
import Derived.ChangeOld
import Derived.Deep.Slices
import Derived.ChangeArms
namespace Go.Proofs.Ytmaiikmgpeafkaa
open Go.ChangeShapes Go.WideShapes Go.ChangeAt Go.RowKit

theorem ex_cellsOf : Try.prog.cellsOf 38 = 2 := by kernel_rfl
theorem grp_cellsOf : Try.prog.cellsOf 36 = 3 := by kernel_rfl
theorem int_cellsOf : Try.prog.cellsOf 3 = 1 := by kernel_rfl
theorem exs_cellsOf : Try.prog.cellsOf 34 = 1 := by kernel_rfl
section
variable {H : Type} {enc : TypeId × Value → H} {W : World} {fuel : Nat} {hd : Bool} {cs : List Value} {x : DataW H × List MemPlace}
theorem list2 {α : Type} {cs : List α} (h : cs.length = 2) : ∃ a b, cs = [a, b] := by
  match cs, h with
  | [a, b], _ => exact ⟨a, b, rfl⟩
theorem list3 {α : Type} {cs : List α} (h : cs.length = 3) : ∃ a b c, cs = [a, b, c] := by
  match cs, h with
  | [a, b, c], _ => exact ⟨a, b, c, rfl⟩
set_option maxRecDepth 100000 in
theorem ex_read (h : DataW.trod enc Try.prog W 0 (fun _ => true) hd fuel 38 cs = some x) : ∃ m : Ex, cs = exC m := by
  obtain ⟨ys, k, _, _, hcl, hyl, hfs⟩ := DataW.trod_struct Try.underlying38 h
  rw [ex_cellsOf] at hcl
  obtain ⟨c0, c1, rfl⟩ := list2 hcl
  have f0 := hfs 0 _ rfl
  have f1 := hfs 1 _ rfl
  change DataW.trod enc _ W 0 _ _ k 3 (([c0, c1].drop 0).take (Try.prog.cellsOf 3)) = ys[0]? at f0
  change DataW.trod enc _ W 0 _ _ k 3 (([c0, c1].drop 1).take (Try.prog.cellsOf 3)) = ys[1]? at f1
  rw [int_cellsOf] at f0 f1
  have y0 : ys[0]? = some (ys[0]'(by rw [hyl]; decide)) := List.getElem?_eq_getElem _
  have y1 : ys[1]? = some (ys[1]'(by rw [hyl]; decide)) := List.getElem?_eq_getElem _
  rw [y0] at f0
  rw [y1] at f1
  obtain ⟨a0, e0, _, _⟩ := DataW.trod_int Try.underlying3 f0
  obtain ⟨a1, e1, _, _⟩ := DataW.trod_int Try.underlying3 f1
  simp at e0 e1
  subst e0 e1
  exact ⟨(a0, a1), rfl⟩
theorem exs_read (h : DataW.trod enc Try.prog W 0 (fun _ => true) hd fuel 34 cs = some x) : ∃ A n c l, cs = [.slice A n c] ∧ ExIn W W.heap.size A n c l := by
  rcases Go.Deep.open_slice Try.underlying34 h with ⟨rfl, _⟩ | ⟨x, len, cap, m, n', D, Pl, rfl, _, hl, hm, hmm, _, hi⟩
  · exact ⟨none, 0, 0, [], rfl, ExIn.none_⟩
  · have hmc : m = cap := by simpa using hmm
    subst hmc
    have hall : ∀ i, i < m → ∃ e : Ex, ∀ (j : Nat) v, (exC e)[j]? = some v → W.cell? (x.add (i * 2 + j)) = some v := by
      intro i him
      obtain ⟨cs', hc1, hc2⟩ := hi i him
      rw [ex_cellsOf] at hc1
      obtain ⟨e, rfl⟩ := ex_read hc2
      obtain ⟨_, hlen, hat⟩ := World.cells?_some hc1
      refine ⟨e, fun j v hv => ?_⟩
      have hj : j < 2 := (List.getElem?_eq_some_iff.1 hv).1
      have h2 := hat j hj
      rw [add_of_add] at h2
      rw [h2, hv]
    have hlist : ∀ k, k ≤ m → ∃ l : List Ex, l.length = k ∧ ∀ (j : Nat) v, (exL l)[j]? = some v → W.cell? (x.add j) = some v := by
      intro k
      induction k with
      | zero => intro _; exact ⟨[], rfl, by simp [exL]⟩
      | succ k ih =>
        intro hk
        obtain ⟨l, hl1, hl2⟩ := ih (by omega)
        obtain ⟨e, he⟩ := hall k (by omega)
        refine ⟨l ++ [e], by rw [List.length_append, hl1]; rfl, fun j v hv => ?_⟩
        rw [exL_append, List.getElem?_append] at hv
        split at hv
        · exact hl2 j v hv
        · rename_i hge
          rw [exL_length, hl1] at hv hge
          rw [exL_one] at hv
          have := he (j - k * 2) v hv
          rwa [show k * 2 + (j - k * 2) = j by omega] at this
    obtain ⟨l, hl1, hl2⟩ := hlist len hl
    refine ⟨some x, len, m, l, rfl, ⟨by rw [exL_length, hl1], fun hn => ⟨x, rfl, ?_, hl2⟩⟩, hl, by simpa [maxLen] using hm⟩
    obtain ⟨e, he⟩ := hall 0 (by omega)
    have h0 := he 0 (.int .i64 e.1) rfl
    have h := World.block_lt_of_cell? W (x.add (0 * 2 + 0)) h0
    rwa [block_of_add] at h
set_option maxRecDepth 100000 in
theorem grp_read (h : DataW.trod enc Try.prog W 0 (fun _ => true) hd fuel 36 cs = some x) : ∃ g : GrV, cs = grC g ∧ GrIn W W.heap.size g := by
  obtain ⟨ys, k, _, _, hcl, hyl, hfs⟩ := DataW.trod_struct Try.underlying36 h
  rw [grp_cellsOf] at hcl
  obtain ⟨c0, c1, c2, rfl⟩ := list3 hcl
  have f0 := hfs 0 _ rfl
  have f1 := hfs 1 _ rfl
  have f2 := hfs 2 _ rfl
  change DataW.trod enc _ W 0 _ _ k 3 (([c0, c1, c2].drop 0).take (Try.prog.cellsOf 3)) = ys[0]? at f0
  change DataW.trod enc _ W 0 _ _ k 3 (([c0, c1, c2].drop 1).take (Try.prog.cellsOf 3)) = ys[1]? at f1
  change DataW.trod enc _ W 0 _ _ k 34 (([c0, c1, c2].drop 2).take (Try.prog.cellsOf 34)) = ys[2]? at f2
  rw [int_cellsOf] at f0 f1
  rw [exs_cellsOf] at f2
  have y0 : ys[0]? = some (ys[0]'(by rw [hyl]; decide)) := List.getElem?_eq_getElem _
  have y1 : ys[1]? = some (ys[1]'(by rw [hyl]; decide)) := List.getElem?_eq_getElem _
  have y2 : ys[2]? = some (ys[2]'(by rw [hyl]; decide)) := List.getElem?_eq_getElem _
  rw [y0] at f0
  rw [y1] at f1
  rw [y2] at f2
  obtain ⟨a0, e0, _, _⟩ := DataW.trod_int Try.underlying3 f0
  obtain ⟨a1, e1, _, _⟩ := DataW.trod_int Try.underlying3 f1
  obtain ⟨A, n, c, l, e2, hm⟩ := exs_read f2
  simp at e0 e1 e2
  subst e0 e1 e2
  exact ⟨⟨a0, a1, A, n, c, l⟩, rfl, hm⟩
end
section
variable {H : Type} {enc : TypeId × Value → H} {W : World} {d : DataW H} {p : List MemPlace}
theorem arg_groups {A : Option Addr} {n c : Nat} (h : DataW.Trod enc Try.prog W 0 (fun _ => true) true 28 (.slice A n c) d p) : ∃ L : List GrV, GsIn W W.heap.size A n c L := by
  obtain ⟨fuel, hf⟩ := h
  rcases Go.Deep.open_slice Try.underlying28 hf with ⟨hcs, _⟩ | ⟨x, len, cap, m, n', D, Pl, hcs, _, hl, hm, hmm, _, hi⟩
  · simp [Value.cells] at hcs
    obtain ⟨rfl, rfl, rfl⟩ := hcs
    exact ⟨[], GsIn.none_⟩
  · simp [Value.cells] at hcs
    obtain ⟨rfl, rfl, rfl⟩ := hcs
    have hmc : m = c := by simpa using hmm
    subst hmc
    have hall : ∀ i, i < m → ∃ g : GrV, (∀ (j : Nat) v, (grC g)[j]? = some v → W.cell? (x.add (i * 3 + j)) = some v) ∧ GrIn W W.heap.size g := by
      intro i him
      obtain ⟨cs', hc1, hc2⟩ := hi i him
      rw [grp_cellsOf] at hc1
      obtain ⟨g, rfl, hg⟩ := grp_read hc2
      obtain ⟨_, hlen, hat⟩ := World.cells?_some hc1
      refine ⟨g, fun j v hv => ?_, hg⟩
      have hj : j < 3 := (List.getElem?_eq_some_iff.1 hv).1
      have h2 := hat j hj
      rw [add_of_add] at h2
      rw [h2, hv]
    have hlist : ∀ k, k ≤ m → ∃ l : List GrV, l.length = k ∧ (∀ (j : Nat) v, (grL l)[j]? = some v → W.cell? (x.add j) = some v) ∧ ∀ g ∈ l, GrIn W W.heap.size g := by
      intro k
      induction k with
      | zero => intro _; exact ⟨[], rfl, by simp [grL], by simp⟩
      | succ k ih =>
        intro hk
        obtain ⟨l, hl1, hl2, hl3⟩ := ih (by omega)
        obtain ⟨g, hg, hgi⟩ := hall k (by omega)
        refine ⟨l ++ [g], by rw [List.length_append, hl1]; rfl, fun j v hv => ?_, fun y hy => ?_⟩
        · rw [grL_append, List.getElem?_append] at hv
          split at hv
          · exact hl2 j v hv
          · rename_i hge
            rw [grL_length, hl1] at hv hge
            rw [grL_one] at hv
            have := hg (j - k * 3) v hv
            rwa [show k * 3 + (j - k * 3) = j by omega] at this
        · rcases List.mem_append.1 hy with hy | hy
          · exact hl3 y hy
          · simp at hy
            subst hy
            exact hgi
    obtain ⟨l, hl1, hl2, hl3⟩ := hlist n hl
    refine ⟨l, ⟨by rw [grL_length, hl1], fun hn => ⟨x, rfl, ?_, hl2⟩⟩, hl, by simpa [maxLen] using hm, hl3⟩
    obtain ⟨g, hg, _⟩ := hall 0 (by omega)
    have h0 := hg 0 (.int .i64 g.id) rfl
    have h := World.block_lt_of_cell? W (x.add (0 * 3 + 0)) h0
    rwa [block_of_add] at h
end
#print axioms arg_groups
end Go.Proofs.Ytmaiikmgpeafkaa
