/- Arguments of laws over labels: members, a label by value, slices of labels, nil let in. -/
import Derived.Test.YtjdfeidakmkchaaLabC
import Derived.ProofKit
import Derived.OpenShut
import Derived.ShutString
import Derived.ChangeOld
import Derived.Deep.Slices
import Derived.ChangeArms
namespace Go.Proofs.Ytjdfeidakmkchaa
open Go.ChangeShapes Go.WideShapes Go.ChangeAt Go.RowKit

theorem own : ownKnob Try.prog.godebug = none := by kernel_rfl
theorem laidOut : laidOutB Try.prog = true := by kernel_rfl
theorem mb_cellsOf : Try.prog.cellsOf 28 = 3 := by kernel_rfl
theorem lab_cellsOf : Try.prog.cellsOf 24 = 5 := by kernel_rfl
theorem int_cellsOf : Try.prog.cellsOf 3 = 1 := by kernel_rfl
theorem mbs_cellsOf : Try.prog.cellsOf 22 = 1 := by kernel_rfl

section
variable {H : Type} {enc : TypeId × Value → H} {W : World} {fuel : Nat} {hd : Bool} {cs : List Value} {x : DataW H × List MemPlace}
theorem list3 {α : Type} {cs : List α} (h : cs.length = 3) : ∃ a b c, cs = [a, b, c] := by
  match cs, h with
  | [a, b, c], _ => exact ⟨a, b, c, rfl⟩
theorem list5 {α : Type} {cs : List α} (h : cs.length = 5) : ∃ a b c d e, cs = [a, b, c, d, e] := by
  match cs, h with
  | [a, b, c, d, e], _ => exact ⟨a, b, c, d, e, rfl⟩
set_option maxRecDepth 100000 in
theorem mb_read (h : DataW.trod enc Try.prog W 0 (fun _ => true) hd fuel 28 cs = some x) : ∃ m : Mb, cs = mbC m := by
  obtain ⟨ys, k, _, _, hcl, hyl, hfs⟩ := DataW.trod_struct Try.underlying28 h
  rw [mb_cellsOf] at hcl
  obtain ⟨c0, c1, c2, rfl⟩ := list3 hcl
  have f0 := hfs 0 _ rfl
  have f1 := hfs 1 _ rfl
  have f2 := hfs 2 _ rfl
  change DataW.trod enc _ W 0 _ _ k 3 (([c0, c1, c2].drop 0).take (Try.prog.cellsOf 3)) = ys[0]? at f0
  change DataW.trod enc _ W 0 _ _ k 3 (([c0, c1, c2].drop 1).take (Try.prog.cellsOf 3)) = ys[1]? at f1
  change DataW.trod enc _ W 0 _ _ k 3 (([c0, c1, c2].drop 2).take (Try.prog.cellsOf 3)) = ys[2]? at f2
  rw [int_cellsOf] at f0 f1 f2
  have y0 : ys[0]? = some (ys[0]'(by rw [hyl]; decide)) := List.getElem?_eq_getElem _
  have y1 : ys[1]? = some (ys[1]'(by rw [hyl]; decide)) := List.getElem?_eq_getElem _
  have y2 : ys[2]? = some (ys[2]'(by rw [hyl]; decide)) := List.getElem?_eq_getElem _
  rw [y0] at f0
  rw [y1] at f1
  rw [y2] at f2
  obtain ⟨a0, e0, _, _⟩ := DataW.trod_int Try.underlying3 f0
  obtain ⟨a1, e1, _, _⟩ := DataW.trod_int Try.underlying3 f1
  obtain ⟨a2, e2, _, _⟩ := DataW.trod_int Try.underlying3 f2
  simp at e0 e1 e2
  subst e0 e1 e2
  exact ⟨(a0, a1, a2), rfl⟩
theorem mbs_read (h : DataW.trod enc Try.prog W 0 (fun _ => true) hd fuel 22 cs = some x) : ∃ A n c l, cs = [.slice A n c] ∧ MbIn W W.heap.size A n c l := by
  rcases Go.Deep.open_slice Try.underlying22 h with ⟨rfl, _⟩ | ⟨x, len, cap, m, n', D, Pl, rfl, _, hl, hm, hmm, _, hi⟩
  · exact ⟨none, 0, 0, [], rfl, MbIn.none_⟩
  · have hmc : m = cap := by simpa using hmm
    subst hmc
    have hall : ∀ i, i < m → ∃ mb : Mb, ∀ (j : Nat) v, (mbC mb)[j]? = some v → W.cell? (x.add (i * 3 + j)) = some v := by
      intro i him
      obtain ⟨cs', hc1, hc2⟩ := hi i him
      rw [mb_cellsOf] at hc1
      obtain ⟨mb, rfl⟩ := mb_read hc2
      obtain ⟨_, hlen, hat⟩ := World.cells?_some hc1
      refine ⟨mb, fun j v hv => ?_⟩
      have hj : j < 3 := (List.getElem?_eq_some_iff.1 hv).1
      have h2 := hat j hj
      rw [add_of_add] at h2
      rw [h2, hv]
    have hlist : ∀ k, k ≤ m → ∃ l : List Mb, l.length = k ∧ ∀ (j : Nat) v, (mbL l)[j]? = some v → W.cell? (x.add j) = some v := by
      intro k
      induction k with
      | zero => intro _; exact ⟨[], rfl, by simp [mbL]⟩
      | succ k ih =>
        intro hk
        obtain ⟨l, hl1, hl2⟩ := ih (by omega)
        obtain ⟨mb, hmb⟩ := hall k (by omega)
        refine ⟨l ++ [mb], by rw [List.length_append, hl1]; rfl, fun j v hv => ?_⟩
        rw [mbL_append, List.getElem?_append] at hv
        split at hv
        · exact hl2 j v hv
        · rename_i hge
          rw [mbL_length, hl1] at hv hge
          rw [show mbL [mb] = mbC mb by simp [mbL]] at hv
          have := hmb (j - k * 3) v hv
          rwa [show k * 3 + (j - k * 3) = j by omega] at this
    obtain ⟨l, hl1, hl2⟩ := hlist len hl
    refine ⟨some x, len, m, l, rfl, ⟨by rw [mbL_length, hl1], fun hn => ⟨x, rfl, ?_, hl2⟩⟩, hl, by simpa [maxLen] using hm⟩
    obtain ⟨mb, hmb⟩ := hall 0 (by omega)
    have h0 := hmb 0 (.int .i64 mb.1) rfl
    have h := World.block_lt_of_cell? W (x.add (0 * 3 + 0)) h0
    rwa [block_of_add] at h
set_option maxRecDepth 100000 in
theorem lab_read (h : DataW.trod enc Try.prog W 0 (fun _ => true) hd fuel 24 cs = some x) : ∃ l A n c, cs = labC l A n c ∧ MbIn W W.heap.size A n c l.members := by
  obtain ⟨ys, k, _, _, hcl, hyl, hfs⟩ := DataW.trod_struct Try.underlying24 h
  rw [lab_cellsOf] at hcl
  obtain ⟨c0, c1, c2, c3, c4, rfl⟩ := list5 hcl
  have f0 := hfs 0 _ rfl
  have f1 := hfs 1 _ rfl
  have f2 := hfs 2 _ rfl
  have f3 := hfs 3 _ rfl
  have f4 := hfs 4 _ rfl
  change DataW.trod enc _ W 0 _ _ k 3 (([c0, c1, c2, c3, c4].drop 0).take (Try.prog.cellsOf 3)) = ys[0]? at f0
  change DataW.trod enc _ W 0 _ _ k 3 (([c0, c1, c2, c3, c4].drop 1).take (Try.prog.cellsOf 3)) = ys[1]? at f1
  change DataW.trod enc _ W 0 _ _ k 3 (([c0, c1, c2, c3, c4].drop 2).take (Try.prog.cellsOf 3)) = ys[2]? at f2
  change DataW.trod enc _ W 0 _ _ k 3 (([c0, c1, c2, c3, c4].drop 3).take (Try.prog.cellsOf 3)) = ys[3]? at f3
  change DataW.trod enc _ W 0 _ _ k 22 (([c0, c1, c2, c3, c4].drop 4).take (Try.prog.cellsOf 22)) = ys[4]? at f4
  rw [int_cellsOf] at f0 f1 f2 f3
  rw [mbs_cellsOf] at f4
  have y0 : ys[0]? = some (ys[0]'(by rw [hyl]; decide)) := List.getElem?_eq_getElem _
  have y1 : ys[1]? = some (ys[1]'(by rw [hyl]; decide)) := List.getElem?_eq_getElem _
  have y2 : ys[2]? = some (ys[2]'(by rw [hyl]; decide)) := List.getElem?_eq_getElem _
  have y3 : ys[3]? = some (ys[3]'(by rw [hyl]; decide)) := List.getElem?_eq_getElem _
  have y4 : ys[4]? = some (ys[4]'(by rw [hyl]; decide)) := List.getElem?_eq_getElem _
  rw [y0] at f0
  rw [y1] at f1
  rw [y2] at f2
  rw [y3] at f3
  rw [y4] at f4
  obtain ⟨a0, e0, _, _⟩ := DataW.trod_int Try.underlying3 f0
  obtain ⟨a1, e1, _, _⟩ := DataW.trod_int Try.underlying3 f1
  obtain ⟨a2, e2, _, _⟩ := DataW.trod_int Try.underlying3 f2
  obtain ⟨a3, e3, _, _⟩ := DataW.trod_int Try.underlying3 f3
  obtain ⟨A, n, c, l, e4, hm⟩ := mbs_read f4
  simp at e0 e1 e2 e3 e4
  subst e0 e1 e2 e3 e4
  exact ⟨⟨a0, a1, a2, a3, l⟩, A, n, c, rfl, hm⟩
end
section
variable {H : Type} {enc : TypeId × Value → H} {W : World} {d : DataW H} {p : List MemPlace}
theorem arg_members {A : Option Addr} {n c : Nat} (h : DataW.Trod enc Try.prog W 0 (fun _ => true) true 22 (.slice A n c) d p) : ∃ l, MbIn W W.heap.size A n c l := by
  obtain ⟨fuel, hf⟩ := h
  obtain ⟨A', n', c', l, hcs, hm⟩ := mbs_read hf
  simp [Value.cells] at hcs
  obtain ⟨rfl, rfl, rfl⟩ := hcs
  exact ⟨l, hm⟩
set_option maxRecDepth 100000 in
theorem arg_label {r : Reach} {b0 : Nat} {v : Value} (hv : Value.okWide Try.prog W r b0 24 v) (h : DataW.Trod enc Try.prog W 0 (fun _ => true) true 24 v d p) : ∃ l A n c, v = labV l A n c ∧ MbIn W W.heap.size A n c l.members := by
  obtain ⟨cs, rfl, hsz⟩ := okWide_struct Try.underlying24 hv
  obtain ⟨fuel, hf⟩ := h
  obtain ⟨l, A, n, c, hcs, hm⟩ := lab_read hf
  refine ⟨l, A, n, c, ?_, hm⟩
  have e : cs = (labC l A n c).toArray := by
    apply Array.ext'
    simpa [Value.cells] using hcs
  rw [e]
  rfl
end
abbrev LabV := Lab × Option Addr × Nat × Nat
/-- The labels of a slice. -/
def LabsIn (w : World) (B : Nat) (A : Option Addr) (n c : Nat) (f : Nat → LabV) : Prop := n ≤ c ∧ c ≤ 9223372036854775807 ∧ (0 < n → ∃ ad, A = some ad ∧ ad.block < B ∧ ∀ i, i < n → (∀ (j : Nat) (v : Value), (labC (f i).1 (f i).2.1 (f i).2.2.1 (f i).2.2.2)[j]? = some v → w.cell? ((ad.add (i * 5)).add j) = some v) ∧ MbIn w B (f i).2.1 (f i).2.2.1 (f i).2.2.2 (f i).1.members)
theorem LabsIn.below {w w' : World} {B n c : Nat} {A : Option Addr} {f : Nat → LabV} (h : LabsIn w B A n c f) (hb : Below B w w') : LabsIn w' B A n c f := by
  refine ⟨h.1, h.2.1, fun hn => ?_⟩
  obtain ⟨ad, e, hlt, hc⟩ := h.2.2 hn
  refine ⟨ad, e, hlt, fun i hi => ⟨fun j v hv => ?_, (hc i hi).2.below hb⟩⟩
  have hbl : ((ad.add (i * 5)).add j).block = ad.block := by rw [block_of_add, block_of_add]
  exact (hb.cell (p := (ad.add (i * 5)).add j) (by rw [hbl]; exact hlt)).trans ((hc i hi).1 j v hv)
theorem LabsIn.nil {w : World} {B : Nat} {f : Nat → LabV} : LabsIn w B none 0 0 f := ⟨Nat.le_refl _, Nat.zero_le _, fun h => absurd h (Nat.lt_irrefl 0)⟩
section
variable {H : Type} {enc : TypeId × Value → H} {W : World} {d : DataW H} {p : List MemPlace}
theorem arg_labels {A : Option Addr} {n c : Nat} (h : DataW.Trod enc Try.prog W 0 (fun _ => true) true 33 (.slice A n c) d p) : ∃ f : Nat → LabV, LabsIn W W.heap.size A n c f := by
  obtain ⟨fuel, hf⟩ := h
  rcases Go.Deep.open_slice Try.underlying33 hf with ⟨hcs, _⟩ | ⟨x, len, cap, m, n', D, Pl, hcs, _, hl, hm, hmm, _, hi⟩
  · simp [Value.cells] at hcs
    obtain ⟨rfl, rfl, rfl⟩ := hcs
    exact ⟨fun _ => (Lab.none_, none, 0, 0), LabsIn.nil⟩
  · simp [Value.cells] at hcs
    obtain ⟨rfl, rfl, rfl⟩ := hcs
    have hmc : m = c := by simpa using hmm
    subst hmc
    have hall : ∀ i, ∃ s : LabV, i < m → (∀ (j : Nat) (v : Value), (labC s.1 s.2.1 s.2.2.1 s.2.2.2)[j]? = some v → W.cell? ((x.add (i * 5)).add j) = some v) ∧ MbIn W W.heap.size s.2.1 s.2.2.1 s.2.2.2 s.1.members := by
      intro i
      by_cases him : i < m
      · obtain ⟨cs', hc1, hc2⟩ := hi i him
        rw [lab_cellsOf] at hc1
        obtain ⟨l, A1, n1, c1, rfl, hm1⟩ := lab_read hc2
        obtain ⟨_, hlen, hat⟩ := World.cells?_some hc1
        refine ⟨(l, A1, n1, c1), fun _ => ⟨fun j v hv => ?_, hm1⟩⟩
        have hj : j < 5 := (List.getElem?_eq_some_iff.1 hv).1
        rw [hat j hj, hv]
      · exact ⟨(Lab.none_, none, 0, 0), fun h => absurd h him⟩
    refine ⟨fun i => Classical.choose (hall i), hl, by simpa [maxLen] using hm, fun hn => ⟨x, rfl, ?_, fun i hi2 => Classical.choose_spec (hall i) (by omega)⟩⟩
    obtain ⟨s, hs⟩ := hall 0
    have h := World.block_lt_of_cell? W _ ((hs (by omega)).1 0 (.int .i64 s.1.array) rfl)
    rwa [block_of_add, block_of_add] at h
end
end Go.Proofs.Ytjdfeidakmkchaa
