/- Arguments of stage 4's laws: a label or a sector by value; slices of members, of sectors, of labels, nil let in. -/
import Derived.Test.YtbbfgcekjelmkaaLof
import Derived.ProofKit
import Derived.OpenShut
import Derived.ShutString
import Derived.ChangeOld
import Derived.Deep.Slices
import Derived.ChangeArms
namespace Go.Proofs.Ytbbfgcekjelmkaa
open Go.ChangeShapes Go.WideShapes Go.ChangeAt Go.RowKit

theorem own : ownKnob Try.prog.godebug = none := by kernel_rfl
theorem laidOut : laidOutB Try.prog = true := by kernel_rfl
theorem mb_cellsOf : Try.prog.cellsOf 62 = 3 := by kernel_rfl
theorem lab_cellsOf : Try.prog.cellsOf 24 = 5 := by kernel_rfl
theorem sec_cellsOf : Try.prog.cellsOf 26 = 64 := by kernel_rfl
theorem int_cellsOf : Try.prog.cellsOf 3 = 1 := by kernel_rfl
theorem u8_cellsOf : Try.prog.cellsOf 5 = 1 := by kernel_rfl
theorem mbs_cellsOf : Try.prog.cellsOf 22 = 1 := by kernel_rfl

section
variable {H : Type} {enc : TypeId × Value → H} {W : World} {fuel : Nat} {hd : Bool} {cs : List Value} {x : DataW H × List MemPlace}
theorem list3 {α : Type} {cs : List α} (h : cs.length = 3) : ∃ a b c, cs = [a, b, c] := by
  match cs, h with
  | [a, b, c], _ => exact ⟨a, b, c, rfl⟩
theorem list5 {α : Type} {cs : List α} (h : cs.length = 5) : ∃ a b c d e, cs = [a, b, c, d, e] := by
  match cs, h with
  | [a, b, c, d, e], _ => exact ⟨a, b, c, d, e, rfl⟩
set_option maxRecDepth 100000 in
theorem mb_read (h : DataW.trod enc Try.prog W 0 (fun _ => true) hd fuel 62 cs = some x) : ∃ m : Mb, cs = mbC m := by
  obtain ⟨ys, k, _, _, hcl, hyl, hfs⟩ := DataW.trod_struct Try.underlying62 h
  rw [mb_cellsOf] at hcl
  obtain ⟨c0, c1, c2, rfl⟩ := list3 hcl
  have f0 := hfs 0 _ rfl
  have f1 := hfs 1 _ rfl
  have f2 := hfs 2 _ rfl
  change DataW.trod enc _ W 0 _ _ k 3 (([c0, c1, c2].drop 0).take (Try.prog.cellsOf 3)) = ys[0]? at f0
  change DataW.trod enc _ W 0 _ _ k 3 (([c0, c1, c2].drop 1).take (Try.prog.cellsOf 3)) = ys[1]? at f1
  change DataW.trod enc _ W 0 _ _ k 3 (([c0, c1, c2].drop 2).take (Try.prog.cellsOf 3)) = ys[2]? at f2
  rw [int_cellsOf] at f0 f1 f2
  have y0 : ys[0]? = some (ys[0]'(by rw [hyl]; decide)) := List.getElem?_eq_getElem _
  have y1 : ys[1]? = some (ys[1]'(by rw [hyl]; decide)) := List.getElem?_eq_getElem _
  have y2 : ys[2]? = some (ys[2]'(by rw [hyl]; decide)) := List.getElem?_eq_getElem _
  rw [y0] at f0
  rw [y1] at f1
  rw [y2] at f2
  obtain ⟨a0, e0, _, _⟩ := DataW.trod_int Try.underlying3 f0
  obtain ⟨a1, e1, _, _⟩ := DataW.trod_int Try.underlying3 f1
  obtain ⟨a2, e2, _, _⟩ := DataW.trod_int Try.underlying3 f2
  simp at e0 e1 e2
  subst e0 e1 e2
  exact ⟨(a0, a1, a2), rfl⟩
theorem mbs_read (h : DataW.trod enc Try.prog W 0 (fun _ => true) hd fuel 22 cs = some x) : ∃ A n c l, cs = [.slice A n c] ∧ MbIn W W.heap.size A n c l := by
  rcases Go.Deep.open_slice Try.underlying22 h with ⟨rfl, _⟩ | ⟨x, len, cap, m, n', D, Pl, rfl, _, hl, hm, hmm, _, hi⟩
  · exact ⟨none, 0, 0, [], rfl, MbIn.none_⟩
  · have hmc : m = cap := by simpa using hmm
    subst hmc
    have hall : ∀ i, i < m → ∃ mb : Mb, ∀ (j : Nat) v, (mbC mb)[j]? = some v → W.cell? (x.add (i * 3 + j)) = some v := by
      intro i him
      obtain ⟨cs', hc1, hc2⟩ := hi i him
      rw [mb_cellsOf] at hc1
      obtain ⟨mb, rfl⟩ := mb_read hc2
      obtain ⟨_, hlen, hat⟩ := World.cells?_some hc1
      refine ⟨mb, fun j v hv => ?_⟩
      have hj : j < 3 := (List.getElem?_eq_some_iff.1 hv).1
      have h2 := hat j hj
      rw [add_of_add] at h2
      rw [h2, hv]
    have hlist : ∀ k, k ≤ m → ∃ l : List Mb, l.length = k ∧ ∀ (j : Nat) v, (mbL l)[j]? = some v → W.cell? (x.add j) = some v := by
      intro k
      induction k with
      | zero => intro _; exact ⟨[], rfl, by simp [mbL]⟩
      | succ k ih =>
        intro hk
        obtain ⟨l, hl1, hl2⟩ := ih (by omega)
        obtain ⟨mb, hmb⟩ := hall k (by omega)
        refine ⟨l ++ [mb], by rw [List.length_append, hl1]; rfl, fun j v hv => ?_⟩
        rw [mbL_append, List.getElem?_append] at hv
        split at hv
        · exact hl2 j v hv
        · rename_i hge
          rw [mbL_length, hl1] at hv hge
          rw [show mbL [mb] = mbC mb by simp [mbL]] at hv
          have := hmb (j - k * 3) v hv
          rwa [show k * 3 + (j - k * 3) = j by omega] at this
    obtain ⟨l, hl1, hl2⟩ := hlist len hl
    refine ⟨some x, len, m, l, rfl, ⟨by rw [mbL_length, hl1], fun hn => ⟨x, rfl, ?_, hl2⟩⟩, hl, by simpa [maxLen] using hm⟩
    obtain ⟨mb, hmb⟩ := hall 0 (by omega)
    have h0 := hmb 0 (.int .i64 mb.1) rfl
    have h := World.block_lt_of_cell? W (x.add (0 * 3 + 0)) h0
    rwa [block_of_add] at h
set_option maxRecDepth 100000 in
theorem lab_read (h : DataW.trod enc Try.prog W 0 (fun _ => true) hd fuel 24 cs = some x) : ∃ l A n c, cs = labC l A n c ∧ MbIn W W.heap.size A n c l.members := by
  obtain ⟨ys, k, _, _, hcl, hyl, hfs⟩ := DataW.trod_struct Try.underlying24 h
  rw [lab_cellsOf] at hcl
  obtain ⟨c0, c1, c2, c3, c4, rfl⟩ := list5 hcl
  have f0 := hfs 0 _ rfl
  have f1 := hfs 1 _ rfl
  have f2 := hfs 2 _ rfl
  have f3 := hfs 3 _ rfl
  have f4 := hfs 4 _ rfl
  change DataW.trod enc _ W 0 _ _ k 3 (([c0, c1, c2, c3, c4].drop 0).take (Try.prog.cellsOf 3)) = ys[0]? at f0
  change DataW.trod enc _ W 0 _ _ k 3 (([c0, c1, c2, c3, c4].drop 1).take (Try.prog.cellsOf 3)) = ys[1]? at f1
  change DataW.trod enc _ W 0 _ _ k 3 (([c0, c1, c2, c3, c4].drop 2).take (Try.prog.cellsOf 3)) = ys[2]? at f2
  change DataW.trod enc _ W 0 _ _ k 3 (([c0, c1, c2, c3, c4].drop 3).take (Try.prog.cellsOf 3)) = ys[3]? at f3
  change DataW.trod enc _ W 0 _ _ k 22 (([c0, c1, c2, c3, c4].drop 4).take (Try.prog.cellsOf 22)) = ys[4]? at f4
  rw [int_cellsOf] at f0 f1 f2 f3
  rw [mbs_cellsOf] at f4
  have y0 : ys[0]? = some (ys[0]'(by rw [hyl]; decide)) := List.getElem?_eq_getElem _
  have y1 : ys[1]? = some (ys[1]'(by rw [hyl]; decide)) := List.getElem?_eq_getElem _
  have y2 : ys[2]? = some (ys[2]'(by rw [hyl]; decide)) := List.getElem?_eq_getElem _
  have y3 : ys[3]? = some (ys[3]'(by rw [hyl]; decide)) := List.getElem?_eq_getElem _
  have y4 : ys[4]? = some (ys[4]'(by rw [hyl]; decide)) := List.getElem?_eq_getElem _
  rw [y0] at f0
  rw [y1] at f1
  rw [y2] at f2
  rw [y3] at f3
  rw [y4] at f4
  obtain ⟨a0, e0, _, _⟩ := DataW.trod_int Try.underlying3 f0
  obtain ⟨a1, e1, _, _⟩ := DataW.trod_int Try.underlying3 f1
  obtain ⟨a2, e2, _, _⟩ := DataW.trod_int Try.underlying3 f2
  obtain ⟨a3, e3, _, _⟩ := DataW.trod_int Try.underlying3 f3
  obtain ⟨A, n, c, l, e4, hm⟩ := mbs_read f4
  simp at e0 e1 e2 e3 e4
  subst e0 e1 e2 e3 e4
  exact ⟨⟨a0, a1, a2, a3, l⟩, A, n, c, rfl, hm⟩
theorem sec_read (h : DataW.trod enc Try.prog W 0 (fun _ => true) hd fuel 26 cs = some x) : ∃ s : Sec, cs = secL s := by
  obtain ⟨xs, m, _, _, hcl, hxl, hi⟩ := DataW.trod_array Try.underlying26 h
  rw [sec_cellsOf] at hcl
  rw [u8_cellsOf] at hi
  have hz : ∀ v ∈ cs, ∃ z : Int, v = .int .u8 z ∧ 0 ≤ z ∧ z ≤ 255 := by
    intro v hv
    obtain ⟨i, hi1, rfl⟩ := List.getElem_of_mem hv
    have h1 := hi i (by omega)
    rw [Nat.mul_one] at h1
    have h2 : (cs.drop i).take 1 = [cs[i]] := by rw [List.drop_eq_getElem_cons hi1]; rfl
    have h3 : xs[i]? = some (xs[i]'(by omega)) := List.getElem?_eq_getElem (by omega)
    rw [h2, h3] at h1
    obtain ⟨a, e0, _, wa⟩ := DataW.trod_int Try.underlying5 h1
    simp only [List.cons.injEq, and_true] at e0
    exact ⟨a, e0, bounds_u8 wa⟩
  have hmap : ∃ zs : List Int, cs = zs.map (Value.int .u8) ∧ ∀ z ∈ zs, 0 ≤ z ∧ z ≤ 255 := by
    clear hi hcl h
    induction cs with
    | nil => exact ⟨[], rfl, by simp⟩
    | cons v cs ih =>
      obtain ⟨z, rfl, hz1⟩ := hz v (by simp)
      obtain ⟨zs, rfl, hzs⟩ := ih (fun u hu => hz u (by simp [hu]))
      exact ⟨z :: zs, rfl, fun y hy => by
        rcases List.mem_cons.1 hy with rfl | hy
        · exact hz1
        · exact hzs y hy⟩
  obtain ⟨zs, hzs, hb⟩ := hmap
  obtain ⟨l, hl, hm⟩ := bytes_of zs hb
  have hl64 : l.length = 64 := by
    rw [hl]
    have := congrArg List.length hzs
    rw [List.length_map] at this
    omega
  exact ⟨⟨l, hl64⟩, by rw [hzs, hm]; rfl⟩
end
section
variable {H : Type} {enc : TypeId × Value → H} {W : World} {d : DataW H} {p : List MemPlace}
theorem arg_members {A : Option Addr} {n c : Nat} (h : DataW.Trod enc Try.prog W 0 (fun _ => true) true 22 (.slice A n c) d p) : ∃ l, MbIn W W.heap.size A n c l := by
  obtain ⟨fuel, hf⟩ := h
  obtain ⟨A', n', c', l, hcs, hm⟩ := mbs_read hf
  simp [Value.cells] at hcs
  obtain ⟨rfl, rfl, rfl⟩ := hcs
  exact ⟨l, hm⟩
set_option maxRecDepth 100000 in
theorem arg_label {r : Reach} {b0 : Nat} {v : Value} (hv : Value.okWide Try.prog W r b0 24 v) (h : DataW.Trod enc Try.prog W 0 (fun _ => true) true 24 v d p) : ∃ l A n c, v = labV l A n c ∧ MbIn W W.heap.size A n c l.members := by
  obtain ⟨cs, rfl, hsz⟩ := okWide_struct Try.underlying24 hv
  obtain ⟨fuel, hf⟩ := h
  obtain ⟨l, A, n, c, hcs, hm⟩ := lab_read hf
  refine ⟨l, A, n, c, ?_, hm⟩
  have e : cs = (labC l A n c).toArray := by
    apply Array.ext'
    simpa [Value.cells] using hcs
  rw [e]
  rfl
set_option maxRecDepth 100000 in
theorem arg_sector {r : Reach} {b0 : Nat} {v : Value} (hv : Value.okWide Try.prog W r b0 26 v) (h : DataW.Trod enc Try.prog W 0 (fun _ => true) true 26 v d p) : ∃ s : Sec, v = secV s := by
  simp only [Value.okWide, Try.underlying26] at hv
  obtain ⟨cs, rfl, _⟩ := hv
  obtain ⟨fuel, hf⟩ := h
  obtain ⟨s, hcs⟩ := sec_read hf
  refine ⟨s, ?_⟩
  have e : cs = (secL s).toArray := by
    apply Array.ext'
    simpa [Value.cells] using hcs
  rw [e]
  rfl
end
#print axioms arg_label
#print axioms arg_sector
end Go.Proofs.Ytbbfgcekjelmkaa
