/- What Clone of the program's own map does: the words of all places are copied whole. -/
import Derived.Test.YtmaiikmgpeafkabDoorStill
import Derived.Test.YtmaiikmgpeafkabDoorCount
import Derived.Test.YtmaiikmgpeafkabDoorArr
namespace Go.Proofs.YtmaiikmgpeafkabDoor
open Go.RowKit

theorem foldl_fill1 (l : List Value) : ∀ (k : Nat) (cs : Array Value), 1 + k + l.length = cs.size → (l.zipIdx k).foldl (fun cs x => cs.setIfInBounds (1 + x.2) x.1) cs = (cs.toList.take (1 + k) ++ l).toArray := by
  induction l with
  | nil =>
    intro k cs h
    simp only [List.length_nil, Nat.add_zero] at h
    rw [List.zipIdx_nil, List.foldl_nil, List.append_nil, List.take_of_length_le (by rw [Array.length_toList]; omega)]
  | cons v l ih =>
    intro k cs h
    rw [List.length_cons] at h
    rw [List.zipIdx_cons, List.foldl_cons, ih (k + 1) _ (by simp; omega)]
    have hk : 1 + k < cs.toList.length := by rw [Array.length_toList]; omega
    congr 1
    rw [Array.toList_setIfInBounds, ← Nat.add_assoc, List.take_add_one, List.take_set, List.set_eq_of_length_le (by simp; omega), List.getElem?_set, if_pos rfl, if_pos hk]
    simp
def words (t : Nat → Bool) : List Value := (List.range 1024).map fun j => Value.int .u64 ((wd t j : Nat) : Int)
theorem words_length (t : Nat → Bool) : (words t).length = 1024 := by simp [words]
theorem mapCells_words (n : Nat) (t : Nat → Bool) : mapCells n t = (Value.int .i64 (n : Int) :: words t).toArray := rfl
theorem built_fill (parts : List (Nat × Value)) : Tryd.prog.built 63 parts = Instr.fill (fun i => ([(0, 1), (1, 1024)] : List (Nat × Nat)).toArray[i]?) (cells0 0) parts := by kernel_rfl
theorem built_two (n : Nat) (t : Nat → Bool) : Tryd.prog.built 63 [(0, .int .i64 (n : Int)), (1, .agg (words t).toArray)] = some (mapCells n t) := by
  rw [built_fill]
  have h0 : (([(0, 1), (1, 1024)] : List (Nat × Nat)).toArray[0]?) = some (0, 1) := rfl
  have h1 : (([(0, 1), (1, 1024)] : List (Nat × Nat)).toArray[1]?) = some (1, 1024) := rfl
  have hs : (cells0 0).size = 1025 := by unfold cells0; rw [List.size_toArray, List.length_cons, List.length_replicate]
  have hc : (Value.int .i64 (n : Int)).cells = #[.int .i64 (n : Int)] := rfl
  have hw : (Value.agg (words t).toArray).cells = (words t).toArray := rfl
  have hsw : (words t).toArray.size = 1024 := by rw [List.size_toArray, words_length]
  generalize hC : cells0 0 = C at hs
  have hf1 : ((#[Value.int .i64 (n : Int)] : Array Value).zipIdx.foldl (fun cs (x : Value × Nat) => cs.setIfInBounds (0 + x.2) x.1) C) = C.setIfInBounds 0 (.int .i64 (n : Int)) := rfl
  have hf2 : ∀ D : Array Value, D.size = 1025 → D[0]? = some (.int .i64 (n : Int)) → ((words t).toArray.zipIdx.foldl (fun cs (x : Value × Nat) => cs.setIfInBounds (1 + x.2) x.1) D) = mapCells n t := by
    intro D hD hD0
    have hf := foldl_fill1 (words t) 0 D (by rw [words_length, hD])
    have ht : D.toList.take (1 + 0) = [.int .i64 (n : Int)] := by
      rw [show 1 + 0 = 0 + 1 from rfl, List.take_add_one, List.take_zero, Array.getElem?_toList, hD0]
      rfl
    rw [ht] at hf
    rw [mapCells_words, ← Array.foldl_toList]
    simpa using hf
  unfold Instr.fill
  simp only [h0, hc]
  rw [if_neg (by rw [hs]; simp), hf1]
  unfold Instr.fill
  simp only [h1, hw, hsw]
  rw [if_neg (by rw [Array.size_setIfInBounds, hs]; decide), hf2 _ (by rw [Array.size_setIfInBounds, hs]) (by rw [Array.getElem?_setIfInBounds]; simp [hs])]
  rfl

theorem still_build_two {P : Program} {ops : Array Oper} {w : World} {Q : Act → Prop} {o : Oper} {rest : List Oper} {a : Act} (hgd : o.guard = none) (ty : TypeId) (x y : Operand) (ho : o.op = .build ty #[(0, x), (1, y)])
    (u v : Value) (hx : a.eval x = u) (hy : a.eval y = v) (cells : Array Value) (hb : P.built ty [(0, u), (1, v)] = some cells)
    (h : wpStill P ops w Q rest (a.put o.dst (.agg cells))) : wpStill P ops w Q (o :: rest) a :=
  still_gives hgd _ (by
    have hb' : P.built ty ((#[(0, x), (1, y)] : Array (Nat × Operand)).map fun (i, x) => (i, a.eval x)).toList = some cells := by
      simp only [List.map_toArray, List.map_cons, List.map_nil, hx, hy, hb]
    unfold execOp
    simp only [ho, Sem.run_bind, run_build w ty _ cells hb', Result.andThen_ok, Sem.run_pure]) h
theorem words_info : (Tryd.prog.info? 61).map (·.size) = some 1024 := by kernel_rfl
section
variable {b n : Nat} {t : Nat → Bool} {w : World}
set_option maxRecDepth 100000 in
theorem clone_any (hm : MapAt w b n t) :
    Calls Tryd.prog 16 #[.pointer (some ⟨b, 0, none⟩)] w fun e w' => e = .returned (.pointer (some ⟨w.heap.size, 0, none⟩)) ∧ MapAt w' w.heap.size n t ∧ Below w.heap.size w w' := by
  have h0 := hm.cell0
  have hcw : ∀ j v, (words t)[j]? = some v → w.cell? ((⟨b, 1, none⟩ : Addr).add j) = some v := by
    intro j v hv
    have hj : j < 1024 := by have := (List.getElem?_eq_some_iff.1 hv).1; rwa [words_length] at this
    have hadd : (⟨b, 1, none⟩ : Addr).add j = ⟨b, 1 + j, none⟩ := by unfold Addr.add; split <;> simp_all
    rw [hadd, hm.cellw hj, ← hv]
    simp [words, hj]
  have hwi : (Tryd.prog.info? 61).map (·.size) = some (words t).length := by rw [words_length]; exact words_info
  have hb2 := built_two n t
  have fin : MapAt (w.drew.alloc (.cells (mapCells n t) 63)) w.heap.size n t := ⟨hm.le, hm.out, Blk.new _ _ _⟩
  have fb : Below w.heap.size w (w.drew.alloc (.cells (mapCells n t) 63)) := ((Below.refl _ _).drew).alloc (Nat.le_refl _) _
  obtain ⟨C, hC⟩ : ∃ C, C = mapCells n t := ⟨_, rfl⟩
  rw [← hC] at hb2 fin fb
  obtain ⟨W, hW⟩ : ∃ W, W = words t := ⟨_, rfl⟩
  rw [← hW] at hb2 hcw hwi
  have HB := hide hb2
  have HCW := hide hcw
  have HWI := hide hwi
  clear hb2 hcw hwi hC hW
  go_enter Tryd.func16, Tryd.ntmps16
  go_wp2
  refine wp_region_still_tail 9 (by kernel_rfl) (by kernel_rfl) ?_
  change wpStill _ _ w.drew _ _ _
  simp only [List.take_succ_cons, List.take_zero, List.drop_succ_cons, List.drop_zero]
  iterate 7 still_step
  refine still_load_at rfl 61 (.tmp 9) rfl ⟨b, 1, none⟩ rfl W _ HCW.out Tryd.underlying61 rfl HWI.out ?_
  refine still_build_two rfl 63 (.tmp 6) (.tmp 10) rfl _ _ rfl rfl C HB.out ?_
  refine wpStill_nil ?_
  simp only [Act.put, List.setIfInBounds_toArray, List.set_cons_succ, List.set_cons_zero]
  change wpList _ _ _ _ _ w.drew
  go_wp2
  go_ret
  exact ⟨rfl, fin, fb⟩
end
end Go.Proofs.YtmaiikmgpeafkabDoor
