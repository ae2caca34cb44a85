/- Slice literals of two or three arrays or structs. No program is named here. -/
import Derived.Test.YtfjgpnjhmfcpiaaAgg
import Derived.Test.YtfjgpnjhmfcpiaaWhen
namespace Go.Proofs.Ytfjgpnjhmfcpiaa
open Go.RowKit
theorem pfold_set (l : List Value) : ∀ (k : Nat) (cs : Array Value), k + l.length ≤ cs.size → (l.zipIdx k).foldl (fun cs x => cs.setIfInBounds x.2 x.1) cs = (cs.toList.take k ++ l ++ cs.toList.drop (k + l.length)).toArray := by
  induction l with
  | nil =>
    intro k cs h
    rw [List.zipIdx_nil, List.foldl_nil, List.append_nil, List.length_nil, Nat.add_zero, List.take_append_drop, Array.toArray_toList]
  | cons v l ih =>
    intro k cs h
    rw [List.length_cons] at h
    rw [List.zipIdx_cons, List.foldl_cons, ih (k + 1) _ (by rw [Array.size_setIfInBounds]; omega)]
    have hk : k < cs.toList.length := by rw [Array.length_toList]; omega
    congr 1
    rw [Array.toList_setIfInBounds, List.take_add_one, List.take_set, List.set_eq_of_length_le (by simp; omega), List.getElem?_set, if_pos rfl, if_pos hk, List.drop_set, if_pos (by omega), List.length_cons]
    simp
    congr 1
    omega
theorem pfold_shift (off : Nat) : ∀ (l : List Value) (k : Nat) (D : Array Value), (l.zipIdx k).foldl (fun cs (x : Value × Nat) => cs.setIfInBounds (off + x.2) x.1) D = (l.zipIdx (off + k)).foldl (fun cs x => cs.setIfInBounds x.2 x.1) D := by
  intro l
  induction l with
  | nil => intro k D; rfl
  | cons x l ih =>
    intro k D
    rw [List.zipIdx_cons, List.zipIdx_cons, List.foldl_cons, List.foldl_cons, ih]
    rfl
/-- One array or struct laid in its place. -/
theorem pfill_one (F : Array Value) (off : Nat) (C : Array Value) (h : off + F.size ≤ C.size) : F.zipIdx.foldl (fun cs (x : Value × Nat) => cs.setIfInBounds (off + x.2) x.1) C = (C.toList.take off ++ F.toList ++ C.toList.drop (off + F.size)).toArray := by
  have h1 := pfold_set F.toList off C (by rw [Array.length_toList]; exact h)
  rw [Array.length_toList] at h1
  rw [← h1, ← Array.foldl_toList, Array.toList_zipIdx, pfold_shift]
  rfl
section
variable {P : Program} (w : World)
theorem run_build_aggs (t e : TypeId) (i : TypeInfo) (z : Value) (size : Nat) (ht : P.underlying t = some (.slice e)) (hi : P.info? e = some i) (hz : (zeroValue e).run P w = .ok z w) (hsize : i.size = size) (h0 : 0 < size) (h24 : size ≤ 1048576)
    (n : Nat) (hn : 0 < n) (hn9 : n ≤ 9) (parts : Array (Nat × Value)) (cells : Array Value) (hf : ∀ C : Array Value, C.size = n * size → Instr.fill (fun i => some (i * size, size)) C parts.toList = some cells) : (Instr.buildSlice t n parts).run P w = .ok (.slice (some ⟨w.heap.size, 0, none⟩) n n) (w.alloc (.cells cells e)) := by
  have hne : ¬ n * size = 0 := by
    have := Nat.mul_pos hn h0
    omega
  have hle : ¬ 16777216 < n * size := by
    have := Nat.mul_le_mul hn9 h24
    omega
  have hf2 := hf ((Array.range (n * size)).map (z.cells[· % z.cells.size]!)) (by simp)
  have hnr : (newRow e cells).run P w = .ok ⟨w.heap.size, 0, none⟩ (w.alloc (.cells cells e)) := rfl
  simp [Instr.buildSlice, run_underlying ht, sizeOf, typeInfo, hi, hsize, hz, hle, hne, hf2]
  rw [hnr]
  rfl
theorem fill_two (size : Nat) (F G : Array Value) (hF : F.size = size) (hG : G.size = size) (C : Array Value) (hC : C.size = 2 * size) : Instr.fill (fun i => some (i * size, size)) C [(0, .agg F), (1, .agg G)] = some (F.toList ++ G.toList).toArray := by
  have hcF : (Value.agg F).cells = F := rfl
  have hcG : (Value.agg G).cells = G := rfl
  unfold Instr.fill
  simp only [hcF, Nat.zero_mul, Nat.zero_add, hF]
  rw [if_neg (by simp; omega)]
  have e1 := pfill_one F 0 C (by omega)
  simp only [Nat.zero_add] at e1
  rw [e1, List.take_zero, List.nil_append, hF]
  unfold Instr.fill
  have hl : (F.toList ++ C.toList.drop size).toArray.size = 2 * size := by simp [hF, hC]; omega
  simp only [hcG, Nat.one_mul, hG]
  rw [if_neg (by rw [hl]; simp; omega), pfill_one G size _ (by rw [hl, hG]; omega)]
  unfold Instr.fill
  have e2 : (F.toList ++ C.toList.drop size).take size = F.toList := by rw [List.take_append_of_le_length (by simp [hF]), List.take_of_length_le (by simp [hF])]
  have e3 : (F.toList ++ C.toList.drop size).drop (size + size) = [] := List.drop_of_length_le (by simp [hF, hC]; omega)
  rw [hG, e2, e3, List.append_nil]
theorem fill_three (size : Nat) (F G H : Array Value) (hF : F.size = size) (hG : G.size = size) (hH : H.size = size) (C : Array Value) (hC : C.size = 3 * size) : Instr.fill (fun i => some (i * size, size)) C [(0, .agg F), (1, .agg G), (2, .agg H)] = some (F.toList ++ G.toList ++ H.toList).toArray := by
  have hcF : (Value.agg F).cells = F := rfl
  have hcG : (Value.agg G).cells = G := rfl
  have hcH : (Value.agg H).cells = H := rfl
  unfold Instr.fill
  simp only [hcF, Nat.zero_mul, Nat.zero_add, hF]
  rw [if_neg (by simp; omega)]
  have e1 := pfill_one F 0 C (by omega)
  simp only [Nat.zero_add] at e1
  rw [e1, List.take_zero, List.nil_append, hF]
  unfold Instr.fill
  have hl : (F.toList ++ C.toList.drop size).toArray.size = 3 * size := by simp [hF, hC]; omega
  simp only [hcG, Nat.one_mul, hG]
  rw [if_neg (by rw [hl]; simp; omega), pfill_one G size _ (by rw [hl, hG]; omega)]
  have e2 : (F.toList ++ C.toList.drop size).take size = F.toList := by rw [List.take_append_of_le_length (by simp [hF]), List.take_of_length_le (by simp [hF])]
  have e3 : (F.toList ++ C.toList.drop size).drop (size + size) = C.toList.drop (3 * size - size) := by
    rw [List.drop_append, List.drop_of_length_le (by simp [hF]), List.nil_append, List.drop_drop, Array.length_toList, hF]
    congr 1
    omega
  rw [hG, e2, e3]
  unfold Instr.fill
  have hl2 : (F.toList ++ G.toList ++ C.toList.drop (3 * size - size)).toArray.size = 3 * size := by simp [hF, hG, hC]; omega
  simp only [hcH, hH]
  rw [if_neg (by rw [hl2]; simp; omega), pfill_one H (2 * size) _ (by rw [hl2, hH]; omega)]
  unfold Instr.fill
  have e4 : (F.toList ++ G.toList ++ C.toList.drop (3 * size - size)).take (2 * size) = F.toList ++ G.toList := by rw [List.take_append_of_le_length (by simp [hF, hG]; omega), List.take_of_length_le (by simp [hF, hG]; omega)]
  have e5 : (F.toList ++ G.toList ++ C.toList.drop (3 * size - size)).drop (2 * size + size) = [] := List.drop_of_length_le (by simp [hF, hG, hC]; omega)
  rw [hH, e4, e5, List.append_nil]
end
end Go.Proofs.Ytfjgpnjhmfcpiaa
