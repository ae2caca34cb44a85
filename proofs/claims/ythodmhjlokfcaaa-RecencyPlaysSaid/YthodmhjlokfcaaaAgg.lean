/- A slice literal of one array or struct: its cells lie in a new block, as they were. No program is named here. -/
import Derived.Test.YthodmhjlokfcaaaMem
import Derived.Laws.Build
import Derived.Laws.MakeOwn
namespace Go.Proofs.Ythodmhjlokfcaaa
open Go.RowKit

theorem foldl_fill (l : List Value) : ∀ (k : Nat) (cs : Array Value), k + l.length = cs.size → (l.zipIdx k).foldl (fun cs x => cs.setIfInBounds x.2 x.1) cs = (cs.toList.take k ++ l).toArray := by
  induction l with
  | nil =>
    intro k cs h
    simp only [List.length_nil, Nat.add_zero] at h
    rw [List.zipIdx_nil, List.foldl_nil, List.append_nil, List.take_of_length_le (by rw [Array.length_toList]; omega)]
  | cons v l ih =>
    intro k cs h
    rw [List.length_cons] at h
    rw [List.zipIdx_cons, List.foldl_cons, ih (k + 1) _ (by simp; omega)]
    have hk : k < cs.toList.length := by rw [Array.length_toList]; omega
    congr 1
    rw [Array.toList_setIfInBounds, List.take_add_one, List.take_set, List.set_eq_of_length_le (by simp; omega), List.getElem?_set, if_pos rfl, if_pos hk]
    simp

section
variable {P : Program} (w : World)
theorem run_build_agg (t e : TypeId) (i : TypeInfo) (z : Value) (size : Nat) (ht : P.underlying t = some (.slice e)) (hi : P.info? e = some i) (hz : (zeroValue e).run P w = .ok z w) (hsize : i.size = size) (h0 : 0 < size) (h24 : size ≤ 16777216)
    (F : Array Value) (hF : F.size = size) : (Instr.buildSlice t 1 #[(0, .agg F)]).run P w = .ok (.slice (some ⟨w.heap.size, 0, none⟩) 1 1) (w.alloc (.cells F e)) := by
  have hne : ¬ size = 0 := by omega
  have hle : ¬ 16777216 < size := by omega
  have hc : (Value.agg F).cells = F := rfl
  have hfill : ∀ C : Array Value, C.size = size → (F.zipIdx.foldl (fun cs x => cs.setIfInBounds x.2 x.1) C 0 size) = F := by
    intro C hC
    have e : F.zipIdx.size = size := by simp [hF]
    rw [← e]
    have := foldl_fill F.toList 0 C (by rw [Array.length_toList]; omega)
    rw [← Array.foldl_toList]
    simpa using this
  simp [Instr.buildSlice, run_underlying ht, sizeOf, typeInfo, hi, hsize, hz, Instr.fill, hne, hle, hc, hF]
  rw [hfill _ (by simp)]
  have hnr : (newRow e F).run P w = .ok ⟨w.heap.size, 0, none⟩ (w.alloc (.cells F e)) := rfl
  rw [hnr]
  rfl

/-- 'append(l, x)' of one array or struct first lays it in a new block: this is that step. -/
theorem wpList_build_agg {ops : Array Oper} {rest : List Oper} {o : Oper} {a : Act} {Q : Exit → Act → World → Prop} (hgd : o.guard = none) (x : Operand) (t : TypeId) (ho : o.op = .buildSlice t 1 #[(0, x)])
    (e : TypeId) (i : TypeInfo) (z : Value) (size : Nat) (ht : P.underlying t = some (.slice e)) (hi : P.info? e = some i) (hz : (zeroValue e).run P w = .ok z w) (hsize : i.size = size) (h0 : 0 < size) (h24 : size ≤ 16777216)
    (F : Array Value) (hx : a.eval x = .agg F) (hF : F.size = size)
    (h : wpList P ops Q rest (a.put o.dst (.slice (some ⟨w.heap.size, 0, none⟩) 1 1)) (w.alloc (.cells F e))) : wpList P ops Q (o :: rest) a w :=
  wpList_plain hgd fun _ hK => by
    have hrun := run_build_agg (P := P) w t e i z size ht hi hz hsize h0 h24 F hF
    unfold Oper.wp
    simp [execOp, ho, hx, hrun, Result.andThen]
    exact hK _ _ h
/-- 'make([]T, n)' of one-cell elements, the new block's cells as a list. -/
theorem run_make_list (t e : TypeId) (i : TypeInfo) (z : Value) (ht : P.underlying t = some (.slice e)) (hi : P.info? e = some i) (hz : i.zero = some z) (h1 : i.size = 1) (hzc : z.cells = #[z]) (n : Nat) (F : List Value) (hF : F = List.replicate n z)
    (hb : i.bytes * n ≤ 281474976710656) (h63 : n ≤ 9223372036854775807) :
    (Instr.makeSlice t (.int .i64 (n : Int)) (.int .i64 (n : Int))).run P w = .ok (.slice (some ⟨w.heap.size, 0, none⟩) n n) (w.alloc (.cells F.toArray e)) := by
  have hb' : (i.bytes : Int) * (n : Int) ≤ 281474976710656 := by rw [← Int.natCast_mul]; omega
  have hr := run_make (P := P) w t e i z ht hi hz .i64 .i64 n n (by omega) (Int.le_refl _) hb' (by omega)
  simp only [Int.toNat_natCast, h1, Nat.mul_one, hzc] at hr
  rw [hr, hF, ← toList_madeCells_one]
/-- The cells of a new block, n elements of them. -/
theorem Reads.fresh (F : List Value) (t : TypeId) (B size n : Nat) (hB : w.heap.size < B) (hF : F.length = n * size) : Reads (w.alloc (.cells F.toArray t)) B size (some ⟨w.heap.size, 0, none⟩) n F := by
  refine ⟨hF, fun _ => ⟨_, rfl, hB, fun j u hu => ?_⟩⟩
  have hadd : (⟨w.heap.size, 0, none⟩ : Addr).add j = ⟨w.heap.size, j, none⟩ := by unfold Addr.add; split <;> simp_all
  rw [hadd, World.cell?_alloc_mark]
  simpa using hu
/-- The cells of a new block, one element of them. -/
theorem Reads.lump (F : List Value) (t : TypeId) (B size : Nat) (hB : w.heap.size < B) (hF : F.length = size) : Reads (w.alloc (.cells F.toArray t)) B size (some ⟨w.heap.size, 0, none⟩) 1 F := by
  refine ⟨by omega, fun _ => ⟨_, rfl, hB, fun j u hu => ?_⟩⟩
  have hadd : (⟨w.heap.size, 0, none⟩ : Addr).add j = ⟨w.heap.size, j, none⟩ := by unfold Addr.add; split <;> simp_all
  rw [hadd, World.cell?_alloc_mark]
  simpa using hu
end
end Go.Proofs.Ythodmhjlokfcaaa
