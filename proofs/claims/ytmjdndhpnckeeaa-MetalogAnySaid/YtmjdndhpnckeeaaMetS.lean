/- Rows of strings that a law of metalog keeps; bytes read as a string in a walk. -/
import Derived.Test.YtmjdndhpnckeeaaMetL
import Derived.Test.YtmjdndhpnckeeaaArgI
import Derived.Test.YtmjdndhpnckeeaaTwoRows
import Derived.Deep.QuietTactic
import Derived.BigQuiet
namespace Go.Proofs.Ytmjdndhpnckeeaa
open Go.RowKit

def strS (r : List UInt8) : Value := .string ⟨r.toArray⟩
def strV (R : List (List UInt8)) : List Value := R.map strS
theorem strV_append (R : List (List UInt8)) (r : List UInt8) : strV (R ++ [r]) = strV R ++ [strS r] := by simp [strV]
theorem strV_length (R : List (List UInt8)) : (strV R).length = R.length := by simp [strV]
theorem strV_get {R : List (List UInt8)} {j : Nat} {r : List UInt8} (h : R[j]? = some r) : (strV R)[j]? = some (strS r) := by simp [strV, h]
theorem str_info9 : ∃ i, Try.prog.info? 9 = some i ∧ i.zero = some (.string ⟨#[]⟩) ∧ i.size = 1 ∧ i.bytes = 16 := ⟨(Try.prog.info? 9).get!, by kernel_rfl, by kernel_rfl, by kernel_rfl, by kernel_rfl⟩
theorem conv9 {w : World} {B n c : Nat} {A : Option Addr} {l : List UInt8} (h : Reads w B 1 A n (B8 l)) : (convert 32 9 (.slice A n c)).run Try.prog w = .ok (strS l) w :=
  run_conv_reads (P := Try.prog) w 32 5 9 Try.underlying32 Try.underlying5 Try.underlying9 _ A n c l h
section
variable {P : Program} {ops : Array Oper} {o : Oper} {rest : List Oper} {a : Act}
theorem wpList_conv {w : World} {Q : Exit → Act → World → Prop} (hgd : o.guard = none) (s d : TypeId) (x : Operand) (ho : o.op = .convert s d x) (v u : Value) (hx : a.eval x = u) (hrun : (convert s d u).run P w = .ok v w) (h : wpList P ops Q rest (a.put o.dst v) w) : wpList P ops Q (o :: rest) a w :=
  wpList_gives hgd v (by
    unfold execOp
    simp only [ho, hx, Sem.run_bind, hrun, Result.andThen_ok, Sem.run_pure]) h
theorem quietS_when {C : World → Prop} {Q : Act → Prop} (hw : Region.wanted o (yielded ops a.tmps) = true) (v : Value) (hrun : ∀ w, C w → (execOp a.eval o).run P w = .ok (.value v) w) (h : wpQuiet P ops C Q rest (a.put o.dst v)) : wpQuiet P ops C Q (o :: rest) a := by
  unfold wpQuiet
  rw [if_pos hw]
  exact ⟨v, fun w hC => by unfold Oper.quietAt; rw [hrun w hC]; exact ⟨rfl, rfl⟩, h⟩
theorem quietS_conv {C : World → Prop} {Q : Act → Prop} (hw : Region.wanted o (yielded ops a.tmps) = true) (s d : TypeId) (x : Operand) (ho : o.op = .convert s d x) (v u : Value) (hx : a.eval x = u) (hrun : ∀ w, C w → (convert s d u).run P w = .ok v w) (h : wpQuiet P ops C Q rest (a.put o.dst v)) : wpQuiet P ops C Q (o :: rest) a :=
  quietS_when hw v (fun w hC => by
    unfold execOp
    simp only [ho, hx, Sem.run_bind, hrun w hC, Result.andThen_ok, Sem.run_pure]) h
end
/-- The members that MetalogAny scans. -/
def anyL : List (List Nat) := [[0], [1], [2], [2, 1, 0], [0, 1, 2]]
def anyW (w : World) : World := (((((w.alloc (.cells #[.int .i64 0] 3)).alloc (.cells #[.int .i64 1] 3)).alloc (.cells #[.int .i64 2] 3)).alloc (.cells #[.int .i64 2, .int .i64 1, .int .i64 0] 3)).alloc (.cells #[.int .i64 0, .int .i64 1, .int .i64 2] 3)).alloc
  (.cells #[.slice (some ⟨w.heap.size, 0, none⟩) 1 1, .slice (some ⟨w.heap.size + 1, 0, none⟩) 1 1, .slice (some ⟨w.heap.size + 1 + 1, 0, none⟩) 1 1, .slice (some ⟨w.heap.size + 1 + 1 + 1, 0, none⟩) 3 3, .slice (some ⟨w.heap.size + 1 + 1 + 1 + 1, 0, none⟩) 3 3] 27)
theorem anyW_is (w : World) : Below w.heap.size w (anyW w) ∧ w.heap.size + 1 + 1 + 1 + 1 + 1 < (anyW w).heap.size ∧ ∀ k, k < 5 → ∃ (g n : Nat) (live : List Nat), (anyW w).cell? ⟨w.heap.size + 1 + 1 + 1 + 1 + 1, k, none⟩ = some (.slice (some ⟨g, 0, none⟩) n n) ∧ Reads (anyW w) (anyW w).heap.size 1 (some ⟨g, 0, none⟩) n (I64 (live.map Int.ofNat)) ∧ n ≤ 5 ∧ (∀ d ∈ live, d ∈ ([0, 1, 2] : List Nat)) ∧ ∃ d, d ∈ live := by
  have z : ∀ (w : World) (o : Obj), (w.alloc o).heap.size = w.heap.size + 1 := World.size_alloc
  unfold anyW
  obtain ⟨a1, e1⟩ : ∃ a, a = w.alloc (.cells #[.int .i64 0] 3) := ⟨_, rfl⟩
  have s1 : a1.heap.size = w.heap.size + 1 := by rw [e1, z]
  have l1 : Below w.heap.size w a1 := by rw [e1]; exact (Below.refl _ w).alloc (Nat.le_refl _) _
  have b0_1 : Blk a1 (w.heap.size) 3 (I64 [0]).toArray := by have h := Blk.new w 3 (I64 [0]).toArray; rw [e1]; exact h
  obtain ⟨a2, e2⟩ : ∃ a, a = a1.alloc (.cells #[.int .i64 1] 3) := ⟨_, rfl⟩
  have s2 : a2.heap.size = w.heap.size + 1 + 1 := by rw [e2, z, s1]
  have l2 : Below w.heap.size w a2 := by rw [e2]; exact l1.alloc (by omega) _
  have b0_2 : Blk a2 (w.heap.size) 3 (I64 [0]).toArray := by rw [e2]; exact b0_1.alloc _
  have b1_2 : Blk a2 (w.heap.size + 1) 3 (I64 [1]).toArray := by have h := Blk.new a1 3 (I64 [1]).toArray; rw [s1] at h; rw [e2]; exact h
  obtain ⟨a3, e3⟩ : ∃ a, a = a2.alloc (.cells #[.int .i64 2] 3) := ⟨_, rfl⟩
  have s3 : a3.heap.size = w.heap.size + 1 + 1 + 1 := by rw [e3, z, s2]
  have l3 : Below w.heap.size w a3 := by rw [e3]; exact l2.alloc (by omega) _
  have b0_3 : Blk a3 (w.heap.size) 3 (I64 [0]).toArray := by rw [e3]; exact b0_2.alloc _
  have b1_3 : Blk a3 (w.heap.size + 1) 3 (I64 [1]).toArray := by rw [e3]; exact b1_2.alloc _
  have b2_3 : Blk a3 (w.heap.size + 1 + 1) 3 (I64 [2]).toArray := by have h := Blk.new a2 3 (I64 [2]).toArray; rw [s2] at h; rw [e3]; exact h
  obtain ⟨a4, e4⟩ : ∃ a, a = a3.alloc (.cells #[.int .i64 2, .int .i64 1, .int .i64 0] 3) := ⟨_, rfl⟩
  have s4 : a4.heap.size = w.heap.size + 1 + 1 + 1 + 1 := by rw [e4, z, s3]
  have l4 : Below w.heap.size w a4 := by rw [e4]; exact l3.alloc (by omega) _
  have b0_4 : Blk a4 (w.heap.size) 3 (I64 [0]).toArray := by rw [e4]; exact b0_3.alloc _
  have b1_4 : Blk a4 (w.heap.size + 1) 3 (I64 [1]).toArray := by rw [e4]; exact b1_3.alloc _
  have b2_4 : Blk a4 (w.heap.size + 1 + 1) 3 (I64 [2]).toArray := by rw [e4]; exact b2_3.alloc _
  have b3_4 : Blk a4 (w.heap.size + 1 + 1 + 1) 3 (I64 [2, 1, 0]).toArray := by have h := Blk.new a3 3 (I64 [2, 1, 0]).toArray; rw [s3] at h; rw [e4]; exact h
  obtain ⟨a5, e5⟩ : ∃ a, a = a4.alloc (.cells #[.int .i64 0, .int .i64 1, .int .i64 2] 3) := ⟨_, rfl⟩
  have s5 : a5.heap.size = w.heap.size + 1 + 1 + 1 + 1 + 1 := by rw [e5, z, s4]
  have l5 : Below w.heap.size w a5 := by rw [e5]; exact l4.alloc (by omega) _
  have b0_5 : Blk a5 (w.heap.size) 3 (I64 [0]).toArray := by rw [e5]; exact b0_4.alloc _
  have b1_5 : Blk a5 (w.heap.size + 1) 3 (I64 [1]).toArray := by rw [e5]; exact b1_4.alloc _
  have b2_5 : Blk a5 (w.heap.size + 1 + 1) 3 (I64 [2]).toArray := by rw [e5]; exact b2_4.alloc _
  have b3_5 : Blk a5 (w.heap.size + 1 + 1 + 1) 3 (I64 [2, 1, 0]).toArray := by rw [e5]; exact b3_4.alloc _
  have b4_5 : Blk a5 (w.heap.size + 1 + 1 + 1 + 1) 3 (I64 [0, 1, 2]).toArray := by have h := Blk.new a4 3 (I64 [0, 1, 2]).toArray; rw [s4] at h; rw [e5]; exact h
  obtain ⟨a6, e6⟩ : ∃ a, a = a5.alloc (.cells #[.slice (some ⟨w.heap.size, 0, none⟩) 1 1, .slice (some ⟨w.heap.size + 1, 0, none⟩) 1 1, .slice (some ⟨w.heap.size + 1 + 1, 0, none⟩) 1 1, .slice (some ⟨w.heap.size + 1 + 1 + 1, 0, none⟩) 3 3, .slice (some ⟨w.heap.size + 1 + 1 + 1 + 1, 0, none⟩) 3 3] 27) := ⟨_, rfl⟩
  have s6 : a6.heap.size = w.heap.size + 1 + 1 + 1 + 1 + 1 + 1 := by rw [e6, z, s5]
  have l6 : Below w.heap.size w a6 := by rw [e6]; exact l5.alloc (by omega) _
  have b0_6 : Blk a6 (w.heap.size) 3 (I64 [0]).toArray := by rw [e6]; exact b0_5.alloc _
  have b1_6 : Blk a6 (w.heap.size + 1) 3 (I64 [1]).toArray := by rw [e6]; exact b1_5.alloc _
  have b2_6 : Blk a6 (w.heap.size + 1 + 1) 3 (I64 [2]).toArray := by rw [e6]; exact b2_5.alloc _
  have b3_6 : Blk a6 (w.heap.size + 1 + 1 + 1) 3 (I64 [2, 1, 0]).toArray := by rw [e6]; exact b3_5.alloc _
  have b4_6 : Blk a6 (w.heap.size + 1 + 1 + 1 + 1) 3 (I64 [0, 1, 2]).toArray := by rw [e6]; exact b4_5.alloc _
  have b5_6 : Blk a6 (w.heap.size + 1 + 1 + 1 + 1 + 1) 27 #[.slice (some ⟨w.heap.size, 0, none⟩) 1 1, .slice (some ⟨w.heap.size + 1, 0, none⟩) 1 1, .slice (some ⟨w.heap.size + 1 + 1, 0, none⟩) 1 1, .slice (some ⟨w.heap.size + 1 + 1 + 1, 0, none⟩) 3 3, .slice (some ⟨w.heap.size + 1 + 1 + 1 + 1, 0, none⟩) 3 3] := by have h := Blk.new a5 27 #[.slice (some ⟨w.heap.size, 0, none⟩) 1 1, .slice (some ⟨w.heap.size + 1, 0, none⟩) 1 1, .slice (some ⟨w.heap.size + 1 + 1, 0, none⟩) 1 1, .slice (some ⟨w.heap.size + 1 + 1 + 1, 0, none⟩) 3 3, .slice (some ⟨w.heap.size + 1 + 1 + 1 + 1, 0, none⟩) 3 3]; rw [s5] at h; rw [e6]; exact h
  rw [← e1, ← e2, ← e3, ← e4, ← e5, ← e6]
  refine ⟨l6, by omega, fun k hk => ?_⟩
  rcases (by omega : k = 0 ∨ k = 1 ∨ k = 2 ∨ k = 3 ∨ k = 4) with rfl | rfl | rfl | rfl | rfl
  · exact ⟨_, _, [0], b5_6.cell 0, Blk.readsI (xs := [0]) b0_6 rfl, by decide, by decide, 0, by decide⟩
  · exact ⟨_, _, [1], b5_6.cell 1, Blk.readsI (xs := [1]) b1_6 rfl, by decide, by decide, 1, by decide⟩
  · exact ⟨_, _, [2], b5_6.cell 2, Blk.readsI (xs := [2]) b2_6 rfl, by decide, by decide, 2, by decide⟩
  · exact ⟨_, _, [2, 1, 0], b5_6.cell 3, Blk.readsI (xs := [2, 1, 0]) b3_6 rfl, by decide, by decide, 2, by decide⟩
  · exact ⟨_, _, [0, 1, 2], b5_6.cell 4, Blk.readsI (xs := [0, 1, 2]) b4_6 rfl, by decide, by decide, 0, by decide⟩
#print axioms anyW_is
theorem run_build_str (a : Value) (ha : a.cells = #[a]) (w : World) : (Instr.buildSlice 31 1 #[(0, a)]).run Try.prog w = .ok (.slice (some ⟨w.heap.size, 0, none⟩) 1 1) (w.alloc (.cells #[a] 9)) := by
  obtain ⟨i, hi, _, hs, _⟩ := str_info9
  have hA : ∀ f : Nat → Value, (Array.map f (Array.range 1)).setIfInBounds 0 a = #[a] := by
    intro f
    apply Array.ext'
    simp [Array.toList_setIfInBounds, List.range_succ]
  simp [Instr.buildSlice, run_underlying Try.underlying31, sizeOf, typeInfo, hi, hs, Instr.fill, ha, hA]
  rfl
theorem wpList_build_str {ops : Array Oper} {rest : List Oper} {o : Oper} {a : Act} {w : World} {Q : Exit → Act → World → Prop} (hgd : o.guard = none) (x : Operand) (ho : o.op = .buildSlice 31 1 #[(0, x)]) (v : Value) (hx : a.eval x = v) (_h1 : v.oneCell' = true) (hc : v.cells = #[v])
    (hK : wpList Try.prog ops Q rest (a.put o.dst (.slice (some ⟨w.heap.size, 0, none⟩) 1 1)) (w.alloc (.cells #[v] 9))) : wpList Try.prog ops Q (o :: rest) a w :=
  wpList_plain hgd fun _ hK' => by
    have hrun := run_build_str v hc w
    unfold Oper.wp
    simp [execOp, ho, hx, hrun, Result.andThen]
    exact hK' _ _ hK
theorem rows_at {w : World} {B : Nat} {A : Option Addr} {m k : Nat} {f : Nat → BsV} {R : List (List UInt8)} (h : RowsIn w B A m k f) (hm : m = R.length) (hR : (List.range m).map (fun i => (f i).l) = R) {j : Nat} (hj : j < m) : ∃ ad A' n' c' r, A = some ad ∧ ad.block < B ∧ w.cell? (ad.add j) = some (.slice A' n' c') ∧ R[j]? = some r ∧ Reads w B 1 A' n' (B8 r) := by
  obtain ⟨ad, e, hb, hc⟩ := h.row (by omega)
  obtain ⟨h1, h2⟩ := hc j hj
  refine ⟨ad, _, _, _, (f j).l, e, hb, h1, ?_, h2.reads⟩
  rw [← hR]
  simp [hj]
#print axioms conv9
#print axioms rows_at
end Go.Proofs.Ytmjdndhpnckeeaa
