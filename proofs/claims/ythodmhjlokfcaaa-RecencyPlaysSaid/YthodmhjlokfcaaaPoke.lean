/- One cell of a block that is known whole is written. -/
import Derived.Test.YthodmhjlokfcaaaBlk
namespace Go.Proofs.Ythodmhjlokfcaaa
open Go.RowKit
section
variable {P : Program}
theorem cells_one {v : Value} (h : v.oneCell' = true) : v.cells = #[v] := by
  cases v <;> first | rfl | (simp [Value.oneCell'] at h)
theorem run_storeVar_poke (w : World) (g off : Nat) (t ty : TypeId) (cur : Array Value) (h : Blk w g t cur) (v : Value) (h1 : v.oneCell' = true) (hi : (P.info? ty).map (·.size) = some 1) (hl : off < cur.size) :
    ∃ w', (storeVar ty ⟨g, off, none⟩ v).run P w = .ok () w' ∧ Blk w' g t (cur.setIfInBounds off v) ∧ w.grownBy w' (some g) ∧ w'.heap.size = w.heap.size := by
  obtain ⟨w', h2, h3, h4, h5⟩ := run_storeVar_blk (P := P) w g off t ty cur h [v] hi (show off + 1 ≤ cur.size from hl) (fun u hu => by simp at hu; rw [hu]; exact h1)
  refine ⟨w', ?_, ?_, h4, h5⟩
  · rw [← h2]
    unfold storeVar
    rw [cells_one h1]
    rfl
  · have e : (cur.toList.take off ++ [v] ++ cur.toList.drop (off + 1)).toArray = cur.setIfInBounds off v := by
      apply Array.ext'
      rw [Array.toList_setIfInBounds, List.set_eq_take_append_cons_drop, if_pos (by simpa using hl)]
      simp
    rw [← e]
    exact h3
theorem wpList_poke {ops : Array Oper} {rest : List Oper} {o : Oper} {a : Act} {w : World} {Q : Exit → Act → World → Prop} (hgd : o.guard = none) (ty : TypeId) (x y : Operand) (ho : o.op = .store ty x y)
    (g off : Nat) (t : TypeId) (cur : Array Value) (h : Blk w g t cur) (hx : a.eval x = .pointer (some ⟨g, off, none⟩)) (v : Value) (hy : a.eval y = v) (h1 : v.oneCell' = true) (hi : (P.info? ty).map (·.size) = some 1) (hl : off < cur.size)
    (hK : ∀ w', Blk w' g t (cur.setIfInBounds off v) → w.grownBy w' (some g) → w'.heap.size = w.heap.size → wpList P ops Q rest (a.put o.dst undef) w') : wpList P ops Q (o :: rest) a w :=
  wpList_plain hgd fun _ hK' => by
    obtain ⟨w', hrun, h2, h3, h4⟩ := run_storeVar_poke (P := P) w g off t ty cur h v h1 hi hl
    unfold Oper.wp execOp
    simp only [ho, hx, hy, Instr.storeAt, Instr.sureAddr, Sem.run_bind, Sem.run_pure, Result.andThen_ok, hrun]
    exact hK' _ _ (hK w' h2 h3 h4)
end
end Go.Proofs.Ythodmhjlokfcaaa
