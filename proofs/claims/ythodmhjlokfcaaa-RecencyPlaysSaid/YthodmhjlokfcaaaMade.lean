/- 'make([]T, n)' of arrays or structs: the new block's cells as a list. No program is named here. -/
import Derived.Test.YthodmhjlokfcaaaBlk
import Derived.Laws.MakeOwn
namespace Go.Proofs.Ythodmhjlokfcaaa
open Go.RowKit

theorem Blk.reads {w : World} {g B off n : Nat} {t : TypeId} {xs : List UInt8} (h : Blk w g t (B8 xs).toArray) (hB : g < B) (hn : xs.length = off + n) : Reads w B 1 (some ⟨g, off, none⟩) n (B8 (xs.drop off)) := by
  refine ⟨by rw [B8_length, List.length_drop]; omega, fun _ => ⟨_, rfl, hB, fun j u hu => ?_⟩⟩
  have hadd : (⟨g, off, none⟩ : Addr).add j = ⟨g, off + j, none⟩ := by unfold Addr.add; split <;> simp_all
  rw [hadd, h.cell]
  rw [← B8_drop, List.getElem?_drop] at hu
  simpa using hu
theorem rep_at (cs : List Value) (d : Value) (h0 : 0 < cs.length) : ∀ (n j : Nat), j < n * cs.length → (List.replicate n cs).flatten[j]? = some (cs.toArray[j % cs.length]'(by rw [List.size_toArray]; exact Nat.mod_lt _ h0))
  | 0, j, h => by simp at h
  | n + 1, j, h => by
    rw [List.replicate_succ, List.flatten_cons]
    by_cases hj : j < cs.length
    · rw [List.getElem?_append_left hj, List.getElem?_eq_getElem hj]
      simp [Nat.mod_eq_of_lt hj]
    · rw [List.getElem?_append_right (by omega), rep_at cs d h0 n (j - cs.length) (by rw [Nat.add_mul, Nat.one_mul] at h; omega)]
      have e : (j - cs.length) % cs.length = j % cs.length := by
        conv => rhs; rw [show j = (j - cs.length) + cs.length by omega, Nat.add_mod_right]
      simp [e]
theorem rep_len (cs : List Value) (n : Nat) : (List.replicate n cs).flatten.length = n * cs.length := by
  induction n with
  | zero => simp
  | succ n ih => rw [List.replicate_succ, List.flatten_cons, List.length_append, ih, Nat.add_mul, Nat.one_mul, Nat.add_comm]
theorem madeCells_rep (cs : List Value) (h0 : 0 < cs.length) (n : Nat) : madeCells cs.toArray (n * cs.length) = (List.replicate n cs).flatten.toArray := by
  apply Array.ext_getElem?
  intro j
  by_cases hj : j < n * cs.length
  · have h1 := rep_at cs undef h0 n j hj
    have h2 : (List.replicate n cs).flatten.toArray[j]? = some (cs.toArray[j % cs.length]'(by rw [List.size_toArray]; exact Nat.mod_lt _ h0)) := by simpa using h1
    rw [h2]
    have hm : j % cs.length < cs.toArray.size := by rw [List.size_toArray]; exact Nat.mod_lt _ h0
    simp only [madeCells, Array.getElem?_map, Array.getElem?_range, List.size_toArray, hj, if_true, Option.map_some]
    congr 1
    rw [getElem!_pos cs.toArray _ hm]
  · rw [Array.getElem?_eq_none (by rw [size_madeCells]; omega), Array.getElem?_eq_none (by rw [List.size_toArray, rep_len]; omega)]
section
variable {P : Program}
theorem wpList_make_blk {ops : Array Oper} {rest : List Oper} {o : Oper} {a : Act} {w : World} {Q : Exit → Act → World → Prop} (hgd : o.guard = none) (l c : Operand) (t : TypeId) (ho : o.op = .makeSlice t l c)
    (e : TypeId) (i : TypeInfo) (z : Value) (zs : List Value) (ht : P.underlying t = some (.slice e)) (hi : P.info? e = some i) (hz : i.zero = some z) (hzs : z.cells = zs.toArray) (hsz : i.size = zs.length) (h0 : 0 < zs.length) (n : Nat)
    (hl : a.eval l = .int .i64 (n : Int)) (hc : a.eval c = .int .i64 (n : Int)) (hb : i.bytes * n ≤ 281474976710656) (h63 : n ≤ 9223372036854775807)
    (hK : ∀ w', Blk w' w.heap.size e (List.replicate n zs).flatten.toArray → Below w.heap.size w w' → wpList P ops Q rest (a.put o.dst (.slice (some ⟨w.heap.size, 0, none⟩) n n)) w') : wpList P ops Q (o :: rest) a w :=
  wpList_plain hgd fun _ hK' => by
    have hb' : (i.bytes : Int) * (n : Int) ≤ 281474976710656 := by rw [← Int.natCast_mul]; omega
    have hr := run_make (P := P) w t e i z ht hi hz .i64 .i64 n n (by omega) (Int.le_refl _) hb' (by omega)
    simp only [Int.toNat_natCast, hsz, hzs] at hr
    rw [madeCells_rep zs h0 n] at hr
    unfold Oper.wp
    simp [execOp, ho, hl, hc, hr, Result.andThen]
    exact hK' _ _ (hK _ (Blk.new _ _ _) ((Below.refl _ _).alloc (Nat.le_refl _) _))
end
#print axioms wpList_make_blk
end Go.Proofs.Ythodmhjlokfcaaa
