/- A row of sectors of a law's own: made by an append, one of them written over, read again. -/
import Derived.Test.YtdebdkagmnccjaaParS
import Derived.Test.YtdebdkagmnccjaaArgI
import Derived.Test.YtdebdkagmnccjaaStepB
namespace Go.Proofs.Ytdebdkagmnccjaa
open Go.RowKit
theorem psec_parts0 : ∃ i0, Try.prog.info? 24 = some i0 ∧ i0.zero = some (.agg (Array.replicate 64 (.int .u8 0))) ∧ i0.size = 64 ∧ i0.bytes = 64 := info_parts psec_parts
theorem wpList_none64 {ops : Array Oper} {rest : List Oper} {o : Oper} {ac : Act} {w : World} {Q : Exit → Act → World → Prop} (hgd : o.guard = none) (ho : o.op = .buildSlice 22 0 #[])
    (h : wpList Try.prog ops Q rest (ac.put o.dst (.slice (some ⟨w.heap.size, 0, none⟩) 0 0)) (w.alloc (.cells #[] 24))) : wpList Try.prog ops Q (o :: rest) ac w :=
  wpList_plain hgd fun _ hK => by
    have hrun : (Instr.buildSlice 22 0 #[]).run Try.prog w = .ok (.slice (some ⟨w.heap.size, 0, none⟩) 0 0) (w.alloc (.cells #[] 24)) := by kernel_rfl
    unfold Oper.wp
    simp [execOp, ho, hrun, Result.andThen]
    exact hK _ _ h
/-- The first sectors of bytes, as a list of sectors. -/
def cutS (l : List UInt8) (m : Nat) : List (List UInt8) := secsOf (l.take (m * 64)) m
section
variable {w : World} {A : Option Addr} {n c m B : Nat} {l : List UInt8}
theorem cut_all (hr : Reads w B 64 A n (B8 l)) (hm : m ≤ n) : Secs (cutS l m) ∧ (cutS l m).length = m ∧ Reads w B 64 A m (B8 (cutS l m).flatten) := by
  have hlb : l.length = n * 64 := by have := hr.1; rwa [B8_length] at this
  have hml : (l.take (m * 64)).length = m * 64 := by
    rw [List.length_take, hlb]
    have := Nat.mul_le_mul_right 64 hm
    omega
  refine ⟨secs_of hml, secsOf_length _ _, ?_⟩
  unfold cutS
  rw [flat_secs m _ hml, ← B8_take]
  exact hr.head hm
end
/-- A row of sectors of one's own, in a block at or above the base. -/
structure RowS (w : World) (base : Nat) (A : Option Addr) (cp : Nat) (L : List (List UInt8)) : Prop where
  own : w.ownsRow base 24 64 (.slice A L.length cp) L.length (B8 L.flatten)
  secs : Secs L
section
variable {w w' : World} {base cp q : Nat} {A : Option Addr} {L : List (List UInt8)} {s f : List UInt8}
theorem RowS.later (h : RowS w base A cp L) (hb : Below w.heap.size w w') : RowS w' base A cp L := ⟨own_later h.own hb, h.secs⟩
theorem RowS.reads (h : RowS w base A cp L) : Reads w w.heap.size 64 A L.length (B8 L.flatten) := Reads.of_own h.own
theorem RowS.cap (h : RowS w base A cp L) : L.length ≤ cp ∧ cp ≤ 9223372036854775807 := by
  obtain ⟨_, _, e, h1, h2⟩ := own_shape h.own
  injection e with e1 e2 e3
  subst e3
  exact ⟨h1, by simpa [maxLen] using h2⟩
theorem flat_at : ∀ {L : List (List UInt8)} {q : Nat} {s : List UInt8}, Secs L → L[q]? = some s → secAt L.flatten q = s
  | [], q, s, _, h => by simp at h
  | x :: L, 0, s, hL, h => by
    have e : x = s := by simpa using h
    subst e
    have hx := hL.head
    unfold secAt
    rw [Nat.zero_mul, List.drop_zero, List.flatten_cons, List.take_append_of_le_length (by omega), List.take_of_length_le (by omega)]
  | x :: L, q + 1, s, hL, h => by
    have ih := flat_at (L := L) (q := q) (s := s) hL.tail (by simpa using h)
    have hx := hL.head
    unfold secAt at ih ⊢
    rw [List.flatten_cons, List.drop_append, List.drop_of_length_le (by omega), List.nil_append, hx, show (q + 1) * 64 - 64 = q * 64 by omega]
    exact ih
theorem flat_set : ∀ {L : List (List UInt8)} {q : Nat}, Secs L → q < L.length → ∀ f : List UInt8, (L.set q f).flatten = L.flatten.take (q * 64) ++ f ++ L.flatten.drop (q * 64 + 64)
  | [], q, _, h, _ => by simp at h
  | x :: L, 0, hL, _, f => by
    have hx := hL.head
    rw [List.set_cons_zero, List.flatten_cons, List.flatten_cons, Nat.zero_mul, Nat.zero_add, List.take_zero, List.nil_append, List.drop_append_of_le_length (by omega), List.drop_of_length_le (by omega), List.nil_append]
  | x :: L, q + 1, hL, h, f => by
    have ih := flat_set (L := L) (q := q) hL.tail (by simpa using h) f
    have hx := hL.head
    rw [List.set_cons_succ, List.flatten_cons, List.flatten_cons, ih]
    have e1 : (x ++ L.flatten).take ((q + 1) * 64) = x ++ L.flatten.take (q * 64) := by
      rw [List.take_append, List.take_of_length_le (by omega), hx, show (q + 1) * 64 - 64 = q * 64 by omega]
    have e2 : (x ++ L.flatten).drop ((q + 1) * 64 + 64) = L.flatten.drop (q * 64 + 64) := by
      rw [List.drop_append, List.drop_of_length_le (by omega), List.nil_append, hx, show (q + 1) * 64 + 64 - 64 = q * 64 + 64 by omega]
    rw [e1, e2, List.append_assoc, List.append_assoc, List.append_assoc]
/-- One sector of the row reads. -/
theorem RowS.at (h : RowS w base A cp L) (hq : L[q]? = some s) : ∃ ad, A = some ad ∧ base ≤ ad.block ∧ ad.block < w.heap.size ∧ ∀ (j : Nat) (v : Value), (B8 s)[j]? = some v → w.cell? ((ad.add (q * 64)).add j) = some v := by
  have hlt := (List.getElem?_eq_some_iff.1 hq).1
  obtain ⟨ad, e, hb, hc⟩ := h.reads.sec_at hlt
  rw [flat_at h.secs hq] at hc
  subst e
  exact ⟨ad, rfl, (h.own.lt ad.block rfl).1, hb, hc⟩
/-- One sector of the row is written over. -/
theorem RowS.put (h : RowS w base A cp L) (hq : q < L.length) (hf : f.length = 64) : ∃ (g : Nat) (cur : Array Value), A = some ⟨g, 0, none⟩ ∧ base ≤ g ∧ Blk w g 24 cur ∧ q * 64 + (B8 f).length ≤ cur.size ∧
    ∀ w', Blk w' g 24 (cur.toList.take (q * 64) ++ B8 f ++ cur.toList.drop (q * 64 + (B8 f).length)).toArray → RowS w' base A cp (L.set q f) := by
  rcases h.own.2 with ⟨_, e⟩ | ⟨g, cap, cur, e, h1, h2, h3, h4, h5, h6⟩
  · omega
  · injection e with e1 e2 e3
    subst e1
    subst e3
    have hsz : L.length * 64 ≤ cur.size := by rw [h5]; exact Nat.mul_le_mul_right _ h3
    have hq64 : q * 64 + 64 ≤ L.length * 64 := by omega
    refine ⟨g, cur, rfl, h1, h2, by rw [B8_length, hf]; omega, fun w' hb => ?_⟩
    refine ⟨?_, h.secs.set hf⟩
    rw [List.length_set]
    refine ⟨?_, .inr ⟨g, cp, _, rfl, h1, hb, h3, h4, ?_, ?_⟩⟩
    · rw [B8_length, flat_length (h.secs.set hf), List.length_set]
    · rw [List.size_toArray, List.length_append, List.length_append, List.length_take, List.length_drop, B8_length, hf, Array.length_toList]
      omega
    · rw [flat_set h.secs hq, B8_append, B8_append, ← B8_take, ← B8_drop, ← h6, B8_length, hf]
      have hl1 : (cur.toList.take (q * 64)).length = q * 64 := by rw [List.length_take, Array.length_toList]; omega
      rw [List.toList_toArray, List.append_assoc, List.append_assoc, List.take_append, List.take_of_length_le (l := cur.toList.take (q * 64)) (by omega), hl1, List.take_take, Nat.min_eq_left (by omega)]
      congr 1
      rw [List.take_append, B8_length, hf, List.take_of_length_le (by rw [B8_length, hf]; omega)]
      congr 1
      rw [List.drop_take, show L.length * 64 - (q * 64 + 64) = L.length * 64 - q * 64 - 64 by omega]
/-- A sector of the row's own block. -/
theorem RowS.cells {g : Nat} {cur : Array Value} (h : RowS w base (some ⟨g, 0, none⟩) cp L) (hb : Blk w g 24 cur) (hq : L[q]? = some s) : ∀ (j : Nat) (v : Value), (B8 s)[j]? = some v → cur[q * 64 + j]? = some v := fun j v hj => by
  obtain ⟨ad, e, _, _, hc⟩ := h.at hq
  injection e with e
  subst e
  have h1 := hc j v hj
  rw [add_of_add] at h1
  have hadd : (⟨g, 0, none⟩ : Addr).add (q * 64 + j) = ⟨g, q * 64 + j, none⟩ := by unfold Addr.add; split <;> simp_all
  rw [hadd, hb.cell] at h1
  exact h1
theorem RowS.build {n : Nat} (K : ParK) (h : RowS w base A cp L) (hn : L.length = n) (h5 : n ≤ 1000) :
    Calls Try.prog 11 #[.slice A n cp] w fun e w' => e = .returned (.agg (B8 (parOf L)).toArray) ∧ Below w.heap.size w w' := by
  have h1 := h.reads
  have h2 := h.cap
  subst hn
  exact K.build_any w A _ cp L h.secs rfl h1 h2.1 h2.2 h5
theorem RowS.check {n : Nat} (K : ParK) (h : RowS w base A cp L) (hn : L.length = n) (h5 : n ≤ 1000) :
    Calls Try.prog 17 #[.slice A n cp] w fun e w' => e = .returned (.bool (decide (parOf L = zeroL))) ∧ Below w.heap.size w w' := by
  have h1 := h.reads
  have h2 := h.cap
  subst hn
  exact K.check_any w A _ cp L h.secs rfl h1 h2.1 h2.2 h5
theorem RowS.rebuild {n : Nat} (K : ParK) (h : RowS w base A cp L) (hn : L.length = n) (h5 : n ≤ 1000) (i : Int) (h3 : -9223372036854775808 ≤ i) (h4 : i ≤ 9223372036854775807) :
    Calls Try.prog 9 #[.slice A n cp, .int .i64 i] w fun e w' => e = .returned (.tuple #[.agg (B8 (rebS L i)).toArray, .int .i64 (rebE n i : Int)]) ∧ Below w.heap.size w w' := by
  have h1 := h.reads
  have h2 := h.cap
  subst hn
  exact K.rebuild_any w A _ cp L i h.secs rfl h1 h2.1 h2.2 h5 h3 h4
end
/-- Two sectors compared, in any world. -/
theorem run_eql_secs {a : Act} {ui : TypeInfo} (hui : Try.prog.info? 5 = some ui) (W : World) (o : Oper) (p q : Operand) (tr : TypeId) (ho : o.op = .binOp .eql 24 p q tr) (x y : List UInt8) (hx : x.length = 64) (hy : y.length = 64) (hp : a.eval p = .agg (B8 x).toArray) (hq : a.eval q = .agg (B8 y).toArray) (r : Bool) (hr : decide (x = y) = r) : (execOp a.eval o).run Try.prog W = .ok (.value (.bool r)) W := by
  unfold execOp
  simp only [ho, hp, hq, Sem.run_bind, run_eqGuard_agg (P := Try.prog) W .eql 24 p q _ _ (by kernel_rfl), Result.andThen_ok, run_eql_bytes (P := Try.prog) W 24 5 64 ui Try.underlying24 Try.underlying5 hui (by kernel_rfl) x y hx hy, Sem.run_pure, hr]
theorem range_of64 {w : World} {g : Nat} {T : TypeId} {l : List Value} (h : Blk w g T l.toArray) : w.rangeAt g 0 l := fun j v hj => by rw [Nat.zero_add, h.cell j]; simpa using hj
theorem run_build_none {a : Act} (W : World) (o : Oper) (ho : o.op = .build 24 #[]) : (execOp a.eval o).run Try.prog W = .ok (.value (.agg (B8 zeroL).toArray)) W := by
  unfold execOp
  have h := run_build (P := Try.prog) W 24 #[] _ psec_built
  simp only [ho, List.map_toArray, List.map_nil, Sem.run_bind, h, Result.andThen_ok, Sem.run_pure]
theorem RowS.none (w : World) (base : Nat) : RowS w base none 0 [] := ⟨World.ownsRow_nil _ _ _ _, fun s hs => by cases hs⟩
/-- From the j-th on, turned round, zeros between. -/
def turnL (L : List (List UInt8)) (j : Nat) : List (List UInt8) := (L.drop j).reverse.flatMap fun s => [s, zeroL]
theorem turn_end {L : List (List UInt8)} {j : Nat} (h : L.length ≤ j) : turnL L j = [] := by
  unfold turnL
  rw [List.drop_of_length_le h]
  rfl
theorem turn_succ {L : List (List UInt8)} {j : Nat} {s : List UInt8} (h : L[j]? = some s) : turnL L j = turnL L (j + 1) ++ [s, zeroL] := by
  obtain ⟨hlt, he⟩ := List.getElem?_eq_some_iff.1 h
  unfold turnL
  rw [List.drop_eq_getElem_cons hlt, he, List.reverse_cons, List.flatMap_append]
  simp
theorem zeros_len : ∀ l : List (List UInt8), (l.flatMap fun s => [s, zeroL]).length = 2 * l.length
  | [] => rfl
  | s :: l => by
    rw [List.flatMap_cons, List.length_append, zeros_len l, List.length_cons, List.length_cons, List.length_cons, List.length_nil]
    omega
theorem turn_len (L : List (List UInt8)) (j : Nat) : (turnL L j).length ≤ 2 * L.length := by
  unfold turnL
  rw [zeros_len, List.length_reverse, List.length_drop]
  omega
theorem turn_secs {L : List (List UInt8)} (h : Secs L) (j : Nat) : Secs (turnL L j) := fun x hx => by
  obtain ⟨s, hs, hx⟩ := List.mem_flatMap.1 hx
  have hs2 := (h.drop j).reverse s hs
  simp at hx
  rcases hx with rfl | rfl
  · exact hs2
  · exact zeroL_length
theorem par_zeros : ∀ {L : List (List UInt8)}, Secs L → parOf (L.flatMap fun s => [s, zeroL]) = parOf L
  | [], _ => rfl
  | s :: L, h => by
    have ih := par_zeros h.tail
    have hz : Secs (L.flatMap fun s => [s, zeroL]) := fun x hx => by
      obtain ⟨y, hy, hx⟩ := List.mem_flatMap.1 hx
      simp at hx
      rcases hx with rfl | rfl
      · exact h.tail _ hy
      · exact zeroL_length
    have h2 : Secs (zeroL :: L.flatMap fun s => [s, zeroL]) := fun x hx => by
      rcases List.mem_cons.1 hx with rfl | hx
      · exact zeroL_length
      · exact hz x hx
    have h1 : Secs (s :: zeroL :: L.flatMap fun s => [s, zeroL]) := fun x hx => by
      rcases List.mem_cons.1 hx with rfl | hx
      · exact h.head
      · exact h2 x hx
    rw [List.flatMap_cons]
    show parOf (s :: zeroL :: L.flatMap fun s => [s, zeroL]) = _
    rw [par_cons h1, par_cons h2, ih, zero_xorL (par_length h.tail), par_cons h]
theorem par_turn {L : List (List UInt8)} (h : Secs L) : parOf (turnL L 0) = parOf L := by
  unfold turnL
  rw [List.drop_zero, par_zeros h.reverse, par_reverse h]
theorem flat_append (L M : List (List UInt8)) : (L ++ M).flatten = L.flatten ++ M.flatten := by simp
#print axioms RowS.put
#print axioms RowS.at
#print axioms run_eql_secs
end Go.Proofs.Ytdebdkagmnccjaa
