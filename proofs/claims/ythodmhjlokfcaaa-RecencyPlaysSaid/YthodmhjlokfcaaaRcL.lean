/- What the laws of stage 16 want without memory: touches one behind the other, when a block was touched last, rows turned. And heads and tails of slices. -/
import Derived.Test.YthodmhjlokfcaaaRcV
namespace Go.Proofs.Ythodmhjlokfcaaa
open Go.RowKit Go.Maps
set_option linter.unusedVariables false
theorem endInd {P : List Int → Prop} (h0 : P []) (h1 : ∀ l x, P l → P (l ++ [x])) : ∀ l, P l := by
  have h : ∀ n (l : List Int), l.length = n → P l := fun n => by
    induction n with
    | zero => intro l hl; rw [List.eq_nil_of_length_eq_zero hl]; exact h0
    | succ n ih =>
      intro l hl
      have hne : l ≠ [] := fun e => by rw [e] at hl; cases hl
      rw [← List.dropLast_concat_getLast hne]
      exact h1 _ _ (ih _ (by rw [List.length_dropLast]; omega))
  exact fun l => h _ l rfl
/-- Touches one behind the other. -/
def tchs (l : List Int) : List Int := l.foldl (fun L b => tch b L) []
theorem tchs_nil : tchs [] = [] := rfl
theorem tchs_snoc (l : List Int) (x : Int) : tchs (l ++ [x]) = tch x (tchs l) := by
  unfold tchs
  rw [List.foldl_append]
  rfl
theorem tchs_step {l : List Int} {k : Nat} {x : Int} (h : l[k]? = some x) : tch x (tchs (l.take k)) = tchs (l.take (k + 1)) := by rw [take_more h, tchs_snoc]
theorem tchs_nodup (l : List Int) : (tchs l).Nodup := endInd (P := fun l => (tchs l).Nodup) List.nodup_nil (fun l x h => by rw [tchs_snoc]; exact tch_nodup h) l
theorem tchs_mem (l : List Int) : ∀ x, x ∈ tchs l ↔ x ∈ l := by
  refine endInd (P := fun l => ∀ x, x ∈ tchs l ↔ x ∈ l) (fun x => Iff.rfl) (fun l y h x => ?_) l
  rw [tchs_snoc, mem_tch, h x, List.mem_append, List.mem_singleton]
theorem tchs_len (l : List Int) : (tchs l).length ≤ l.length := by
  refine endInd (P := fun l => (tchs l).length ≤ l.length) (Nat.le_refl _) (fun l y h => ?_) l
  have := tch_len y (tchs l)
  rw [tchs_snoc, List.length_append, List.length_singleton]
  omega
theorem tchs_take_len (l : List Int) (k : Nat) : (tchs (l.take k)).length ≤ k := by
  have := tchs_len (l.take k)
  rw [List.length_take] at this
  omega

/-! ### When a block was touched last -/
/-- The last place of x, or -1. -/
def lst (x : Int) : List Int → Int
  | [] => -1
  | y :: l => if 0 ≤ lst x l then lst x l + 1 else if y = x then 0 else -1
theorem lst_snoc (x y : Int) : ∀ l : List Int, lst x (l ++ [y]) = if y = x then (l.length : Int) else lst x l
  | [] => by
    show (if 0 ≤ lst x [] then lst x [] + 1 else if y = x then 0 else -1) = _
    rw [show lst x [] = -1 from rfl, if_neg (by decide)]
    rfl
  | z :: l => by
    show (if 0 ≤ lst x (l ++ [y]) then lst x (l ++ [y]) + 1 else if z = x then 0 else -1) = _
    rw [lst_snoc x y l]
    by_cases e : y = x
    · rw [if_pos e, if_pos e, if_pos (by omega), List.length_cons]
      omega
    · rw [if_neg e, if_neg e]
      rfl
theorem lst_lt (x : Int) (l : List Int) : lst x l < (l.length : Int) := by
  refine endInd (P := fun l => lst x l < (l.length : Int)) (by show (-1 : Int) < 0; decide) (fun l y h => ?_) l
  rw [lst_snoc, List.length_append, List.length_singleton]
  split <;> omega
theorem lst_low (x : Int) (l : List Int) : -1 ≤ lst x l := by
  refine endInd (P := fun l => -1 ≤ lst x l) (by show (-1 : Int) ≤ -1; decide) (fun l y h => ?_) l
  rw [lst_snoc]
  split <;> omega
theorem lst_mem (x : Int) (l : List Int) : x ∈ l → 0 ≤ lst x l := by
  refine endInd (P := fun l => x ∈ l → 0 ≤ lst x l) (fun h => by cases h) (fun l y h hx => ?_) l
  rw [lst_snoc]
  by_cases e : y = x
  · rw [if_pos e]; omega
  · rw [if_neg e]
    rw [List.mem_append, List.mem_singleton] at hx
    exact h (hx.resolve_right fun e2 => e e2.symm)
theorem lst_step {l : List Int} {k : Nat} {y : Int} (x : Int) (h : l[k]? = some y) : lst x (l.take (k + 1)) = if y = x then (k : Int) else lst x (l.take k) := by
  have hk := (List.getElem?_eq_some_iff.1 h).1
  rw [take_more h, lst_snoc, List.length_take, Nat.min_eq_left (by omega)]
/-- Blocks stand in the order of their last touches. -/
theorem tchs_ord (l : List Int) : (tchs l).Pairwise (fun a b => lst a l < lst b l) := by
  refine endInd (P := fun l => (tchs l).Pairwise (fun a b => lst a l < lst b l)) List.Pairwise.nil (fun l x h => ?_) l
  rw [tchs_snoc]
  unfold tch
  rw [List.pairwise_append]
  refine ⟨?_, by simp, fun a ha b hb => ?_⟩
  · have h2 : (wo x (tchs l)).Pairwise (fun a b => lst a l < lst b l) := h.filter _
    refine h2.imp_of_mem fun {a b} ha hb hab => ?_
    rw [lst_snoc, lst_snoc, if_neg (fun e => (mem_wo.1 ha).2 e.symm), if_neg (fun e => (mem_wo.1 hb).2 e.symm)]
    exact hab
  · rw [List.mem_singleton] at hb
    rw [lst_snoc, lst_snoc, if_neg (fun e => (mem_wo.1 ha).2 e.symm), if_pos hb.symm]
    exact lst_lt a l
theorem ord_at {l : List Int} {i j : Nat} {a b : Int} (hi : (tchs l)[i]? = some a) (hj : (tchs l)[j]? = some b) (hij : i < j) : lst a l < lst b l := by
  obtain ⟨h1, rfl⟩ := List.getElem?_eq_some_iff.1 hi
  obtain ⟨h2, rfl⟩ := List.getElem?_eq_some_iff.1 hj
  exact (List.pairwise_iff_getElem.1 (tchs_ord l)) i j h1 h2 hij
/-- How often x is there. -/
def cntI (x : Int) (l : List Int) : Nat := (l.filter fun y => decide (y = x)).length
theorem cntI_step {l : List Int} {k : Nat} {y : Int} (x : Int) (h : l[k]? = some y) : cntI x (l.take (k + 1)) = if y = x then cntI x (l.take k) + 1 else cntI x (l.take k) := by
  unfold cntI
  rw [take_more h, List.filter_append, List.length_append]
  by_cases e : y = x
  · rw [if_pos e, List.filter_cons_of_pos (by simpa using e)]
    rfl
  · rw [if_neg e, List.filter_cons_of_neg (by simpa using e)]
    rfl
theorem cntI_le (x : Int) (l : List Int) (k : Nat) : cntI x (l.take k) ≤ k := by
  unfold cntI
  have h1 := List.length_filter_le (fun y => decide (y = x)) (l.take k)
  rw [List.length_take] at h1
  omega
theorem cntI_zero {x : Int} {l : List Int} (h : x ∉ l) : cntI x l = 0 := by
  unfold cntI
  rw [List.filter_eq_nil_iff.2 (fun y hy => by simp only [decide_eq_true_eq]; exact fun e => h (by rw [← e]; exact hy))]
  rfl
theorem cntI_one {x : Int} {l : List Int} (hn : l.Nodup) (hx : x ∈ l) : cntI x l = 1 := by
  obtain ⟨A, B, rfl⟩ := List.append_of_mem hx
  rw [List.nodup_append, List.nodup_cons] at hn
  have hA : x ∉ A := fun h => hn.2.2 x h x (List.mem_cons_self ..) rfl
  have h1 := cntI_zero hA
  have h2 := cntI_zero hn.2.1.1
  unfold cntI at h1 h2 ⊢
  rw [List.filter_append, List.length_append, List.filter_cons_of_pos (by simp), List.length_cons, h1, h2]

/-! ### Rows turned -/
theorem drop_at {L : List Int} {i : Nat} {x : Int} (h : L[i]? = some x) : L.drop i = x :: L.drop (i + 1) := by
  obtain ⟨h1, h2⟩ := List.getElem?_eq_some_iff.1 h
  rw [List.drop_eq_getElem_cons h1, h2]
theorem wo_drop {L : List Int} (hu : L.Nodup) {i : Nat} {x : Int} (h : L[i]? = some x) : wo x (L.drop i) = L.drop (i + 1) := by
  have h1 := hu.sublist (List.drop_sublist i L)
  rw [drop_at h] at h1 ⊢
  rw [wo_self, wo_none (List.nodup_cons.1 h1).1]
theorem rot_step {L : List Int} (hu : L.Nodup) {i : Nat} {x : Int} (h : L[i]? = some x) : tch x (L.drop i ++ L.take i) = L.drop (i + 1) ++ L.take (i + 1) := by
  have hx : x ∉ L.take i := fun hm => by
    obtain ⟨j, hj⟩ := List.getElem?_of_mem hm
    rw [List.getElem?_take] at hj
    split at hj
    · have hjl := (List.getElem?_eq_some_iff.1 hj).1
      have := (List.getElem?_inj hjl hu).1 (hj.trans h.symm)
      omega
    · cases hj
  unfold tch
  rw [wo_append, wo_drop hu h, wo_none hx, take_more h, List.append_assoc]
theorem flip_step {L : List Int} (hu : L.Nodup) {i : Nat} {x : Int} (h : L[i]? = some x) : tch x (L.take (i + 1) ++ (L.drop (i + 1)).reverse) = L.take i ++ (L.drop i).reverse := by
  have h1 : L = L.take i ++ x :: L.drop (i + 1) := by rw [← drop_at h, List.take_append_drop]
  have h2 : (L.take i ++ x :: (L.drop (i + 1)).reverse).Nodup := by
    have h3 := hu
    rw [h1] at h3
    rw [List.nodup_append, List.nodup_cons] at h3 ⊢
    refine ⟨h3.1, ⟨fun hm => h3.2.1.1 (List.mem_reverse.1 hm), ?_⟩, fun a ha b hb => ?_⟩
    · exact List.pairwise_reverse.2 (h3.2.1.2.imp fun {a b} hab => fun e => hab e.symm)
    · rw [List.mem_cons, List.mem_reverse] at hb
      exact h3.2.2 a ha b (List.mem_cons.2 hb)
  unfold tch
  rw [take_more h, List.append_assoc, List.singleton_append, wo_mid h2, drop_at h, List.reverse_cons, List.append_assoc]
theorem rev_at {L : List Int} {i : Nat} (hi : i < L.length) : L.reverse[i]? = L[L.length - 1 - i]? := List.getElem?_reverse hi
theorem wo_less {b : Int} {L : List Int} (hu : L.Nodup) : decide (((wo b L).length : Int) < (L.length : Int)) = decide (b ∈ L) := by
  by_cases hb : b ∈ L
  · rw [decide_eq_true hb]
    obtain ⟨A, B, rfl⟩ := List.append_of_mem hb
    rw [wo_mid hu]
    refine decide_eq_true ?_
    simp only [List.length_append, List.length_cons]
    omega
  · rw [decide_eq_false hb, wo_none hb]
    exact decide_eq_false (by omega)

/-! ### Heads and tails -/
theorem run_cutI {a : Act} (W : World) (o : Oper) (x h : Operand) (ho : o.op = .slice 31 x none (some h) none) (A : Option Addr) (n c m : Nat) (hx : a.eval x = .slice A n c) (hh : a.eval h = .int .i64 (m : Int)) (hm : m ≤ c) : (execOp a.eval o).run Try.prog W = .ok (.value (.slice A m c)) W := by
  have h1 := run_slice_h (P := Try.prog) (w := W) 31 A n c Try.underlying31 .i64 (m : Int) (by omega) (by omega)
  have hs : (sizeOf (Try.prog.elem 31)).run Try.prog W = .ok 1 W := by kernel_rfl
  unfold execOp
  have h2 := run_sliceAt_slice (P := Try.prog) (w := W) 31 (.slice A n c) none (some (.int .i64 (m : Int))) none Try.underlying31
  simp [ho, hx, hh, h2, h1, hs, Result.andThen]
  cases A <;> simp [sliced, Addr.add]
theorem run_cutT {a : Act} (W : World) (o : Oper) (x h : Operand) (ho : o.op = .slice 31 x (some h) none none) (A : Option Addr) (n c m : Nat) (hx : a.eval x = .slice A n c) (hh : a.eval h = .int .i64 (m : Int)) (hm : m ≤ n) : (execOp a.eval o).run Try.prog W = .ok (.value (.slice (if c = m then A else A.map (·.add (m * 1))) (n - m) (c - m))) W := by
  have h1 := run_slice_l (P := Try.prog) (w := W) 31 A n c Try.underlying31 .i64 (m : Int) (by omega) (by omega)
  have hs : (sizeOf (Try.prog.elem 31)).run Try.prog W = .ok 1 W := by kernel_rfl
  unfold execOp
  have h2 := run_sliceAt_slice (P := Try.prog) (w := W) 31 (.slice A n c) (some (.int .i64 (m : Int))) none none Try.underlying31
  simp [ho, hx, hh, h2, h1, hs, Result.andThen, sliced]
theorem rd_head {w : World} {B n m : Nat} {A : Option Addr} {l : List Int} (h : Reads w B 1 A n (I64 l)) (hm : m ≤ n) : Reads w B 1 A m (I64 (l.take m)) := by
  have h1 := h.head hm
  unfold I64 at h1 ⊢
  rw [List.map_take]
  simpa using h1
theorem rd_tail {w : World} {B n m c : Nat} {A : Option Addr} {l : List Int} (h : Reads w B 1 A n (I64 l)) (hm : m ≤ n) (hc : n ≤ c) : Reads w B 1 (if c = m then A else A.map (·.add (m * 1))) (n - m) (I64 (l.drop m)) := by
  have h1 := h.cut hm hc
  unfold I64 at h1 ⊢
  rw [List.map_drop]
  simpa using h1
/-- The number of an argument. -/
theorem arg_num {w W : World} {A : Option Addr} {n : Nat} {l : List Int} (h : Reads w w.heap.size 1 A n (I64 l)) (hb : Below w.heap.size w W) {k : Nat} (hk : k < n) : ∃ ad x, A = some ad ∧ l[k]? = some x ∧ W.cell? (ad.add k) = some (.int .i64 x) := by
  obtain ⟨ad, x, h1, _, h2, h3⟩ := (h.below hb).i64_at hk
  exact ⟨ad, x, h1, h2, h3⟩
#print axioms flip_step
#print axioms run_cutT
end Go.Proofs.Ythodmhjlokfcaaa
