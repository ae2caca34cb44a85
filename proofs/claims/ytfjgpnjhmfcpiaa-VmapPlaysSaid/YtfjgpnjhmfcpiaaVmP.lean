/- Where blocks are, as plain data: a row of places; what each call answers and leaves. No program is named here. -/
import Derived.Below
namespace Go.Proofs.Ytfjgpnjhmfcpiaa
open Go.RowKit
set_option linter.unusedVariables false

/-- A place. -/
structure Wh where
  t : Int
  g : Int
  s : Int
  deriving DecidableEq
namespace Wh
def none_ : Wh := ⟨0, 0, 0⟩
def ok (w : Wh) : Bool := if w.t = 0 then decide (w.g = 0 ∧ w.s = 0) else if w.t = 1 then decide (0 ≤ w.s ∧ w.s < 8 ∧ 0 ≤ w.g ∧ w.g < 256) else if w.t = 2 then decide (0 ≤ w.s ∧ w.s < 88 ∧ 0 ≤ w.g ∧ w.g < 256) else false
/-- Its numbers fit. -/
def fits (w : Wh) : Prop := (-9223372036854775808 ≤ w.t ∧ w.t < 9223372036854775808) ∧ (-9223372036854775808 ≤ w.g ∧ w.g < 9223372036854775808) ∧ (-9223372036854775808 ≤ w.s ∧ w.s < 9223372036854775808)
theorem ok_fits {w : Wh} (h : w.ok = true) : w.fits := by
  unfold ok at h
  unfold Wh.fits
  split at h
  · have := of_decide_eq_true h; omega
  · split at h
    · have := of_decide_eq_true h; omega
    · split at h
      · have := of_decide_eq_true h; omega
      · cases h
theorem none_ok : none_.ok = true := rfl
theorem none_fits : none_.fits := ok_fits none_ok
end Wh
/-- A change. -/
abbrev Ch := Int × Wh
def whC (w : Wh) : List Value := [.int .i64 w.t, .int .i64 w.g, .int .i64 w.s]
def chC (c : Ch) : List Value := .int .i64 c.1 :: whC c.2
def whsL (V : List Wh) : List Value := V.flatMap whC
def chsL (L : List Ch) : List Value := L.flatMap chC
theorem flat_len {α : Type} (c : α → List Value) (k : Nat) (hc : ∀ x, (c x).length = k) : ∀ L : List α, (L.flatMap c).length = L.length * k
  | [] => by simp
  | x :: L => by rw [List.flatMap_cons, List.length_append, hc, flat_len c k hc L, List.length_cons, Nat.add_mul, Nat.one_mul, Nat.add_comm]
theorem flat_cell {α : Type} (c : α → List Value) (k : Nat) (hc : ∀ x, (c x).length = k) : ∀ (L : List α) (i j : Nat) (x : α), L[i]? = some x → j < k → (L.flatMap c)[i * k + j]? = (c x)[j]?
  | [], i, j, x, h, _ => by simp at h
  | y :: L, 0, j, x, h, hj => by
    have e : y = x := by simpa using h
    subst e
    rw [List.flatMap_cons, Nat.zero_mul, Nat.zero_add, List.getElem?_append_left (by rw [hc]; exact hj)]
  | y :: L, i + 1, j, x, h, hj => by
    have h2 : L[i]? = some x := by simpa using h
    rw [List.flatMap_cons, Nat.add_mul, Nat.one_mul, List.getElem?_append_right (by rw [hc]; omega), hc, ← flat_cell c k hc L i j x h2 hj]
    congr 1
    omega
theorem whC_len (w : Wh) : (whC w).length = 3 := rfl
theorem chC_len (c : Ch) : (chC c).length = 4 := rfl
theorem whsL_len (V : List Wh) : (whsL V).length = V.length * 3 := flat_len whC 3 whC_len V
theorem chsL_len (L : List Ch) : (chsL L).length = L.length * 4 := flat_len chC 4 chC_len L
theorem whsL_at {V : List Wh} {i : Nat} {w : Wh} (h : V[i]? = some w) (j : Nat) (v : Value) (hv : (whC w)[j]? = some v) : (whsL V)[i * 3 + j]? = some v := by
  have hj : j < 3 := by rw [← whC_len w]; exact (List.getElem?_eq_some_iff.1 hv).1
  exact (flat_cell whC 3 whC_len V i j w h hj).trans hv
theorem chsL_at {L : List Ch} {i : Nat} {c : Ch} (h : L[i]? = some c) (j : Nat) (v : Value) (hv : (chC c)[j]? = some v) : (chsL L)[i * 4 + j]? = some v := by
  have hj : j < 4 := by rw [← chC_len c]; exact (List.getElem?_eq_some_iff.1 hv).1
  exact (flat_cell chC 4 chC_len L i j c h hj).trans hv
theorem flat_set {α : Type} (c : α → List Value) (k : Nat) (hc : ∀ x, (c x).length = k) : ∀ (L : List α) (i : Nat) (x : α), i < L.length → (L.set i x).flatMap c = (L.flatMap c).take (i * k) ++ c x ++ (L.flatMap c).drop (i * k + k)
  | [], i, x, h => by simp at h
  | y :: L, 0, x, h => by
    rw [List.set_cons_zero, List.flatMap_cons, List.flatMap_cons, Nat.zero_mul, List.take_zero, List.nil_append, Nat.zero_add, List.drop_append_of_le_length (by rw [hc]; omega), List.drop_of_length_le (by rw [hc]; omega), List.nil_append]
  | y :: L, i + 1, x, h => by
    have h2 : i < L.length := by simpa using h
    have ek : (i + 1) * k = k + i * k := by rw [Nat.add_mul, Nat.one_mul, Nat.add_comm]
    rw [List.set_cons_succ, List.flatMap_cons, List.flatMap_cons, flat_set c k hc L i x h2, ek, List.take_append, List.drop_append, List.take_of_length_le (l := c y) (by rw [hc]; omega), List.drop_of_length_le (l := c y) (by rw [hc]; omega), hc, List.nil_append]
    have e1 : k + i * k - k = i * k := by omega
    have e2 : k + i * k + k - k = i * k + k := by omega
    rw [e1, e2]
    simp [List.append_assoc]

/-! ### What the calls answer -/
def clampN (n : Int) : Nat := if n < 1 then 1 else if 96 < n then 96 else n.toNat
theorem clampN_le (n : Int) : 1 ≤ clampN n ∧ clampN n ≤ 96 := by
  unfold clampN
  split
  · omega
  · split <;> omega
def newV (n : Int) : List Wh := List.replicate (clampN n) Wh.none_
def chgs (V : List Wh) (L : List Ch) : List Wh := L.foldl (fun V c => V.set c.1.toNat c.2) V
/-- No two are at one place. -/
def Dis (V : List Wh) : Prop := V.Pairwise fun a b => a = b → a.t = 0
instance (V : List Wh) : Decidable (Dis V) := inferInstanceAs (Decidable (V.Pairwise _))
def inB (n : Nat) (b : Int) : Bool := decide (0 ≤ b ∧ b < (n : Int))
def badE (n : Nat) (L : List Ch) : Nat := if L.all (fun c => inB n c.1) = true then (if L.all (fun c => c.2.ok) = true then 0 else 1) else 3
def setE (V : List Wh) (L : List Ch) : Nat := if badE V.length L = 0 then (if Dis (chgs V L) then 0 else 9) else badE V.length L
def setV (V : List Wh) (L : List Ch) : List Wh := if setE V L = 0 then chgs V L else V
def hold (V : List Wh) (w : Wh) : Option Nat := if w.t = 0 then none else V.findIdx? fun x => x == w
def atW (V : List Wh) (b : Int) : Wh := if inB V.length b then V.getD b.toNat Wh.none_ else Wh.none_
def atE (V : List Wh) (b : Int) : Nat := if inB V.length b then 0 else 3
def inUp (V : List Wh) (g : Int) (k : Nat) : List Nat := (List.range k).filter fun i => decide ((V.getD i Wh.none_).t ≠ 0 ∧ (V.getD i Wh.none_).g = g)
def inG (V : List Wh) (g : Int) : List Nat := inUp V g V.length
/-- What holds of every map. -/
structure OkV (V : List Wh) : Prop where
  dis : Dis V
  ok : ∀ w ∈ V, w.ok = true
  one : 1 ≤ V.length
  few : V.length ≤ 96
section
variable {V : List Wh} {L : List Ch}
theorem chgs_len : ∀ (L : List Ch) (V : List Wh), (chgs V L).length = V.length
  | [], V => rfl
  | c :: L, V => by
    show (chgs (V.set c.1.toNat c.2) L).length = _
    rw [chgs_len L, List.length_set]
theorem chgs_snoc (V : List Wh) (L : List Ch) (c : Ch) : chgs V (L ++ [c]) = (chgs V L).set c.1.toNat c.2 := by
  unfold chgs
  rw [List.foldl_append]
  rfl
theorem mem_set_or {α : Type} {l : List α} {i : Nat} {x y : α} (h : y ∈ l.set i x) : y = x ∨ y ∈ l := by
  rcases List.mem_or_eq_of_mem_set h with h | h
  · exact .inr h
  · exact .inl h
theorem chgs_ok : ∀ (L : List Ch) (V : List Wh), (∀ c ∈ L, c.2.ok = true) → (∀ w ∈ V, w.ok = true) → ∀ w ∈ chgs V L, w.ok = true
  | [], V, _, hV, w, hw => hV w hw
  | c :: L, V, hL, hV, w, hw => chgs_ok L (V.set c.1.toNat c.2) (fun d hd => hL d (List.mem_cons_of_mem _ hd)) (fun x hx => by
      rcases mem_set_or hx with rfl | hx
      · exact hL c (List.mem_cons_self ..)
      · exact hV x hx) w hw
theorem badE_zero {n : Nat} (h : badE n L = 0) : (∀ c ∈ L, inB n c.1 = true) ∧ ∀ c ∈ L, c.2.ok = true := by
  unfold badE at h
  split at h
  · rename_i h1
    split at h
    · rename_i h2
      exact ⟨List.all_eq_true.1 h1, List.all_eq_true.1 h2⟩
    · cases h
  · cases h
theorem setE_cases (V : List Wh) (L : List Ch) : setE V L = 0 ∨ setE V L = 1 ∨ setE V L = 3 ∨ setE V L = 9 := by
  unfold setE badE
  repeat' split
  all_goals simp_all
theorem setV_yes (h : setE V L = 0) : setV V L = chgs V L := if_pos h
theorem setV_no (h : setE V L ≠ 0) : setV V L = V := if_neg h
theorem setV_len (V : List Wh) (L : List Ch) : (setV V L).length = V.length := by
  unfold setV
  split
  · exact chgs_len L V
  · rfl
theorem setE_good (h : setE V L = 0) : badE V.length L = 0 ∧ Dis (chgs V L) := by
  unfold setE at h
  split at h
  · rename_i hb
    split at h
    · rename_i hd
      exact ⟨hb, hd⟩
    · cases h
  · rename_i hb
    exact absurd h hb
theorem OkV.set (h : OkV V) (L : List Ch) : OkV (setV V L) := by
  by_cases he : setE V L = 0
  · obtain ⟨h1, h2⟩ := setE_good he
    have hl : (chgs V L).length = V.length := chgs_len L V
    rw [setV_yes he]
    exact ⟨h2, chgs_ok L V (badE_zero h1).2 h.ok, by rw [hl]; exact h.one, by rw [hl]; exact h.few⟩
  · rw [setV_no he]
    exact h
theorem OkV.new (n : Int) : OkV (newV n) := by
  have hc := clampN_le n
  refine ⟨?_, fun w hw => ?_, by unfold newV; rw [List.length_replicate]; exact hc.1, by unfold newV; rw [List.length_replicate]; exact hc.2⟩
  · unfold Dis newV
    exact List.pairwise_replicate.2 (.inr fun _ => rfl)
  · rw [List.eq_of_mem_replicate hw]
    rfl
/-! ### A row of places, seen from its front -/
theorem take_snoc {α : Type} {l : List α} {k : Nat} {x : α} (h : l[k]? = some x) : l.take (k + 1) = l.take k ++ [x] := by
  obtain ⟨hk, hx⟩ := List.getElem?_eq_some_iff.1 h
  rw [List.take_add_one, h]
  rfl
theorem Dis.take (h : Dis V) (k : Nat) : Dis (V.take k) := h.sublist (List.take_sublist _ _)
theorem dis_snoc {w : Wh} : Dis (V ++ [w]) ↔ Dis V ∧ (w.t = 0 ∨ w ∉ V) := by
  unfold Dis
  rw [List.pairwise_append]
  constructor
  · rintro ⟨h1, _, h2⟩
    refine ⟨h1, ?_⟩
    by_cases ht : w.t = 0
    · exact .inl ht
    · exact .inr fun hm => ht (h2 w hm w (List.mem_singleton.2 rfl) rfl)
  · rintro ⟨h1, h2⟩
    refine ⟨h1, List.pairwise_singleton _ _, fun a ha b hb e => ?_⟩
    have hb := List.mem_singleton.1 hb
    subst hb
    subst e
    rcases h2 with h2 | h2
    · exact h2
    · exact absurd ha h2
theorem hold_nil (w : Wh) : hold [] w = none := by
  unfold hold
  split <;> rfl
theorem hold_none (w : Wh) : hold V w = none ↔ w.t = 0 ∨ w ∉ V := by
  unfold hold
  split
  · rename_i h
    exact ⟨fun _ => .inl h, fun _ => rfl⟩
  · rename_i h
    rw [List.findIdx?_eq_none_iff]
    constructor
    · intro h2
      exact .inr fun hm => by have := h2 w hm; simp at this
    · rintro (h2 | h2) x hx
      · exact absurd h2 h
      · simp only [beq_eq_false_iff_ne, ne_eq]
        rintro rfl
        exact h2 hx
theorem hold_snoc_other {w x : Wh} (h : x ≠ w ∨ w.t = 0) : hold (V ++ [w]) x = hold V x := by
  unfold hold
  split
  · rfl
  · rename_i hx
    rw [List.findIdx?_append]
    have hne : (w == x) = false := by
      rcases h with h | h
      · simpa using fun e => h e.symm
      · simp only [beq_eq_false_iff_ne, ne_eq]
        rintro rfl
        exact hx h
    cases V.findIdx? fun x_1 => x_1 == x with
    | none => simp [List.findIdx?_cons, hne]
    | some i => rfl
theorem hold_snoc_self {w : Wh} (ht : w.t ≠ 0) (h : w ∉ V) : hold (V ++ [w]) w = some V.length := by
  have h0 : (V.findIdx? fun x => x == w) = none := by
    rw [List.findIdx?_eq_none_iff]
    intro x hx
    simp only [beq_eq_false_iff_ne, ne_eq]
    rintro rfl
    exact h hx
  unfold hold
  rw [if_neg ht, List.findIdx?_append, h0]
  simp [List.findIdx?_cons]
/-- Who is at a place: nobody else is. -/
theorem hold_at (h : Dis V) {w : Wh} {b : Nat} (hb : V[b]? = some w) (ht : w.t ≠ 0) : hold V w = some b := by
  unfold hold
  rw [if_neg ht]
  obtain ⟨hlt, hw⟩ := List.getElem?_eq_some_iff.1 hb
  rw [List.findIdx?_eq_some_iff_getElem]
  refine ⟨hlt, by simp [hw], fun j hj => ?_⟩
  rw [beq_iff_eq]
  intro e
  have hp := List.pairwise_iff_getElem.1 h j b (by omega) hlt hj (e.trans hw.symm)
  rw [e] at hp
  exact ht hp
theorem hold_lt {w : Wh} {b : Nat} (h : hold V w = some b) : b < V.length ∧ V[b]? = some w ∧ w.t ≠ 0 := by
  unfold hold at h
  split at h
  · cases h
  · rename_i ht
    obtain ⟨hlt, h2, _⟩ := List.findIdx?_eq_some_iff_getElem.1 h
    exact ⟨hlt, by rw [List.getElem?_eq_getElem hlt]; simpa using h2, ht⟩
theorem inUp_succ (V : List Wh) (g : Int) (k : Nat) : inUp V g (k + 1) = if (V.getD k Wh.none_).t ≠ 0 ∧ (V.getD k Wh.none_).g = g then inUp V g k ++ [k] else inUp V g k := by
  unfold inUp
  rw [List.range_succ, List.filter_append]
  split
  · rename_i h
    rw [List.filter_cons_of_pos (by simpa using h)]
    rfl
  · rename_i h
    rw [List.filter_cons_of_neg (by simpa using h)]
    simp
theorem inUp_len (V : List Wh) (g : Int) (k : Nat) : (inUp V g k).length ≤ k := by
  have := List.length_filter_le (fun i => decide ((V.getD i Wh.none_).t ≠ 0 ∧ (V.getD i Wh.none_).g = g)) (List.range k)
  rw [List.length_range] at this
  exact this
theorem getD_at {i : Nat} {w : Wh} (h : V[i]? = some w) : V.getD i Wh.none_ = w := by
  rw [List.getD_eq_getElem?_getD, h]
  rfl
end
end Go.Proofs.Ytfjgpnjhmfcpiaa
