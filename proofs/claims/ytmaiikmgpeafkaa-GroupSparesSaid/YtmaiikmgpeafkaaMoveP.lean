/- A move leaves the others theirs: without the program. -/
import Derived.Test.YtmaiikmgpeafkaaGrpW
import Derived.Test.YtmaiikmgpeafkaaGrpH
namespace Go.Proofs.Ytmaiikmgpeafkaa
open Go.RowKit

theorem sumN_shift (f : Nat → Nat) : ∀ n, sumN (n + 1) f = f 0 + sumN n (fun i => f (i + 1))
  | 0 => by simp [sumN]
  | n + 1 => by
    have ih := sumN_shift f n
    show sumN (n + 1) f + f (n + 1) = f 0 + (sumN n (fun i => f (i + 1)) + f (n + 1))
    omega
theorem roomI_dec (rm : List Int) {d : Nat} (hd : d < rm.length) (e : Nat) : roomI (decR rm d) e = if e = d then roomI rm d - 1 else roomI rm e := by
  unfold decR
  show (rm.set d (roomI rm d - 1)).getD e 0 = _
  rw [List.getD_eq_getElem?_getD, List.getElem?_set]
  by_cases h : d = e
  · subst h; simp [hd]
  · rw [if_neg h, if_neg (fun h2 => h h2.symm)]
    simp [roomI, List.getD_eq_getElem?_getD]
theorem roomN_dec (rm : List Int) {d : Nat} (hd : d < rm.length) (e : Nat) : roomN (decR rm d) e = if e = d then roomN rm d - 1 else roomN rm e := by
  unfold roomN
  rw [roomI_dec rm hd]
  split <;> omega
theorem fits_cons {rm : List Int} {B : List Int} {Bs : List (List Int)} {d : Nat} (h : Fits (decR rm d) Bs) (hd : d < rm.length) (h0 : 0 < roomI rm d) (hB : (d : Int) ∉ B) : Fits rm (B :: Bs) := by
  obtain ⟨a, h1, h2⟩ := h
  refine ⟨fun i => match i with | 0 => d | j + 1 => a j, fun i hi => ?_, fun e he => ?_⟩
  · cases i with
    | zero => exact ⟨hd, hB⟩
    | succ j =>
      obtain ⟨k1, k2⟩ := h1 j (by simpa using hi)
      rw [decR_length] at k1
      exact ⟨k1, k2⟩
  · rw [List.length_cons, sumN_shift]
    have k := h2 e (by rw [decR_length]; exact he)
    rw [roomN_dec rm hd] at k
    show one (decide (d = e)) + sumN Bs.length (fun i => one (decide (a i = e))) ≤ roomN rm e
    by_cases hde : d = e
    · subst hde
      rw [if_pos rfl] at k
      have hp : 0 < roomN rm d := by unfold roomN; omega
      simp only [decide_true, one, if_true]
      simp only [one] at k
      omega
    · rw [if_neg (fun h => hde h.symm)] at k
      simp only [hde, decide_false]
      show 0 + _ ≤ _
      omega
theorem fits_tail {rm : List Int} {B : List Int} {Bs : List (List Int)} (h : Fits rm (B :: Bs)) : ∃ d, d < rm.length ∧ 0 < roomI rm d ∧ (d : Int) ∉ B ∧ Fits (decR rm d) Bs := by
  obtain ⟨a, h1, h2⟩ := h
  obtain ⟨k1, k2⟩ := h1 0 (by simp)
  have hc : ∀ e, e < rm.length → one (decide (a 0 = e)) + sumN Bs.length (fun i => one (decide (a (i + 1) = e))) ≤ roomN rm e := fun e he => by
    have := h2 e he
    rw [List.length_cons, sumN_shift] at this
    exact this
  have h0 : 0 < roomN rm (a 0) := by
    have := hc _ k1
    simp only [decide_true, one, if_true] at this
    omega
  refine ⟨a 0, k1, by unfold roomN at h0; omega, k2, fun i => a (i + 1), fun i hi => ?_, fun e he => ?_⟩
  · have := h1 (i + 1) (by simpa using hi)
    rw [decR_length]
    exact this
  · rw [decR_length] at he
    have k := hc e he
    rw [roomN_dec rm k1]
    show sumN Bs.length (fun i => one (decide (a (i + 1) = e))) ≤ _
    by_cases hde : a 0 = e
    · rw [if_pos hde.symm]
      rw [hde] at k ⊢
      simp only [decide_true] at k
      have : one true = 1 := rfl
      rw [this] at k
      omega
    · rw [if_neg (fun h => hde h.symm)]
      omega
theorem needyL_first {L : List GrV} {lost : Int} {k : Nat} {g : GrV} (hN : NoneYet (fun y : GrV => hasB y.ex lost) L k) (hg : L[k]? = some g) (hh : hasB g.ex lost = true) : needyL L lost = rise (dks g.ex) :: needyL (L.drop (k + 1)) lost := by
  obtain ⟨hk, he⟩ := List.getElem?_eq_some_iff.1 hg
  have e : L = L.take k ++ g :: L.drop (k + 1) := by
    rw [← he, ← List.drop_eq_getElem_cons hk, List.take_append_drop]
  have e0 : needyL (L.take k) lost = [] := by
    unfold needyL
    rw [List.map_eq_nil_iff, List.filter_eq_nil_iff]
    intro x hx
    obtain ⟨i, hi, hxi⟩ := List.mem_iff_getElem.1 hx
    have hil : i < k := by rw [List.length_take] at hi; omega
    have := hN i x hil (by rw [← hxi, List.getElem_take]; exact List.getElem?_eq_getElem _)
    simp [this]
  rw [show needyL L lost = needyL (L.take k ++ g :: L.drop (k + 1)) lost by rw [← e], needyL_append, e0, List.nil_append]
  show needyL ([g] ++ L.drop (k + 1)) lost = _
  rw [needyL_append]
  simp [needyL, hh]
/-- Not Safe: nobody serves. -/
theorem moveD_safe {rm : List Int} {L : List GrV} {lost : Int} {k d : Nat} {g : GrV} (hN : NoneYet (fun y : GrV => hasB y.ex lost) L k) (hg : L[k]? = some g) (hh : hasB g.ex lost = true) (hd : moveD rm g (L.drop (k + 1)) lost = some d) : safeB rm L lost = true := by
  unfold moveD at hd
  have h1 := List.find?_some hd
  have h2 := orderL_mem.1 (List.mem_of_find?_eq_some hd)
  unfold safeB
  rw [needyL_first hN hg hh, fitsB_iff]
  refine fits_cons (fitsB_iff.1 h1) h2.1 h2.2.1 ?_
  rw [(rise_perm _).mem_iff]
  exact h2.2.2
/-- Safe: somebody does. -/
theorem safe_moveD {rm : List Int} {L : List GrV} {lost : Int} {k : Nat} {g : GrV} (hN : NoneYet (fun y : GrV => hasB y.ex lost) L k) (hg : L[k]? = some g) (hh : hasB g.ex lost = true) (hs : safeB rm L lost = true) : ∃ d, moveD rm g (L.drop (k + 1)) lost = some d ∧ d ∈ orderL rm (dks g.ex) ∧ Fits (decR rm d) (needyL (L.drop (k + 1)) lost) := by
  unfold safeB at hs
  rw [needyL_first hN hg hh, fitsB_iff] at hs
  obtain ⟨d, h1, h2, h3, h4⟩ := fits_tail hs
  rw [(rise_perm _).mem_iff] at h3
  have hm : d ∈ orderL rm (dks g.ex) := orderL_mem.2 ⟨h1, h2, h3⟩
  cases hf : moveD rm g (L.drop (k + 1)) lost with
  | none =>
    unfold moveD at hf
    rw [List.find?_eq_none] at hf
    exact absurd (fitsB_iff.2 h4) (hf d hm)
  | some x =>
    have hf2 := hf
    unfold moveD at hf2
    exact ⟨x, rfl, List.mem_of_find?_eq_some hf2, fitsB_iff.1 (by have h := List.find?_some hf2; exact h)⟩
def noMove : Value := .tuple #[.int .i64 0, .int .i64 0, .bool false]
theorem moveV_none {rm : List Int} {L : List GrV} {lost : Int} (h : NoneYet (fun y : GrV => hasB y.ex lost) L L.length) : moveV rm L lost = noMove := by
  unfold moveV
  rw [idx_none h]
  rfl
theorem moveV_first {rm : List Int} {L : List GrV} {lost : Int} {k : Nat} {g : GrV} (hN : NoneYet (fun y : GrV => hasB y.ex lost) L k) (hg : L[k]? = some g) (hh : hasB g.ex lost = true) : moveV rm L lost = match moveD rm g (L.drop (k + 1)) lost with
    | none => noMove
    | some d => .tuple #[.int .i64 (k : Int), .int .i64 (d : Int), .bool true] := by
  unfold moveV
  rw [idx_found hN hg hh]
  cases hm : moveD rm g (L.drop (k + 1)) lost with
  | none =>
    split
    · rw [Int.toNat_natCast, hg]
      simp only [hm]
      rfl
    · rfl
  | some d =>
    rw [if_pos ⟨by omega, moveD_safe hN hg hh hm⟩, Int.toNat_natCast, hg]
    simp only [hm]
#print axioms moveV_first
end Go.Proofs.Ytmaiikmgpeafkaa
