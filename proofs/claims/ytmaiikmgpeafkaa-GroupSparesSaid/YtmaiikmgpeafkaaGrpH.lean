/- Where not every group can be given a disk, some disks have too little room; and what the document's answer counts. No program is named here. -/
import Derived.Test.YtmaiikmgpeafkaaGrpA
namespace Go.Proofs.Ytmaiikmgpeafkaa
open Go.RowKit

theorem find_pure {rm : List Int} {Bs : List (List Int)} : ∀ (k x : Nat) (F : Nat → List Nat) (T : Nat → Bool), untried rm.length T < k → x < Bs.length → FOk rm Bs F → (∀ d, T d = true → d < rm.length ∧ roomN rm d ≤ (F d).length) →
    (∃ F', Found rm Bs F T x F') ∨ ∃ T', NotFound rm Bs F T x T' := by
  intro k
  induction k with
  | zero => intro x F T h; omega
  | succ k ih =>
    intro x F T hk hx hok hfull
    by_cases hfree : ∃ q, q < rm.length ∧ ((F q).length : Int) < roomI rm q ∧ (q : Int) ∉ grp Bs x
    · obtain ⟨q, hq, h1, h2⟩ := hfree
      exact .inl ⟨_, found_add hok hfull hq h1 hx h2⟩
    · have hnf : NoFree rm Bs F x rm.length := fun d hd h => hfree ⟨d, hd, h⟩
      have hmid : ∀ q, q ≤ rm.length → (∃ F', Found rm Bs F T x F') ∨ ∃ T', Mid rm Bs F T x q T' := by
        intro q
        induction q with
        | zero => intro _; exact .inr ⟨T, Mid.zero hfull⟩
        | succ q ihq =>
          intro hq
          rcases ihq (by omega) with h | ⟨T', hm⟩
          · exact .inl h
          · by_cases hT : T' q = true
            · exact .inr ⟨T', hm.succ fun _ => hT⟩
            · by_cases hb : (q : Int) ∈ grp Bs x
              · exact .inr ⟨T', hm.succ fun h => absurd hb h⟩
              · have hTf : T' q = false := by cases h : T' q <;> simp_all
                have hlow : ∀ i, i ≤ (F q).length → (∃ F', Found rm Bs F T x F') ∨ ∃ T2, Low rm Bs F T x q T' i T2 := by
                  intro i
                  induction i with
                  | zero => intro _; exact .inr ⟨_, hm.low hnf (by omega) hb⟩
                  | succ i ihi =>
                    intro hi
                    rcases ihi (by omega) with h | ⟨T2, hl⟩
                    · exact .inl h
                    · have ho : (F q)[i]? = some ((F q)[i]'(by omega)) := List.getElem?_eq_getElem (by omega)
                      have hob := hok.mem q _ (List.mem_of_getElem? ho)
                      rcases ih _ F T2 (by have := hl.untried_lt hm (by omega) hTf; omega) hob.1 hok hl.full with ⟨F', hf⟩ | ⟨T3, hn⟩
                      · exact .inl ⟨_, (hl.found hm hTf (by omega) ho hf hx hb).2⟩
                      · exact .inr ⟨T3, hl.next ho hn⟩
                rcases hlow _ (Nat.le_refl _) with h | ⟨T2, hl⟩
                · exact .inl h
                · exact .inr ⟨T2, Low.end_ hm hl⟩
      rcases hmid _ (Nat.le_refl _) with h | ⟨T', hm⟩
      · exact .inl h
      · exact .inr ⟨T', hm.done⟩
theorem fits_or_viol (rm : List Int) (Bs : List (List Int)) : Fits rm Bs ∨ ∃ T, Viol rm Bs T := by
  have h : ∀ g, g ≤ Bs.length → (∃ F, FOk rm Bs F ∧ ∀ y, cnt rm.length F y = if y < g then 1 else 0) ∨ ∃ T, Viol rm Bs T := by
    intro g
    induction g with
    | zero => intro _; exact .inl ⟨_, FOk.start, fun y => by rw [cnt_start, if_neg (Nat.not_lt_zero _)]⟩
    | succ g ih =>
      intro hg
      rcases ih (by omega) with ⟨F, hok, hc⟩ | h
      · rcases find_pure (untried rm.length (fun _ => false) + 1) g F (fun _ => false) (Nat.lt_succ_self _) (by omega) hok (fun d hd => by cases hd) with ⟨F', hf⟩ | ⟨T', hn⟩
        · refine .inl ⟨F', hf.ok, fun y => ?_⟩
          rw [hf.cnt_ y, hc y]
          by_cases h1 : y < g
          · rw [if_pos h1, if_neg (by omega), if_pos (by omega)]
          · by_cases h2 : y = g
            · rw [if_neg h1, if_pos h2, if_pos (by omega)]
            · rw [if_neg h1, if_neg h2, if_neg (by omega)]
        · exact .inr ⟨T', viol_of hok (by omega) (by rw [hc, if_neg (by omega)]) (fun y => by rw [hc y]; split <;> omega) hn.full (fun d hd => hn.closed d hd rfl) hn.all⟩
      · exact .inr h
  rcases h _ (Nat.le_refl _) with ⟨F, hok, hc⟩ | h
  · exact .inl (fits_of hok fun y hy => by rw [hc y, if_pos hy]; omega)
  · exact .inr h
theorem fitsB_false {rm : List Int} {Bs : List (List Int)} : fitsB rm Bs = false ↔ ∃ T, Viol rm Bs T := by
  constructor
  · intro h
    rcases fits_or_viol rm Bs with h2 | h2
    · rw [fitsB_iff.2 h2] at h; cases h
    · exact h2
  · rintro ⟨T, h⟩
    exact fitsB_not h
/-! ### The document's answer: of each set of disks -/
theorem Viol.congr {rm : List Int} {Bs : List (List Int)} {T T' : Nat → Bool} (h : Viol rm Bs T) (he : ∀ d, d < rm.length → T d = T' d) : Viol rm Bs T' := by
  unfold Viol at *
  have e1 : sumN rm.length (fun d => if T' d then roomN rm d else 0) = sumN rm.length (fun d => if T d then roomN rm d else 0) := sumN_ext _ fun d hd => by rw [he d hd]
  have e2 : ∀ B, onlyB rm B T' = onlyB rm B T := by
    intro B
    rw [Bool.eq_iff_iff, onlyB_iff, onlyB_iff]
    exact ⟨fun h d hd h0 hb => by rw [he d hd]; exact h d hd h0 hb, fun h d hd h0 hb => by rw [← he d hd]; exact h d hd h0 hb⟩
  rw [e1]
  simp only [e2]
  exact h
/-- A set of disks as a number. -/
def setN (T : Nat → Bool) : Nat → Nat
  | 0 => 0
  | n + 1 => setN T n + if T n then 2 ^ n else 0
theorem setN_lt (T : Nat → Bool) : ∀ n, setN T n < 2 ^ n
  | 0 => by simp [setN]
  | n + 1 => by
    have := setN_lt T n
    rw [setN, Nat.pow_succ]
    split <;> omega
def bitT (s d : Nat) : Bool := decide (s / 2 ^ d % 2 = 1)
theorem bitT_setN (T : Nat → Bool) : ∀ (n d : Nat), d < n → bitT (setN T n) d = T d
  | 0, d, h => by omega
  | n + 1, d, h => by
    have hlt := setN_lt T n
    by_cases e : d = n
    · subst e
      unfold bitT
      rw [setN]
      cases hT : T d
      · rw [if_neg (by decide), Nat.add_zero, Nat.div_eq_of_lt hlt]
        decide
      · rw [if_pos rfl, Nat.add_div_right _ (Nat.two_pow_pos d), Nat.div_eq_of_lt hlt]
        decide
    · have ih := bitT_setN T n d (by omega)
      rw [← ih]
      unfold bitT
      rw [setN]
      congr 1
      split
      · have e1 : 2 ^ n = 2 ^ d * (2 * 2 ^ (n - d - 1)) := by
          rw [← Nat.pow_succ', ← Nat.pow_add]
          congr 1
          omega
        rw [e1, Nat.add_mul_div_left _ _ (Nat.two_pow_pos d), Nat.add_mul_mod_self_left]
      · rw [Nat.add_zero]
/-- How many groups that have lost hang on the disks of T alone; how much room these have. -/
def hangN (rm : List Int) (L : List GrV) (lost : Int) (T : Nat → Bool) : Nat := (L.filter (fun g => hasB g.ex lost && onlyB rm (dks g.ex) T)).length
def roomT (rm : List Int) (T : Nat → Bool) (n : Nat) : Nat := sumN n (fun d => if T d then roomN rm d else 0)
theorem sumN_filter {α : Type} (p : α → Bool) (z : α) : ∀ l : List α, sumN l.length (fun i => one (p (l.getD i z))) = (l.filter p).length := by
  intro l
  induction l using snoc_ind with
  | h0 => rfl
  | hs l x ih =>
    rw [List.length_append, List.length_singleton, sumN, List.filter_append, List.length_append, ← ih]
    have e1 : sumN l.length (fun i => one (p ((l ++ [x]).getD i z))) = sumN l.length (fun i => one (p (l.getD i z))) := sumN_ext _ fun i hi => by
      rw [List.getD_eq_getElem?_getD, List.getD_eq_getElem?_getD, List.getElem?_append_left hi]
    rw [e1]
    have e2 : (l ++ [x]).getD l.length z = x := by rw [List.getD_eq_getElem?_getD, List.getElem?_append_right (Nat.le_refl _)]; simp
    rw [e2]
    cases h : p x <;> simp [one, h]
theorem onlyB_rise (rm B : List Int) (T : Nat → Bool) : onlyB rm (rise B) T = onlyB rm B T := by
  rw [Bool.eq_iff_iff, onlyB_iff, onlyB_iff]
  simp only [(rise_perm B).mem_iff]
theorem viol_iff {rm : List Int} {L : List GrV} {lost : Int} {T : Nat → Bool} : Viol rm (needyL L lost) T ↔ roomT rm T rm.length < hangN rm L lost T := by
  unfold Viol roomT grp
  rw [sumN_filter (fun B => onlyB rm B T) []]
  have e : ((needyL L lost).filter (fun B => onlyB rm B T)).length = hangN rm L lost T := by
    unfold needyL hangN
    rw [List.filter_map, List.length_map, List.filter_filter]
    congr 1
    refine List.filter_congr fun g _ => ?_
    show (onlyB rm (rise (dks g.ex)) T && hasB g.ex lost) = _
    rw [onlyB_rise, Bool.and_comm]
  rw [e]
/-- Of each set of disks: enough room. -/
def hallB (rm : List Int) (L : List GrV) (lost : Int) : Bool := (List.range (2 ^ rm.length)).all (fun s => decide (hangN rm L lost (bitT s) ≤ roomT rm (bitT s) rm.length))
theorem hall_safe (rm : List Int) (L : List GrV) (lost : Int) : hallB rm L lost = safeB rm L lost := by
  unfold safeB
  cases h : fitsB rm (needyL L lost)
  · obtain ⟨T, hT⟩ := fitsB_false.1 h
    unfold hallB
    rw [List.all_eq_false]
    refine ⟨setN T rm.length, List.mem_range.2 (setN_lt _ _), ?_⟩
    have hv := viol_iff.1 (hT.congr (T' := bitT (setN T rm.length)) fun d hd => (bitT_setN T _ d hd).symm)
    simp only [decide_eq_true_eq]
    omega
  · unfold hallB
    rw [List.all_eq_true]
    intro s hs
    have hn := fits_not_viol (fitsB_iff.1 h) (bitT s)
    rw [viol_iff] at hn
    simp only [decide_eq_true_eq]
    omega
#print axioms hall_safe
end Go.Proofs.Ytmaiikmgpeafkaa
