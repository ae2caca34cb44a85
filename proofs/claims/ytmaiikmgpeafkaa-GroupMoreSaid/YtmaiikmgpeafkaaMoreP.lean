/- More room, fewer groups; room for all: without the program. -/
import Derived.Test.YtmaiikmgpeafkaaGrpW
import Derived.Test.YtmaiikmgpeafkaaGrpH
namespace Go.Proofs.Ytmaiikmgpeafkaa
open Go.RowKit

theorem safe_of {rm rm' : List Int} {L L' : List GrV} {lost : Int} (h : safeB rm L lost = true) (hv : ∀ T, Viol rm' (needyL L' lost) T → ∃ T, Viol rm (needyL L lost) T) : safeB rm' L' lost = true := by
  cases hq : safeB rm' L' lost with
  | true => rfl
  | false =>
    obtain ⟨T, hT⟩ := fitsB_false.1 hq
    have := fitsB_false.2 (hv T hT)
    unfold safeB at h
    rw [h] at this
    cases this
theorem filter_imp {α : Type} {p q : α → Bool} : ∀ l : List α, (∀ x ∈ l, p x = true → q x = true) → (l.filter p).length ≤ (l.filter q).length
  | [], _ => Nat.le_refl _
  | x :: l, h => by
    have ih := filter_imp (p := p) (q := q) l (fun y hy => h y (List.mem_cons_of_mem _ hy))
    have hx := h x (List.mem_cons_self ..)
    rw [List.filter_cons, List.filter_cons]
    cases hp : p x with
    | false =>
      cases hq : q x with
      | false => simpa using ih
      | true => simp; omega
    | true =>
      rw [hx hp]
      simp
      exact ih
/-- Room that is nowhere less. -/
theorem safe_more {rm rm' : List Int} {L : List GrV} {lost : Int} (h : safeB rm L lost = true) (hl : rm'.length = rm.length) (hr : ∀ d, d < rm.length → roomI rm d ≤ roomI rm' d) : safeB rm' L lost = true :=
  safe_of h fun T hT => ⟨T, by
    rw [viol_iff] at hT ⊢
    have h1 : roomT rm T rm.length ≤ roomT rm' T rm'.length := by
      rw [hl]
      refine sumN_le _ fun d hd => ?_
      have := hr d hd
      split
      · unfold roomN; omega
      · exact Nat.le_refl _
    have h2 : hangN rm' L lost T ≤ hangN rm L lost T := by
      refine filter_imp L fun g _ hg => ?_
      rw [Bool.and_eq_true] at hg ⊢
      refine ⟨hg.1, ?_⟩
      rw [onlyB_iff] at hg ⊢
      intro d hd h0 hB
      exact hg.2 d (by omega) (by have := hr d hd; omega) hB
    omega⟩
/-- One group less. -/
theorem safe_less {rm : List Int} {L : List GrV} {lost : Int} {n : Nat} (h : safeB rm L lost = true) (hn : n < L.length) : safeB rm (L.take n ++ L.drop (n + 1)) lost = true :=
  safe_of h fun T hT => ⟨T, by
    rw [viol_iff] at hT ⊢
    have e : L = L.take n ++ L[n] :: L.drop (n + 1) := by
      rw [← List.drop_eq_getElem_cons hn, List.take_append_drop]
    have h1 : hangN rm (L.take n ++ L.drop (n + 1)) lost T ≤ hangN rm L lost T := by
      conv => rhs; rw [e]
      unfold hangN
      rw [List.filter_append, List.filter_append, List.length_append, List.length_append, List.filter_cons]
      split
      · rw [List.length_cons]; omega
      · omega
    omega⟩
/-- A group that has lost, and all disks. -/
def fullG (n : Nat) (lost : Int) (g : GrV) : Bool := hasB g.ex lost && (List.range n).all (fun (d : Nat) => hasB g.ex (d : Int))
theorem safe_full {rm : List Int} {L : List GrV} {lost : Int} (hr : ∀ d, d < rm.length → roomI rm d = (L.length : Int) + 1) : safeB rm L lost = !(L.any (fullG rm.length lost)) := by
  cases hf : L.any (fullG rm.length lost) with
  | true =>
    refine fitsB_false.2 ⟨fun _ => false, ?_⟩
    rw [viol_iff]
    have h0 : roomT rm (fun _ => false) rm.length = 0 := by
      unfold roomT
      rw [show (fun d => if (fun _ : Nat => false) d = true then roomN rm d else 0) = fun _ => 0 from by funext d; simp]
      exact sumN_zero _
    rw [h0]
    obtain ⟨g, hg, hfg⟩ := List.any_eq_true.1 hf
    unfold fullG at hfg
    rw [Bool.and_eq_true, List.all_eq_true] at hfg
    have hm : g ∈ L.filter (fun g => hasB g.ex lost && onlyB rm (dks g.ex) (fun _ => false)) := by
      rw [List.mem_filter, Bool.and_eq_true]
      refine ⟨hg, hfg.1, ?_⟩
      rw [onlyB_iff]
      intro d hd _ hB
      have := hfg.2 d (List.mem_range.2 hd)
      rw [hasB_dks] at this
      exact absurd (by simpa using this) hB
    exact List.length_pos_of_mem hm
  | false =>
    show safeB rm L lost = true
    cases hq : safeB rm L lost with
    | true => rfl
    | false =>
      obtain ⟨T, hT⟩ := fitsB_false.1 hq
      rw [viol_iff] at hT
      have hpos : 0 < hangN rm L lost T := by omega
      obtain ⟨g, hg⟩ := List.exists_mem_of_length_pos hpos
      rw [List.mem_filter, Bool.and_eq_true, onlyB_iff] at hg
      have hnf : fullG rm.length lost g = false := by
        cases hc : fullG rm.length lost g with
        | false => rfl
        | true =>
          have : L.any (fullG rm.length lost) = true := List.any_eq_true.2 ⟨g, hg.1, hc⟩
          rw [hf] at this
          cases this
      unfold fullG at hnf
      rw [hg.2.1, Bool.true_and, List.all_eq_false] at hnf
      obtain ⟨d, hd, hnd⟩ := hnf
      have hd := List.mem_range.1 hd
      rw [hasB_dks] at hnd
      have hTd : T d = true := hg.2.2 d hd (by rw [hr d hd]; omega) (by simpa using hnd)
      have hge : roomN rm d ≤ roomT rm T rm.length := by
        have := sumN_ge (fun d => if T d then roomN rm d else 0) rm.length d hd
        simp only [hTd, if_true] at this
        exact this
      have hle : hangN rm L lost T ≤ L.length := List.length_filter_le _ _
      have : roomN rm d = L.length + 1 := by unfold roomN; rw [hr d hd]; omega
      omega
#print axioms safe_full
end Go.Proofs.Ytmaiikmgpeafkaa
