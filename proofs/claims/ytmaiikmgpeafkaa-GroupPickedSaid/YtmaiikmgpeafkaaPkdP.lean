/- Sixty booleans in memory; who may be picked, how many. -/
import Derived.Test.YtmaiikmgpeafkaaPoke
import Derived.Test.YtmaiikmgpeafkaaGrpK
import Derived.Test.YtmaiikmgpeafkaaGrpN
namespace Go.Proofs.Ytmaiikmgpeafkaa
open Go.RowKit

def mayC (f : Nat → Bool) : Array Value := ((List.range 60).map (fun d => Value.bool (f d))).toArray
theorem mayC_size (f : Nat → Bool) : (mayC f).size = 60 := by simp [mayC]
theorem mayC_at (f : Nat → Bool) {d : Nat} (h : d < 60) : (mayC f)[d]? = some (.bool (f d)) := by
  simp [mayC, List.getElem?_range h]
def putB (f : Nat → Bool) (d : Nat) (b : Bool) : Nat → Bool := fun e => if e = d then b else f e
theorem mayC_put (f : Nat → Bool) (d : Nat) (b : Bool) : (mayC f).setIfInBounds d (.bool b) = mayC (putB f d b) := by
  unfold mayC
  rw [List.setIfInBounds_toArray]
  congr 1
  apply List.ext_getElem?
  intro i
  rw [List.getElem?_set]
  simp only [List.length_map, List.length_range, List.getElem?_map, putB]
  by_cases hi : i < 60
  · rw [List.getElem?_range hi]
    by_cases hd : d = i
    · subst hd; simp [hi]
    · rw [if_neg hd]
      simp
      exact fun h => absurd h.symm hd
  · have : (List.range 60)[i]? = none := List.getElem?_eq_none (by simp; omega)
    rw [this]
    by_cases hd : d = i
    · subst hd; simp [hi]
    · rw [if_neg hd]; rfl
theorem mayC_congr {f g : Nat → Bool} (h : ∀ d, d < 60 → f d = g d) : mayC f = mayC g := by
  unfold mayC
  congr 1
  refine List.map_congr_left fun d hd => ?_
  rw [h d (List.mem_range.1 hd)]
theorem Blk.may {w : World} {b : Nat} {t : TypeId} {f : Nat → Bool} (h : Blk w b t (mayC f)) {d : Nat} (hd : d < 60) : w.cell? ⟨b, d, none⟩ = some (.bool (f d)) := (h.cell d).trans (mayC_at f hd)
/-- Who may be picked, as far as it was looked. -/
def mayK (rm ban : List Int) (k : Nat) : Nat → Bool := fun d => decide (d < k) && mayB rm ban d
def mayJ (rm ban : List Int) (k j : Nat) : Nat → Bool := putB (mayK rm ban k) k (decide (0 < roomI rm k) && !(ban.take j).contains (k : Int))
theorem mayK_zero (rm ban : List Int) : mayK rm ban 0 = fun _ => false := by funext d; simp [mayK]
theorem mayJ_first (rm ban : List Int) (k : Nat) : putB (mayK rm ban k) k (decide (0 < roomI rm k)) = mayJ rm ban k 0 := by simp [mayJ]
theorem mayJ_at (rm ban : List Int) (k j : Nat) : mayJ rm ban k j k = (decide (0 < roomI rm k) && !(ban.take j).contains (k : Int)) := by simp [mayJ, putB]
theorem mayJ_next {rm ban : List Int} {k j : Nat} {v : Int} (h : ban[j]? = some v) : putB (mayJ rm ban k j) k (mayJ rm ban k j k && (v != (k : Int))) = mayJ rm ban k (j + 1) := by
  rw [mayJ_at]
  funext e
  unfold mayJ putB
  by_cases he : e = k
  · subst he
    simp only [if_true]
    rw [List.take_add_one, h]
    simp only [Option.toList_some, List.contains_eq_any_beq, List.any_append, List.any_cons, List.any_nil, Bool.or_false, Bool.not_or]
    rw [Bool.and_assoc]
    congr 1
    congr 1
    rw [bne, Bool.beq_comm]
  · simp [he]
theorem mayJ_last (rm ban : List Int) (k : Nat) : mayJ rm ban k ban.length = mayK rm ban (k + 1) := by
  funext e
  unfold mayJ putB mayK
  by_cases he : e = k
  · subst he
    simp [mayB, List.take_length]
  · rw [if_neg he]
    congr 1
    exact decide_eq_decide.2 ⟨fun h => by omega, fun h => by omega⟩
def manyK (rm ban : List Int) (k : Nat) : Nat := ((List.range k).filter (mayB rm ban)).length
theorem manyK_le (rm ban : List Int) (k : Nat) : manyK rm ban k ≤ k := by
  have := List.length_filter_le (mayB rm ban) (List.range k)
  rw [List.length_range] at this
  exact this
theorem manyK_next (rm ban : List Int) (k : Nat) : manyK rm ban (k + 1) = manyK rm ban k + (if mayK rm ban (k + 1) k then 1 else 0) := by
  unfold manyK
  rw [List.range_succ, List.filter_append, List.length_append]
  congr 1
  have : mayK rm ban (k + 1) k = mayB rm ban k := by simp [mayK]
  rw [this]
  cases h : mayB rm ban k <;> simp [h]
theorem manyK_all (rm ban : List Int) : manyK rm ban rm.length = (orderL rm ban).length := (orderL_perm rm ban).length_eq.symm
theorem mayK_all {rm ban : List Int} {d : Nat} (h : d < rm.length) : mayK rm ban rm.length d = mayB rm ban d := by simp [mayK, h]
/-- Who may be picked, and is not among the first of a list. -/
def mayL (rm ban : List Int) (l : List Nat) (i : Nat) : Nat → Bool := fun d => mayK rm ban rm.length d && !(l.take i).contains d
theorem mayL_zero (rm ban : List Int) (l : List Nat) : mayL rm ban l 0 = mayK rm ban rm.length := by funext d; simp [mayL]
theorem mayL_next {rm ban : List Int} {l : List Nat} {i d : Nat} (h : l[i]? = some d) : putB (mayL rm ban l i) d false = mayL rm ban l (i + 1) := by
  funext e
  unfold putB mayL
  rw [List.take_add_one, h]
  by_cases he : e = d
  · subst he; simp
  · simp [he]
section
variable {rm ban : List Int} {width : Int} (h : pickB rm width ban = true)
include h
theorem picked_parts : 1 ≤ width ∧ width.toNat ≤ (orderL rm ban).length ∧ pickL rm width ban = (orderL rm ban).take width.toNat ∧ ((pickL rm width ban).length : Int) = width := by
  have h0 := h
  unfold pickB at h0
  rw [Bool.and_eq_true, decide_eq_true_eq, decide_eq_true_eq] at h0
  have e : pickL rm width ban = (orderL rm ban).take width.toNat := by unfold pickL; rw [if_pos h]
  refine ⟨h0.1, by omega, e, ?_⟩
  rw [e, List.length_take]
  omega
theorem picked_in {i d : Nat} (hd : (pickL rm width ban)[i]? = some d) : d < rm.length ∧ mayL rm ban (pickL rm width ban) i d = true := by
  obtain ⟨_, _, e, _⟩ := picked_parts h
  have hm : d ∈ orderL rm ban := by
    have := List.mem_of_getElem? hd
    rw [e] at this
    exact List.mem_of_mem_take this
  obtain ⟨h1, h2, h3⟩ := orderL_mem.1 hm
  refine ⟨h1, ?_⟩
  unfold mayL
  rw [mayK_all h1, mayB_iff.2 ⟨h2, h3⟩, Bool.true_and]
  have hnd : (pickL rm width ban).Nodup := by rw [e]; exact (List.take_sublist _ _).nodup (orderL_nodup rm ban)
  rw [Bool.not_eq_true', List.contains_eq_mem, decide_eq_false_iff_not]
  intro hmem
  obtain ⟨j, hj⟩ := List.getElem?_of_mem hmem
  rw [List.getElem?_take] at hj
  split at hj
  · rename_i hji
    obtain ⟨hi', hie⟩ := List.getElem?_eq_some_iff.1 hd
    obtain ⟨hj', hje⟩ := List.getElem?_eq_some_iff.1 hj
    exact List.pairwise_iff_getElem.1 hnd j i hj' hi' hji (hje.trans hie.symm)
  · cases hj
theorem picked_order {i a b : Nat} (ha : (pickL rm width ban)[i]? = some a) (hb : (pickL rm width ban)[i + 1]? = some b) : ltR rm a b = true := by
  obtain ⟨_, _, e, _⟩ := picked_parts h
  have hp : (pickL rm width ban).Pairwise (fun x y => ltR rm x y = true) := by rw [e]; exact (orderL_sorted rm ban).sublist (List.take_sublist _ _)
  obtain ⟨hi, hie⟩ := List.getElem?_eq_some_iff.1 ha
  obtain ⟨hj, hje⟩ := List.getElem?_eq_some_iff.1 hb
  have := List.pairwise_iff_getElem.1 hp i (i + 1) hi hj (by omega)
  rw [hie, hje] at this
  exact this
theorem picked_left {m z d : Nat} (hm : (pickL rm width ban).length = m + 1) (hz : (pickL rm width ban)[m]? = some z) (hd : d < rm.length) (hmay : mayL rm ban (pickL rm width ban) (m + 1) d = true) : ltR rm z d = true := by
  obtain ⟨h1, h2, e, h4⟩ := picked_parts h
  unfold mayL at hmay
  rw [Bool.and_eq_true, mayK_all hd, mayB_iff, Bool.not_eq_true', List.contains_eq_mem, decide_eq_false_iff_not] at hmay
  obtain ⟨⟨k1, k2⟩, k3⟩ := hmay
  rw [← hm, List.take_length] at k3
  have hmem : d ∈ orderL rm ban := orderL_mem.2 ⟨hd, k1, k2⟩
  have hsp : orderL rm ban = pickL rm width ban ++ (orderL rm ban).drop width.toNat := by rw [e, List.take_append_drop]
  have hdr : d ∈ (orderL rm ban).drop width.toNat := by
    rw [hsp] at hmem
    rcases List.mem_append.1 hmem with hq | hq
    · exact absurd hq k3
    · exact hq
  have hs := orderL_sorted rm ban
  rw [hsp, List.pairwise_append] at hs
  exact hs.2.2 z (List.mem_of_getElem? hz) d hdr
end
theorem not_picked {rm ban : List Int} {width : Int} (h : pickB rm width ban = false) : pickL rm width ban = [] ∧ (width < 1 ∨ ((orderL rm ban).length : Int) < width) := by
  refine ⟨by unfold pickL; rw [if_neg (by rw [h]; decide)], ?_⟩
  unfold pickB at h
  by_cases h1 : 1 ≤ width
  · right
    by_cases h2 : width ≤ ((orderL rm ban).length : Int)
    · simp [h1, h2] at h
    · omega
  · left; omega
#print axioms picked_left
end Go.Proofs.Ytmaiikmgpeafkaa
