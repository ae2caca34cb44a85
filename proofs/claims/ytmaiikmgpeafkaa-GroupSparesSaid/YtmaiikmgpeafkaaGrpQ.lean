/- The order in which disks are picked, as plain data: the most room first, of as much the least number. -/
import Derived.Test.YtmaiikmgpeafkaaGrpD
import Derived.Test.YtmaiikmgpeafkaaGrpS
import Derived.Test.YtmaiikmgpeafkaaShelfF
namespace Go.Proofs.Ytmaiikmgpeafkaa
open Go.RowKit Go.Sort

def mayB (rm ban : List Int) (d : Nat) : Bool := decide (0 < roomI rm d) && !ban.contains (d : Int)
theorem mayB_iff {rm ban : List Int} {d : Nat} : mayB rm ban d = true ↔ 0 < roomI rm d ∧ (d : Int) ∉ ban := by
  unfold mayB
  simp
def cmpR (rm : List Int) (x y : Nat) : Int := if Lib.compareInt (roomI rm y) (roomI rm x) = 0 then Lib.compareInt (x : Int) (y : Int) else Lib.compareInt (roomI rm y) (roomI rm x)
def ltR (rm : List Int) (x y : Nat) : Bool := decide (roomI rm y < roomI rm x) || (decide (roomI rm x = roomI rm y) && decide (x < y))
theorem ltR_iff {rm : List Int} {x y : Nat} : ltR rm x y = true ↔ roomI rm y < roomI rm x ∨ (roomI rm x = roomI rm y ∧ x < y) := by
  unfold ltR
  simp
theorem ltOf_cmpR (rm : List Int) (x y : Nat) : ltOf (cmpR rm) x y = ltR rm x y := by
  rw [Bool.eq_iff_iff, ltR_iff]
  unfold ltOf cmpR Lib.compareInt
  by_cases h1 : roomI rm y < roomI rm x
  · simp [h1]
  · by_cases h2 : roomI rm x < roomI rm y
    · have : ¬ roomI rm x = roomI rm y := by omega
      simp [h1, h2, this]
    · have h3 : roomI rm x = roomI rm y := by omega
      by_cases h4 : x < y
      · have : (x : Int) < (y : Int) := by omega
        simp [h3, h4]
      · by_cases h5 : y < x
        · have h6 : (y : Int) < (x : Int) := by omega
          have h7 : ¬ (x : Int) < (y : Int) := by omega
          simp [h3, h4, h5]
        · simp [h3, h4, h5]
theorem ltR_trans {rm : List Int} {x y z : Nat} (h1 : ltR rm x y = true) (h2 : ltR rm y z = true) : ltR rm x z = true := by
  rw [ltR_iff] at *
  omega
theorem ltR_irrefl (rm : List Int) (x : Nat) : ltR rm x x = false := by
  cases h : ltR rm x x
  · rfl
  · rw [ltR_iff] at h; omega
theorem ltR_total {rm : List Int} {x y : Nat} (h1 : ltR rm x y = false) (h2 : ltR rm y x = false) : x = y := by
  have a1 : ¬ ltR rm x y = true := by rw [h1]; decide
  have a2 : ¬ ltR rm y x = true := by rw [h2]; decide
  rw [ltR_iff] at a1 a2
  omega
theorem ltR_or {rm : List Int} {x y : Nat} (h : x ≠ y) : ltR rm x y = true ∨ ltR rm y x = true := by
  cases h1 : ltR rm x y
  · cases h2 : ltR rm y x
    · exact absurd (ltR_total h1 h2) h
    · exact .inr rfl
  · exact .inl rfl
theorem swo_ltR (rm : List Int) {n : Nat} : SWO (ltOf (fun x y : Fin n => cmpR rm x.1 y.1)) where
  irrefl x := by show ltOf (cmpR rm) x.1 x.1 = false; rw [ltOf_cmpR]; exact ltR_irrefl _ _
  trans x y z h1 h2 := by
    change ltOf (cmpR rm) x.1 y.1 = true at h1
    change ltOf (cmpR rm) y.1 z.1 = true at h2
    show ltOf (cmpR rm) x.1 z.1 = true
    rw [ltOf_cmpR] at *
    exact ltR_trans h1 h2
  ntrans x y z h1 h2 := by
    change ltOf (cmpR rm) x.1 y.1 = false at h1
    change ltOf (cmpR rm) y.1 z.1 = false at h2
    show ltOf (cmpR rm) x.1 z.1 = false
    rw [ltOf_cmpR] at *
    cases h3 : ltR rm x.1 z.1
    · rfl
    · by_cases e : x.1 = y.1
      · rw [e, h2] at h3; cases h3
      · rcases ltR_or (rm := rm) e with h4 | h4
        · rw [h1] at h4; cases h4
        · have := ltR_trans h4 h3
          rw [h2] at this
          cases this
/-- The disks that may be picked, in order. -/
def orderL (rm ban : List Int) : List Nat := ((List.range rm.length).filter (mayB rm ban)).mergeSort (fun x y => !ltR rm y x)
theorem orderL_perm (rm ban : List Int) : (orderL rm ban).Perm ((List.range rm.length).filter (mayB rm ban)) := List.mergeSort_perm _ _
theorem orderL_mem {rm ban : List Int} {d : Nat} : d ∈ orderL rm ban ↔ d < rm.length ∧ 0 < roomI rm d ∧ (d : Int) ∉ ban := by
  rw [(orderL_perm rm ban).mem_iff, List.mem_filter, List.mem_range, mayB_iff]
theorem orderL_nodup (rm ban : List Int) : (orderL rm ban).Nodup := (orderL_perm rm ban).nodup_iff.2 (List.Pairwise.filter _ List.nodup_range)
theorem orderL_sorted (rm ban : List Int) : (orderL rm ban).Pairwise (fun x y => ltR rm x y = true) := by
  have h := List.pairwise_mergeSort (le := fun x y : Nat => !ltR rm y x) (fun a b c h1 h2 => by
    simp only [Bool.not_eq_true'] at *
    cases h3 : ltR rm c a
    · rfl
    · by_cases e : a = b
      · rw [e, h2] at h3; cases h3
      · rcases ltR_or (rm := rm) e with h4 | h4
        · have := ltR_trans h3 h4
          rw [h2] at this; cases this
        · rw [h1] at h4; cases h4) (fun a b => by
    cases h1 : ltR rm b a
    · rfl
    · cases h2 : ltR rm a b
      · simp
      · have := ltR_trans h1 h2
        rw [ltR_irrefl] at this
        cases this) ((List.range rm.length).filter (mayB rm ban))
  have hn := orderL_nodup rm ban
  unfold orderL at hn ⊢
  refine (h.and hn).imp fun {a b} ⟨h1, h2⟩ => ?_
  rcases ltR_or (rm := rm) h2 with h3 | h3
  · exact h3
  · rw [h3] at h1; cases h1
/-- Two lists in this order that have the same disks are the same. -/
theorem order_unique {rm : List Int} : ∀ {a b : List Nat}, a.Pairwise (fun x y => ltR rm x y = true) → b.Pairwise (fun x y => ltR rm x y = true) → (∀ x, x ∈ a ↔ x ∈ b) → a = b
  | [], [], _, _, _ => rfl
  | [], y :: b, _, _, h => absurd ((h y).2 (List.mem_cons_self ..)) List.not_mem_nil
  | x :: a, [], _, _, h => absurd ((h x).1 (List.mem_cons_self ..)) List.not_mem_nil
  | x :: a, y :: b, h1, h2, h => by
    obtain ⟨a1, a2⟩ := List.pairwise_cons.1 h1
    obtain ⟨b1, b2⟩ := List.pairwise_cons.1 h2
    have hxy : x = y := by
      rcases List.mem_cons.1 ((h x).1 (List.mem_cons_self ..)) with e | e
      · exact e
      · rcases List.mem_cons.1 ((h y).2 (List.mem_cons_self ..)) with e2 | e2
        · exact e2.symm
        · have := ltR_trans (a1 y e2) (b1 x e)
          rw [ltR_irrefl] at this
          cases this
    subst hxy
    have hx1 : x ∉ a := fun hm => by have := a1 x hm; rw [ltR_irrefl] at this; cases this
    have hx2 : x ∉ b := fun hm => by have := b1 x hm; rw [ltR_irrefl] at this; cases this
    rw [order_unique a2 b2 fun z => ?_]
    constructor
    · intro hz
      rcases List.mem_cons.1 ((h z).1 (List.mem_cons_of_mem _ hz)) with e | e
      · subst e; exact absurd hz hx1
      · exact e
    · intro hz
      rcases List.mem_cons.1 ((h z).2 (List.mem_cons_of_mem _ hz)) with e | e
      · subst e; exact absurd hz hx2
      · exact e
/-- The first one banned too: the others. -/
theorem orderL_tail {rm ban : List Int} {d : Nat} {t : List Nat} (h : orderL rm ban = d :: t) (ban' : List Int) (hb : ∀ x : Int, x ∈ ban' ↔ x ∈ ban ∨ x = (d : Int)) : orderL rm ban' = t := by
  have hs := orderL_sorted rm ban
  rw [h] at hs
  obtain ⟨h1, h2⟩ := List.pairwise_cons.1 hs
  refine order_unique (orderL_sorted rm ban') h2 fun x => ?_
  have hm : x ∈ orderL rm ban ↔ x = d ∨ x ∈ t := by rw [h]; simp
  rw [orderL_mem] at hm ⊢
  rw [hb]
  have hd : d ∉ t := fun hm2 => by have := h1 d hm2; rw [ltR_irrefl] at this; cases this
  constructor
  · rintro ⟨a1, a2, a3⟩
    rcases hm.1 ⟨a1, a2, fun h => a3 (.inl h)⟩ with e | e
    · exact absurd (.inr (by rw [e])) a3
    · exact e
  · intro hx
    obtain ⟨a1, a2, a3⟩ := hm.2 (.inr hx)
    refine ⟨a1, a2, ?_⟩
    rintro (h | h)
    · exact a3 h
    · have : x = d := by omega
      subst this
      exact hd hx
theorem lift_fin {n : Nat} (l : List Nat) (h : ∀ x ∈ l, x < n) : ∃ ds : List (Fin n), ds.map (fun x => x.1) = l := by
  induction l with
  | nil => exact ⟨[], rfl⟩
  | cons x l ih =>
    obtain ⟨ds, hds⟩ := ih (fun y hy => h y (List.mem_cons_of_mem _ hy))
    exact ⟨⟨x, h x (List.mem_cons_self ..)⟩ :: ds, by rw [List.map_cons, hds]⟩
#print axioms orderL_tail
end Go.Proofs.Ytmaiikmgpeafkaa
