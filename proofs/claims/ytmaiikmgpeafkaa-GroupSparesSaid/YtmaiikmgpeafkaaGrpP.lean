/- Groups as plain data: when each of some groups can be given a disk, and what stands against it. No program is named here. -/
import Derived.Test.YtmaiikmgpeafkaaNum
namespace Go.Proofs.Ytmaiikmgpeafkaa
open Go.RowKit

/-- An extent: its disk, where it begins. -/
abbrev Ex := Int × Int

/-! ### Sums -/
def sumN : Nat → (Nat → Nat) → Nat
  | 0, _ => 0
  | n + 1, f => sumN n f + f n
def one (b : Bool) : Nat := if b then 1 else 0
theorem one_le (b : Bool) : one b ≤ 1 := by cases b <;> decide
theorem sumN_le {f g : Nat → Nat} : ∀ n, (∀ i, i < n → f i ≤ g i) → sumN n f ≤ sumN n g
  | 0, _ => Nat.le_refl _
  | n + 1, h => Nat.add_le_add (sumN_le n fun i hi => h i (by omega)) (h n (by omega))
theorem sumN_ext {f g : Nat → Nat} : ∀ n, (∀ i, i < n → f i = g i) → sumN n f = sumN n g
  | 0, _ => rfl
  | n + 1, h => by rw [sumN, sumN, sumN_ext n fun i hi => h i (by omega), h n (by omega)]
theorem sumN_lt {f g : Nat → Nat} : ∀ n, (∀ i, i < n → f i ≤ g i) → ∀ k, k < n → f k < g k → sumN n f < sumN n g
  | 0, _, k, hk, _ => by omega
  | n + 1, h, k, hk, hlt => by
    have h1 := h n (by omega)
    by_cases e : k = n
    · subst e
      have := sumN_le k (fun i hi => h i (by omega))
      simp only [sumN]
      omega
    · have := sumN_lt n (fun i hi => h i (by omega)) k (by omega) hlt
      simp only [sumN]
      omega
theorem sumN_zero : ∀ n, sumN n (fun _ => 0) = 0
  | 0 => rfl
  | n + 1 => by rw [sumN, sumN_zero n]
theorem sumN_add (f g : Nat → Nat) : ∀ n, sumN n (fun i => f i + g i) = sumN n f + sumN n g
  | 0 => rfl
  | n + 1 => by simp only [sumN, sumN_add f g n]; omega
theorem sumN_swap (f : Nat → Nat → Nat) (m : Nat) : ∀ n, sumN n (fun i => sumN m (fun j => f i j)) = sumN m (fun j => sumN n (fun i => f i j))
  | 0 => by simp only [sumN]; rw [sumN_zero]
  | n + 1 => by
    simp only [sumN]
    rw [sumN_swap f m n, ← sumN_add]
theorem sumN_at (n k c : Nat) (hk : k < n) : sumN n (fun i => if i = k then c else 0) = c := by
  induction n with
  | zero => omega
  | succ n ih =>
    simp only [sumN]
    by_cases e : n = k
    · subst e
      rw [if_pos rfl]
      have : sumN n (fun i => if i = n then c else 0) = sumN n (fun _ => 0) := sumN_ext n fun i hi => by rw [if_neg (by omega)]
      rw [this, sumN_zero]
      omega
    · rw [ih (by omega), if_neg e]; omega
theorem sumN_ge (f : Nat → Nat) : ∀ n k, k < n → f k ≤ sumN n f
  | 0, k, h => by omega
  | n + 1, k, h => by
    simp only [sumN]
    by_cases e : k = n
    · rw [e]; omega
    · have := sumN_ge f n k (by omega)
      omega
theorem sumN_pos {f : Nat → Nat} : ∀ n, 0 < sumN n f → ∃ k, k < n ∧ 0 < f k
  | 0, h => by simp [sumN] at h
  | n + 1, h => by
    simp only [sumN] at h
    by_cases e : 0 < f n
    · exact ⟨n, by omega, e⟩
    · obtain ⟨k, hk, h2⟩ := sumN_pos (f := f) n (by omega)
      exact ⟨k, by omega, h2⟩
/-- One place raised. -/
theorem sumN_upd {f g : Nat → Nat} {k : Nat} (n c : Nat) (hk : k < n) (h : ∀ i, i ≠ k → g i = f i) (h2 : g k = f k + c) : sumN n g = sumN n f + c := by
  have e : sumN n g = sumN n (fun i => f i + if i = k then c else 0) := sumN_ext n fun i _ => by
    by_cases e : i = k
    · rw [e, h2, if_pos rfl]
    · rw [h i e, if_neg e]; omega
  rw [e, sumN_add, sumN_at n k c hk]
theorem sum_count (l : List Nat) (m : Nat) (h : ∀ y ∈ l, y < m) : sumN m (fun y => l.count y) = l.length := by
  induction l with
  | nil => simp [sumN_zero]
  | cons x l ih =>
    have := ih (fun y hy => h y (List.mem_cons_of_mem _ hy))
    have hx := h x (List.mem_cons_self ..)
    have e : sumN m (fun y => (x :: l).count y) = sumN m (fun y => l.count y + if y = x then 1 else 0) := sumN_ext m fun y _ => by
      rw [List.count_cons]
      by_cases e : y = x
      · subst e; simp
      · have : ¬ x = y := fun h => e h.symm
        simp [e, this]
    rw [e, sumN_add, sumN_at m x 1 hx, this, List.length_cons]

/-! ### Rooms, groups by the disks that they have -/
/-- How many extents are free on a disk. -/
def roomI (rm : List Int) (d : Nat) : Int := rm.getD d 0
def roomN (rm : List Int) (d : Nat) : Nat := (roomI rm d).toNat
/-- Group i's disks. -/
def grp (Bs : List (List Int)) (i : Nat) : List Int := Bs.getD i []
/-- Each group can be given a disk that it does not have, and none is given more often than it has room. -/
def Fits (rm : List Int) (Bs : List (List Int)) : Prop :=
  ∃ a : Nat → Nat, (∀ i, i < Bs.length → a i < rm.length ∧ (a i : Int) ∉ grp Bs i) ∧ ∀ d, d < rm.length → sumN Bs.length (fun i => one (decide (a i = d))) ≤ roomN rm d
/-- All disks with room that a group of the disks B does not have are of T. -/
def onlyB (rm : List Int) (B : List Int) (T : Nat → Bool) : Bool := (List.range rm.length).all fun d => !(decide (0 < roomI rm d) && !B.contains (d : Int)) || T d
theorem onlyB_iff {rm : List Int} {B : List Int} {T : Nat → Bool} : onlyB rm B T = true ↔ ∀ d, d < rm.length → 0 < roomI rm d → (d : Int) ∉ B → T d = true := by
  rw [onlyB, List.all_eq_true]
  constructor
  · intro h d hd h0 hB
    have := h d (List.mem_range.2 hd)
    simpa [h0, hB] using this
  · intro h d hd
    have hd := List.mem_range.1 hd
    by_cases h0 : 0 < roomI rm d
    · by_cases hB : (d : Int) ∈ B
      · simp [hB]
      · simp [h d hd h0 hB]
    · simp [h0]
/-- More groups hang on T alone than it has room. -/
def Viol (rm : List Int) (Bs : List (List Int)) (T : Nat → Bool) : Prop :=
  sumN rm.length (fun d => if T d then roomN rm d else 0) < sumN Bs.length (fun i => one (onlyB rm (grp Bs i) T))
theorem fits_not_viol {rm : List Int} {Bs : List (List Int)} (h : Fits rm Bs) (T : Nat → Bool) : ¬ Viol rm Bs T := by
  obtain ⟨a, ha, hc⟩ := h
  unfold Viol
  have h1 : sumN Bs.length (fun i => one (onlyB rm (grp Bs i) T)) ≤ sumN Bs.length (fun i => one (T (a i))) := by
    refine sumN_le _ fun i hi => ?_
    by_cases ho : onlyB rm (grp Bs i) T = true
    · obtain ⟨h2, h3⟩ := ha i hi
      have h4 : 0 < roomI rm (a i) := by
        have h5 := hc (a i) h2
        have h6 := sumN_ge (fun j => one (decide (a j = a i))) Bs.length i hi
        simp only [decide_true, one, if_true] at h6
        unfold roomN at h5
        simp only [one] at h5
        omega
      rw [onlyB_iff.1 ho (a i) h2 h4 h3]
      exact one_le _
    · simp [one, ho]
  have h2 : sumN Bs.length (fun i => one (T (a i))) = sumN rm.length (fun d => sumN Bs.length (fun i => if T d then one (decide (a i = d)) else 0)) := by
    rw [sumN_swap]
    refine sumN_ext _ fun i hi => ?_
    have h3 := (ha i hi).1
    have e : sumN rm.length (fun d => if T d then one (decide (a i = d)) else 0) = sumN rm.length (fun d => if d = a i then one (T (a i)) else 0) := sumN_ext _ fun d _ => by
      by_cases e : d = a i
      · subst e; cases T (a i) <;> simp [one]
      · have : ¬ a i = d := fun h => e h.symm
        simp [one, e, this]
    rw [e, sumN_at _ _ _ h3]
  have h3 : sumN rm.length (fun d => sumN Bs.length (fun i => if T d then one (decide (a i = d)) else 0)) ≤ sumN rm.length (fun d => if T d then roomN rm d else 0) := by
    refine sumN_le _ fun d hd => ?_
    cases hT : T d
    · simp [sumN_zero]
    · simpa using hc d hd
  omega

/-! ### Who found which disk -/
/-- How often group y has found a disk. -/
def cnt (n : Nat) (F : Nat → List Nat) (y : Nat) : Nat := sumN n (fun d => (F d).count y)
structure FOk (rm : List Int) (Bs : List (List Int)) (F : Nat → List Nat) : Prop where
  len : ∀ d, d < rm.length → (F d).length ≤ roomN rm d
  mem : ∀ d y, y ∈ F d → y < Bs.length ∧ (d : Int) ∉ grp Bs y
  far : ∀ d, rm.length ≤ d → F d = []
/-- A function, turned at one place. -/
def setF {α : Type} (f : Nat → α) (k : Nat) (v : α) : Nat → α := fun j => if j = k then v else f j
theorem setF_self {α : Type} (f : Nat → α) (k : Nat) (v : α) : setF f k v k = v := by simp [setF]
theorem setF_ne {α : Type} (f : Nat → α) {j k : Nat} (v : α) (h : j ≠ k) : setF f k v j = f j := by simp [setF, h]
section
variable {rm : List Int} {Bs : List (List Int)} {F F' : Nat → List Nat}
theorem FOk.start : FOk rm Bs (fun _ => []) := ⟨fun _ _ => Nat.zero_le _, fun _ _ h => absurd h List.not_mem_nil, fun _ _ => rfl⟩
theorem cnt_start (n y : Nat) : cnt n (fun _ => []) y = 0 := by simp [cnt, sumN_zero]
theorem FOk.add (h : FOk rm Bs F) {d x : Nat} (hd : d < rm.length) (hl : (F d).length < roomN rm d) (hx : x < Bs.length) (hb : (d : Int) ∉ grp Bs x) :
    FOk rm Bs (setF F d (F d ++ [x])) ∧ ∀ y, cnt rm.length (setF F d (F d ++ [x])) y = cnt rm.length F y + if y = x then 1 else 0 := by
  refine ⟨⟨fun e he => ?_, fun e y hy => ?_, fun e he => ?_⟩, fun y => ?_⟩
  · by_cases hed : e = d
    · subst hed; rw [setF_self, List.length_append]; exact hl
    · rw [setF_ne _ _ hed]; exact h.len e he
  · by_cases hed : e = d
    · subst hed
      rw [setF_self, List.mem_append] at hy
      rcases hy with hy | hy
      · exact h.mem e y hy
      · simp at hy; subst hy; exact ⟨hx, hb⟩
    · rw [setF_ne _ _ hed] at hy; exact h.mem e y hy
  · rw [setF_ne _ _ (by omega)]; exact h.far e he
  · refine sumN_upd rm.length _ hd (fun i hi => by rw [setF_ne _ _ hi]) ?_
    rw [setF_self, List.count_append]
    by_cases e : y = x
    · subst e; simp
    · have : ¬ x = y := fun h => e h.symm
      simp [e, this]
theorem count_set {l : List Nat} {i o x : Nat} (h : l[i]? = some o) (y : Nat) : (l.set i x).count y + (if y = o then 1 else 0) = l.count y + if y = x then 1 else 0 := by
  obtain ⟨hi, he⟩ := List.getElem?_eq_some_iff.1 h
  have h1 : l.set i x = l.take i ++ x :: l.drop (i + 1) := List.set_eq_take_append_cons_drop.trans (by rw [if_pos hi])
  have h2 : l = l.take i ++ o :: l.drop (i + 1) := by rw [← he, List.getElem_cons_drop, List.take_append_drop]
  rw [h1]
  conv => rhs; rw [h2]
  rw [List.count_append, List.count_append, List.count_cons, List.count_cons]
  have e1 : (if o == y then 1 else 0) = if y = o then 1 else 0 := by
    by_cases e : y = o
    · subst e; simp
    · have : ¬ o = y := fun h => e h.symm
      simp [e, this]
  have e2 : (if x == y then 1 else 0) = if y = x then 1 else 0 := by
    by_cases e : y = x
    · subst e; simp
    · have : ¬ x = y := fun h => e h.symm
      simp [e, this]
  rw [e1, e2]
  omega
theorem FOk.put (h : FOk rm Bs F) {d i o x : Nat} (hd : d < rm.length) (hi : (F d)[i]? = some o) (hx : x < Bs.length) (hb : (d : Int) ∉ grp Bs x) :
    FOk rm Bs (setF F d ((F d).set i x)) ∧ ∀ y, cnt rm.length (setF F d ((F d).set i x)) y + (if y = o then 1 else 0) = cnt rm.length F y + if y = x then 1 else 0 := by
  refine ⟨⟨fun e he => ?_, fun e y hy => ?_, fun e he => ?_⟩, fun y => ?_⟩
  · by_cases hed : e = d
    · subst hed; rw [setF_self, List.length_set]; exact h.len e he
    · rw [setF_ne _ _ hed]; exact h.len e he
  · by_cases hed : e = d
    · subst hed
      rw [setF_self] at hy
      rcases List.mem_or_eq_of_mem_set hy with hy | rfl
      · exact h.mem e y hy
      · exact ⟨hx, hb⟩
    · rw [setF_ne _ _ hed] at hy; exact h.mem e y hy
  · rw [setF_ne _ _ (by omega)]; exact h.far e he
  · have hc := count_set (x := x) hi y
    have e1 : cnt rm.length (setF F d ((F d).set i x)) y + (F d).count y = cnt rm.length F y + ((F d).set i x).count y := by
      unfold cnt
      have a1 : sumN rm.length (fun e => (setF F d ((F d).set i x) e).count y + if e = d then (F d).count y else 0) = sumN rm.length (fun e => (F e).count y + if e = d then ((F d).set i x).count y else 0) := sumN_ext _ fun e _ => by
        by_cases hed : e = d
        · subst hed; rw [setF_self]; simp; omega
        · rw [setF_ne _ _ hed]; simp [hed]
      rw [sumN_add, sumN_add, sumN_at _ _ _ hd, sumN_at _ _ _ hd] at a1
      exact a1
    omega
/-- Each group has found one: so there is one for each. -/
theorem fits_of (h : FOk rm Bs F) (hall : ∀ y, y < Bs.length → 0 < cnt rm.length F y) : Fits rm Bs := by
  have hex : ∀ y, ∃ d, y < Bs.length → d < rm.length ∧ y ∈ F d := by
    intro y
    by_cases hy : y < Bs.length
    · obtain ⟨d, hd, hc⟩ := sumN_pos _ (hall y hy)
      exact ⟨d, fun _ => ⟨hd, List.count_pos_iff.1 hc⟩⟩
    · exact ⟨0, fun h => absurd h hy⟩
  refine ⟨fun y => Classical.choose (hex y), fun y hy => ?_, fun d hd => ?_⟩
  · have := Classical.choose_spec (hex y) hy
    exact ⟨this.1, (h.mem _ _ this.2).2⟩
  · refine Nat.le_trans ?_ (h.len d hd)
    rw [← sum_count (F d) Bs.length (fun y hy => (h.mem d y hy).1)]
    refine sumN_le _ fun y hy => ?_
    by_cases e : Classical.choose (hex y) = d
    · have := (Classical.choose_spec (hex y) hy).2
      rw [e] at this
      have := List.count_pos_iff.2 this
      exact Nat.le_trans (one_le _) this
    · simp [one, e]
/-- Group g has found none: the disks that were tried are full of groups that hang on them alone. -/
theorem viol_of (h : FOk rm Bs F) {g : Nat} {T : Nat → Bool} (hg : g < Bs.length) (h0 : cnt rm.length F g = 0) (h1 : ∀ y, cnt rm.length F y ≤ 1) (hfull : ∀ d, T d = true → d < rm.length ∧ roomN rm d ≤ (F d).length)
    (hcl : ∀ d, T d = true → ∀ y ∈ F d, ∀ e, e < rm.length → (e : Int) ∉ grp Bs y → T e = true) (hgc : ∀ e, e < rm.length → (e : Int) ∉ grp Bs g → T e = true) : Viol rm Bs T := by
  unfold Viol
  have a1 : sumN rm.length (fun d => if T d then roomN rm d else 0) ≤ sumN rm.length (fun d => sumN Bs.length (fun y => if T d then (F d).count y else 0)) := by
    refine sumN_le _ fun d hd => ?_
    cases hT : T d
    · simp
    · simp only [if_true]
      rw [sum_count (F d) Bs.length (fun y hy => (h.mem d y hy).1)]
      exact (hfull d hT).2
  rw [sumN_swap] at a1
  refine Nat.lt_of_le_of_lt a1 (sumN_lt _ (fun y hy => ?_) g hg ?_)
  · have hle : sumN rm.length (fun d => if T d then (F d).count y else 0) ≤ cnt rm.length F y := sumN_le _ fun d _ => by split <;> omega
    by_cases hp : 0 < sumN rm.length (fun d => if T d then (F d).count y else 0)
    · obtain ⟨d, hd, hc⟩ := sumN_pos _ hp
      cases hT : T d
      · rw [hT] at hc; simp at hc
      · rw [hT, if_pos rfl] at hc
        have ho : onlyB rm (grp Bs y) T = true := onlyB_iff.2 fun e he _ hb => hcl d hT y (List.count_pos_iff.1 hc) e he hb
        rw [ho]
        have := h1 y
        simp only [one, if_true]
        omega
    · omega
  · have hle : sumN rm.length (fun d => if T d then (F d).count g else 0) ≤ cnt rm.length F g := sumN_le _ fun d _ => by split <;> omega
    have ho : onlyB rm (grp Bs g) T = true := onlyB_iff.2 fun e he _ hb => hgc e he hb
    rw [ho]
    simp only [one, if_true]
    omega
end
/-- How many disks are not tried yet. -/
def untried (n : Nat) (T : Nat → Bool) : Nat := sumN n (fun d => one (!T d))
theorem untried_le {n : Nat} {T T' : Nat → Bool} (h : ∀ d, T d = true → T' d = true) : untried n T' ≤ untried n T := sumN_le _ fun d _ => by
  cases h1 : T d
  · simp only [Bool.not_false]; exact one_le _
  · rw [h d h1]; exact Nat.le_refl _
theorem untried_set {n : Nat} {T : Nat → Bool} {d : Nat} (hd : d < n) (h : T d = false) : untried n (setF T d true) < untried n T := by
  refine sumN_lt _ (fun e _ => ?_) d hd ?_
  · by_cases he : e = d
    · subst he; rw [setF_self]; simp [one]
    · rw [setF_ne _ _ he]; exact Nat.le_refl _
  · rw [setF_self, h]; decide
/-- What find leaves where it finds a disk for x .. -/
structure Found (rm : List Int) (Bs : List (List Int)) (F : Nat → List Nat) (T : Nat → Bool) (x : Nat) (F' : Nat → List Nat) : Prop where
  ok : FOk rm Bs F'
  cnt_ : ∀ y, cnt rm.length F' y = cnt rm.length F y + if y = x then 1 else 0
  kept : ∀ d, T d = true → F' d = F d
/-- .. and where it finds none. -/
structure NotFound (rm : List Int) (Bs : List (List Int)) (F : Nat → List Nat) (T : Nat → Bool) (x : Nat) (T' : Nat → Bool) : Prop where
  more : ∀ d, T d = true → T' d = true
  full : ∀ d, T' d = true → d < rm.length ∧ roomN rm d ≤ (F d).length
  all : ∀ e, e < rm.length → (e : Int) ∉ grp Bs x → T' e = true
  closed : ∀ d, T' d = true → T d = false → ∀ y ∈ F d, ∀ e, e < rm.length → (e : Int) ∉ grp Bs y → T' e = true
#print axioms viol_of
#print axioms fits_of
end Go.Proofs.Ytmaiikmgpeafkaa
