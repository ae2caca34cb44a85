/- Tables of groups and their slots as plain data: the groups and the live slots as lists, what each call answers and leaves. No program is named here. -/
import Derived.Below
namespace Go.Proofs.Ytgoglgghnjgcdaa

/-- A group: its number, how many slots. -/
structure Gr where
  id : Int
  n : Int
  deriving DecidableEq
/-- A live slot. -/
structure Lv where
  g : Int
  s : Int
  b : Int
  deriving DecidableEq
structure Us where
  G : List Gr
  L : List Lv
namespace Us
variable (S : Us)
def has (g : Int) : Bool := S.G.any fun x => x.id == g
def slots (g : Int) : Int := ((S.G.find? fun x => x.id == g).map Gr.n).getD 0
def at_ (g s : Int) : Option Int := (S.L.find? fun x => x.g == g && x.s == s).map Lv.b
def fnd (b : Int) : Option (Int × Int) := (S.L.find? fun x => x.b == b).map fun x => (x.g, x.s)
def cnt (g : Int) : Nat := S.L.countP fun x => x.g == g
def live (g : Int) (s : Nat) : Bool := (S.at_ g (s : Int)).isSome
def blocks (g : Int) : List Int := (List.range (S.slots g).toNat).filterMap fun (s : Nat) => S.at_ g (s : Int)
def hole (g : Int) : Option Nat := (List.range (S.slots g).toNat).find? fun s => !S.live g s
def inE (g s : Int) : Int := if S.has g then (if s < 0 ∨ S.slots g ≤ s then 3 else 0) else 8
def openE (g n : Int) : Int := if g < 0 ∨ n < 1 ∨ 4096 < n then 1 else if S.has g then 9 else 0
def opened (g n : Int) : Us := ⟨S.G ++ [⟨g, n⟩], S.L⟩
def dropE (g : Int) : Int := if S.has g then 0 else 8
def dropped (g : Int) : Us := ⟨S.G.filter fun x => x.id != g, S.L.filter fun x => x.g != g⟩
def putE (g s b : Int) : Int := if S.inE g s = 0 then (if b < 0 then 1 else if (S.at_ g s).isSome then 9 else 0) else S.inE g s
def freed (b : Int) : Us := ⟨S.G, S.L.filter fun x => x.b != b⟩
def put (g s b : Int) : Us := ⟨S.G, S.L.filter (fun x => x.b != b) ++ [⟨g, s, b⟩]⟩
def clearE (g s : Int) : Int := if S.inE g s = 0 then (if (S.at_ g s).isSome then 0 else 9) else S.inE g s
def killed (g s : Int) : Us := ⟨S.G, S.L.filter fun x => !(x.g == g && x.s == s)⟩
/-- What a call leaves, whatever it answers. -/
def open' (g n : Int) : Us := if S.openE g n = 0 then S.opened g n else S
def drop' (g : Int) : Us := if S.dropE g = 0 then S.dropped g else S
def put' (g s b : Int) : Us := if S.putE g s b = 0 then S.put g s b else S
def clear' (g s : Int) : Us := if S.clearE g s = 0 then S.killed g s else S
def none_ : Us := ⟨[], []⟩
/-- One group is emptier than another one. -/
def emptier (g o : Int) : Bool := if S.cnt g = S.cnt o then decide (g < o) else decide (S.cnt g < S.cnt o)
/-- The emptiest of those that have been seen, and one more. -/
def emptyStep (acc : Option Int) (g : Int) : Option Int := if S.has g then (match acc with | none => some g | some o => if S.emptier g o then some g else some o) else acc
def emptiest (l : List Int) : Option Int := l.foldl S.emptyStep none

structure Ok : Prop where
  ids : (S.G.map Gr.id).Nodup
  gs : ∀ x ∈ S.G, 0 ≤ x.id ∧ x.id < 9223372036854775808 ∧ 1 ≤ x.n ∧ x.n ≤ 4096
  places : S.L.Pairwise fun x y => ¬ (x.g = y.g ∧ x.s = y.s)
  bs : S.L.Pairwise fun x y => x.b ≠ y.b
  ls : ∀ x ∈ S.L, S.has x.g = true ∧ 0 ≤ x.s ∧ x.s < S.slots x.g ∧ 0 ≤ x.b ∧ x.b < 9223372036854775808
end Us

section
variable {S : Us}
theorem Us.has_iff {g : Int} : S.has g = true ↔ ∃ x ∈ S.G, x.id = g := by
  simp [Us.has]
theorem Us.slots_of (h : S.Ok) {x : Gr} (hx : x ∈ S.G) : S.slots x.id = x.n := by
  have hid := h.ids
  unfold Us.slots
  suffices hs : S.G.find? (fun y => y.id == x.id) = some x by rw [hs]; rfl
  generalize S.G = l at hx hid
  induction l with
  | nil => cases hx
  | cons y r ih =>
    simp only [List.map_cons, List.nodup_cons] at hid
    rcases List.mem_cons.1 hx with rfl | hx
    · simp
    · have hne : ¬ y.id = x.id := fun e => hid.1 (List.mem_map.2 ⟨x, hx, e.symm⟩)
      simp [hne]
      simpa using ih hx hid.2
theorem Us.slots_none {g : Int} (h : S.has g = false) : S.slots g = 0 := by
  unfold Us.slots
  have : S.G.find? (fun x => x.id == g) = none := by
    rw [List.find?_eq_none]
    intro x hx e
    have h2 : S.has g = true := List.any_eq_true.2 ⟨x, hx, e⟩
    rw [h] at h2
    cases h2
  rw [this]
  rfl
theorem Us.slots_pos (h : S.Ok) {g : Int} (hg : S.has g = true) : 1 ≤ S.slots g ∧ S.slots g ≤ 4096 ∧ 0 ≤ g ∧ g < 9223372036854775808 := by
  obtain ⟨x, hx, rfl⟩ := Us.has_iff.1 hg
  rw [Us.slots_of h hx]
  have := h.gs x hx
  omega
theorem Us.slots_le (h : S.Ok) (g : Int) : 0 ≤ S.slots g ∧ S.slots g ≤ 4096 := by
  cases hg : S.has g with
  | true => have := Us.slots_pos h hg; omega
  | false => rw [Us.slots_none hg]; omega
theorem Us.has_slots (h : S.Ok) (g : Int) : S.has g = decide (0 < S.slots g) := by
  cases hg : S.has g with
  | true => have := Us.slots_pos h hg; simp; omega
  | false => rw [Us.slots_none hg]; simp
theorem Us.at_of (h : S.Ok) {x : Lv} (hx : x ∈ S.L) : S.at_ x.g x.s = some x.b := by
  have hp := h.places
  unfold Us.at_
  suffices hs : S.L.find? (fun y => y.g == x.g && y.s == x.s) = some x by rw [hs]; rfl
  generalize S.L = l at hx hp
  induction l with
  | nil => cases hx
  | cons y r ih =>
    obtain ⟨h1, h2⟩ := List.pairwise_cons.1 hp
    rcases List.mem_cons.1 hx with rfl | hx
    · simp
    · have hne := h1 x hx
      rw [List.find?_cons_of_neg (by simpa using hne)]
      exact ih hx h2
theorem Us.at_some {g s b : Int} (h : S.at_ g s = some b) : ⟨g, s, b⟩ ∈ S.L := by
  unfold Us.at_ at h
  obtain ⟨x, hx, rfl⟩ := Option.map_eq_some_iff.1 h
  have h1 := List.find?_some hx
  have h2 := List.mem_of_find?_eq_some hx
  simp only [Bool.and_eq_true, beq_iff_eq] at h1
  rw [← h1.1, ← h1.2]
  exact h2
theorem Us.fnd_of (h : S.Ok) {x : Lv} (hx : x ∈ S.L) : S.fnd x.b = some (x.g, x.s) := by
  have hp := h.bs
  unfold Us.fnd
  suffices hs : S.L.find? (fun y => y.b == x.b) = some x by rw [hs]; rfl
  generalize S.L = l at hx hp
  induction l with
  | nil => cases hx
  | cons y r ih =>
    obtain ⟨h1, h2⟩ := List.pairwise_cons.1 hp
    rcases List.mem_cons.1 hx with rfl | hx
    · simp
    · have hne := h1 x hx
      rw [List.find?_cons_of_neg (by simpa using hne)]
      exact ih hx h2
theorem Us.fnd_some {g s b : Int} (h : S.fnd b = some (g, s)) : ⟨g, s, b⟩ ∈ S.L := by
  unfold Us.fnd at h
  obtain ⟨x, hx, e⟩ := Option.map_eq_some_iff.1 h
  have h1 := List.find?_some hx
  have h2 := List.mem_of_find?_eq_some hx
  simp only [beq_iff_eq] at h1
  injection e with e1 e2
  subst e1 e2 h1
  exact h2
theorem Us.mem_at (h : S.Ok) {g s b : Int} : ⟨g, s, b⟩ ∈ S.L ↔ S.at_ g s = some b := ⟨fun hm => Us.at_of h hm, Us.at_some⟩
theorem Us.mem_fnd (h : S.Ok) {g s b : Int} : ⟨g, s, b⟩ ∈ S.L ↔ S.fnd b = some (g, s) := ⟨fun hm => Us.fnd_of h hm, Us.fnd_some⟩
/-- Block and Find are one another's turned round. -/
theorem Us.at_fnd (h : S.Ok) {g s b : Int} : S.at_ g s = some b ↔ S.fnd b = some (g, s) := (Us.mem_at h).symm.trans (Us.mem_fnd h)
theorem Us.at_has (h : S.Ok) {g s b : Int} (e : S.at_ g s = some b) : S.has g = true ∧ 0 ≤ s ∧ s < S.slots g ∧ 0 ≤ b ∧ b < 9223372036854775808 := h.ls _ (Us.at_some e)
theorem Us.at_out (h : S.Ok) {g s : Int} (e : s < 0 ∨ S.slots g ≤ s) : S.at_ g s = none := by
  cases ha : S.at_ g s with
  | none => rfl
  | some b =>
    have := Us.at_has h ha
    omega
theorem Us.fnd_neg (h : S.Ok) {b : Int} (e : b < 0) : S.fnd b = none := by
  cases ha : S.fnd b with
  | none => rfl
  | some p =>
    have := h.ls _ (Us.fnd_some ha)
    simp at this
    omega

/-! ### What turns -/
theorem Us.ok_none : Us.none_.Ok := ⟨by simp [Us.none_], by simp [Us.none_], by simp [Us.none_], by simp [Us.none_], by simp [Us.none_]⟩
theorem Us.find_filter {α : Type} (p q : α → Bool) (l : List α) (h : ∀ x ∈ l, q x = true → p x = true) : (l.filter p).find? q = l.find? q := by
  induction l with
  | nil => rfl
  | cons x r ih =>
    have ih' := ih fun y hy => h y (by simp [hy])
    cases hp : p x with
    | true =>
      rw [List.filter_cons_of_pos hp]
      cases hq : q x with
      | true => rw [List.find?_cons_of_pos hq, List.find?_cons_of_pos hq]
      | false => rw [List.find?_cons_of_neg (by simp [hq]), List.find?_cons_of_neg (by simp [hq])]; exact ih'
    | false =>
      rw [List.filter_cons_of_neg (by simp [hp])]
      have hq : q x = false := by
        cases hq : q x with
        | false => rfl
        | true => rw [h x (by simp) hq] at hp; cases hp
      rw [List.find?_cons_of_neg (by simp [hq])]
      exact ih'
theorem Us.find_gone {α : Type} (p q : α → Bool) (l : List α) (h : ∀ x ∈ l, q x = true → p x = false) : (l.filter p).find? q = none := by
  rw [List.find?_eq_none]
  intro x hx hq
  obtain ⟨h1, h2⟩ := List.mem_filter.1 hx
  rw [h x h1 hq] at h2
  cases h2
theorem Us.opened_has (S : Us) (g n x : Int) : (S.opened g n).has x = (S.has x || decide (g = x)) := by
  rw [Bool.eq_iff_iff]
  simp [Us.has, Us.opened]
theorem Us.opened_slots {g : Int} (h : S.has g = false) (n x : Int) : (S.opened g n).slots x = if x = g then n else S.slots x := by
  unfold Us.slots Us.opened
  rw [List.find?_append]
  by_cases e : x = g
  · subst e
    have h2 := Us.slots_none h
    have : S.G.find? (fun y => y.id == x) = none := by
      rw [List.find?_eq_none]
      intro y hy e
      have h2 : S.has x = true := List.any_eq_true.2 ⟨y, hy, e⟩
      rw [h] at h2
      cases h2
    rw [this]
    simp
  · have hne : ¬ g = x := fun e2 => e e2.symm
    simp [e, hne]
theorem Us.opened_at (S : Us) (g n x s : Int) : (S.opened g n).at_ x s = S.at_ x s := rfl
theorem Us.opened_fnd (S : Us) (g n b : Int) : (S.opened g n).fnd b = S.fnd b := rfl
theorem Us.opened_cnt (S : Us) (g n x : Int) : (S.opened g n).cnt x = S.cnt x := rfl
theorem Us.cnt_none (h : S.Ok) {g : Int} (hg : S.has g = false) : S.cnt g = 0 := by
  unfold Us.cnt
  rw [List.countP_eq_zero]
  intro x hx e
  have h1 := (h.ls x hx).1
  simp at e
  rw [e, hg] at h1
  cases h1
theorem Us.Ok.opened (h : S.Ok) {g n : Int} (h0 : S.openE g n = 0) (hg : g < 9223372036854775808) : (S.opened g n).Ok := by
  unfold Us.openE at h0
  have h1 : ¬ (g < 0 ∨ n < 1 ∨ 4096 < n) := fun e => by rw [if_pos e] at h0; omega
  rw [if_neg h1] at h0
  have h2 : S.has g = false := by
    cases e : S.has g with
    | false => rfl
    | true => rw [e] at h0; simp at h0
  have hno : ∀ x ∈ S.G, x.id ≠ g := fun x hx e => by
    rw [Us.has_iff.2 ⟨x, hx, e⟩] at h2
    cases h2
  refine ⟨?_, ?_, h.places, h.bs, fun x hx => ?_⟩
  · show ((S.G ++ [(⟨g, n⟩ : Gr)]).map Gr.id).Nodup
    rw [List.map_append, List.nodup_append]
    refine ⟨h.ids, by simp, ?_⟩
    intro a ha b hb e
    simp at hb
    obtain ⟨x, hx, rfl⟩ := List.mem_map.1 ha
    exact hno x hx (by omega)
  · intro x hx
    rcases List.mem_append.1 hx with hx | hx
    · exact h.gs x hx
    · simp at hx
      subst hx
      show 0 ≤ g ∧ g < _ ∧ 1 ≤ n ∧ n ≤ 4096
      omega
  · have k := h.ls x hx
    have hne : ¬ x.g = g := fun e => by rw [e, h2] at k; exact absurd k.1 (by simp)
    rw [Us.opened_has, Us.opened_slots h2, if_neg hne, k.1]
    simp
    omega
theorem Us.dropped_has (S : Us) (g x : Int) : (S.dropped g).has x = (S.has x && decide (x ≠ g)) := by
  rw [Bool.eq_iff_iff]
  simp only [Us.has, Us.dropped, List.any_eq_true, Bool.and_eq_true, decide_eq_true_eq, List.mem_filter, beq_iff_eq, bne_iff_ne]
  constructor
  · rintro ⟨y, ⟨hy, hne⟩, rfl⟩
    exact ⟨⟨y, hy, rfl⟩, hne⟩
  · rintro ⟨⟨y, hy, rfl⟩, hne⟩
    exact ⟨y, ⟨hy, hne⟩, rfl⟩
theorem Us.dropped_slots (S : Us) (g x : Int) : (S.dropped g).slots x = if x = g then 0 else S.slots x := by
  unfold Us.slots Us.dropped
  by_cases e : x = g
  · subst e
    rw [if_pos rfl, Us.find_gone _ _ _ (by simp)]
    rfl
  · rw [if_neg e, Us.find_filter _ _ _ (by
      intro y _ hy
      simp at hy ⊢
      rw [hy]
      exact e)]
theorem Us.dropped_at (S : Us) (g x s : Int) : (S.dropped g).at_ x s = if x = g then none else S.at_ x s := by
  unfold Us.at_ Us.dropped
  by_cases e : x = g
  · subst e
    rw [if_pos rfl, Us.find_gone _ _ _ (by simp; intros; assumption)]
    rfl
  · rw [if_neg e, Us.find_filter _ _ _ (by
      intro y _ hy
      simp at hy ⊢
      rw [hy.1]
      exact e)]
theorem Us.dropped_fnd (h : S.Ok) (g b : Int) : (S.dropped g).fnd b = match S.fnd b with | some p => if p.1 = g then none else some p | none => none := by
  cases hf : S.fnd b with
  | none =>
    unfold Us.fnd at hf ⊢
    have h1 := List.find?_eq_none.1 (Option.map_eq_none_iff.1 hf)
    have : (S.dropped g).L.find? (fun x => x.b == b) = none := List.find?_eq_none.2 fun x hx => h1 x (List.mem_filter.1 hx).1
    rw [this]
    rfl
  | some p =>
    obtain ⟨x, s⟩ := p
    have hm := Us.fnd_some hf
    unfold Us.fnd
    show Option.map _ ((S.L.filter fun x => x.g != g).find? _) = if x = g then none else some (x, s)
    by_cases e : x = g
    · rw [if_pos e, Us.find_gone _ _ _ (fun y hy hyb => ?_)]
      · rfl
      · simp at hyb
        have h2 := Us.fnd_of h hy
        rw [hyb, hf] at h2
        injection h2 with h2
        injection h2 with h2 _
        simp
        omega
    · rw [if_neg e, Us.find_filter _ _ _ (fun y hy hyb => ?_)]
      · exact hf
      · simp at hyb
        have h2 := Us.fnd_of h hy
        rw [hyb, hf] at h2
        injection h2 with h2
        injection h2 with h2 _
        simp
        omega
theorem Us.dropped_cnt (S : Us) (g x : Int) : (S.dropped g).cnt x = if x = g then 0 else S.cnt x := by
  unfold Us.cnt Us.dropped
  rw [List.countP_filter]
  by_cases e : x = g
  · subst e
    rw [if_pos rfl, List.countP_eq_zero]
    intro y _ hy
    simp at hy
  · rw [if_neg e]
    refine List.countP_congr fun y _ => ?_
    simp
    intro hy
    rw [hy]
    exact e
theorem Us.Ok.dropped (h : S.Ok) (g : Int) : (S.dropped g).Ok := by
  refine ⟨?_, fun x hx => h.gs x (List.mem_filter.1 hx).1, h.places.filter _, h.bs.filter _, fun x hx => ?_⟩
  · exact h.ids.sublist (List.filter_sublist.map _)
  · obtain ⟨h1, h2⟩ := List.mem_filter.1 hx
    simp at h2
    have k := h.ls x h1
    rw [Us.dropped_has, Us.dropped_slots, if_neg h2, k.1]
    simp
    omega
theorem Us.killed_has (S : Us) (g s x : Int) : (S.killed g s).has x = S.has x := rfl
theorem Us.killed_slots (S : Us) (g s x : Int) : (S.killed g s).slots x = S.slots x := rfl
theorem Us.Ok.killed (h : S.Ok) (g s : Int) : (S.killed g s).Ok :=
  ⟨h.ids, h.gs, h.places.filter _, h.bs.filter _, fun x hx => h.ls x (List.mem_filter.1 hx).1⟩
theorem Us.killed_at (S : Us) (g s x y : Int) : (S.killed g s).at_ x y = if x = g ∧ y = s then none else S.at_ x y := by
  unfold Us.at_ Us.killed
  by_cases e : x = g ∧ y = s
  · rw [if_pos e, Us.find_gone _ _ _ (by
      intro z _ hz
      simp at hz ⊢
      rw [hz.1, hz.2]
      exact e)]
    rfl
  · rw [if_neg e, Us.find_filter _ _ _ (by
      intro z _ hz
      simp at hz ⊢
      rw [hz.1, hz.2]
      exact Decidable.not_and_iff_or_not.1 e)]
theorem Us.killed_fnd (h : S.Ok) (g s b : Int) : (S.killed g s).fnd b = if S.fnd b = some (g, s) then none else S.fnd b := by
  unfold Us.killed
  by_cases e : S.fnd b = some (g, s)
  · rw [if_pos e]
    unfold Us.fnd
    dsimp only
    rw [Us.find_gone _ _ _ (fun y hy hyb => ?_)]
    · rfl
    · simp at hyb
      have h2 := Us.fnd_of h hy
      rw [hyb, e] at h2
      injection h2 with h2
      injection h2 with h2 h3
      simp
      omega
  · rw [if_neg e]
    unfold Us.fnd
    dsimp only
    rw [Us.find_filter _ _ _ (fun y hy hyb => ?_)]
    simp at hyb
    have h2 := Us.fnd_of h hy
    rw [hyb] at h2
    simp
    refine Decidable.not_and_iff_or_not.1 fun ⟨e1, e2⟩ => ?_
    exact e (by rw [h2, e1, e2])
theorem Us.countP_but {l : List Lv} (hp : l.Pairwise fun x y => ¬ (x.g = y.g ∧ x.s = y.s)) {z : Lv} (hz : z ∈ l) (x : Int) :
    (l.filter fun y => !(y.g == z.g && y.s == z.s)).countP (fun y => y.g == x) + (if z.g = x then 1 else 0) = l.countP fun y => y.g == x := by
  induction l with
  | nil => cases hz
  | cons y r ih =>
    obtain ⟨h1, h2⟩ := List.pairwise_cons.1 hp
    rcases List.mem_cons.1 hz with rfl | hz
    · rw [List.filter_cons_of_neg (by simp)]
      have hall : r.filter (fun y => !(y.g == z.g && y.s == z.s)) = r := List.filter_eq_self.2 fun y hy => by
        have := h1 y hy
        simp
        exact Decidable.not_and_iff_or_not.1 fun ⟨e1, e2⟩ => this ⟨e1.symm, e2.symm⟩
      rw [hall, List.countP_cons]
      simp
    · have hne : ¬ (y.g = z.g ∧ y.s = z.s) := h1 z hz
      rw [List.filter_cons_of_pos (by simp; exact Decidable.not_and_iff_or_not.1 hne), List.countP_cons, List.countP_cons]
      have := ih h2 hz
      omega
theorem Us.killed_cnt (h : S.Ok) {g s b : Int} (e : S.at_ g s = some b) (x : Int) : (S.killed g s).cnt x + (if g = x then 1 else 0) = S.cnt x := by
  have := Us.countP_but h.places (Us.at_some e) x
  exact this
/-- The slot that has a block is dead: the like, told by the block. -/
theorem Us.freed_killed (h : S.Ok) {g s b : Int} (e : S.fnd b = some (g, s)) : S.freed b = S.killed g s := by
  unfold Us.freed Us.killed
  congr 1
  refine List.filter_congr fun x hx => ?_
  rw [Bool.eq_iff_iff]
  simp only [bne_iff_ne, Bool.not_eq_true', Bool.and_eq_false_iff, beq_eq_false_iff_ne]
  have hm := (Us.mem_fnd h).2 e
  constructor
  · intro hb
    by_cases h1 : x.g = g
    · by_cases h2 : x.s = s
      · have h3 := Us.at_of h hx
        rw [h1, h2, Us.at_of h hm] at h3
        injection h3 with h3
        exact absurd h3.symm hb
      · exact .inr h2
    · exact .inl h1
  · rintro hn rfl
    have h3 := Us.fnd_of h hx
    rw [e] at h3
    injection h3 with h3
    injection h3 with h3 h4
    rcases hn with hn | hn
    · exact hn h3.symm
    · exact hn h4.symm
theorem Us.freed_none {b : Int} (e : S.fnd b = none) : S.freed b = S := by
  unfold Us.freed
  have h1 := List.find?_eq_none.1 (Option.map_eq_none_iff.1 e)
  have : S.L.filter (fun x => x.b != b) = S.L := List.filter_eq_self.2 fun x hx => by
    have := h1 x hx
    simpa using this
  rw [this]
theorem Us.Ok.freed (h : S.Ok) (b : Int) : (S.freed b).Ok :=
  ⟨h.ids, h.gs, h.places.filter _, h.bs.filter _, fun x hx => h.ls x (List.mem_filter.1 hx).1⟩
theorem Us.freed_at (h : S.Ok) (b g s : Int) : (S.freed b).at_ g s = if S.at_ g s = some b then none else S.at_ g s := by
  by_cases e : S.at_ g s = some b
  · rw [if_pos e, Us.freed_killed h ((Us.at_fnd h).1 e), Us.killed_at, if_pos ⟨rfl, rfl⟩]
  · rw [if_neg e]
    cases hf : S.fnd b with
    | none => rw [Us.freed_none hf]
    | some p =>
      obtain ⟨x, y⟩ := p
      rw [Us.freed_killed h hf, Us.killed_at, if_neg]
      rintro ⟨rfl, rfl⟩
      exact e ((Us.at_fnd h).2 hf)
theorem Us.freed_fnd (S : Us) (b c : Int) : (S.freed b).fnd c = if c = b then none else S.fnd c := by
  unfold Us.fnd Us.freed
  by_cases e : c = b
  · subst e
    rw [if_pos rfl, Us.find_gone _ _ _ (by simp)]
    rfl
  · rw [if_neg e, Us.find_filter _ _ _ (by
      intro z _ hz
      simp at hz ⊢
      rw [hz]
      exact e)]
theorem Us.put_freed (S : Us) (g s b : Int) : S.put g s b = ⟨(S.freed b).G, (S.freed b).L ++ [⟨g, s, b⟩]⟩ := rfl
theorem Us.put_has (S : Us) (g s b x : Int) : (S.put g s b).has x = S.has x := rfl
theorem Us.put_slots (S : Us) (g s b x : Int) : (S.put g s b).slots x = S.slots x := rfl
theorem Us.putE_zero {g s b : Int} (h : S.putE g s b = 0) : S.has g = true ∧ 0 ≤ s ∧ s < S.slots g ∧ 0 ≤ b ∧ S.at_ g s = none := by
  unfold Us.putE at h
  by_cases h1 : S.inE g s = 0
  · rw [if_pos h1] at h
    unfold Us.inE at h1
    cases hg : S.has g with
    | false => rw [hg] at h1; simp at h1
    | true =>
      rw [hg] at h1
      simp only [if_true] at h1
      by_cases h2 : s < 0 ∨ S.slots g ≤ s
      · rw [if_pos h2] at h1; omega
      · by_cases h3 : b < 0
        · rw [if_pos h3] at h; omega
        · rw [if_neg h3] at h
          cases h4 : S.at_ g s with
          | none => exact ⟨rfl, by omega, by omega, by omega, rfl⟩
          | some u => rw [h4] at h; simp at h
  · rw [if_neg h1] at h
    exact absurd h h1
theorem Us.put_at (h : S.Ok) {g s b : Int} (h0 : S.at_ g s = none) (x y : Int) : (S.put g s b).at_ x y = if x = g ∧ y = s then some b else if S.at_ x y = some b then none else S.at_ x y := by
  rw [Us.put_freed]
  unfold Us.at_
  dsimp only
  rw [List.find?_append, Option.map_or]
  have hf := Us.freed_at h b x y
  unfold Us.at_ at hf
  rw [hf]
  by_cases e : x = g ∧ y = s
  · obtain ⟨rfl, rfl⟩ := e
    unfold Us.at_ at h0
    rw [h0]
    simp
  · rw [if_neg e]
    have hne : ¬ (g = x ∧ s = y) := fun e2 => e ⟨e2.1.symm, e2.2.symm⟩
    have : List.find? (fun z : Lv => z.g == x && z.s == y) [⟨g, s, b⟩] = none := by
      simp
      intro e1 e2
      exact hne ⟨e1, e2⟩
    rw [this]
    simp
theorem Us.put_fnd (S : Us) (g s b c : Int) : (S.put g s b).fnd c = if c = b then some (g, s) else S.fnd c := by
  rw [Us.put_freed]
  unfold Us.fnd
  dsimp only
  rw [List.find?_append, Option.map_or]
  have hf := Us.freed_fnd S b c
  unfold Us.fnd at hf
  rw [hf]
  by_cases e : c = b
  · subst e
    simp
  · have hne : ¬ b = c := fun e2 => e e2.symm
    simp [e, hne]
theorem Us.put_cnt (S : Us) (g s b x : Int) : (S.put g s b).cnt x = (S.freed b).cnt x + if g = x then 1 else 0 := by
  rw [Us.put_freed]
  unfold Us.cnt
  rw [List.countP_append]
  simp [List.countP_cons]
theorem Us.Ok.put (h : S.Ok) {g s b : Int} (h0 : S.putE g s b = 0) (hb : b < 9223372036854775808) : (S.put g s b).Ok := by
  obtain ⟨h1, h2, h3, h4, h5⟩ := Us.putE_zero h0
  refine ⟨h.ids, h.gs, ?_, ?_, fun x hx => ?_⟩
  · refine List.pairwise_append.2 ⟨h.places.filter _, by simp, ?_⟩
    intro x hx y hy
    simp at hy
    subst hy
    rintro ⟨e1, e2⟩
    have h6 := Us.at_of h (List.mem_filter.1 hx).1
    rw [e1, e2, h5] at h6
    cases h6
  · refine List.pairwise_append.2 ⟨h.bs.filter _, by simp, ?_⟩
    intro x hx y hy
    simp at hy
    subst hy
    have := (List.mem_filter.1 hx).2
    simpa using this
  · rcases List.mem_append.1 hx with hx | hx
    · exact h.ls x (List.mem_filter.1 hx).1
    · simp at hx
      subst hx
      exact ⟨h1, h2, h3, h4, hb⟩
theorem Us.put_len (S : Us) (g s b : Int) : (S.put g s b).L.length ≤ S.L.length + 1 := by
  have := List.length_filter_le (fun x => x.b != b) S.L
  simp [Us.put]
  exact this
theorem Us.killed_len (S : Us) (g s : Int) : (S.killed g s).L.length ≤ S.L.length := List.length_filter_le _ _
theorem Us.dropped_len (S : Us) (g : Int) : (S.dropped g).L.length ≤ S.L.length ∧ (S.dropped g).G.length ≤ S.G.length := ⟨List.length_filter_le _ _, List.length_filter_le _ _⟩
theorem Us.opened_len (S : Us) (g n : Int) : (S.opened g n).G.length = S.G.length + 1 := by simp [Us.opened]
theorem Us.cnt_le (S : Us) (g : Int) : S.cnt g ≤ S.L.length := List.countP_le_length
/-- As many blocks as live slots. -/
theorem Us.blocks_len (h : S.Ok) (g : Int) : (S.blocks g).length = S.cnt g := by
  have h1 : (S.blocks g).Perm ((S.L.filter fun x => x.g == g).map Lv.b) := by
    refine (List.perm_ext_iff_of_nodup ?_ ?_).2 fun b => ?_
    · unfold Us.blocks
      refine List.Pairwise.filterMap (R := fun x y => x ≠ y) _ (fun a a' hne b hb b' hb' e => ?_) List.nodup_range
      rw [← e] at hb'
      have k1 := (Us.at_fnd h).1 hb
      have k2 := (Us.at_fnd h).1 hb'
      rw [k1] at k2
      injection k2 with k2
      injection k2 with _ k2
      omega
    · rw [List.Nodup, List.pairwise_map]
      exact h.bs.filter _
    · unfold Us.blocks
      rw [List.mem_filterMap, List.mem_map]
      constructor
      · rintro ⟨s, hs, hb⟩
        exact ⟨⟨g, s, b⟩, List.mem_filter.2 ⟨Us.at_some hb, by simp⟩, rfl⟩
      · rintro ⟨x, hx, rfl⟩
        obtain ⟨hx1, hx2⟩ := List.mem_filter.1 hx
        simp at hx2
        have k := h.ls x hx1
        rw [hx2] at k
        refine ⟨x.s.toNat, List.mem_range.2 (by omega), ?_⟩
        have : ((x.s.toNat : Nat) : Int) = x.s := by omega
        rw [this, ← hx2]
        exact Us.at_of h hx1
  rw [h1.length_eq, List.length_map]
  unfold Us.cnt
  rw [List.countP_eq_length_filter]
theorem Us.mem_blocks (h : S.Ok) {g b : Int} : b ∈ S.blocks g ↔ ∃ s, S.at_ g s = some b := by
  unfold Us.blocks
  rw [List.mem_filterMap]
  constructor
  · rintro ⟨s, _, hb⟩
    exact ⟨_, hb⟩
  · rintro ⟨s, hb⟩
    have k := Us.at_has h hb
    refine ⟨s.toNat, List.mem_range.2 (by omega), ?_⟩
    have : ((s.toNat : Nat) : Int) = s := by omega
    rw [this]
    exact hb
theorem Us.blocks_nodup (h : S.Ok) (g : Int) : (S.blocks g).Nodup := by
  unfold Us.blocks
  refine List.Pairwise.filterMap (R := fun x y => x ≠ y) _ (fun a a' hne b hb b' hb' e => ?_) List.nodup_range
  rw [← e] at hb'
  have k1 := (Us.at_fnd h).1 hb
  have k2 := (Us.at_fnd h).1 hb'
  rw [k1] at k2
  injection k2 with k2
  injection k2 with _ k2
  omega
/-- Without the blocks of a list. -/
def Us.cutB (S : Us) (l : List Int) : Us := ⟨S.G, S.L.filter fun x => !l.contains x.b⟩
theorem Us.cutB_nil (S : Us) : S.cutB [] = S := by
  unfold Us.cutB
  have : S.L.filter (fun x => !([] : List Int).contains x.b) = S.L := List.filter_eq_self.2 (by simp)
  rw [this]
theorem Us.cutB_more (S : Us) (l : List Int) (b : Int) : S.cutB (l ++ [b]) = (S.cutB l).freed b := by
  unfold Us.cutB Us.freed
  simp only [List.filter_filter]
  congr 1
  refine List.filter_congr fun x _ => ?_
  rw [Bool.eq_iff_iff]
  simp
  exact And.comm
theorem Us.Ok.cutB (h : S.Ok) (l : List Int) : (S.cutB l).Ok :=
  ⟨h.ids, h.gs, h.places.filter _, h.bs.filter _, fun x hx => h.ls x (List.mem_filter.1 hx).1⟩
theorem Us.cutB_fnd (S : Us) {l : List Int} {b : Int} (hb : b ∉ l) : (S.cutB l).fnd b = S.fnd b := by
  unfold Us.fnd Us.cutB
  dsimp only
  rw [Us.find_filter _ _ _ (by
    intro x _ hx
    simp at hx ⊢
    rw [hx]
    exact hb)]
theorem Us.cutB_all (h : S.Ok) (g : Int) : S.cutB (S.blocks g) = ⟨S.G, S.L.filter fun x => x.g != g⟩ := by
  unfold Us.cutB
  congr 1
  refine List.filter_congr fun x hx => ?_
  rw [Bool.eq_iff_iff]
  simp only [Bool.not_eq_true', List.contains_eq_mem, decide_eq_false_iff_not, bne_iff_ne, ne_eq]
  rw [Us.mem_blocks h]
  constructor
  · rintro hn rfl
    exact hn ⟨_, Us.at_of h hx⟩
  · rintro hn ⟨s, hs⟩
    have h1 := (Us.at_fnd h).1 hs
    rw [Us.fnd_of h hx] at h1
    injection h1 with h1
    injection h1 with h1 _
    exact hn h1
end
#print axioms Us.blocks_len
end Go.Proofs.Ytgoglgghnjgcdaa
