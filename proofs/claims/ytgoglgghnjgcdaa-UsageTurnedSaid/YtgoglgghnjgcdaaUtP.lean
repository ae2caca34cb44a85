/- What UsageTurned asks, as plain facts. -/
import Derived.Test.YtgoglgghnjgcdaaUsgN
namespace Go.Proofs.Ytgoglgghnjgcdaa
open Go.RowKit Go.Maps

/-- Groups 0 to n - 1 of any sizes, blocks below 64. -/
structure Tu (f : Nat → Int) (n : Nat) (S : Us) : Prop where
  ok : S.Ok
  g : S.G = grp f n
  b : ∀ x ∈ S.L, x.b < 64
/-- The blocks seen when the slots of the groups below g, and the first s of group g, have been gone through. -/
def sn (S : Us) (g s : Int) (i : Nat) : Bool := S.L.any fun x => decide (x.b = (i : Int)) && (decide (x.g < g) || (decide (x.g = g) && decide (x.s < s)))
/-- The first dead slot of the first s ones; -1: none. -/
def hol (S : Us) (g : Int) (s : Nat) : Int := match (List.range s).find? (fun j => !S.live g j) with | none => -1 | some j => (j : Int)
section
variable {f : Nat → Int} {n : Nat} {S : Us}
theorem Tu.has (h : Tu f n S) (x : Int) : S.has x = decide (0 ≤ x ∧ x < (n : Int)) := by
  have := grp_has f n S.L x
  rw [← h.g] at this
  exact this
theorem Tu.put (h : Tu f n S) (g s b : Int) (h0 : 0 ≤ b) (hb : b < 64) : Tu f n (S.put' g s b) := by
  refine ⟨h.ok.put' g s b (by unfold okI64; omega), (S.put_len' g s b).1.trans h.g, ?_⟩
  unfold Us.put'
  split
  · intro x hx
    unfold Us.put at hx
    rcases List.mem_append.1 hx with hx | hx
    · exact h.b x (List.mem_filter.1 hx).1
    · simp at hx
      rw [hx]
      exact hb
  · exact h.b
theorem Tu.clear (h : Tu f n S) (g s : Int) : Tu f n (S.clear' g s) := by
  refine ⟨h.ok.clear' g s, (S.clear_len g s).1.trans h.g, ?_⟩
  unfold Us.clear'
  split
  · intro x hx
    exact h.b x (List.mem_filter.1 hx).1
  · exact h.b
theorem sn_iff {g s : Int} {i : Nat} : sn S g s i = true ↔ ∃ x ∈ S.L, x.b = (i : Int) ∧ (x.g < g ∨ x.g = g ∧ x.s < s) := by
  unfold sn
  rw [List.any_eq_true]
  constructor
  · rintro ⟨x, hx, h⟩
    simp only [Bool.and_eq_true, Bool.or_eq_true, decide_eq_true_eq] at h
    exact ⟨x, hx, h⟩
  · rintro ⟨x, hx, h⟩
    refine ⟨x, hx, ?_⟩
    simp only [Bool.and_eq_true, Bool.or_eq_true, decide_eq_true_eq]
    exact h
theorem sn_start (h : S.Ok) : sn S 0 0 = fun _ => false := by
  funext i
  cases hs : sn S 0 0 i with
  | false => rfl
  | true =>
    obtain ⟨x, hx, _, h1⟩ := sn_iff.1 hs
    have h2 := h.ls x hx
    have := Us.slots_pos h h2.1
    omega
theorem sn_dead (h : S.Ok) {g s : Int} (hd : S.at_ g s = none) : sn S g (s + 1) = sn S g s := by
  funext i
  rw [Bool.eq_iff_iff, sn_iff, sn_iff]
  constructor
  · rintro ⟨x, hx, hb, h1⟩
    refine ⟨x, hx, hb, ?_⟩
    rcases h1 with h1 | ⟨h1, h2⟩
    · exact .inl h1
    · by_cases hs : x.s = s
      · have := Us.at_of h hx
        rw [h1, hs, hd] at this
        cases this
      · exact .inr ⟨h1, by omega⟩
  · rintro ⟨x, hx, hb, h1⟩
    exact ⟨x, hx, hb, by omega⟩
theorem sn_live (h : S.Ok) {g s : Int} {b : Nat} (hl : S.at_ g s = some (b : Int)) : sn S g (s + 1) = upd (sn S g s) b true ∧ sn S g s b = false := by
  have hf := (Us.at_fnd h).1 hl
  have huniq : ∀ x ∈ S.L, x.b = (b : Int) → x.g = g ∧ x.s = s := by
    intro x hx hb
    have h1 := Us.fnd_of h hx
    rw [hb, hf] at h1
    injection h1 with h1
    injection h1 with h1 h2
    exact ⟨h1.symm, h2.symm⟩
  refine ⟨?_, ?_⟩
  · funext i
    by_cases hi : i = b
    · subst hi
      rw [upd_self, sn_iff]
      exact ⟨_, Us.at_some hl, rfl, .inr ⟨rfl, by show s < s + 1; omega⟩⟩
    · rw [upd_ne _ _ hi, Bool.eq_iff_iff, sn_iff, sn_iff]
      constructor
      · rintro ⟨x, hx, hb, h1⟩
        refine ⟨x, hx, hb, ?_⟩
        rcases h1 with h1 | ⟨h1, h2⟩
        · exact .inl h1
        · by_cases hs : x.s = s
          · have := Us.at_of h hx
            rw [h1, hs, hl] at this
            injection this with this
            omega
          · exact .inr ⟨h1, by omega⟩
      · rintro ⟨x, hx, hb, h1⟩
        exact ⟨x, hx, hb, by omega⟩
  · cases hs : sn S g s b with
    | false => rfl
    | true =>
      obtain ⟨x, hx, hb, h1⟩ := sn_iff.1 hs
      have := huniq x hx hb
      omega
theorem sn_next (h : S.Ok) (g : Int) : sn S g (S.slots g) = sn S (g + 1) 0 := by
  funext i
  rw [Bool.eq_iff_iff, sn_iff, sn_iff]
  constructor
  · rintro ⟨x, hx, hb, h1⟩
    exact ⟨x, hx, hb, .inl (by omega)⟩
  · rintro ⟨x, hx, hb, h1⟩
    have h2 := h.ls x hx
    refine ⟨x, hx, hb, ?_⟩
    by_cases hg : x.g = g
    · rw [← hg]
      exact .inr ⟨rfl, h2.2.2.1⟩
    · exact .inl (by omega)
theorem sn_end (h : Tu f n S) (i : Nat) : sn S (n : Int) 0 i = (S.fnd (i : Int)).isSome := by
  rw [Bool.eq_iff_iff, sn_iff, Option.isSome_iff_exists]
  constructor
  · rintro ⟨x, hx, hb, _⟩
    exact ⟨_, by rw [← hb]; exact Us.fnd_of h.ok hx⟩
  · rintro ⟨p, hp⟩
    obtain ⟨g, s⟩ := p
    have hm := Us.fnd_some hp
    have h1 := (h.ok.ls _ hm).1
    rw [h.has] at h1
    simp at h1
    exact ⟨_, hm, rfl, .inl h1.2⟩
theorem hol_zero (S : Us) (g : Int) : hol S g 0 = -1 := rfl
theorem hol_succ (S : Us) (g : Int) (s : Nat) : hol S g (s + 1) = if hol S g s < 0 then (if S.live g s then -1 else (s : Int)) else hol S g s := by
  unfold hol
  rw [List.range_succ, List.find?_append]
  cases hf : (List.range s).find? (fun j => !S.live g j) with
  | some j =>
    simp only [Option.some_or]
    rw [if_neg (by omega)]
  | none =>
    simp only [Option.none_or]
    rw [if_pos (by decide)]
    cases hl : S.live g s with
    | true => simp [hl]
    | false => simp [hl]
theorem hol_cases (S : Us) (g : Int) (s : Nat) : hol S g s = -1 ∨ 0 ≤ hol S g s := by
  unfold hol
  cases (List.range s).find? (fun j => !S.live g j) with
  | none => exact .inl rfl
  | some j => right; show (0 : Int) ≤ (j : Int); omega
theorem hol_live {g : Int} {s : Nat} (h : S.live g s = true) : hol S g (s + 1) = hol S g s := by
  rw [hol_succ, h, if_pos rfl]
  rcases hol_cases S g s with hn | hn
  · rw [hn]
    rfl
  · rw [if_neg (by omega)]
theorem hol_dead {g : Int} {s : Nat} (h : S.live g s = false) : hol S g (s + 1) = if hol S g s < 0 then (s : Int) else hol S g s := by
  rw [hol_succ, h]
  rfl
theorem hol_end (S : Us) (g : Int) : hol S g (S.slots g).toNat = match S.hole g with | none => -1 | some j => (j : Int) := rfl
end
theorem masks31 (l : List Int) : ∃ m : Nat → Nat, ∀ i, bits .and .i64 (l.getD i 0) 31 = ((m i : Nat) : Int) ∧ m i < 32 :=
  ⟨fun i => (mask_31 (l.getD i 0)).choose, fun i => (mask_31 (l.getD i 0)).choose_spec⟩
theorem getD_of' {l : List Int} {i : Nat} {x : Int} (h : l[i]? = some x) : l.getD i 0 = x := by
  rw [List.getD_eq_getElem?_getD, h]
  rfl
#print axioms hol_dead
end Go.Proofs.Ytgoglgghnjgcdaa
