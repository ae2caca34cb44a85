/- A law's memory as one fact that is carried on (Sta): things that lie each in blocks of their own, and variables beside them. No program is named here. -/
import Derived.Test.YthodmhjlokfcaaaStill
import Derived.Test.YthodmhjlokfcaaaWhen
import Derived.Test.YthodmhjlokfcaaaTwoRows
import Derived.Deep.MidRow
namespace Go.Proofs.Ythodmhjlokfcaaa
open Go.RowKit
set_option linter.unusedVariables false
abbrev VarsT := List (Nat × TypeId × List Value)
/-- Blocks of a law's own: each with its type and cells; all lie at hi or behind. -/
def OwnV (W : World) (hi : Nat) (V : VarsT) : Prop := ∀ (i : Nat) (p : Nat × TypeId × List Value), V[i]? = some p → hi ≤ p.1 ∧ Blk W p.1 p.2.1 p.2.2.toArray
section
variable {W W' : World} {hi : Nat} {V : VarsT}
theorem OwnV.blk (h : OwnV W hi V) (i : Nat) {g : Nat} {t : TypeId} {cs : List Value} (e : V[i]? = some (g, t, cs)) : Blk W g t cs.toArray := (h i _ e).2
theorem OwnV.range (h : OwnV W hi V) (i : Nat) {g : Nat} {t : TypeId} {cs : List Value} (e : V[i]? = some (g, t, cs)) : W.rangeAt g 0 cs := fun j v hj => by rw [Nat.zero_add, (h.blk i e).cell j]; simpa using hj
theorem OwnV.nil (W : World) (hi : Nat) : OwnV W hi [] := fun i p e => by simp at e
theorem OwnV.later (h : OwnV W hi V) (hb : Below W.heap.size W W') : OwnV W' hi V := fun i p e => ⟨(h i p e).1, (h i p e).2.below hb (h i p e).2.lt⟩
theorem OwnV.add (h : OwnV W hi V) {g : Nat} {t : TypeId} {cs : List Value} (hg : hi ≤ g) (hb : Blk W g t cs.toArray) : OwnV W hi (V ++ [(g, t, cs)]) := fun i p e => by
  rw [List.getElem?_append] at e
  split at e
  · exact h i p e
  · have : p = (g, t, cs) := by
      have h2 : i - V.length = 0 := by
        by_cases hz : i - V.length = 0
        · exact hz
        · rw [List.getElem?_eq_none (by simp; omega)] at e; cases e
      rw [h2] at e
      simpa using e.symm
    rw [this]
    exact ⟨hg, hb⟩
theorem OwnV.poke (h : OwnV W hi V) (k : Nat) {g : Nat} {t : TypeId} {cs cs' : List Value} (e : V[k]? = some (g, t, cs)) (hne : ∀ i p, V[i]? = some p → i ≠ k → p.1 ≠ g) (hb : Blk W' g t cs'.toArray) (hg : W.grownBy W' (some g)) : OwnV W' hi (V.set k (g, t, cs')) := fun i p ei => by
  rw [List.getElem?_set] at ei
  split at ei
  · split at ei
    · injection ei with ei
      subst ei
      exact ⟨(h k _ e).1, hb⟩
    · cases ei
  · rename_i hik
    obtain ⟨h1, h2⟩ := h i p ei
    exact ⟨h1, h2.grown hg (fun hs => by injection hs with hs; exact hne i p ei (fun e => hik e.symm) hs)⟩
theorem OwnV.turned {F : Nat → Prop} (h : OwnV W hi V) (hT : Turn F W W') (hn : ∀ (i : Nat) (p : Nat × TypeId × List Value), V[i]? = some p → ¬ F p.1) : OwnV W' hi V := fun i p e => ⟨(h i p e).1, (h i p e).2.of_block (hT.block _ (h i p e).2.lt (hn i p e))⟩
theorem nodup_other (h : (V.map (·.1)).Nodup) {i k : Nat} {p q : Nat × TypeId × List Value} (hi : V[i]? = some p) (hk : V[k]? = some q) (hne : i ≠ k) : p.1 ≠ q.1 := by
  intro e
  have h1 : (V.map (·.1))[i]? = some p.1 := by rw [List.getElem?_map, hi]; rfl
  have h2 : (V.map (·.1))[k]? = some p.1 := by rw [List.getElem?_map, hk, e]; rfl
  have hil : i < (V.map (·.1)).length := by
    rcases Nat.lt_or_ge i (V.map (·.1)).length with h | h
    · exact h
    · rw [List.getElem?_eq_none h] at h1; cases h1
  exact hne ((List.getElem?_inj hil h).1 (h1.trans h2.symm))
theorem vars_add {g : Nat} {t : TypeId} {cs : List Value} {p : Nat → Prop} (h : ∀ (i : Nat) (q : Nat × TypeId × List Value), V[i]? = some q → p q.1) (hg : p g) : ∀ (i : Nat) (q : Nat × TypeId × List Value), (V ++ [(g, t, cs)])[i]? = some q → p q.1 := fun i q e => by
  rw [List.getElem?_append] at e
  split at e
  · exact h i q e
  · by_cases hz : i - V.length = 0
    · rw [hz] at e
      have : q = (g, t, cs) := by simpa using e.symm
      rw [this]
      exact hg
    · rw [List.getElem?_eq_none (by simp; omega)] at e; cases e
theorem nodup_add {g : Nat} {t : TypeId} {cs : List Value} (h : (V.map (·.1)).Nodup) (ho : OwnV W hi V) (hg : W.heap.size ≤ g) : ((V ++ [(g, t, cs)]).map (·.1)).Nodup := by
  rw [List.map_append, List.nodup_append]
  refine ⟨h, by simp, fun a ha c hc e => ?_⟩
  have hc' : c = g := by simpa using hc
  obtain ⟨p, hp, hpa⟩ := List.mem_map.1 ha
  obtain ⟨i, hip⟩ := List.getElem?_of_mem hp
  have hl := (ho i p hip).2.lt
  omega
theorem map_same {k g : Nat} {t : TypeId} {cs cs' : List Value} (e : V[k]? = some (g, t, cs)) : (V.set k (g, t, cs')).map (·.1) = V.map (·.1) := by
  rw [List.map_set]
  apply List.ext_getElem?
  intro j
  rw [List.getElem?_set]
  split
  · rename_i hj
    split
    · rw [← hj, List.getElem?_map, e]; rfl
    · rename_i hl
      rw [List.getElem?_eq_none (by omega)]
  · rfl
theorem vars_set {k g : Nat} {t : TypeId} {cs cs' : List Value} {p : Nat → Prop} (h : ∀ (i : Nat) (q : Nat × TypeId × List Value), V[i]? = some q → p q.1) (e : V[k]? = some (g, t, cs)) : ∀ (i : Nat) (q : Nat × TypeId × List Value), (V.set k (g, t, cs'))[i]? = some q → p q.1 := fun i q ei => by
  rw [List.getElem?_set] at ei
  split at ei
  · split at ei
    · injection ei with ei; subst ei; exact (h k (g, t, cs) e : p g)
    · cases ei
  · exact h i q ei
theorem vars_take {n i : Nat} {p : Nat × TypeId × List Value} (e : (V.take n)[i]? = some p) : V[i]? = some p := by
  rw [List.getElem?_take] at e
  split at e
  · exact e
  · cases e
end
/-- A thing in memory: what is known of it, by the blocks that it takes; it is there as long as they are as they were. -/
structure Thing where
  is : World → (Nat → Prop) → Prop
  lt : ∀ {w : World} {F : Nat → Prop}, is w F → ∀ i, F i → i < w.heap.size
  kept : ∀ {w w' : World} {F : Nat → Prop}, is w F → (∀ i, F i → w'.heap[i]? = w.heap[i]?) → is w' F
/-- A law at work: nothing that was there ahead of it has turned; the things Hs lie each in blocks of its own, and so do the variables V. -/
structure Sta (w0 W : World) (Hs : List Thing) (V : VarsT) : Prop where
  low : Below w0.heap.size w0 W
  ex : ∃ Fs : Nat → Nat → Prop, (∀ (i : Nat) (H : Thing), Hs[i]? = some H → H.is W (Fs i)) ∧ (∀ i j x, i < Hs.length → j < Hs.length → i ≠ j → Fs i x → ¬ Fs j x) ∧ (∀ i x, i < Hs.length → Fs i x → w0.heap.size ≤ x) ∧ ∀ i, i < Hs.length → ∀ (k : Nat) (p : Nat × TypeId × List Value), V[k]? = some p → ¬ Fs i p.1
  own : OwnV W w0.heap.size V
  rise : (V.map (·.1)).Nodup
section
variable {w0 W W' : World} {Hs : List Thing} {V : VarsT}
theorem Thing.later (H : Thing) {F : Nat → Prop} (h : H.is W F) (hb : Below W.heap.size W W') : H.is W' F := H.kept h fun i hi => hb.block i (H.lt h i hi)
theorem at_lt {α : Type} {l : List α} {i : Nat} {x : α} (e : l[i]? = some x) : i < l.length := (List.getElem?_eq_some_iff.1 e).1
theorem Sta.begin (w0 : World) : Sta w0 w0 [] [] := ⟨Below.refl _ _, ⟨fun _ _ => False, fun i H e => by simp at e, fun i j x h => by simp at h, fun i x h => by simp at h, fun i h => by simp at h⟩, OwnV.nil _ _, by simp⟩
theorem Sta.begin' (hb : Below w0.heap.size w0 W) : Sta w0 W [] [] := ⟨hb, ⟨fun _ _ => False, fun i H e => by simp at e, fun i j x h => by simp at h, fun i x h => by simp at h, fun i h => by simp at h⟩, OwnV.nil _ _, by simp⟩
theorem Sta.size (h : Sta w0 W Hs V) : w0.heap.size ≤ W.heap.size := h.low.size
theorem Sta.later (h : Sta w0 W Hs V) (hb : Below W.heap.size W W') : Sta w0 W' Hs V := by
  obtain ⟨h0, ⟨Fs, h1, h2, h3, h4⟩, h5, h6⟩ := h
  exact ⟨h0.trans (hb.mono h0.size), ⟨Fs, fun i H e => H.later (h1 i H e) hb, h2, h3, h4⟩, h5.later hb, h6⟩
theorem Sta.drew (h : Sta w0 W Hs V) : Sta w0 W.drew Hs V := h.later ((Below.refl _ _).drew)
theorem Sta.var (h : Sta w0 W Hs V) {g : Nat} {t : TypeId} {cs : List Value} (hb : Below W.heap.size W W') (hg : W.heap.size ≤ g) (hk : Blk W' g t cs.toArray) : Sta w0 W' Hs (V ++ [(g, t, cs)]) := by
  obtain ⟨h0, ⟨Fs, h1, h2, h3, h4⟩, h5, h6⟩ := h
  have hs := h0.size
  refine ⟨h0.trans (hb.mono h0.size), ⟨Fs, fun i H e => H.later (h1 i H e) hb, h2, h3, fun i hi => vars_add (p := fun x => ¬ Fs i x) (h4 i hi) fun hx => ?_⟩, (h5.later hb).add (by omega) hk, nodup_add h6 h5 hg⟩
  obtain ⟨H, e⟩ : ∃ H, Hs[i]? = some H := ⟨_, List.getElem?_eq_getElem hi⟩
  have := H.lt (h1 i H e) g hx
  omega
theorem Sta.new {Wa : World} (h : Sta w0 W Hs V) {t : TypeId} {cs : List Value} (hl : Below W.heap.size W Wa) (hg : Wa.grownBy W' (some W.heap.size)) (hk : Blk W' W.heap.size t cs.toArray) : Sta w0 W' Hs (V ++ [(W.heap.size, t, cs)]) :=
  h.var (hl.grown hg hl.size (fun g e => by injection e with e; omega)) (Nat.le_refl _) hk
theorem Sta.cut (h : Sta w0 W Hs V) (n : Nat) : Sta w0 W Hs (V.take n) := by
  obtain ⟨h0, ⟨Fs, h1, h2, h3, h4⟩, h5, h6⟩ := h
  exact ⟨h0, ⟨Fs, h1, h2, h3, fun i hi k p e => h4 i hi k p (vars_take e)⟩, fun i p e => h5 i p (vars_take e), by rw [List.map_take]; exact (List.take_sublist _ _).nodup h6⟩
theorem Sta.poke (h : Sta w0 W Hs V) (k : Nat) {g : Nat} {t : TypeId} {cs cs' : List Value} (e : V[k]? = some (g, t, cs)) (hb : Blk W' g t cs'.toArray) (hg : W.grownBy W' (some g)) : Sta w0 W' Hs (V.set k (g, t, cs')) := by
  obtain ⟨h0, ⟨Fs, h1, h2, h3, h4⟩, h5, h6⟩ := h
  have hd := (h5 k _ e).1
  have hs := h0.size
  refine ⟨h0.grown hg (by omega) fun x ex => by injection ex with ex; subst ex; exact hd, ⟨Fs, fun i H ei => H.kept (h1 i H ei) fun x hx => hg.block x (H.lt (h1 i H ei) x hx) fun ex => ?_, h2, h3, fun i hi => vars_set (p := fun x => ¬ Fs i x) (h4 i hi) e⟩, h5.poke k e (fun i p ei hne => nodup_other h6 ei e hne) hb hg, by rw [map_same e]; exact h6⟩
  injection ex with ex
  subst ex
  exact h4 i (at_lt ei) k _ e hx
/-- A thing that was just made. -/
theorem Sta.add (h : Sta w0 W Hs V) (H : Thing) {F : Nat → Prop} (hb : Below W.heap.size W W') (hH : H.is W' F) (hF : ∀ x, F x → W.heap.size ≤ x) : Sta w0 W' (Hs ++ [H]) V := by
  obtain ⟨h0, ⟨Fs, h1, h2, h3, h4⟩, h5, h6⟩ := h
  have hs := h0.size
  have hold : ∀ i x, i < Hs.length → Fs i x → x < W.heap.size := fun i x hi hx => by
    obtain ⟨H, e⟩ : ∃ H, Hs[i]? = some H := ⟨_, List.getElem?_eq_getElem hi⟩
    exact H.lt (h1 i H e) x hx
  have ha : ∀ i, i < Hs.length → (if i = Hs.length then F else Fs i) = Fs i := fun i hi => if_neg (by omega)
  refine ⟨h0.trans (hb.mono h0.size), ⟨fun i => if i = Hs.length then F else Fs i, fun i K e => ?_, fun i j x hi hj hne hx hy => ?_, fun i x hi hx => ?_, fun i hi k p e hx => ?_⟩, h5.later hb, h6⟩
  · rw [List.getElem?_append] at e
    split at e
    · rename_i hi
      show K.is W' (if i = Hs.length then F else Fs i)
      rw [ha i hi]
      exact K.later (h1 i K e) hb
    · have hz : i = Hs.length := by
        by_cases hz : i - Hs.length = 0
        · omega
        · rw [List.getElem?_eq_none (by simp; omega)] at e; cases e
      subst hz
      have : K = H := by simpa using e.symm
      show K.is W' (if Hs.length = Hs.length then F else Fs Hs.length)
      rw [if_pos rfl, this]
      exact hH
  · dsimp only at hx hy
    rw [List.length_append, List.length_singleton] at hi hj
    by_cases hi2 : i = Hs.length
    · rw [if_pos hi2] at hx
      rw [ha j (by omega)] at hy
      have := hF x hx
      have := hold j x (by omega) hy
      omega
    · rw [ha i (by omega)] at hx
      by_cases hj2 : j = Hs.length
      · rw [if_pos hj2] at hy
        have := hF x hy
        have := hold i x (by omega) hx
        omega
      · rw [ha j (by omega)] at hy
        exact h2 i j x (by omega) (by omega) hne hx hy
  · dsimp only at hx
    rw [List.length_append, List.length_singleton] at hi
    by_cases hi2 : i = Hs.length
    · rw [if_pos hi2] at hx
      have := hF x hx
      omega
    · rw [ha i (by omega)] at hx
      exact h3 i x (by omega) hx
  · dsimp only at hx
    rw [List.length_append, List.length_singleton] at hi
    by_cases hi2 : i = Hs.length
    · rw [if_pos hi2] at hx
      have := hF _ hx
      have := (h5 k p e).2.lt
      omega
    · rw [ha i (by omega)] at hx
      exact h4 i (by omega) k p e hx
/-- One of the things turns into another, in blocks that it took and new ones. -/
theorem Sta.part (h : Sta w0 W Hs V) (i : Nat) {H : Thing} (e : Hs[i]? = some H) : ∃ F, H.is W F ∧ (∀ x, F x → w0.heap.size ≤ x) ∧ (∀ (k : Nat) (p : Nat × TypeId × List Value), V[k]? = some p → ¬ F p.1) ∧ ∀ (W' : World) (H' : Thing) (F' : Nat → Prop), H'.is W' F' → (∀ x, F' x → F x ∨ W.heap.size ≤ x) → Turn F W W' → Sta w0 W' (Hs.set i H') V := by
  obtain ⟨h0, ⟨Fs, h1, h2, h3, h4⟩, h5, h6⟩ := h
  have hs := h0.size
  have hi := at_lt e
  refine ⟨_, h1 i H e, fun x hx => h3 i x hi hx, h4 i hi, fun W' H' F' k1 k2 k3 => ?_⟩
  have hold : ∀ j x, j < Hs.length → Fs j x → x < W.heap.size := fun j x hj hx => by
    obtain ⟨K, ek⟩ : ∃ K, Hs[j]? = some K := ⟨_, List.getElem?_eq_getElem hj⟩
    exact K.lt (h1 j K ek) x hx
  refine ⟨⟨k3.os.trans h0.os, k3.tape.trans h0.tape, k3.output.trans h0.output, Nat.le_trans h0.size k3.size, fun x hx => (k3.block x (by omega) fun hf => by have := h3 i x hi hf; omega).trans (h0.block x hx)⟩, ⟨fun j => if j = i then F' else Fs j, fun j K ej => ?_, fun j l x hj hl hne hx hy => ?_, fun j x hj hx => ?_, fun j hj k p ek hx => ?_⟩, h5.turned k3 fun k p ek => h4 i hi k p ek, h6⟩
  · rw [List.getElem?_set] at ej
    split at ej
    · rename_i hij
      subst hij
      try rw [if_pos hi] at ej
      injection ej with ej
      subst ej
      show H'.is W' (if i = i then F' else Fs i)
      rw [if_pos rfl]
      exact k1
    · rename_i hij
      show K.is W' (if j = i then F' else Fs j)
      rw [if_neg (fun e => hij e.symm)]
      exact K.kept (h1 j K ej) fun x hx => k3.block x (hold j x (at_lt ej) hx) fun hf => h2 j i x (at_lt ej) hi (fun e => hij e.symm) hx hf
  · dsimp only at hx hy
    rw [List.length_set] at hj hl
    by_cases hji : j = i
    · rw [if_pos hji] at hx
      rw [if_neg (fun e => hne (hji.trans e.symm))] at hy
      rcases k2 x hx with hf | hf
      · exact h2 i l x hi hl (fun e => hne (hji.trans e)) hf hy
      · have := hold l x hl hy
        omega
    · rw [if_neg hji] at hx
      by_cases hli : l = i
      · rw [if_pos hli] at hy
        rcases k2 x hy with hf | hf
        · exact h2 j i x hj hi hji hx hf
        · have := hold j x hj hx
          omega
      · rw [if_neg hli] at hy
        exact h2 j l x hj hl hne hx hy
  · dsimp only at hx
    rw [List.length_set] at hj
    by_cases hji : j = i
    · rw [if_pos hji] at hx
      rcases k2 x hx with hf | hf
      · exact h3 i x hi hf
      · omega
    · rw [if_neg hji] at hx
      exact h3 j x hj hx
  · dsimp only at hx
    rw [List.length_set] at hj
    by_cases hji : j = i
    · rw [if_pos hji] at hx
      rcases k2 _ hx with hf | hf
      · exact h4 i hi k p ek hf
      · have := (h5 k p ek).2.lt
        omega
    · rw [if_neg hji] at hx
      exact h4 j hj k p ek hx
/-- A call that turns one of the things. -/
theorem Sta.call {P : Program} (h : Sta w0 W Hs V) (i : Nat) {H H' : Thing} (e : Hs[i]? = some H) {R : Ending → Prop} {f : FuncId} {args : Array Value}
    (hc : ∀ F, H.is W F → Calls P f args W fun e W' => R e ∧ (∃ F' : Nat → Prop, H'.is W' F' ∧ ∀ x, F' x → F x ∨ W.heap.size ≤ x) ∧ Turn F W W') :
    Calls P f args W fun e W' => R e ∧ Sta w0 W' (Hs.set i H') V := by
  obtain ⟨F, h1, h2, h3, h4⟩ := h.part i e
  refine (hc F h1).mono ?_
  rintro e2 W' ⟨he, ⟨F', k1, k2⟩, hT⟩
  exact ⟨he, h4 W' H' F' k1 k2 hT⟩
/-- A call that reads one of the things, and makes memory at most. -/
theorem Sta.rd {P : Program} (h : Sta w0 W Hs V) (i : Nat) {H : Thing} (e : Hs[i]? = some H) {R : Ending → World → Prop} {f : FuncId} {args : Array Value}
    (hc : ∀ F, H.is W F → Calls P f args W fun e W' => R e W' ∧ Below W.heap.size W W') : Calls P f args W fun e W' => R e W' ∧ Sta w0 W' Hs V ∧ Below W.heap.size W W' := by
  have hh := h
  obtain ⟨h0, ⟨Fs, h1, h2, h3, h4⟩, h5, h6⟩ := h
  exact (hc _ (h1 i H e)).mono fun _ _ ⟨he, hb⟩ => ⟨he, hh.later hb, hb⟩
/-- .. and leaves the world as it is. -/
theorem Sta.still {P : Program} (h : Sta w0 W Hs V) (i : Nat) {H : Thing} (e : Hs[i]? = some H) {R : Ending → Prop} {f : FuncId} {args : Array Value}
    (hc : ∀ F, H.is W F → Calls P f args W fun e W' => R e ∧ W = W') : Calls P f args W fun e W' => R e ∧ W = W' := by
  obtain ⟨h0, ⟨Fs, h1, h2, h3, h4⟩, h5, h6⟩ := h
  exact hc _ (h1 i H e)
theorem Sta.thing (h : Sta w0 W Hs V) (i : Nat) {H : Thing} (e : Hs[i]? = some H) : ∃ F, H.is W F := by
  obtain ⟨h0, ⟨Fs, h1, h2, h3, h4⟩, h5, h6⟩ := h
  exact ⟨_, h1 i H e⟩
end
end Go.Proofs.Ythodmhjlokfcaaa
