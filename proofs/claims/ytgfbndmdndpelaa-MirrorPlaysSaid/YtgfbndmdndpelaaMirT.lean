/- One call at work on the document's bank (Rit), or on the code's (Cit), with variables of its own; each call of the bank by it. -/
import Derived.Test.YtgfbndmdndpelaaNegR
import Derived.Test.YtgfbndmdndpelaaMirQ
namespace Go.Proofs.Ytgfbndmdndpelaa
open Go.RowKit
set_option linter.unusedVariables false
theorem vars_add {V : List (Nat × TypeId × List Value)} {g : Nat} {t : TypeId} {cs : List Value} {p : Nat → Prop} (h : ∀ (i : Nat) (q : Nat × TypeId × List Value), V[i]? = some q → p q.1) (hg : p g) : ∀ (i : Nat) (q : Nat × TypeId × List Value), (V ++ [(g, t, cs)])[i]? = some q → p q.1 := fun i q e => by
  rw [List.getElem?_append] at e
  split at e
  · exact h i q e
  · by_cases hz : i - V.length = 0
    · rw [hz] at e
      have : q = (g, t, cs) := by simpa using e.symm
      rw [this]
      exact hg
    · rw [List.getElem?_eq_none (by simp; omega)] at e; cases e
theorem OwnV.turned {W W' : World} {V : List (Nat × TypeId × List Value)} {F : Nat → Prop} (h : OwnV W 0 V) (hT : Turn F W W') (hn : ∀ (i : Nat) (p : Nat × TypeId × List Value), V[i]? = some p → ¬ F p.1) : OwnV W' 0 V := fun i p e => ⟨Nat.zero_le _, (h i p e).2.turned hT (hn i p e)⟩
theorem nodup_add {W : World} {hi g : Nat} {t : TypeId} {cs : List Value} {V : List (Nat × TypeId × List Value)} (h : (V.map (·.1)).Nodup) (ho : OwnV W hi V) (hg : W.heap.size ≤ g) : ((V ++ [(g, t, cs)]).map (·.1)).Nodup := by
  rw [List.map_append, List.nodup_append]
  refine ⟨h, by simp, fun a ha c hc e => ?_⟩
  have hc' : c = g := by simpa using hc
  obtain ⟨p, hp, hpa⟩ := List.mem_map.1 ha
  obtain ⟨i, hip⟩ := List.getElem?_of_mem hp
  have hl := (ho i p hip).2.lt
  omega
theorem map_same {V : List (Nat × TypeId × List Value)} {k g : Nat} {t : TypeId} {cs cs' : List Value} (e : V[k]? = some (g, t, cs)) : (V.set k (g, t, cs')).map (·.1) = V.map (·.1) := by
  rw [List.map_set]
  apply List.ext_getElem?
  intro j
  rw [List.getElem?_set]
  split
  · rename_i hj
    split
    · rw [← hj, List.getElem?_map, e]; rfl
    · rename_i hl
      rw [List.getElem?_eq_none (by omega)]
  · rfl
theorem vars_set {V : List (Nat × TypeId × List Value)} {k g : Nat} {t : TypeId} {cs cs' : List Value} {p : Nat → Prop} (h : ∀ (i : Nat) (q : Nat × TypeId × List Value), V[i]? = some q → p q.1) (e : V[k]? = some (g, t, cs)) : ∀ (i : Nat) (q : Nat × TypeId × List Value), (V.set k (g, t, cs'))[i]? = some q → p q.1 := fun i q ei => by
  rw [List.getElem?_set] at ei
  split at ei
  · split at ei
    · injection ei with ei; subst ei; exact (h k (g, t, cs) e : p g)
    · cases ei
  · exact h i q ei
structure Rit (w0 W : World) (r : Nat) (G : Nat → Prop) (S : Bank) (V : List (Nat × TypeId × List Value)) : Prop where
  ex : ∃ G' : Nat → Prop, RefOn W r G' S ∧ (∀ x, G' x → G x ∨ w0.heap.size ≤ x) ∧ ∀ (i : Nat) (p : Nat × TypeId × List Value), V[i]? = some p → ¬ G' p.1
  turn : Turn G w0 W
  own : OwnV W 0 V
  rise : (V.map (·.1)).Nodup
  past : ∀ (i : Nat) (p : Nat × TypeId × List Value), V[i]? = some p → w0.heap.size ≤ p.1
section
variable {w0 W W' : World} {r : Nat} {G : Nat → Prop} {S S' : Bank} {V : List (Nat × TypeId × List Value)}
theorem Rit.begin (h : RefOn w0 r G S) : Rit w0 w0 r G S [] := ⟨⟨G, h, fun x hx => .inl hx, fun i p e => by simp at e⟩, Turn.refl _ _, OwnV.nil _ _, by simp, fun i p e => by simp at e⟩
theorem Rit.later (h : Rit w0 W r G S V) (hb : Below W.heap.size W W') : Rit w0 W' r G S V := by
  obtain ⟨⟨G', h1, h2, h3⟩, h4, h5, h6, h7⟩ := h
  exact ⟨⟨G', h1.later hb, h2, h3⟩, h4.below hb, h5.later hb, h6, h7⟩
theorem Rit.drew (h : Rit w0 W r G S V) : Rit w0 W.drew r G S V := h.later ((Below.refl _ _).drew)
theorem Rit.var (h : Rit w0 W r G S V) {g : Nat} {t : TypeId} {cs : List Value} (hb : Below W.heap.size W W') (hg : W.heap.size ≤ g) (hk : Blk W' g t cs.toArray) : Rit w0 W' r G S (V ++ [(g, t, cs)]) := by
  obtain ⟨⟨G', h1, h2, h3⟩, h4, h5, h6, h7⟩ := h
  have hs := h4.size
  exact ⟨⟨G', h1.later hb, h2, vars_add (p := fun x => ¬ G' x) h3 (fun hx => absurd (h1.1 g hx) (by omega))⟩, h4.below hb, (h5.later hb).add (Nat.zero_le _) hk, nodup_add h6 h5 hg, vars_add (p := fun x => w0.heap.size ≤ x) h7 (by omega)⟩
theorem Rit.new {Wa : World} (h : Rit w0 W r G S V) {t : TypeId} {cs : List Value} (hl : Below W.heap.size W Wa) (hg : Wa.grownBy W' (some W.heap.size)) (hk : Blk W' W.heap.size t cs.toArray) : Rit w0 W' r G S (V ++ [(W.heap.size, t, cs)]) :=
  h.var (hl.grown hg hl.size (fun g e => by injection e with e; omega)) (Nat.le_refl _) hk
theorem Rit.poke (h : Rit w0 W r G S V) (k : Nat) {g : Nat} {t : TypeId} {cs cs' : List Value} (e : V[k]? = some (g, t, cs)) (hb : Blk W' g t cs'.toArray) (hg : W.grownBy W' (some g)) : Rit w0 W' r G S (V.set k (g, t, cs')) := by
  obtain ⟨⟨G', h1, h2, h3⟩, h4, h5, h6, h7⟩ := h
  have hgn := h3 k _ e
  have hd := h7 k _ e
  exact ⟨⟨G', h1.grown hg (fun x ex => by injection ex with ex; subst ex; exact hgn), h2, vars_set (p := fun x => ¬ G' x) h3 e⟩, h4.grown hg (fun x ex => by injection ex with ex; exact .inr (by rw [← ex]; exact hd)), h5.poke k e (fun i p ei hne => nodup_other h6 ei e hne) hb hg, by rw [map_same e]; exact h6, vars_set (p := fun x => w0.heap.size ≤ x) h7 e⟩
theorem Rit.fin (h : Rit w0 W r G S V) (hl : ∀ x, G x → x < w0.heap.size) : RefOn W r (More G w0 W) S ∧ Turn G w0 W := by
  obtain ⟨⟨G', h1, h2, h3⟩, h4, h5, _, _⟩ := h
  have hs := h4.size
  obtain ⟨k1, k2, R, k3, k4⟩ := h1
  refine ⟨⟨fun x hx => hx.elim (fun q => Nat.lt_of_lt_of_le (hl x q) hs) (fun q => q.2), k2, R, k3, fun x hx => ?_⟩, h4⟩
  exact (h2 x (k4 x hx)).imp id (fun q => ⟨q, k1 x (k4 x hx)⟩)
/-- A call that turns the document's bank. -/
theorem Rit.call (h : Rit w0 W r G S V) {R : Ending → Prop} {f : FuncId} {args : Array Value} (hc : ∀ G', RefOn W r G' S → Calls Try.prog f args W fun e W' => R e ∧ RefOn W' r (More G' W W') S' ∧ Turn G' W W') : Calls Try.prog f args W fun e W' => R e ∧ Rit w0 W' r G S' V := by
  obtain ⟨⟨G', h1, h2, h3⟩, h4, h5, h6, h7⟩ := h
  refine (hc G' h1).mono ?_
  rintro e W' ⟨he, hB, hT⟩
  have hs := h4.size
  refine ⟨he, ⟨_, hB, fun x hx => ?_, fun i p e hx => ?_⟩, ⟨hT.os.trans h4.os, hT.tape.trans h4.tape, hT.output.trans h4.output, Nat.le_trans hs hT.size, fun i hi hn => ?_⟩, h5.turned hT h3, h6, h7⟩
  · rcases hx with hx | hx
    · exact h2 x hx
    · exact .inr (by omega)
  · rcases hx with hx | hx
    · exact h3 i p e hx
    · have := (h5 i p e).2.lt
      omega
  · exact (hT.block i (Nat.lt_of_lt_of_le hi hs) (fun q => (h2 i q).elim hn (fun q => by omega))).trans (h4.block i hi hn)
theorem Rit.write (h : Rit w0 W r G S V) (hw : S.writes < 4611686018427387904) {di ki : Int} {d k : Nat} (hd : nI di = d) (hk : nI ki = k) (s : Sec) :
    Calls Try.prog 40 #[.pointer (some ⟨r, 0, none⟩), .agg #[.int .i64 di, .int .i64 ki], secV s] W fun e W' => e = .returned (.int .i64 ((S.write d k s).1 : Int)) ∧ Rit w0 W' r G (S.write d k s).2 V := by
  subst hd hk
  exact h.call (fun G' hB => rOnI_write hB hw di ki s)
theorem Rit.read (h : Rit w0 W r G S V) {di ki : Int} {d k : Nat} (hd : nI di = d) (hk : nI ki = k) :
    Calls Try.prog 18 #[.pointer (some ⟨r, 0, none⟩), .agg #[.int .i64 di, .int .i64 ki]] W fun e W' => e = .returned (.tuple #[secV (S.readS d k), .int .i64 (S.place d k : Int)]) ∧ Rit w0 W' r G S V := by
  subst hd hk
  have hh := h
  obtain ⟨⟨G', h1, _, _⟩, _, _, _, _⟩ := h
  exact (rOnI_read h1 di ki).mono fun _ _ ⟨he, hb⟩ => ⟨he, hh.later hb⟩
end
/-- The same for the code's bank. -/
structure Cit (w0 W : World) (b : Nat) (F : Nat → Prop) (S : Bank) (V : List (Nat × TypeId × List Value)) : Prop where
  bank : BankOn W b F S
  turn : Turn F w0 W
  own : OwnV W 0 V
  off : ∀ (i : Nat) (p : Nat × TypeId × List Value), V[i]? = some p → ¬ F p.1
  rise : (V.map (·.1)).Nodup
  past : ∀ (i : Nat) (p : Nat × TypeId × List Value), V[i]? = some p → w0.heap.size ≤ p.1
section
variable {w0 W W' : World} {b : Nat} {F : Nat → Prop} {S S' : Bank} {V : List (Nat × TypeId × List Value)}
theorem Cit.begin (h : BankOn w0 b F S) : Cit w0 w0 b F S [] := ⟨h, Turn.refl _ _, OwnV.nil _ _, fun i p e => by simp at e, by simp, fun i p e => by simp at e⟩
theorem Cit.later (h : Cit w0 W b F S V) (hb : Below W.heap.size W W') : Cit w0 W' b F S V := ⟨h.bank.later hb, h.turn.below hb, h.own.later hb, h.off, h.rise, h.past⟩
theorem Cit.drew (h : Cit w0 W b F S V) : Cit w0 W.drew b F S V := h.later ((Below.refl _ _).drew)
theorem Cit.var (h : Cit w0 W b F S V) {g : Nat} {t : TypeId} {cs : List Value} (hb : Below W.heap.size W W') (hg : W.heap.size ≤ g) (hk : Blk W' g t cs.toArray) : Cit w0 W' b F S (V ++ [(g, t, cs)]) :=
  ⟨h.bank.later hb, h.turn.below hb, (h.own.later hb).add (Nat.zero_le _) hk, vars_add (p := fun x => ¬ F x) h.off (fun hx => absurd (h.bank.1 g hx) (by omega)), nodup_add h.rise h.own hg, vars_add (p := fun x => w0.heap.size ≤ x) h.past (Nat.le_trans h.turn.size hg)⟩
theorem Cit.new {Wa : World} (h : Cit w0 W b F S V) {t : TypeId} {cs : List Value} (hl : Below W.heap.size W Wa) (hg : Wa.grownBy W' (some W.heap.size)) (hk : Blk W' W.heap.size t cs.toArray) : Cit w0 W' b F S (V ++ [(W.heap.size, t, cs)]) :=
  h.var (hl.grown hg hl.size (fun g e => by injection e with e; omega)) (Nat.le_refl _) hk
theorem Cit.poke (h : Cit w0 W b F S V) (k : Nat) {g : Nat} {t : TypeId} {cs cs' : List Value} (e : V[k]? = some (g, t, cs)) (hb : Blk W' g t cs'.toArray) (hg : W.grownBy W' (some g)) : Cit w0 W' b F S (V.set k (g, t, cs')) :=
  have hgn := h.off k _ e
  have hd := h.past k _ e
  ⟨h.bank.grown hg (fun x ex => by injection ex with ex; subst ex; exact hgn), h.turn.grown hg (fun x ex => by injection ex with ex; exact .inr (by rw [← ex]; exact hd)), h.own.poke k e (fun i p ei hne => nodup_other h.rise ei e hne) hb hg, vars_set (p := fun x => ¬ F x) h.off e, by rw [map_same e]; exact h.rise, vars_set (p := fun x => w0.heap.size ≤ x) h.past e⟩
/-- A call that turns the code's bank. -/
theorem Cit.call (h : Cit w0 W b F S V) {R : Ending → Prop} {f : FuncId} {args : Array Value} (hc : Calls Try.prog f args W fun e W' => R e ∧ BankOn W' b F S' ∧ Turn F W W') : Calls Try.prog f args W fun e W' => R e ∧ Cit w0 W' b F S' V :=
  hc.mono fun _ _ ⟨he, hB, hT⟩ => ⟨he, hB, h.turn.trans hT, h.own.turned hT h.off, h.off, h.rise, h.past⟩
theorem Cit.write (h : Cit w0 W b F S V) (hw : S.writes < 4611686018427387904) {di ki : Int} {d k : Nat} (hd : nI di = d) (hk : nI ki = k) (s : Sec) :
    Calls Try.prog 29 #[.pointer (some ⟨b, 0, none⟩), .agg #[.int .i64 di, .int .i64 ki], secV s] W fun e W' => e = .returned (.int .i64 ((S.write d k s).1 : Int)) ∧ Cit w0 W' b F (S.write d k s).2 V := by
  subst hd hk
  exact h.call (onI_write h.bank hw di ki s)
theorem Cit.read (h : Cit w0 W b F S V) {di ki : Int} {d k : Nat} (hd : nI di = d) (hk : nI ki = k) :
    Calls Try.prog 17 #[.pointer (some ⟨b, 0, none⟩), .agg #[.int .i64 di, .int .i64 ki]] W fun e W' => e = .returned (.tuple #[secV (S.readS d k), .int .i64 (S.place d k : Int)]) ∧ Cit w0 W' b F S V := by
  subst hd hk
  exact (onI_read h.bank di ki).mono fun _ _ ⟨he, hb⟩ => ⟨he, h.later hb⟩
theorem Cit.fin (h : Cit w0 W b F S V) : BankOn W b F S ∧ Turn F w0 W := ⟨h.bank, h.turn⟩
end
#print axioms Rit.call
#print axioms Cit.write
end Go.Proofs.Ytgfbndmdndpelaa
