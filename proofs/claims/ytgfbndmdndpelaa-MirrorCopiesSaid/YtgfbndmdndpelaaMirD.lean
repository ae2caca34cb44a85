/- The code's bank and the document's side by side, with variables of the law's own (Duo); each call of either by it. -/
import Derived.Test.YtgfbndmdndpelaaMirR
namespace Go.Proofs.Ytgfbndmdndpelaa
open Go.RowKit
set_option linter.unusedVariables false
/-- Block b is bank S of the code's, block r bank T of the document's; they have no block in common, and lie behind w0; V: variables beside them. -/
structure Duo (w0 W : World) (b r : Nat) (S T : Bank) (V : List (Nat × TypeId × List Value)) : Prop where
  low : Below w0.heap.size w0 W
  ex : ∃ F G : Nat → Prop, BankOn W b F S ∧ RefOn W r G T ∧ (∀ x, F x → ¬ G x) ∧ (∀ x, F x ∨ G x → w0.heap.size ≤ x) ∧ ∀ (i : Nat) (p : Nat × TypeId × List Value), V[i]? = some p → ¬ F p.1 ∧ ¬ G p.1
  own : OwnV W 0 V
section
variable {w0 W W' : World} {b r : Nat} {S T S' T' : Bank} {V : List (Nat × TypeId × List Value)}
theorem Duo.later (h : Duo w0 W b r S T V) (hb : Below W.heap.size W W') : Duo w0 W' b r S T V := by
  obtain ⟨h0, ⟨F, G, h1, h2, h3, h4, h5⟩, h6⟩ := h
  exact ⟨h0.trans (hb.mono h0.size), ⟨F, G, h1.later hb, h2.later hb, h3, h4, h5⟩, h6.later hb⟩
theorem Duo.drew (h : Duo w0 W b r S T V) : Duo w0 W.drew b r S T V := h.later ((Below.refl _ _).drew)
theorem Duo.var (h : Duo w0 W b r S T V) {g : Nat} {t : TypeId} {cs : List Value} (hb : Below W.heap.size W W') (hg : W.heap.size ≤ g) (hk : Blk W' g t cs.toArray) : Duo w0 W' b r S T (V ++ [(g, t, cs)]) := by
  obtain ⟨h0, ⟨F, G, h1, h2, h3, h4, h5⟩, h6⟩ := h
  refine ⟨h0.trans (hb.mono h0.size), ⟨F, G, h1.later hb, h2.later hb, h3, h4, vars_add (p := fun x => ¬ F x ∧ ¬ G x) h5 ⟨fun hx => absurd (h1.1 g hx) (by omega), fun hx => absurd (h2.1 g hx) (by omega)⟩⟩, (h6.later hb).add (Nat.zero_le _) hk⟩
theorem Duo.new {Wa : World} (h : Duo w0 W b r S T V) {t : TypeId} {cs : List Value} (hl : Below W.heap.size W Wa) (hg : Wa.grownBy W' (some W.heap.size)) (hk : Blk W' W.heap.size t cs.toArray) : Duo w0 W' b r S T (V ++ [(W.heap.size, t, cs)]) :=
  h.var (hl.grown hg hl.size (fun g e => by injection e with e; omega)) (Nat.le_refl _) hk
theorem Duo.cut (h : Duo w0 W b r S T V) (n : Nat) : Duo w0 W b r S T (V.take n) := by
  obtain ⟨h0, ⟨F, G, h1, h2, h3, h4, h5⟩, h6⟩ := h
  have ht : ∀ (i : Nat) (p : Nat × TypeId × List Value), (V.take n)[i]? = some p → V[i]? = some p := fun i p e => by
    rw [List.getElem?_take] at e
    split at e
    · exact e
    · cases e
  exact ⟨h0, ⟨F, G, h1, h2, h3, h4, fun i p e => h5 i p (ht i p e)⟩, fun i p e => h6 i p (ht i p e)⟩
theorem below_turn {F : Nat → Prop} (h : Below w0.heap.size w0 W) (hT : Turn F W W') (hF : ∀ x, F x → w0.heap.size ≤ x) : Below w0.heap.size w0 W' :=
  ⟨hT.os.trans h.os, hT.tape.trans h.tape, hT.output.trans h.output, Nat.le_trans h.size hT.size, fun i hi => (hT.block i (Nat.lt_of_lt_of_le hi h.size) (fun hf => by have := hF i hf; omega)).trans (h.block i hi)⟩
/-- A call that turns the code's bank. -/
theorem Duo.code (h : Duo w0 W b r S T V) {R : Ending → Prop} {f : FuncId} {args : Array Value} (hc : ∀ F, BankOn W b F S → Calls Try.prog f args W fun e W' => R e ∧ BankOn W' b F S' ∧ Turn F W W') : Calls Try.prog f args W fun e W' => R e ∧ Duo w0 W' b r S' T V := by
  obtain ⟨h0, ⟨F, G, h1, h2, h3, h4, h5⟩, h6⟩ := h
  refine (hc F h1).mono ?_
  rintro e W' ⟨he, hB, hT⟩
  exact ⟨he, below_turn h0 hT (fun x hx => h4 x (.inl hx)), ⟨F, G, hB, h2.kept hT (fun x hx hf => h3 x hf hx), h3, h4, h5⟩, h6.turned hT (fun i p e => (h5 i p e).1)⟩
/-- A call that turns the document's. -/
theorem Duo.ref (h : Duo w0 W b r S T V) {R : Ending → Prop} {f : FuncId} {args : Array Value} (hc : ∀ G, RefOn W r G T → Calls Try.prog f args W fun e W' => R e ∧ RefOn W' r (More G W W') T' ∧ Turn G W W') : Calls Try.prog f args W fun e W' => R e ∧ Duo w0 W' b r S T' V := by
  obtain ⟨h0, ⟨F, G, h1, h2, h3, h4, h5⟩, h6⟩ := h
  refine (hc G h2).mono ?_
  rintro e W' ⟨he, hB, hT⟩
  have hs := h0.size
  refine ⟨he, below_turn h0 hT (fun x hx => h4 x (.inr hx)), ⟨F, More G W W', h1.kept hT (fun x hx hg => h3 x hx hg), hB, fun x hx hg => ?_, fun x hx => ?_, fun i p e => ⟨(h5 i p e).1, fun hg => ?_⟩⟩, h6.turned hT (fun i p e => (h5 i p e).2)⟩
  · rcases hg with hg | hg
    · exact h3 x hx hg
    · have := h1.1 x hx
      omega
  · rcases hx with hx | hx | hx
    · exact h4 x (.inl hx)
    · exact h4 x (.inr hx)
    · omega
  · rcases hg with hg | hg
    · exact (h5 i p e).2 hg
    · have := (h6 i p e).2.lt
      omega
/-- A call that only reads the code's bank, or the document's. -/
theorem Duo.codeR (h : Duo w0 W b r S T V) {R : Ending → Prop} {f : FuncId} {args : Array Value} (hc : ∀ F, BankOn W b F S → Calls Try.prog f args W fun e W' => R e ∧ Below W.heap.size W W') : Calls Try.prog f args W fun e W' => R e ∧ Duo w0 W' b r S T V := by
  have hh := h
  obtain ⟨h0, ⟨F, G, h1, h2, h3, h4, h5⟩, h6⟩ := h
  exact (hc F h1).mono fun _ _ ⟨he, hb⟩ => ⟨he, hh.later hb⟩
theorem Duo.refR (h : Duo w0 W b r S T V) {R : Ending → Prop} {f : FuncId} {args : Array Value} (hc : ∀ G, RefOn W r G T → Calls Try.prog f args W fun e W' => R e ∧ Below W.heap.size W W') : Calls Try.prog f args W fun e W' => R e ∧ Duo w0 W' b r S T V := by
  have hh := h
  obtain ⟨h0, ⟨F, G, h1, h2, h3, h4, h5⟩, h6⟩ := h
  exact (hc G h2).mono fun _ _ ⟨he, hb⟩ => ⟨he, hh.later hb⟩
end
section
variable {w0 W W' : World} {b r : Nat} {S T S' T' : Bank} {V : List (Nat × TypeId × List Value)}
theorem Duo.start {w1 w2 w3 : World} (h1 : Below w0.heap.size w0 w1) (hB : BankAt w2 b w1.heap.size w2.heap.size S) (h2 : Below w1.heap.size w1 w2) (hR : RefOn w3 w2.heap.size (fun x => x = w2.heap.size) T) (h3 : Below w2.heap.size w2 w3) : Duo w0 w3 b w2.heap.size S T [] := by
  have s1 := h1.size
  have s2 := h2.size
  refine ⟨(h1.trans (h2.mono s1)).trans (h3.mono (by omega)), ⟨In w1.heap.size w2.heap.size, fun x => x = w2.heap.size, hB.on.later h3, hR, fun x hx hg => ?_, fun x hx => ?_, fun i p e => by simp at e⟩, OwnV.nil _ _⟩
  · have h4 : x = w2.heap.size := hg
    have := hx.2
    omega
  · rcases hx with hx | hx
    · have := hx.1
      omega
    · have h4 : x = w2.heap.size := hx
      omega
/-- A call that leaves the world as it is. -/
theorem Duo.still (h : Duo w0 W b r S T V) {R : Ending → Prop} {f : FuncId} {args : Array Value} (hc : ∀ F, BankOn W b F S → Calls Try.prog f args W fun e W' => R e ∧ W = W') : Calls Try.prog f args W fun e W' => R e ∧ W = W' := by
  obtain ⟨h0, ⟨F, G, h1, h2, h3, h4, h5⟩, h6⟩ := h
  exact hc F h1
theorem Duo.fields (h : Duo w0 W b r S T V) : ∃ A c, W.cell? ⟨r, 1, none⟩ = some (.slice A T.order.length c) ∧ W.cell? ⟨r, 2, none⟩ = some (.bool T.down) ∧ W.cell? ⟨r, 3, none⟩ = some (.int .i64 (T.writes : Int)) := by
  obtain ⟨h0, ⟨F, G, h1, h2, h3, h4, h5⟩, h6⟩ := h
  obtain ⟨_, _, R, hI, _⟩ := h2
  exact ⟨_, _, hI.c1, hI.c2, hI.c3⟩
theorem Duo.read (h : Duo w0 W b r S T V) {di ki : Int} {d k : Nat} (hd : nI di = d) (hk : nI ki = k) :
    Calls Try.prog 17 #[.pointer (some ⟨b, 0, none⟩), .agg #[.int .i64 di, .int .i64 ki]] W fun e W' => e = .returned (.tuple #[secV (S.readS d k), .int .i64 (S.place d k : Int)]) ∧ Duo w0 W' b r S T V := by
  subst hd hk
  exact h.codeR (fun F hB => onI_read hB di ki)
theorem Duo.rread (h : Duo w0 W b r S T V) {di ki : Int} {d k : Nat} (hd : nI di = d) (hk : nI ki = k) :
    Calls Try.prog 18 #[.pointer (some ⟨r, 0, none⟩), .agg #[.int .i64 di, .int .i64 ki]] W fun e W' => e = .returned (.tuple #[secV (T.readS d k), .int .i64 (T.place d k : Int)]) ∧ Duo w0 W' b r S T V := by
  subst hd hk
  exact h.refR (fun G hB => rOnI_read hB di ki)
end
/-- max(n, 0). -/
def arN (n : Int) : Nat := if 0 < n then n.toNat else 0
theorem arN_is (n : Int) : (arN n : Int) = if 0 < n then n else 0 := by
  unfold arN
  split
  · omega
  · rfl
theorem arN_lt {n : Int} (h : n ≤ 9223372036854775807) : arN n < 9223372036854775808 := by
  unfold arN
  split <;> omega
/-- An operation's cells. -/
def opL (k n xd xk yd yk : Int) (m : Nat) : List Value := [.int .i64 k, .int .i64 n, .int .i64 xd, .int .i64 xk, .int .i64 yd, .int .i64 yk, .int .u64 (m : Int)]
section
variable {k n xd xk yd yk : Int} {m : Nat}
theorem opL_x : ∀ (j : Nat) (v : Value), (plL xd xk)[j]? = some v → (opL k n xd xk yd yk m).toArray[2 + j]? = some v := fun j v h => by
  rcases j with _ | _ | j
  · exact h
  · exact h
  · simp at h
theorem opL_y : ∀ (j : Nat) (v : Value), (plL yd yk)[j]? = some v → (opL k n xd xk yd yk m).toArray[4 + j]? = some v := fun j v h => by
  rcases j with _ | _ | j
  · exact h
  · exact h
  · simp at h
theorem op_x {W : World} {g : Nat} {t : TypeId} (h : Blk W g t (opL k n xd xk yd yk m).toArray) : W.rangeAt g 2 (plL xd xk) := fun j v hj => by
  rw [h.cell]; exact opL_x j v hj
theorem op_y {W : World} {g : Nat} {t : TypeId} (h : Blk W g t (opL k n xd xk yd yk m).toArray) : W.rangeAt g 4 (plL yd yk) := fun j v hj => by
  rw [h.cell]; exact opL_y j v hj
end
#print axioms Duo.ref
end Go.Proofs.Ytgfbndmdndpelaa
