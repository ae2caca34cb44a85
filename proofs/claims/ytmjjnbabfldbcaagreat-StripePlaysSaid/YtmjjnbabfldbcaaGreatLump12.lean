/- Texts of the proof laid one behind the other: ZMirD SyD SyE SyO SyA. -/
import Derived.Test.YtmjjnbabfldbcaaGreatLump9
import Derived.Test.YtmjjnbabfldbcaaGreatLump11
import Derived.Test.YtmjjnbabfldbcaaGreatLump7
import Derived.Test.YtmjjnbabfldbcaaGreatLump4
import Derived.Test.YtmjjnbabfldbcaaGreatWhen
namespace Go.Proofs.YtmjjnbabfldbcaaGreat
open Go.RowKit
set_option linter.unusedVariables false
/-- Block b is bank S of the code's, block r bank T of the document's; they have no block in common, and lie behind w0; V: variables beside them. -/
structure Duo (w0 W : World) (b r : Nat) (S T : Bank) (V : List (Nat × TypeId × List Value)) : Prop where
  low : Below w0.heap.size w0 W
  ex : ∃ F G : Nat → Prop, BankOn W b F S ∧ RefOn W r G T ∧ (∀ x, F x → ¬ G x) ∧ (∀ x, F x ∨ G x → w0.heap.size ≤ x) ∧ ∀ (i : Nat) (p : Nat × TypeId × List Value), V[i]? = some p → ¬ F p.1 ∧ ¬ G p.1
  own : OwnV W 0 V
section
variable {w0 W W' : World} {b r : Nat} {S T S' T' : Bank} {V : List (Nat × TypeId × List Value)}
theorem Duo.later (h : Duo w0 W b r S T V) (hb : Below W.heap.size W W') : Duo w0 W' b r S T V := by
  obtain ⟨h0, ⟨F, G, h1, h2, h3, h4, h5⟩, h6⟩ := h
  exact ⟨h0.trans (hb.mono h0.size), ⟨F, G, h1.later hb, h2.later hb, h3, h4, h5⟩, h6.later hb⟩
theorem Duo.drew (h : Duo w0 W b r S T V) : Duo w0 W.drew b r S T V := h.later ((Below.refl _ _).drew)
theorem Duo.var (h : Duo w0 W b r S T V) {g : Nat} {t : TypeId} {cs : List Value} (hb : Below W.heap.size W W') (hg : W.heap.size ≤ g) (hk : Blk W' g t cs.toArray) : Duo w0 W' b r S T (V ++ [(g, t, cs)]) := by
  obtain ⟨h0, ⟨F, G, h1, h2, h3, h4, h5⟩, h6⟩ := h
  refine ⟨h0.trans (hb.mono h0.size), ⟨F, G, h1.later hb, h2.later hb, h3, h4, vars_add (p := fun x => ¬ F x ∧ ¬ G x) h5 ⟨fun hx => absurd (h1.1 g hx) (by omega), fun hx => absurd (h2.1 g hx) (by omega)⟩⟩, (h6.later hb).add (Nat.zero_le _) hk⟩
theorem below_turn {F : Nat → Prop} (h : Below w0.heap.size w0 W) (hT : Turn F W W') (hF : ∀ x, F x → w0.heap.size ≤ x) : Below w0.heap.size w0 W' :=
  ⟨hT.os.trans h.os, hT.tape.trans h.tape, hT.output.trans h.output, Nat.le_trans h.size hT.size, fun i hi => (hT.block i (Nat.lt_of_lt_of_le hi h.size) (fun hf => by have := hF i hf; omega)).trans (h.block i hi)⟩
/-- A call that turns the code's bank. -/
theorem Duo.code (h : Duo w0 W b r S T V) {R : Ending → Prop} {f : FuncId} {args : Array Value} (hc : ∀ F, BankOn W b F S → Calls Tryz.prog f args W fun e W' => R e ∧ BankOn W' b F S' ∧ Turn F W W') : Calls Tryz.prog f args W fun e W' => R e ∧ Duo w0 W' b r S' T V := by
  obtain ⟨h0, ⟨F, G, h1, h2, h3, h4, h5⟩, h6⟩ := h
  refine (hc F h1).mono ?_
  rintro e W' ⟨he, hB, hT⟩
  exact ⟨he, below_turn h0 hT (fun x hx => h4 x (.inl hx)), ⟨F, G, hB, h2.kept hT (fun x hx hf => h3 x hf hx), h3, h4, h5⟩, h6.turned hT (fun i p e => (h5 i p e).1)⟩
/-- A call that turns the document's. -/
theorem Duo.ref (h : Duo w0 W b r S T V) {R : Ending → Prop} {f : FuncId} {args : Array Value} (hc : ∀ G, RefOn W r G T → Calls Tryz.prog f args W fun e W' => R e ∧ RefOn W' r (More G W W') T' ∧ Turn G W W') : Calls Tryz.prog f args W fun e W' => R e ∧ Duo w0 W' b r S T' V := by
  obtain ⟨h0, ⟨F, G, h1, h2, h3, h4, h5⟩, h6⟩ := h
  refine (hc G h2).mono ?_
  rintro e W' ⟨he, hB, hT⟩
  have hs := h0.size
  refine ⟨he, below_turn h0 hT (fun x hx => h4 x (.inr hx)), ⟨F, More G W W', h1.kept hT (fun x hx hg => h3 x hx hg), hB, fun x hx hg => ?_, fun x hx => ?_, fun i p e => ⟨(h5 i p e).1, fun hg => ?_⟩⟩, h6.turned hT (fun i p e => (h5 i p e).2)⟩
  · rcases hg with hg | hg
    · exact h3 x hx hg
    · have := h1.1 x hx
      omega
  · rcases hx with hx | hx | hx
    · exact h4 x (.inl hx)
    · exact h4 x (.inr hx)
    · omega
  · rcases hg with hg | hg
    · exact (h5 i p e).2 hg
    · have := (h6 i p e).2.lt
      omega
/-- A call that only reads the code's bank, or the document's. -/
theorem Duo.codeR (h : Duo w0 W b r S T V) {R : Ending → Prop} {f : FuncId} {args : Array Value} (hc : ∀ F, BankOn W b F S → Calls Tryz.prog f args W fun e W' => R e ∧ Below W.heap.size W W') : Calls Tryz.prog f args W fun e W' => R e ∧ Duo w0 W' b r S T V := by
  have hh := h
  obtain ⟨h0, ⟨F, G, h1, h2, h3, h4, h5⟩, h6⟩ := h
  exact (hc F h1).mono fun _ _ ⟨he, hb⟩ => ⟨he, hh.later hb⟩
theorem Duo.refR (h : Duo w0 W b r S T V) {R : Ending → Prop} {f : FuncId} {args : Array Value} (hc : ∀ G, RefOn W r G T → Calls Tryz.prog f args W fun e W' => R e ∧ Below W.heap.size W W') : Calls Tryz.prog f args W fun e W' => R e ∧ Duo w0 W' b r S T V := by
  have hh := h
  obtain ⟨h0, ⟨F, G, h1, h2, h3, h4, h5⟩, h6⟩ := h
  exact (hc G h2).mono fun _ _ ⟨he, hb⟩ => ⟨he, hh.later hb⟩
end
section
variable {w0 W W' : World} {b r : Nat} {S T S' T' : Bank} {V : List (Nat × TypeId × List Value)}
theorem Duo.start {w1 w2 w3 : World} (h1 : Below w0.heap.size w0 w1) (hB : BankAt w2 b w1.heap.size w2.heap.size S) (h2 : Below w1.heap.size w1 w2) (hR : RefOn w3 w2.heap.size (fun x => x = w2.heap.size) T) (h3 : Below w2.heap.size w2 w3) : Duo w0 w3 b w2.heap.size S T [] := by
  have s1 := h1.size
  have s2 := h2.size
  refine ⟨(h1.trans (h2.mono s1)).trans (h3.mono (by omega)), ⟨In w1.heap.size w2.heap.size, fun x => x = w2.heap.size, hB.on.later h3, hR, fun x hx hg => ?_, fun x hx => ?_, fun i p e => by simp at e⟩, OwnV.nil _ _⟩
  · have h4 : x = w2.heap.size := hg
    have := hx.2
    omega
  · rcases hx with hx | hx
    · have := hx.1
      omega
    · have h4 : x = w2.heap.size := hx
      omega
/-- A call that leaves the world as it is. -/
theorem Duo.still (h : Duo w0 W b r S T V) {R : Ending → Prop} {f : FuncId} {args : Array Value} (hc : ∀ F, BankOn W b F S → Calls Tryz.prog f args W fun e W' => R e ∧ W = W') : Calls Tryz.prog f args W fun e W' => R e ∧ W = W' := by
  obtain ⟨h0, ⟨F, G, h1, h2, h3, h4, h5⟩, h6⟩ := h
  exact hc F h1
theorem Duo.fields (h : Duo w0 W b r S T V) : ∃ A c, W.cell? ⟨r, 1, none⟩ = some (.slice A T.order.length c) ∧ W.cell? ⟨r, 2, none⟩ = some (.bool T.down) ∧ W.cell? ⟨r, 3, none⟩ = some (.int .i64 (T.writes : Int)) := by
  obtain ⟨h0, ⟨F, G, h1, h2, h3, h4, h5⟩, h6⟩ := h
  obtain ⟨_, _, R, hI, _⟩ := h2
  exact ⟨_, _, hI.c1, hI.c2, hI.c3⟩
theorem Duo.read (h : Duo w0 W b r S T V) {di ki : Int} {d k : Nat} (hd : nI di = d) (hk : nI ki = k) :
    Calls Tryz.prog 13 #[.pointer (some ⟨b, 0, none⟩), .agg #[.int .i64 di, .int .i64 ki]] W fun e W' => e = .returned (.tuple #[secV (S.readS d k), .int .i64 (S.place d k : Int)]) ∧ Duo w0 W' b r S T V := by
  subst hd hk
  exact h.codeR (fun F hB => onI_read hB di ki)
theorem Duo.rread (h : Duo w0 W b r S T V) {di ki : Int} {d k : Nat} (hd : nI di = d) (hk : nI ki = k) :
    Calls Tryz.prog 14 #[.pointer (some ⟨r, 0, none⟩), .agg #[.int .i64 di, .int .i64 ki]] W fun e W' => e = .returned (.tuple #[secV (T.readS d k), .int .i64 (T.place d k : Int)]) ∧ Duo w0 W' b r S T V := by
  subst hd hk
  exact h.refR (fun G hB => rOnI_read hB di ki)
end
/-- max(n, 0). -/
def arN (n : Int) : Nat := if 0 < n then n.toNat else 0
theorem arN_is (n : Int) : (arN n : Int) = if 0 < n then n else 0 := by
  unfold arN
  split
  · omega
  · rfl
theorem arN_lt {n : Int} (h : n ≤ 9223372036854775807) : arN n < 9223372036854775808 := by
  unfold arN
  split <;> omega
/-- An operation's cells. -/
def opL (k n xd xk yd yk : Int) (m : Nat) : List Value := [.int .i64 k, .int .i64 n, .int .i64 xd, .int .i64 xk, .int .i64 yd, .int .i64 yk, .int .u64 (m : Int)]
section
variable {k n xd xk yd yk : Int} {m : Nat}
end
end Go.Proofs.YtmjjnbabfldbcaaGreat
namespace Go.Proofs.YtmjjnbabfldbcaaGreat
open Go.RowKit
set_option linter.unusedVariables false
/-- A row of elements of type e that stands among the variables V. -/
def RowV (V : List (Nat × TypeId × List Value)) (e : TypeId) (size : Nat) (A : Option Addr) (n : Nat) (xs : List Value) : Prop :=
  xs.length = n * size ∧ (0 < n → ∃ (i g : Nat) (cur : List Value), V[i]? = some (g, e, cur) ∧ A = some ⟨g, 0, none⟩ ∧ cur.take (n * size) = xs)
section
variable {w0 W W' : World} {b r n size : Nat} {S T S' T' : Bank} {V : List (Nat × TypeId × List Value)} {e : TypeId} {A : Option Addr} {xs : List Value}
theorem RowV.more (h : RowV V e size A n xs) (U : List (Nat × TypeId × List Value)) : RowV (V ++ U) e size A n xs := ⟨h.1, fun hn => by
  obtain ⟨i, g, cur, h1, h2, h3⟩ := h.2 hn
  exact ⟨i, g, cur, by rw [List.getElem?_append_left (List.getElem?_eq_some_iff.1 h1).1]; exact h1, h2, h3⟩⟩
theorem RowV.reads (h : RowV V e size A n xs) (ho : OwnV W 0 V) : Reads W W.heap.size size A n xs := ⟨h.1, fun hn => by
  obtain ⟨i, g, cur, h1, h2, h3⟩ := h.2 hn
  have hb : Blk W g e cur.toArray := (ho i _ h1).2
  refine ⟨_, h2, hb.lt, fun j u hj => ?_⟩
  have hlt : j < xs.length := (List.getElem?_eq_some_iff.1 hj).1
  rw [h.1] at hlt
  rw [← h3, List.getElem?_take, if_pos hlt] at hj
  have : (⟨g, 0, none⟩ : Addr).add j = ⟨g, j, none⟩ := by unfold Addr.add; split <;> simp_all
  rw [this, hb.cell j]
  simpa using hj⟩
theorem RowV.off (h : RowV V e size A n xs) {F : Nat → Prop} (hF : ∀ (i : Nat) (p : Nat × TypeId × List Value), V[i]? = some p → ¬ F p.1) : Off F A n := fun ad hA hn => by
  obtain ⟨i, g, cur, h1, h2, _⟩ := h.2 hn
  rw [hA] at h2
  injection h2 with h2
  rw [h2]
  exact hF i _ h1
/-- A row that was just made is put among them. -/
theorem Duo.row (h : Duo w0 W b r S T V) (hb : Below W.heap.size W W') {base c : Nat} (ho : W'.ownsRow base e size (.slice A n c) n xs) (hB : W.heap.size ≤ base) : ∃ U, Duo w0 W' b r S T (V ++ U) ∧ RowV (V ++ U) e size A n xs := by
  rcases ho.2 with ⟨_, h0⟩ | ⟨g, cap, cur, hv, hg, hh, _, _, _, ht⟩
  · exact ⟨[], by rw [List.append_nil]; exact h.later hb, ho.1, fun hn => by omega⟩
  · injection hv with e1
    refine ⟨[(g, e, cur.toList)], h.var hb (by omega) ?_, ho.1, fun _ => ⟨V.length, g, cur.toList, ?_, e1, ht⟩⟩
    · show W'.heap[g]? = _
      rw [hh, Array.toArray_toList]
    · simp
/-- A call that turns the code's bank, and reads rows of the law's own. -/
theorem Duo.codeV (h : Duo w0 W b r S T V) {R : Ending → Prop} {f : FuncId} {args : Array Value} (hc : ∀ F, BankOn W b F S → (∀ (i : Nat) (p : Nat × TypeId × List Value), V[i]? = some p → ¬ F p.1) → Calls Tryz.prog f args W fun e W' => R e ∧ BankOn W' b F S' ∧ Turn F W W') : Calls Tryz.prog f args W fun e W' => R e ∧ Duo w0 W' b r S' T V := by
  obtain ⟨h0, ⟨F, G, h1, h2, h3, h4, h5⟩, h6⟩ := h
  refine (hc F h1 fun i p e => (h5 i p e).1).mono ?_
  rintro e W' ⟨he, hB, hT⟩
  exact ⟨he, below_turn h0 hT (fun x hx => h4 x (.inl hx)), ⟨F, G, hB, h2.kept hT (fun x hx hf => h3 x hf hx), h3, h4, h5⟩, h6.turned hT (fun i p e => (h5 i p e).1)⟩
/-- .. the document's. -/
theorem Duo.refV (h : Duo w0 W b r S T V) {R : Ending → Prop} {f : FuncId} {args : Array Value} (hc : ∀ G, RefOn W r G T → (∀ (i : Nat) (p : Nat × TypeId × List Value), V[i]? = some p → ¬ G p.1) → Calls Tryz.prog f args W fun e W' => R e ∧ RefOn W' r (More G W W') T' ∧ Turn G W W') : Calls Tryz.prog f args W fun e W' => R e ∧ Duo w0 W' b r S T' V := by
  obtain ⟨h0, ⟨F, G, h1, h2, h3, h4, h5⟩, h6⟩ := h
  refine (hc G h2 fun i p e => (h5 i p e).2).mono ?_
  rintro e W' ⟨he, hB, hT⟩
  have hs := h0.size
  refine ⟨he, below_turn h0 hT (fun x hx => h4 x (.inr hx)), ⟨F, More G W W', h1.kept hT (fun x hx hg => h3 x hx hg), hB, fun x hx hg => ?_, fun x hx => ?_, fun i p e => ⟨(h5 i p e).1, fun hg => ?_⟩⟩, h6.turned hT (fun i p e => (h5 i p e).2)⟩
  · rcases hg with hg | hg
    · exact h3 x hx hg
    · have := h1.1 x hx
      omega
  · rcases hx with hx | hx | hx
    · exact h4 x (.inl hx)
    · exact h4 x (.inr hx)
    · omega
  · rcases hg with hg | hg
    · exact (h5 i p e).2 hg
    · have := (h6 i p e).2.lt
      omega
/-! ### New variables stand ahead of the rows U -/
variable {U : List (Nat × TypeId × List Value)}
theorem Duo.sub (h : Duo w0 W b r S T V) (hU : ∀ p ∈ U, p ∈ V) : Duo w0 W b r S T U := by
  obtain ⟨h0, ⟨F, G, h1, h2, h3, h4, h5⟩, h6⟩ := h
  have ht : ∀ (i : Nat) (p : Nat × TypeId × List Value), U[i]? = some p → ∃ j, V[j]? = some p := fun i p e => List.getElem?_of_mem (hU p (List.mem_of_getElem? e))
  exact ⟨h0, ⟨F, G, h1, h2, h3, h4, fun i p e => (ht i p e).elim fun j hj => h5 j p hj⟩, fun i p e => (ht i p e).elim fun j hj => h6 j p hj⟩
theorem Duo.varU (h : Duo w0 W b r S T (V ++ U)) {g : Nat} {t : TypeId} {cs : List Value} (hb : Below W.heap.size W W') (hg : W.heap.size ≤ g) (hk : Blk W' g t cs.toArray) : Duo w0 W' b r S T ((V ++ [(g, t, cs)]) ++ U) :=
  (h.var hb hg hk).sub fun p hp => by
    simp only [List.mem_append, List.mem_singleton] at hp ⊢
    rcases hp with (hp | hp) | hp
    · exact .inl (.inl hp)
    · exact .inr hp
    · exact .inl (.inr hp)
theorem Duo.newU {Wa : World} (h : Duo w0 W b r S T (V ++ U)) {t : TypeId} {cs : List Value} (hl : Below W.heap.size W Wa) (hg : Wa.grownBy W' (some W.heap.size)) (hk : Blk W' W.heap.size t cs.toArray) : Duo w0 W' b r S T ((V ++ [(W.heap.size, t, cs)]) ++ U) :=
  h.varU (hl.grown hg hl.size (fun g e => by injection e with e; omega)) (Nat.le_refl _) hk
theorem Duo.cutU (h : Duo w0 W b r S T (V ++ U)) : Duo w0 W b r S T U := h.sub fun p hp => List.mem_append.2 (.inr hp)
theorem RowV.ahead {n : Nat} (h : RowV U e size A n xs) (V : List (Nat × TypeId × List Value)) : RowV (V ++ U) e size A n xs := ⟨h.1, fun hn => by
  obtain ⟨i, g, cur, h1, h2, h3⟩ := h.2 hn
  exact ⟨V.length + i, g, cur, by rw [List.getElem?_append_right (by omega), Nat.add_sub_cancel_left]; exact h1, h2, h3⟩⟩
end
end Go.Proofs.YtmjjnbabfldbcaaGreat
namespace Go.Proofs.YtmjjnbabfldbcaaGreat
open Go.RowKit
set_option linter.unusedVariables false
/-- A row of extents of the law's own. -/
structure ExtV (V : List (Nat × TypeId × List Value)) (A : Option Addr) (n c : Nat) (X : List PlI) : Prop where
  row : RowV V 64 2 A n (plsL X)
  small : SmallX X
  few : n ≤ 12
  cap : n ≤ c
  max : c ≤ 9223372036854775807
/-- .. of sectors. -/
structure SecR (V : List (Nat × TypeId × List Value)) (A : Option Addr) (m c : Nat) (L : List Sec) : Prop where
  row : RowV V 43 64 A m (gD L)
  len : L.length = m
  few : m ≤ 1000
  cap : m ≤ c
  max : c ≤ 9223372036854775807
section
variable {w0 W W' : World} {b r n c m c2 : Nat} {S T : Bank} {V : List (Nat × TypeId × List Value)} {A A2 : Option Addr} {X : List PlI} {L : List Sec}
theorem ExtV.more (h : ExtV V A n c X) (U : List (Nat × TypeId × List Value)) : ExtV (V ++ U) A n c X := ⟨h.row.more U, h.small, h.few, h.cap, h.max⟩
theorem ExtV.ahead (h : ExtV V A n c X) (U : List (Nat × TypeId × List Value)) : ExtV (U ++ V) A n c X := ⟨h.row.ahead U, h.small, h.few, h.cap, h.max⟩
theorem Duo.xin (h : Duo w0 W b r S T V) (hx : ExtV V A n c X) : XtIn W A n c X := ⟨hx.row.reads h.own, hx.small, hx.few, hx.cap, hx.max⟩
theorem Duo.cread (h : Duo w0 W b r S T V) (hx : ExtV V A n c X) (slot : Int) (hs : I64In slot) :
    Calls Tryz.prog 22 #[.pointer (some ⟨b, 0, none⟩), .slice A n c, .int .i64 slot] W fun e W' => e = .returned (.tuple #[secV (S.sread X slot).1, .int .i64 ((S.sread X slot).2 : Int)]) ∧ Duo w0 W' b r S T V :=
  h.codeR fun F hB => strK.read_any W b F S hB A n c X (h.xin hx) slot hs
theorem Duo.dread (h : Duo w0 W b r S T V) (hx : ExtV V A n c X) (slot : Int) :
    Calls Tryz.prog 27 #[.pointer (some ⟨r, 0, none⟩), .slice A n c, .int .i64 slot] W fun e W' => e = .returned (.tuple #[secV (T.sread X slot).1, .int .i64 ((T.sread X slot).2 : Int)]) ∧ Duo w0 W' b r S T V :=
  h.refR fun G hB => rsread_any hB (Rox.ask (h.xin hx)) slot
theorem Duo.creb (h : Duo w0 W b r S T V) (hx : ExtV V A n c X) (k t : Int) (hk : I64In k) (ht : I64In t) :
    Calls Tryz.prog 28 #[.pointer (some ⟨b, 0, none⟩), .slice A n c, .int .i64 k, .int .i64 t] W fun e W' => e = .returned (.tuple #[secV (S.srebuilt X k t).1, .int .i64 ((S.srebuilt X k t).2 : Int)]) ∧ Duo w0 W' b r S T V :=
  h.codeR fun F hB => strK.rebuilt_any W b F S hB A n c X (h.xin hx) k t hk ht
theorem Duo.dreb (h : Duo w0 W b r S T V) (hx : ExtV V A n c X) (k t : Int) :
    Calls Tryz.prog 29 #[.pointer (some ⟨r, 0, none⟩), .slice A n c, .int .i64 k, .int .i64 t] W fun e W' => e = .returned (.tuple #[secV (T.srebuilt X k t).1, .int .i64 ((T.srebuilt X k t).2 : Int)]) ∧ Duo w0 W' b r S T V :=
  h.refR fun G hB => rsreb_any hB (Rox.ask (h.xin hx)) k t
theorem Duo.cplug (h : Duo w0 W b r S T V) (hx : ExtV V A n c X) (slot : Int) (hs : I64In slot) (s : Sec) :
    Calls Tryz.prog 30 #[.pointer (some ⟨b, 0, none⟩), .slice A n c, .int .i64 slot, secV s] W fun e W' => e = .returned (.tuple #[secV (S.splug X slot s).1, .int .i64 ((S.splug X slot s).2 : Int)]) ∧ Duo w0 W' b r S T V :=
  h.codeR fun F hB => strK.plug_any W b F S hB A n c X (h.xin hx) slot hs s
theorem Duo.dplug (h : Duo w0 W b r S T V) (hx : ExtV V A n c X) (slot : Int) (s : Sec) :
    Calls Tryz.prog 31 #[.pointer (some ⟨r, 0, none⟩), .slice A n c, .int .i64 slot, secV s] W fun e W' => e = .returned (.tuple #[secV (T.splug X slot s).1, .int .i64 ((T.splug X slot s).2 : Int)]) ∧ Duo w0 W' b r S T V :=
  h.refR fun G hB => rsplug_any hB (Rox.ask (h.xin hx)) slot s
theorem Duo.cfull (h : Duo w0 W b r S T V) (hw : S.writes < 4611686018427387000) (hx : ExtV V A n c X) (t : Int) (ht : I64In t) (hd : SecR V A2 m c2 L) :
    Calls Tryz.prog 19 #[.pointer (some ⟨b, 0, none⟩), .slice A n c, .int .i64 t, .slice A2 m c2] W fun e W' => e = .returned (.int .i64 ((S.sfull X t L).1 : Int)) ∧ Duo w0 W' b r (S.sfull X t L).2 T V :=
  h.codeV fun F hB hF => strK.full_any W b F S hB hw A n c X (h.xin hx) (hx.row.off hF) t ht A2 m c2 L (hd.row.reads h.own) hd.len hd.few hd.cap hd.max (hd.row.off hF)
theorem Duo.dfull (h : Duo w0 W b r S T V) (hw : T.writes < 4611686018427387000) (hx : ExtV V A n c X) (t : Int) (hd : SecR V A2 m c2 L) :
    Calls Tryz.prog 26 #[.pointer (some ⟨r, 0, none⟩), .slice A n c, .int .i64 t, .slice A2 m c2] W fun e W' => e = .returned (.int .i64 ((T.sfull X t L).1 : Int)) ∧ Duo w0 W' b r S (T.sfull X t L).2 V :=
  h.refV fun G hB hG => rsfull_any hB hw (Rox.ask (h.xin hx)) t (hd.row.reads h.own) hd.len hd.few (hd.row.off hG)
theorem Duo.dhome (h : Duo w0 W b r S T V) (hx : ExtV V A n c X) (slot : Int) :
    Calls Tryz.prog 32 #[.slice A n c, .int .i64 slot] W fun e W' => e = .returned (.tuple #[.agg (plC (homeR X n slot)).toArray, .int .i64 (homeE n slot : Int)]) ∧ Duo w0 W' b r S T V :=
  (refHome_any (c := c) slot (h.xin hx).reads hx.small (by have := hx.few; omega)).mono fun _ _ ⟨he, hb⟩ => ⟨he, h.later hb⟩
theorem Duo.dpar (h : Duo w0 W b r S T V) (hx : ExtV V A n c X) (t : Int) :
    Calls Tryz.prog 33 #[.slice A n c, .int .i64 t] W fun e W' => e = .returned (.tuple #[.agg (plC (parR X n t)).toArray, .int .i64 (strE n t : Int)]) ∧ Duo w0 W' b r S T V :=
  (refParR (h.xin hx) t).mono fun _ _ ⟨he, hb⟩ => ⟨he, h.later hb⟩
end
end Go.Proofs.YtmjjnbabfldbcaaGreat
namespace Go.Proofs.YtmjjnbabfldbcaaGreat
open Go.RowKit
set_option linter.unusedVariables false
theorem fails_few (S : Bank) (d a : Nat) : (S.failI d).writes = S.writes ∧ (S.willI d a).writes = S.writes := by
  constructor
  · unfold Bank.failI; split <;> rfl
  · unfold Bank.willI; split <;> rfl
theorem flush_few (S : Bank) (d : Nat) : (if S.may d = 0 then S.flush d else S).writes = S.writes := by split <;> rfl
section
variable {w0 w : World} {b r nx cx : Nat} {S : Bank} {U : List (Nat × TypeId × List Value)} {A : Option Addr} {X : List PlI}
set_option maxRecDepth 100000 in
set_option maxHeartbeats 8000000 in
theorem doesS2_any (h : Duo w0 w b r S S U) (hw : S.writes < 4611686018427380000) (hx : ExtV U A nx cx X) (x t n more : Int) (a : Bool) (mk : Nat) (hx1 : I64In x) (ht1 : I64In t) (hn1 : I64In n) (hm : mk < 18446744073709551616) :
    Calls Tryz.prog 9 #[.pointer (some ⟨b, 0, none⟩), .pointer (some ⟨r, 0, none⟩), .slice A nx cx, .agg #[.int .i64 2, .int .i64 x, .int .i64 t, .int .i64 n, .int .i64 more, .bool a, .int .u64 (mk : Int)]] w fun e w' => e = .returned (.bool true) ∧ ∃ S', Duo w0 w' b r S' S' U ∧ S'.writes ≤ S.writes + 16 := by
  have HS_w : Hid (Duo w0 w b r S S ([] ++ U)) := hide h
  have HWR := hide hw
  have HX := hide hx
  have HX1 := hide hx1
  have HT1 := hide ht1
  have HN1 := hide hn1
  clear h hw hx hx1 ht1 hn1
  obtain ⟨s, hs⟩ : ∃ z, (S.sread X t).1 = z := ⟨_, rfl⟩
  have H_s := hide hs
  clear hs
  obtain ⟨e, he⟩ : ∃ z, (S.sread X t).2 = z := ⟨_, rfl⟩
  have H_e := hide he
  clear he
  go_enter Tryz.func9, Tryz.ntmps9
  go_wp2_with (first
    | ((with_reducible refine at_slot 7 ?_); refine wpList_box_blk rfl 35 _ rfl (.agg #[.int .i64 2, .int .i64 x, .int .i64 t, .int .i64 n, .int .i64 more, .bool a, .int .u64 (mk : Int)]) rfl ?_; intro y1 hbq hl1 hs1; have HS_y1 : Hid (Duo w0 y1 b r S S ([(w.heap.size, 35, [.int .i64 2, .int .i64 x, .int .i64 t, .int .i64 n, .int .i64 more, .bool a, .int .u64 (mk : Int)])] ++ U)) := hide (HS_w.out.varU hl1 (Nat.le_refl _) hbq); clear hbq hl1 hs1; have hc0_y1 : y1.cell? ⟨w.heap.size, 0, none⟩ = some (.int .i64 2) := (HS_y1.out.own.blk 0 rfl).cell 0; have hc2_y1 : y1.cell? ⟨w.heap.size, 2, none⟩ = some (.int .i64 t) := (HS_y1.out.own.blk 0 rfl).cell 2)
    | (go_at_call 22; refine (HS_y1.out.cread (HX.out.ahead _) t HT1.out).mono ?_; rintro _ y2 ⟨rfl, hsq⟩; rw [H_s.out, H_e.out]; have HS_y2 : Hid (Duo w0 y2 b r S S ([(w.heap.size, 35, [.int .i64 2, .int .i64 x, .int .i64 t, .int .i64 n, .int .i64 more, .bool a, .int .u64 (mk : Int)])] ++ U)) := hide (hsq); clear hsq)
    | ((with_reducible refine at_slot 11 ?_); refine wpList_alloc_blk rfl 43 rfl _ (sec_zero _) ?_; intro y3 hbq hl1 hs1; clear hs1)
    | ((with_reducible refine at_store 11 ?_); refine wpList_store_all rfl 43 (.tmp 11) (.tmp 72) rfl y2.heap.size 43 _ hbq rfl (secL s) rfl (msec_size _) (msec_len _ _) (secL_one _) ?_; intro y4 hbz hg hs; have HS_y4 : Hid (Duo w0 y4 b r S S ([(w.heap.size, 35, [.int .i64 2, .int .i64 x, .int .i64 t, .int .i64 n, .int .i64 more, .bool a, .int .u64 (mk : Int)]), (y2.heap.size, 43, secL s)] ++ U)) := hide (HS_y2.out.newU hl1 hg hbz); clear hs hbq hl1 hg hbz; have hc2_y4 : y4.cell? ⟨w.heap.size, 2, none⟩ = some (.int .i64 t) := (HS_y4.out.own.blk 0 rfl).cell 2)
    | (go_at_call 27; refine (HS_y4.out.dread (HX.out.ahead _) t).mono ?_; rintro _ y5 ⟨rfl, hsq⟩; rw [H_s.out, H_e.out]; have HS_y5 : Hid (Duo w0 y5 b r S S ([(w.heap.size, 35, [.int .i64 2, .int .i64 x, .int .i64 t, .int .i64 n, .int .i64 more, .bool a, .int .u64 (mk : Int)]), (y2.heap.size, 43, secL s)] ++ U)) := hide (hsq); clear hsq)
    | ((with_reducible refine at_slot 13 ?_); refine wpList_alloc_blk rfl 43 rfl _ (sec_zero _) ?_; intro y6 hbq hl1 hs1; clear hs1)
    | ((with_reducible refine at_store 13 ?_); refine wpList_store_all rfl 43 (.tmp 13) (.tmp 80) rfl y5.heap.size 43 _ hbq rfl (secL s) rfl (msec_size _) (msec_len _ _) (secL_one _) ?_; intro y7 hbz hg hs; have HS_y7 : Hid (Duo w0 y7 b r S S ([(w.heap.size, 35, [.int .i64 2, .int .i64 x, .int .i64 t, .int .i64 n, .int .i64 more, .bool a, .int .u64 (mk : Int)]), (y2.heap.size, 43, secL s), (y5.heap.size, 43, secL s)] ++ U)) := hide (HS_y5.out.newU hl1 hg hbz); clear hs hbq hl1 hg hbz)
    | ((with_reducible refine at_slot 82 ?_); refine when_own rfl (.tmp 11) rfl HS_y7.out.own 1 rfl rfl Tryz.underlying43 rfl (msec_size _) ?_)
    | ((with_reducible refine at_slot 83 ?_); refine when_own rfl (.tmp 13) rfl HS_y7.out.own 2 rfl rfl Tryz.underlying43 rfl (msec_size _) ?_)
    | ((with_reducible refine at_slot 84 ?_); refine when_eqS rfl (.tmp 82) (.tmp 83) _ rfl s s rfl rfl true (by simp) ?_))
  go_ret
  exact ⟨by simp, S, HS_y7.out.cutU, by omega⟩
set_option maxRecDepth 100000 in
set_option maxHeartbeats 8000000 in
theorem doesS3_any (h : Duo w0 w b r S S U) (hw : S.writes < 4611686018427380000) (hx : ExtV U A nx cx X) (x t n more : Int) (a : Bool) (mk : Nat) (hx1 : I64In x) (ht1 : I64In t) (hn1 : I64In n) (hm : mk < 18446744073709551616) :
    Calls Tryz.prog 9 #[.pointer (some ⟨b, 0, none⟩), .pointer (some ⟨r, 0, none⟩), .slice A nx cx, .agg #[.int .i64 3, .int .i64 x, .int .i64 t, .int .i64 n, .int .i64 more, .bool a, .int .u64 (mk : Int)]] w fun e w' => e = .returned (.bool true) ∧ ∃ S', Duo w0 w' b r S' S' U ∧ S'.writes ≤ S.writes + 16 := by
  have HS_w : Hid (Duo w0 w b r S S ([] ++ U)) := hide h
  have HWR := hide hw
  have HX := hide hx
  have HX1 := hide hx1
  have HT1 := hide ht1
  have HN1 := hide hn1
  clear h hw hx hx1 ht1 hn1
  obtain ⟨s, hs⟩ : ∃ z, (S.srebuilt X x t).1 = z := ⟨_, rfl⟩
  have H_s := hide hs
  clear hs
  obtain ⟨e, he⟩ : ∃ z, (S.srebuilt X x t).2 = z := ⟨_, rfl⟩
  have H_e := hide he
  clear he
  go_enter Tryz.func9, Tryz.ntmps9
  go_wp2_with (first
    | ((with_reducible refine at_slot 7 ?_); refine wpList_box_blk rfl 35 _ rfl (.agg #[.int .i64 3, .int .i64 x, .int .i64 t, .int .i64 n, .int .i64 more, .bool a, .int .u64 (mk : Int)]) rfl ?_; intro y1 hbq hl1 hs1; have HS_y1 : Hid (Duo w0 y1 b r S S ([(w.heap.size, 35, [.int .i64 3, .int .i64 x, .int .i64 t, .int .i64 n, .int .i64 more, .bool a, .int .u64 (mk : Int)])] ++ U)) := hide (HS_w.out.varU hl1 (Nat.le_refl _) hbq); clear hbq hl1 hs1; have hc0_y1 : y1.cell? ⟨w.heap.size, 0, none⟩ = some (.int .i64 3) := (HS_y1.out.own.blk 0 rfl).cell 0; have hc1_y1 : y1.cell? ⟨w.heap.size, 1, none⟩ = some (.int .i64 x) := (HS_y1.out.own.blk 0 rfl).cell 1; have hc2_y1 : y1.cell? ⟨w.heap.size, 2, none⟩ = some (.int .i64 t) := (HS_y1.out.own.blk 0 rfl).cell 2)
    | (go_at_call 28; refine (HS_y1.out.creb (HX.out.ahead _) x t HX1.out HT1.out).mono ?_; rintro _ y2 ⟨rfl, hsq⟩; rw [H_s.out, H_e.out]; have HS_y2 : Hid (Duo w0 y2 b r S S ([(w.heap.size, 35, [.int .i64 3, .int .i64 x, .int .i64 t, .int .i64 n, .int .i64 more, .bool a, .int .u64 (mk : Int)])] ++ U)) := hide (hsq); clear hsq)
    | ((with_reducible refine at_slot 15 ?_); refine wpList_alloc_blk rfl 43 rfl _ (sec_zero _) ?_; intro y3 hbq hl1 hs1; clear hs1)
    | ((with_reducible refine at_store 15 ?_); refine wpList_store_all rfl 43 (.tmp 15) (.tmp 100) rfl y2.heap.size 43 _ hbq rfl (secL s) rfl (msec_size _) (msec_len _ _) (secL_one _) ?_; intro y4 hbz hg hs; have HS_y4 : Hid (Duo w0 y4 b r S S ([(w.heap.size, 35, [.int .i64 3, .int .i64 x, .int .i64 t, .int .i64 n, .int .i64 more, .bool a, .int .u64 (mk : Int)]), (y2.heap.size, 43, secL s)] ++ U)) := hide (HS_y2.out.newU hl1 hg hbz); clear hs hbq hl1 hg hbz; have hc1_y4 : y4.cell? ⟨w.heap.size, 1, none⟩ = some (.int .i64 x) := (HS_y4.out.own.blk 0 rfl).cell 1; have hc2_y4 : y4.cell? ⟨w.heap.size, 2, none⟩ = some (.int .i64 t) := (HS_y4.out.own.blk 0 rfl).cell 2)
    | (go_at_call 29; refine (HS_y4.out.dreb (HX.out.ahead _) x t).mono ?_; rintro _ y5 ⟨rfl, hsq⟩; rw [H_s.out, H_e.out]; have HS_y5 : Hid (Duo w0 y5 b r S S ([(w.heap.size, 35, [.int .i64 3, .int .i64 x, .int .i64 t, .int .i64 n, .int .i64 more, .bool a, .int .u64 (mk : Int)]), (y2.heap.size, 43, secL s)] ++ U)) := hide (hsq); clear hsq)
    | ((with_reducible refine at_slot 17 ?_); refine wpList_alloc_blk rfl 43 rfl _ (sec_zero _) ?_; intro y6 hbq hl1 hs1; clear hs1)
    | ((with_reducible refine at_store 17 ?_); refine wpList_store_all rfl 43 (.tmp 17) (.tmp 110) rfl y5.heap.size 43 _ hbq rfl (secL s) rfl (msec_size _) (msec_len _ _) (secL_one _) ?_; intro y7 hbz hg hs; have HS_y7 : Hid (Duo w0 y7 b r S S ([(w.heap.size, 35, [.int .i64 3, .int .i64 x, .int .i64 t, .int .i64 n, .int .i64 more, .bool a, .int .u64 (mk : Int)]), (y2.heap.size, 43, secL s), (y5.heap.size, 43, secL s)] ++ U)) := hide (HS_y5.out.newU hl1 hg hbz); clear hs hbq hl1 hg hbz)
    | ((with_reducible refine at_slot 112 ?_); refine when_own rfl (.tmp 15) rfl HS_y7.out.own 1 rfl rfl Tryz.underlying43 rfl (msec_size _) ?_)
    | ((with_reducible refine at_slot 113 ?_); refine when_own rfl (.tmp 17) rfl HS_y7.out.own 2 rfl rfl Tryz.underlying43 rfl (msec_size _) ?_)
    | ((with_reducible refine at_slot 114 ?_); refine when_eqS rfl (.tmp 112) (.tmp 113) _ rfl s s rfl rfl true (by simp) ?_))
  go_ret
  exact ⟨by simp, S, HS_y7.out.cutU, by omega⟩
set_option maxRecDepth 100000 in
set_option maxHeartbeats 8000000 in
theorem doesS6_any (h : Duo w0 w b r S S U) (hw : S.writes < 4611686018427380000) (hx : ExtV U A nx cx X) (x t n more : Int) (a : Bool) (mk : Nat) (hx1 : I64In x) (ht1 : I64In t) (hn1 : I64In n) (hm : mk < 18446744073709551616) :
    Calls Tryz.prog 9 #[.pointer (some ⟨b, 0, none⟩), .pointer (some ⟨r, 0, none⟩), .slice A nx cx, .agg #[.int .i64 6, .int .i64 x, .int .i64 t, .int .i64 n, .int .i64 more, .bool a, .int .u64 (mk : Int)]] w fun e w' => e = .returned (.bool true) ∧ ∃ S', Duo w0 w' b r S' S' U ∧ S'.writes ≤ S.writes + 16 := by
  have HS_w : Hid (Duo w0 w b r S S ([] ++ U)) := hide h
  have HWR := hide hw
  have HX := hide hx
  have HX1 := hide hx1
  have HT1 := hide ht1
  have HN1 := hide hn1
  clear h hw hx hx1 ht1 hn1
  obtain ⟨S1, hS1⟩ : ∃ z, S.failI (nI x) = z := ⟨_, rfl⟩
  have H_S1 := hide hS1
  clear hS1
  obtain ⟨e, he⟩ : ∃ z, (if nI x < S.n then 0 else 8 : Nat) = z := ⟨_, rfl⟩
  have H_e := hide he
  clear he
  have HFW := hide (show S1.writes ≤ S.writes + 16 by rw [← H_S1.out, (fails_few S (nI x) 0).1]; omega)
  go_enter Tryz.func9, Tryz.ntmps9
  go_wp2_with (first
    | ((with_reducible refine at_slot 7 ?_); refine wpList_box_blk rfl 35 _ rfl (.agg #[.int .i64 6, .int .i64 x, .int .i64 t, .int .i64 n, .int .i64 more, .bool a, .int .u64 (mk : Int)]) rfl ?_; intro y1 hbq hl1 hs1; have HS_y1 : Hid (Duo w0 y1 b r S S ([(w.heap.size, 35, [.int .i64 6, .int .i64 x, .int .i64 t, .int .i64 n, .int .i64 more, .bool a, .int .u64 (mk : Int)])] ++ U)) := hide (HS_w.out.varU hl1 (Nat.le_refl _) hbq); clear hbq hl1 hs1; have hc0_y1 : y1.cell? ⟨w.heap.size, 0, none⟩ = some (.int .i64 6) := (HS_y1.out.own.blk 0 rfl).cell 0))
  refine wp_region_held_drew (S := (fun W => OwnV W 0 ([(w.heap.size, 35, [.int .i64 6, .int .i64 x, .int .i64 t, .int .i64 n, .int .i64 more, .bool a, .int .u64 (mk : Int)])] ++ U))) (by kernel_rfl) ?_ (fun hHeld => ?_)
  · exact HS_y1.out.drew.own
  have HS_dy1 := hide (HS_y1.out.drew)
  refine heldTake (i := 0) (v := ?_) rfl (by kernel_rfl) (by kernel_rfl) (by kernel_rfl) (fun _ _ _ h => h) (Or.inl ⟨by rfl, ?_⟩) (by assumption) ?_
  rotate_left
  · intro w hSw; (try dsimp only at hSw); go_simp <;> (with_reducible rfl)
  try simp only [Act.put, List.setIfInBounds_toArray, List.set_cons_zero, List.set_cons_succ]
  refine heldTake (i := 1) (v := ?_) rfl (by kernel_rfl) (by kernel_rfl) (by kernel_rfl) (fun _ _ _ h => h) (Or.inl ⟨by rfl, ?_⟩) (by assumption) ?_
  rotate_left
  · intro w hSw; (try dsimp only at hSw); go_simp <;> (with_reducible rfl)
  try simp only [Act.put, List.setIfInBounds_toArray, List.set_cons_zero, List.set_cons_succ]
  refine heldTake (i := 2) (v := .int .i64 x) rfl (by kernel_rfl) (by kernel_rfl) (by kernel_rfl) (fun _ _ _ h => h) (Or.inl ⟨by rfl, fun W hW => ?_⟩) (by assumption) ?_
  · have hc : W.cell? ⟨w.heap.size, 1, none⟩ = some (.int .i64 x) := (hW.blk 0 rfl).cell 1
    go_simp <;> rfl
  try simp only [Act.put, List.setIfInBounds_toArray, List.set_cons_zero, List.set_cons_succ]
  refine heldTake (i := 4) (v := ?_) rfl (by kernel_rfl) (by kernel_rfl) (by kernel_rfl) (fun _ _ _ h => h) (Or.inl ⟨by rfl, ?_⟩) (by assumption) ?_
  rotate_left
  · intro w hSw; (try dsimp only at hSw); go_simp <;> (with_reducible rfl)
  try simp only [Act.put, List.setIfInBounds_toArray, List.set_cons_zero, List.set_cons_succ]
  refine heldTake (i := 5) (v := ?_) rfl (by kernel_rfl) (by kernel_rfl) (by kernel_rfl) (fun _ _ _ h => h) (Or.inl ⟨by rfl, ?_⟩) (by assumption) ?_
  rotate_left
  · intro w hSw; (try dsimp only at hSw); go_simp <;> (with_reducible rfl)
  try simp only [Act.put, List.setIfInBounds_toArray, List.set_cons_zero, List.set_cons_succ]
  refine heldTake (i := 6) (v := .int .i64 x) rfl (by kernel_rfl) (by kernel_rfl) (by kernel_rfl) (fun _ _ _ h => h) (Or.inl ⟨by rfl, fun W hW => ?_⟩) (by assumption) ?_
  · have hc : W.cell? ⟨w.heap.size, 1, none⟩ = some (.int .i64 x) := (hW.blk 0 rfl).cell 1
    go_simp <;> rfl
  try simp only [Act.put, List.setIfInBounds_toArray, List.set_cons_zero, List.set_cons_succ]
  refine wpAnyH_ready (rs := [3]) (by kernel_rfl) (by simp) ?_
  refine heldCons (i := 3) rfl (fun Kq hKq => ?_) AllReadyH.nil
  go_simp
  go_at_call 21
  (with_reducible refine (HS_dy1.out.code (fun F hB => onI_fail hB x)).mono ?_)
  rintro _ y2 ⟨rfl, hsq⟩
  rw [H_S1.out] at hsq
  rw [H_e.out]
  have HS_y2 : Hid (Duo w0 y2 b r S1 S ([(w.heap.size, 35, [.int .i64 6, .int .i64 x, .int .i64 t, .int .i64 n, .int .i64 more, .bool a, .int .u64 (mk : Int)])] ++ U)) := hide (hsq)
  clear hsq
  first | (refine hKq.out _ _ HS_y2.out.own (fun hHeld => ?_)) | (go_wp2_with fail; refine hKq.out _ _ HS_y2.out.own (fun hHeld => ?_))
  clear hKq Kq
  try simp only [Act.put, List.setIfInBounds_toArray, List.set_cons_zero, List.set_cons_succ]
  refine wpAnyH_ready (rs := [7]) (by kernel_rfl) (by simp) ?_
  refine heldCons (i := 7) rfl (fun Kq hKq => ?_) AllReadyH.nil
  go_simp
  go_at_call 36
  (with_reducible refine (HS_y2.out.ref (fun G hB => rOnI_fail hB x)).mono ?_)
  rintro _ y3 ⟨rfl, hsq⟩
  rw [H_S1.out] at hsq
  rw [H_e.out]
  have HS_y3 : Hid (Duo w0 y3 b r S1 S1 ([(w.heap.size, 35, [.int .i64 6, .int .i64 x, .int .i64 t, .int .i64 n, .int .i64 more, .bool a, .int .u64 (mk : Int)])] ++ U)) := hide (hsq)
  clear hsq
  first | (refine hKq.out _ _ HS_y3.out.own (fun hHeld => ?_)) | (go_wp2_with fail; refine hKq.out _ _ HS_y3.out.own (fun hHeld => ?_))
  clear hKq Kq
  try simp only [Act.put, List.setIfInBounds_toArray, List.set_cons_zero, List.set_cons_succ]
  refine heldTake (i := 8) (v := ?_) rfl (by kernel_rfl) (by kernel_rfl) (by kernel_rfl) (fun _ _ _ h => h) (Or.inl ⟨by rfl, ?_⟩) (by assumption) ?_
  rotate_left
  · intro w hSw; (try dsimp only at hSw); go_simp <;> (with_reducible rfl)
  try simp only [Act.put, List.setIfInBounds_toArray, List.set_cons_zero, List.set_cons_succ]
  refine heldTake (i := 9) (v := ?_) rfl (by kernel_rfl) (by kernel_rfl) (by kernel_rfl) (fun _ _ _ h => h) (Or.inl ⟨by rfl, ?_⟩) (by assumption) ?_
  rotate_left
  · intro w hSw; (try dsimp only at hSw); go_simp <;> (with_reducible rfl)
  try simp only [Act.put, List.setIfInBounds_toArray, List.set_cons_zero, List.set_cons_succ]
  refine wpAnyH_done (by kernel_rfl) ?_ _
  go_wp2_with fail
  go_ret
  exact ⟨by simp, S1, HS_y3.out.cutU, HFW.out⟩
set_option maxRecDepth 100000 in
set_option maxHeartbeats 8000000 in
theorem doesS11_any (h : Duo w0 w b r S S U) (hw : S.writes < 4611686018427380000) (hx : ExtV U A nx cx X) (x t n more : Int) (a : Bool) (mk : Nat) (hx1 : I64In x) (ht1 : I64In t) (hn1 : I64In n) (hm : mk < 18446744073709551616) :
    Calls Tryz.prog 9 #[.pointer (some ⟨b, 0, none⟩), .pointer (some ⟨r, 0, none⟩), .slice A nx cx, .agg #[.int .i64 11, .int .i64 x, .int .i64 t, .int .i64 n, .int .i64 more, .bool a, .int .u64 (mk : Int)]] w fun e w' => e = .returned (.bool true) ∧ ∃ S', Duo w0 w' b r S' S' U ∧ S'.writes ≤ S.writes + 16 := by
  have HS_w : Hid (Duo w0 w b r S S ([] ++ U)) := hide h
  have HWR := hide hw
  have HX := hide hx
  have HX1 := hide hx1
  have HT1 := hide ht1
  have HN1 := hide hn1
  clear h hw hx hx1 ht1 hn1
  obtain ⟨S1, hS1⟩ : ∃ z, (if S.may (nI x) = 0 then S.flush (nI x) else S) = z := ⟨_, rfl⟩
  have H_S1 := hide hS1
  clear hS1
  obtain ⟨e, he⟩ : ∃ z, S.may (nI x) = z := ⟨_, rfl⟩
  have H_e := hide he
  clear he
  have HFW := hide (show S1.writes ≤ S.writes + 16 by rw [← H_S1.out, flush_few S (nI x)]; omega)
  go_enter Tryz.func9, Tryz.ntmps9
  go_wp2_with (first
    | ((with_reducible refine at_slot 7 ?_); refine wpList_box_blk rfl 35 _ rfl (.agg #[.int .i64 11, .int .i64 x, .int .i64 t, .int .i64 n, .int .i64 more, .bool a, .int .u64 (mk : Int)]) rfl ?_; intro y1 hbq hl1 hs1; have HS_y1 : Hid (Duo w0 y1 b r S S ([(w.heap.size, 35, [.int .i64 11, .int .i64 x, .int .i64 t, .int .i64 n, .int .i64 more, .bool a, .int .u64 (mk : Int)])] ++ U)) := hide (HS_w.out.varU hl1 (Nat.le_refl _) hbq); clear hbq hl1 hs1; have hc0_y1 : y1.cell? ⟨w.heap.size, 0, none⟩ = some (.int .i64 11) := (HS_y1.out.own.blk 0 rfl).cell 0))
  refine wp_region_held_drew (S := (fun W => OwnV W 0 ([(w.heap.size, 35, [.int .i64 11, .int .i64 x, .int .i64 t, .int .i64 n, .int .i64 more, .bool a, .int .u64 (mk : Int)])] ++ U))) (by kernel_rfl) ?_ (fun hHeld => ?_)
  · exact HS_y1.out.drew.own
  have HS_dy1 := hide (HS_y1.out.drew)
  refine heldTake (i := 0) (v := ?_) rfl (by kernel_rfl) (by kernel_rfl) (by kernel_rfl) (fun _ _ _ h => h) (Or.inl ⟨by rfl, ?_⟩) (by assumption) ?_
  rotate_left
  · intro w hSw; (try dsimp only at hSw); go_simp <;> (with_reducible rfl)
  try simp only [Act.put, List.setIfInBounds_toArray, List.set_cons_zero, List.set_cons_succ]
  refine heldTake (i := 1) (v := ?_) rfl (by kernel_rfl) (by kernel_rfl) (by kernel_rfl) (fun _ _ _ h => h) (Or.inl ⟨by rfl, ?_⟩) (by assumption) ?_
  rotate_left
  · intro w hSw; (try dsimp only at hSw); go_simp <;> (with_reducible rfl)
  try simp only [Act.put, List.setIfInBounds_toArray, List.set_cons_zero, List.set_cons_succ]
  refine heldTake (i := 2) (v := .int .i64 x) rfl (by kernel_rfl) (by kernel_rfl) (by kernel_rfl) (fun _ _ _ h => h) (Or.inl ⟨by rfl, fun W hW => ?_⟩) (by assumption) ?_
  · have hc : W.cell? ⟨w.heap.size, 1, none⟩ = some (.int .i64 x) := (hW.blk 0 rfl).cell 1
    go_simp <;> rfl
  try simp only [Act.put, List.setIfInBounds_toArray, List.set_cons_zero, List.set_cons_succ]
  refine heldTake (i := 4) (v := ?_) rfl (by kernel_rfl) (by kernel_rfl) (by kernel_rfl) (fun _ _ _ h => h) (Or.inl ⟨by rfl, ?_⟩) (by assumption) ?_
  rotate_left
  · intro w hSw; (try dsimp only at hSw); go_simp <;> (with_reducible rfl)
  try simp only [Act.put, List.setIfInBounds_toArray, List.set_cons_zero, List.set_cons_succ]
  refine heldTake (i := 5) (v := ?_) rfl (by kernel_rfl) (by kernel_rfl) (by kernel_rfl) (fun _ _ _ h => h) (Or.inl ⟨by rfl, ?_⟩) (by assumption) ?_
  rotate_left
  · intro w hSw; (try dsimp only at hSw); go_simp <;> (with_reducible rfl)
  try simp only [Act.put, List.setIfInBounds_toArray, List.set_cons_zero, List.set_cons_succ]
  refine heldTake (i := 6) (v := .int .i64 x) rfl (by kernel_rfl) (by kernel_rfl) (by kernel_rfl) (fun _ _ _ h => h) (Or.inl ⟨by rfl, fun W hW => ?_⟩) (by assumption) ?_
  · have hc : W.cell? ⟨w.heap.size, 1, none⟩ = some (.int .i64 x) := (hW.blk 0 rfl).cell 1
    go_simp <;> rfl
  try simp only [Act.put, List.setIfInBounds_toArray, List.set_cons_zero, List.set_cons_succ]
  refine wpAnyH_ready (rs := [3]) (by kernel_rfl) (by simp) ?_
  refine heldCons (i := 3) rfl (fun Kq hKq => ?_) AllReadyH.nil
  go_simp
  go_at_call 45
  (with_reducible refine (HS_dy1.out.code (fun F hB => onI_flush hB x)).mono ?_)
  rintro _ y2 ⟨rfl, hsq⟩
  rw [H_S1.out] at hsq
  rw [H_e.out]
  have HS_y2 : Hid (Duo w0 y2 b r S1 S ([(w.heap.size, 35, [.int .i64 11, .int .i64 x, .int .i64 t, .int .i64 n, .int .i64 more, .bool a, .int .u64 (mk : Int)])] ++ U)) := hide (hsq)
  clear hsq
  first | (refine hKq.out _ _ HS_y2.out.own (fun hHeld => ?_)) | (go_wp2_with fail; refine hKq.out _ _ HS_y2.out.own (fun hHeld => ?_))
  clear hKq Kq
  try simp only [Act.put, List.setIfInBounds_toArray, List.set_cons_zero, List.set_cons_succ]
  refine wpAnyH_ready (rs := [7]) (by kernel_rfl) (by simp) ?_
  refine heldCons (i := 7) rfl (fun Kq hKq => ?_) AllReadyH.nil
  go_simp
  go_at_call 46
  (with_reducible refine (HS_y2.out.ref (fun G hB => rOnI_flush hB x)).mono ?_)
  rintro _ y3 ⟨rfl, hsq⟩
  rw [H_S1.out] at hsq
  rw [H_e.out]
  have HS_y3 : Hid (Duo w0 y3 b r S1 S1 ([(w.heap.size, 35, [.int .i64 11, .int .i64 x, .int .i64 t, .int .i64 n, .int .i64 more, .bool a, .int .u64 (mk : Int)])] ++ U)) := hide (hsq)
  clear hsq
  first | (refine hKq.out _ _ HS_y3.out.own (fun hHeld => ?_)) | (go_wp2_with fail; refine hKq.out _ _ HS_y3.out.own (fun hHeld => ?_))
  clear hKq Kq
  try simp only [Act.put, List.setIfInBounds_toArray, List.set_cons_zero, List.set_cons_succ]
  refine heldTake (i := 8) (v := ?_) rfl (by kernel_rfl) (by kernel_rfl) (by kernel_rfl) (fun _ _ _ h => h) (Or.inl ⟨by rfl, ?_⟩) (by assumption) ?_
  rotate_left
  · intro w hSw; (try dsimp only at hSw); go_simp <;> (with_reducible rfl)
  try simp only [Act.put, List.setIfInBounds_toArray, List.set_cons_zero, List.set_cons_succ]
  refine heldTake (i := 9) (v := ?_) rfl (by kernel_rfl) (by kernel_rfl) (by kernel_rfl) (fun _ _ _ h => h) (Or.inl ⟨by rfl, ?_⟩) (by assumption) ?_
  rotate_left
  · intro w hSw; (try dsimp only at hSw); go_simp <;> (with_reducible rfl)
  try simp only [Act.put, List.setIfInBounds_toArray, List.set_cons_zero, List.set_cons_succ]
  refine wpAnyH_done (by kernel_rfl) ?_ _
  go_wp2_with fail
  go_ret
  exact ⟨by simp, S1, HS_y3.out.cutU, HFW.out⟩
set_option maxRecDepth 100000 in
set_option maxHeartbeats 8000000 in
theorem doesS7_any (h : Duo w0 w b r S S U) (hw : S.writes < 4611686018427380000) (hx : ExtV U A nx cx X) (x t n more : Int) (a : Bool) (mk : Nat) (hx1 : I64In x) (ht1 : I64In t) (hn1 : I64In n) (hm : mk < 18446744073709551616) :
    Calls Tryz.prog 9 #[.pointer (some ⟨b, 0, none⟩), .pointer (some ⟨r, 0, none⟩), .slice A nx cx, .agg #[.int .i64 7, .int .i64 x, .int .i64 t, .int .i64 n, .int .i64 more, .bool a, .int .u64 (mk : Int)]] w fun e w' => e = .returned (.bool true) ∧ ∃ S', Duo w0 w' b r S' S' U ∧ S'.writes ≤ S.writes + 16 := by
  have HS_w : Hid (Duo w0 w b r S S ([] ++ U)) := hide h
  have HWR := hide hw
  have HX := hide hx
  have HX1 := hide hx1
  have HT1 := hide ht1
  have HN1 := hide hn1
  clear h hw hx hx1 ht1 hn1
  obtain ⟨S1, hS1⟩ : ∃ z, S.willI (nI x) (arN n) = z := ⟨_, rfl⟩
  have H_S1 := hide hS1
  clear hS1
  have HFW := hide (show S1.writes ≤ S.writes + 16 by rw [← H_S1.out, (fails_few S (nI x) (arN n)).2]; omega)
  have hn2 := HN1.out.2
  go_enter Tryz.func9, Tryz.ntmps9
  go_wp2_with (first
    | ((with_reducible refine at_slot 7 ?_); refine wpList_box_blk rfl 35 _ rfl (.agg #[.int .i64 7, .int .i64 x, .int .i64 t, .int .i64 n, .int .i64 more, .bool a, .int .u64 (mk : Int)]) rfl ?_; intro y1 hbq hl1 hs1; have HS_y1 : Hid (Duo w0 y1 b r S S ([(w.heap.size, 35, [.int .i64 7, .int .i64 x, .int .i64 t, .int .i64 n, .int .i64 more, .bool a, .int .u64 (mk : Int)])] ++ U)) := hide (HS_w.out.varU hl1 (Nat.le_refl _) hbq); clear hbq hl1 hs1; have hc0_y1 : y1.cell? ⟨w.heap.size, 0, none⟩ = some (.int .i64 7) := (HS_y1.out.own.blk 0 rfl).cell 0; have hc1_y1 : y1.cell? ⟨w.heap.size, 1, none⟩ = some (.int .i64 x) := (HS_y1.out.own.blk 0 rfl).cell 1; have hc3_y1 : y1.cell? ⟨w.heap.size, 3, none⟩ = some (.int .i64 n) := (HS_y1.out.own.blk 0 rfl).cell 3; have hc6_y1 : y1.cell? ⟨w.heap.size, 6, none⟩ = some (.int .u64 (mk : Int)) := (HS_y1.out.own.blk 0 rfl).cell 6)
    | (go_at_call 37; refine (HS_y1.out.code (fun F hB => onI_failAt hB x n (arN n) (arN_is n) (arN_lt hn2))).mono ?_; rintro _ y2 ⟨rfl, hsq⟩; rw [H_S1.out] at hsq; have HS_y2 : Hid (Duo w0 y2 b r S1 S ([(w.heap.size, 35, [.int .i64 7, .int .i64 x, .int .i64 t, .int .i64 n, .int .i64 more, .bool a, .int .u64 (mk : Int)])] ++ U)) := hide (hsq); clear hsq; have hc1_y2 : y2.cell? ⟨w.heap.size, 1, none⟩ = some (.int .i64 x) := (HS_y2.out.own.blk 0 rfl).cell 1; have hc3_y2 : y2.cell? ⟨w.heap.size, 3, none⟩ = some (.int .i64 n) := (HS_y2.out.own.blk 0 rfl).cell 3; have hc6_y2 : y2.cell? ⟨w.heap.size, 6, none⟩ = some (.int .u64 (mk : Int)) := (HS_y2.out.own.blk 0 rfl).cell 6)
    | (go_at_call 38; refine (HS_y2.out.ref (fun G hB => rOnI_failAt hB x n (arN n) (arN_is n) (arN_lt hn2))).mono ?_; rintro _ y3 ⟨rfl, hsq⟩; rw [H_S1.out] at hsq; have HS_y3 : Hid (Duo w0 y3 b r S1 S1 ([(w.heap.size, 35, [.int .i64 7, .int .i64 x, .int .i64 t, .int .i64 n, .int .i64 more, .bool a, .int .u64 (mk : Int)])] ++ U)) := hide (hsq); clear hsq))
  go_ret
  exact ⟨by simp, S1, HS_y3.out.cutU, HFW.out⟩
set_option maxRecDepth 100000 in
set_option maxHeartbeats 8000000 in
theorem doesS8_any (h : Duo w0 w b r S S U) (hw : S.writes < 4611686018427380000) (hx : ExtV U A nx cx X) (x t n more : Int) (a : Bool) (mk : Nat) (hx1 : I64In x) (ht1 : I64In t) (hn1 : I64In n) (hm : mk < 18446744073709551616) :
    Calls Tryz.prog 9 #[.pointer (some ⟨b, 0, none⟩), .pointer (some ⟨r, 0, none⟩), .slice A nx cx, .agg #[.int .i64 8, .int .i64 x, .int .i64 t, .int .i64 n, .int .i64 more, .bool a, .int .u64 (mk : Int)]] w fun e w' => e = .returned (.bool true) ∧ ∃ S', Duo w0 w' b r S' S' U ∧ S'.writes ≤ S.writes + 16 := by
  have HS_w : Hid (Duo w0 w b r S S ([] ++ U)) := hide h
  have HWR := hide hw
  have HX := hide hx
  have HX1 := hide hx1
  have HT1 := hide ht1
  have HN1 := hide hn1
  clear h hw hx hx1 ht1 hn1
  obtain ⟨S1, hS1⟩ : ∃ z, S.arm (arN n) mk = z := ⟨_, rfl⟩
  have H_S1 := hide hS1
  clear hS1
  have HFW := hide (show S1.writes ≤ S.writes + 16 by rw [← H_S1.out, show (S.arm (arN n) mk).writes = S.writes from rfl]; omega)
  have hn2 := HN1.out.2
  go_enter Tryz.func9, Tryz.ntmps9
  go_wp2_with (first
    | ((with_reducible refine at_slot 7 ?_); refine wpList_box_blk rfl 35 _ rfl (.agg #[.int .i64 8, .int .i64 x, .int .i64 t, .int .i64 n, .int .i64 more, .bool a, .int .u64 (mk : Int)]) rfl ?_; intro y1 hbq hl1 hs1; have HS_y1 : Hid (Duo w0 y1 b r S S ([(w.heap.size, 35, [.int .i64 8, .int .i64 x, .int .i64 t, .int .i64 n, .int .i64 more, .bool a, .int .u64 (mk : Int)])] ++ U)) := hide (HS_w.out.varU hl1 (Nat.le_refl _) hbq); clear hbq hl1 hs1; have hc0_y1 : y1.cell? ⟨w.heap.size, 0, none⟩ = some (.int .i64 8) := (HS_y1.out.own.blk 0 rfl).cell 0; have hc1_y1 : y1.cell? ⟨w.heap.size, 1, none⟩ = some (.int .i64 x) := (HS_y1.out.own.blk 0 rfl).cell 1; have hc3_y1 : y1.cell? ⟨w.heap.size, 3, none⟩ = some (.int .i64 n) := (HS_y1.out.own.blk 0 rfl).cell 3; have hc6_y1 : y1.cell? ⟨w.heap.size, 6, none⟩ = some (.int .u64 (mk : Int)) := (HS_y1.out.own.blk 0 rfl).cell 6)
    | (go_at_call 39; refine (HS_y1.out.code (fun F hB => on_arm hB n (arN n) mk (arN_is n) (arN_lt hn2) hm)).mono ?_; rintro _ y2 ⟨rfl, hsq⟩; rw [H_S1.out] at hsq; have HS_y2 : Hid (Duo w0 y2 b r S1 S ([(w.heap.size, 35, [.int .i64 8, .int .i64 x, .int .i64 t, .int .i64 n, .int .i64 more, .bool a, .int .u64 (mk : Int)])] ++ U)) := hide (hsq); clear hsq; have hc1_y2 : y2.cell? ⟨w.heap.size, 1, none⟩ = some (.int .i64 x) := (HS_y2.out.own.blk 0 rfl).cell 1; have hc3_y2 : y2.cell? ⟨w.heap.size, 3, none⟩ = some (.int .i64 n) := (HS_y2.out.own.blk 0 rfl).cell 3; have hc6_y2 : y2.cell? ⟨w.heap.size, 6, none⟩ = some (.int .u64 (mk : Int)) := (HS_y2.out.own.blk 0 rfl).cell 6)
    | (go_at_call 40; refine (HS_y2.out.ref (fun G hB => rOn_arm hB n (arN n) mk (arN_is n) (arN_lt hn2) hm)).mono ?_; rintro _ y3 ⟨rfl, hsq⟩; rw [H_S1.out] at hsq; have HS_y3 : Hid (Duo w0 y3 b r S1 S1 ([(w.heap.size, 35, [.int .i64 8, .int .i64 x, .int .i64 t, .int .i64 n, .int .i64 more, .bool a, .int .u64 (mk : Int)])] ++ U)) := hide (hsq); clear hsq))
  go_ret
  exact ⟨by simp, S1, HS_y3.out.cutU, HFW.out⟩
set_option maxRecDepth 100000 in
set_option maxHeartbeats 8000000 in
theorem doesS9_any (h : Duo w0 w b r S S U) (hw : S.writes < 4611686018427380000) (hx : ExtV U A nx cx X) (x t n more : Int) (a : Bool) (mk : Nat) (hx1 : I64In x) (ht1 : I64In t) (hn1 : I64In n) (hm : mk < 18446744073709551616) :
    Calls Tryz.prog 9 #[.pointer (some ⟨b, 0, none⟩), .pointer (some ⟨r, 0, none⟩), .slice A nx cx, .agg #[.int .i64 9, .int .i64 x, .int .i64 t, .int .i64 n, .int .i64 more, .bool a, .int .u64 (mk : Int)]] w fun e w' => e = .returned (.bool true) ∧ ∃ S', Duo w0 w' b r S' S' U ∧ S'.writes ≤ S.writes + 16 := by
  have HS_w : Hid (Duo w0 w b r S S ([] ++ U)) := hide h
  have HWR := hide hw
  have HX := hide hx
  have HX1 := hide hx1
  have HT1 := hide ht1
  have HN1 := hide hn1
  clear h hw hx hx1 ht1 hn1
  obtain ⟨S1, hS1⟩ : ∃ z, S.crash mk = z := ⟨_, rfl⟩
  have H_S1 := hide hS1
  clear hS1
  have HFW := hide (show S1.writes ≤ S.writes + 16 by rw [← H_S1.out, zcrash_writes S mk]; omega)
  have hn2 := HN1.out.2
  go_enter Tryz.func9, Tryz.ntmps9
  go_wp2_with (first
    | ((with_reducible refine at_slot 7 ?_); refine wpList_box_blk rfl 35 _ rfl (.agg #[.int .i64 9, .int .i64 x, .int .i64 t, .int .i64 n, .int .i64 more, .bool a, .int .u64 (mk : Int)]) rfl ?_; intro y1 hbq hl1 hs1; have HS_y1 : Hid (Duo w0 y1 b r S S ([(w.heap.size, 35, [.int .i64 9, .int .i64 x, .int .i64 t, .int .i64 n, .int .i64 more, .bool a, .int .u64 (mk : Int)])] ++ U)) := hide (HS_w.out.varU hl1 (Nat.le_refl _) hbq); clear hbq hl1 hs1; have hc0_y1 : y1.cell? ⟨w.heap.size, 0, none⟩ = some (.int .i64 9) := (HS_y1.out.own.blk 0 rfl).cell 0; have hc1_y1 : y1.cell? ⟨w.heap.size, 1, none⟩ = some (.int .i64 x) := (HS_y1.out.own.blk 0 rfl).cell 1; have hc3_y1 : y1.cell? ⟨w.heap.size, 3, none⟩ = some (.int .i64 n) := (HS_y1.out.own.blk 0 rfl).cell 3; have hc6_y1 : y1.cell? ⟨w.heap.size, 6, none⟩ = some (.int .u64 (mk : Int)) := (HS_y1.out.own.blk 0 rfl).cell 6)
    | (go_at_call 41; refine (HS_y1.out.code (fun F hB => on_crash hB mk hm)).mono ?_; rintro _ y2 ⟨rfl, hsq⟩; rw [H_S1.out] at hsq; have HS_y2 : Hid (Duo w0 y2 b r S1 S ([(w.heap.size, 35, [.int .i64 9, .int .i64 x, .int .i64 t, .int .i64 n, .int .i64 more, .bool a, .int .u64 (mk : Int)])] ++ U)) := hide (hsq); clear hsq; have hc1_y2 : y2.cell? ⟨w.heap.size, 1, none⟩ = some (.int .i64 x) := (HS_y2.out.own.blk 0 rfl).cell 1; have hc3_y2 : y2.cell? ⟨w.heap.size, 3, none⟩ = some (.int .i64 n) := (HS_y2.out.own.blk 0 rfl).cell 3; have hc6_y2 : y2.cell? ⟨w.heap.size, 6, none⟩ = some (.int .u64 (mk : Int)) := (HS_y2.out.own.blk 0 rfl).cell 6)
    | (go_at_call 42; refine (HS_y2.out.ref (fun G hB => rOn_crash hB mk hm)).mono ?_; rintro _ y3 ⟨rfl, hsq⟩; rw [H_S1.out] at hsq; have HS_y3 : Hid (Duo w0 y3 b r S1 S1 ([(w.heap.size, 35, [.int .i64 9, .int .i64 x, .int .i64 t, .int .i64 n, .int .i64 more, .bool a, .int .u64 (mk : Int)])] ++ U)) := hide (hsq); clear hsq))
  go_ret
  exact ⟨by simp, S1, HS_y3.out.cutU, HFW.out⟩
set_option maxRecDepth 100000 in
set_option maxHeartbeats 8000000 in
theorem doesS10_any (h : Duo w0 w b r S S U) (hw : S.writes < 4611686018427380000) (hx : ExtV U A nx cx X) (x t n more : Int) (a : Bool) (mk : Nat) (hx1 : I64In x) (ht1 : I64In t) (hn1 : I64In n) (hm : mk < 18446744073709551616) :
    Calls Tryz.prog 9 #[.pointer (some ⟨b, 0, none⟩), .pointer (some ⟨r, 0, none⟩), .slice A nx cx, .agg #[.int .i64 10, .int .i64 x, .int .i64 t, .int .i64 n, .int .i64 more, .bool a, .int .u64 (mk : Int)]] w fun e w' => e = .returned (.bool true) ∧ ∃ S', Duo w0 w' b r S' S' U ∧ S'.writes ≤ S.writes + 16 := by
  have HS_w : Hid (Duo w0 w b r S S ([] ++ U)) := hide h
  have HWR := hide hw
  have HX := hide hx
  have HX1 := hide hx1
  have HT1 := hide ht1
  have HN1 := hide hn1
  clear h hw hx hx1 ht1 hn1
  obtain ⟨S1, hS1⟩ : ∃ z, S.start = z := ⟨_, rfl⟩
  have H_S1 := hide hS1
  clear hS1
  have HFW := hide (show S1.writes ≤ S.writes + 16 by rw [← H_S1.out, show S.start.writes = S.writes from rfl]; omega)
  have hn2 := HN1.out.2
  go_enter Tryz.func9, Tryz.ntmps9
  go_wp2_with (first
    | ((with_reducible refine at_slot 7 ?_); refine wpList_box_blk rfl 35 _ rfl (.agg #[.int .i64 10, .int .i64 x, .int .i64 t, .int .i64 n, .int .i64 more, .bool a, .int .u64 (mk : Int)]) rfl ?_; intro y1 hbq hl1 hs1; have HS_y1 : Hid (Duo w0 y1 b r S S ([(w.heap.size, 35, [.int .i64 10, .int .i64 x, .int .i64 t, .int .i64 n, .int .i64 more, .bool a, .int .u64 (mk : Int)])] ++ U)) := hide (HS_w.out.varU hl1 (Nat.le_refl _) hbq); clear hbq hl1 hs1; have hc0_y1 : y1.cell? ⟨w.heap.size, 0, none⟩ = some (.int .i64 10) := (HS_y1.out.own.blk 0 rfl).cell 0; have hc1_y1 : y1.cell? ⟨w.heap.size, 1, none⟩ = some (.int .i64 x) := (HS_y1.out.own.blk 0 rfl).cell 1; have hc3_y1 : y1.cell? ⟨w.heap.size, 3, none⟩ = some (.int .i64 n) := (HS_y1.out.own.blk 0 rfl).cell 3; have hc6_y1 : y1.cell? ⟨w.heap.size, 6, none⟩ = some (.int .u64 (mk : Int)) := (HS_y1.out.own.blk 0 rfl).cell 6)
    | (go_at_call 43; refine (HS_y1.out.code (fun F hB => on_start hB)).mono ?_; rintro _ y2 ⟨rfl, hsq⟩; rw [H_S1.out] at hsq; have HS_y2 : Hid (Duo w0 y2 b r S1 S ([(w.heap.size, 35, [.int .i64 10, .int .i64 x, .int .i64 t, .int .i64 n, .int .i64 more, .bool a, .int .u64 (mk : Int)])] ++ U)) := hide (hsq); clear hsq; have hc1_y2 : y2.cell? ⟨w.heap.size, 1, none⟩ = some (.int .i64 x) := (HS_y2.out.own.blk 0 rfl).cell 1; have hc3_y2 : y2.cell? ⟨w.heap.size, 3, none⟩ = some (.int .i64 n) := (HS_y2.out.own.blk 0 rfl).cell 3; have hc6_y2 : y2.cell? ⟨w.heap.size, 6, none⟩ = some (.int .u64 (mk : Int)) := (HS_y2.out.own.blk 0 rfl).cell 6)
    | (go_at_call 44; refine (HS_y2.out.ref (fun G hB => rOn_start hB)).mono ?_; rintro _ y3 ⟨rfl, hsq⟩; rw [H_S1.out] at hsq; have HS_y3 : Hid (Duo w0 y3 b r S1 S1 ([(w.heap.size, 35, [.int .i64 10, .int .i64 x, .int .i64 t, .int .i64 n, .int .i64 more, .bool a, .int .u64 (mk : Int)])] ++ U)) := hide (hsq); clear hsq))
  go_ret
  exact ⟨by simp, S1, HS_y3.out.cutU, HFW.out⟩
set_option maxRecDepth 100000 in
set_option maxHeartbeats 8000000 in
theorem doesS5_any (h : Duo w0 w b r S S U) (hw : S.writes < 4611686018427380000) (hx : ExtV U A nx cx X) (x t n more : Int) (a : Bool) (mk : Nat) (hx1 : I64In x) (ht1 : I64In t) (hn1 : I64In n) (hm : mk < 18446744073709551616) :
    Calls Tryz.prog 9 #[.pointer (some ⟨b, 0, none⟩), .pointer (some ⟨r, 0, none⟩), .slice A nx cx, .agg #[.int .i64 5, .int .i64 x, .int .i64 t, .int .i64 n, .int .i64 more, .bool a, .int .u64 (mk : Int)]] w fun e w' => e = .returned (.bool true) ∧ ∃ S', Duo w0 w' b r S' S' U ∧ S'.writes ≤ S.writes + 16 := by
  have HS_w : Hid (Duo w0 w b r S S ([] ++ U)) := hide h
  have HWR := hide hw
  have HX := hide hx
  have HX1 := hide hx1
  have HT1 := hide ht1
  have HN1 := hide hn1
  clear h hw hx hx1 ht1 hn1
  obtain ⟨d, hd⟩ : ∃ d, d = secOf n := ⟨_, rfl⟩
  have HA := hide (fun w => hd ▸ sector_any n w)
  clear hd
  obtain ⟨e, he⟩ : ∃ z, (S.write (nI x) (nI t) d).1 = z := ⟨_, rfl⟩
  have H_e := hide he
  clear he
  obtain ⟨S1, hS1⟩ : ∃ z, (S.write (nI x) (nI t) d).2 = z := ⟨_, rfl⟩
  have H_S1 := hide hS1
  clear hS1
  have HFW := hide (show S1.writes ≤ S.writes + 16 by rw [← H_S1.out]; have := zwrite_writes S (nI x) (nI t) d; omega)
  go_enter Tryz.func9, Tryz.ntmps9
  go_upto_region 28 with (first
    | ((with_reducible refine at_slot 7 ?_); refine wpList_box_blk rfl 35 _ rfl (.agg #[.int .i64 5, .int .i64 x, .int .i64 t, .int .i64 n, .int .i64 more, .bool a, .int .u64 (mk : Int)]) rfl ?_; intro y1 hbq hl1 hs1; have HS_y1 : Hid (Duo w0 y1 b r S S ([(w.heap.size, 35, [.int .i64 5, .int .i64 x, .int .i64 t, .int .i64 n, .int .i64 more, .bool a, .int .u64 (mk : Int)])] ++ U)) := hide (HS_w.out.varU hl1 (Nat.le_refl _) hbq); clear hbq hl1 hs1; have hc0_y1 : y1.cell? ⟨w.heap.size, 0, none⟩ = some (.int .i64 5) := (HS_y1.out.own.blk 0 rfl).cell 0; have hc1_y1 : y1.cell? ⟨w.heap.size, 1, none⟩ = some (.int .i64 x) := (HS_y1.out.own.blk 0 rfl).cell 1; have hc2_y1 : y1.cell? ⟨w.heap.size, 2, none⟩ = some (.int .i64 t) := (HS_y1.out.own.blk 0 rfl).cell 2)
    | ((with_reducible refine at_slot 27 ?_); refine wpList_alloc_blk rfl 47 rfl _ (mplace_zero _) ?_; intro y2 hbq hl1 hs1; clear hs1)
    | ((with_reducible refine at_store 27 ?_); refine wpList_store_all rfl 47 (.tmp 27) (.tmp 202) rfl y1.heap.size 47 _ hbq rfl (plL (x) (t)) rfl mplace_info rfl (mplace_one _ _) ?_; intro y3 hbz hg hs; have HS_y3 : Hid (Duo w0 y3 b r S S ([(w.heap.size, 35, [.int .i64 5, .int .i64 x, .int .i64 t, .int .i64 n, .int .i64 more, .bool a, .int .u64 (mk : Int)]), (y1.heap.size, 47, plL (x) (t))] ++ U)) := hide (HS_y1.out.newU hl1 hg hbz); clear hs hbq hl1 hg hbz))
  refine wp_region_held_drew (S := (fun W => OwnV W 0 ([(w.heap.size, 35, [.int .i64 5, .int .i64 x, .int .i64 t, .int .i64 n, .int .i64 more, .bool a, .int .u64 (mk : Int)]), (y1.heap.size, 47, plL (x) (t))] ++ U))) (by kernel_rfl) ?_ (fun hHeld => ?_)
  · exact HS_y3.out.drew.own
  have HS_dy3 := hide (HS_y3.out.drew)
  refine heldTake (i := 0) (v := ?_) rfl (by kernel_rfl) (by kernel_rfl) (by kernel_rfl) (fun _ _ _ h => h) (Or.inl ⟨by rfl, ?_⟩) (by assumption) ?_
  rotate_left
  · intro w hSw; (try dsimp only at hSw); go_simp <;> (with_reducible rfl)
  try simp only [Act.put, List.setIfInBounds_toArray, List.set_cons_zero, List.set_cons_succ]
  refine heldTake (i := 1) (v := .agg (plL x t).toArray) rfl (by kernel_rfl) (by kernel_rfl) (by kernel_rfl) (fun _ _ _ h => h) (yieldsIf_load_mid (by rfl) _ _ rfl _ _ rfl (plL x t) _ (fun W hW => (fun j v hj => by rw [Nat.zero_add]; exact ((hW.blk 1 rfl).cell j).trans ((List.getElem?_toArray ..).trans hj))) Tryz.underlying47 rfl mplace_info) (by assumption) ?_
  try simp only [Act.put, List.setIfInBounds_toArray, List.set_cons_zero, List.set_cons_succ]
  refine heldTake (i := 2) (v := ?_) rfl (by kernel_rfl) (by kernel_rfl) (by kernel_rfl) (fun _ _ _ h => h) (Or.inl ⟨by rfl, ?_⟩) (by assumption) ?_
  rotate_left
  · intro w hSw; (try dsimp only at hSw); go_simp <;> (with_reducible rfl)
  try simp only [Act.put, List.setIfInBounds_toArray, List.set_cons_zero, List.set_cons_succ]
  refine heldTake (i := 3) (v := .int .i64 n) rfl (by kernel_rfl) (by kernel_rfl) (by kernel_rfl) (fun _ _ _ h => h) (Or.inl ⟨by rfl, fun W hW => ?_⟩) (by assumption) ?_
  · have hc : W.cell? ⟨w.heap.size, 3, none⟩ = some (.int .i64 n) := (hW.blk 0 rfl).cell 3
    go_simp <;> rfl
  try simp only [Act.put, List.setIfInBounds_toArray, List.set_cons_zero, List.set_cons_succ]
  refine heldTake (i := 6) (v := ?_) rfl (by kernel_rfl) (by kernel_rfl) (by kernel_rfl) (fun _ _ _ h => h) (Or.inl ⟨by rfl, ?_⟩) (by assumption) ?_
  rotate_left
  · intro w hSw; (try dsimp only at hSw); go_simp <;> (with_reducible rfl)
  try simp only [Act.put, List.setIfInBounds_toArray, List.set_cons_zero, List.set_cons_succ]
  refine heldTake (i := 7) (v := .agg (plL x t).toArray) rfl (by kernel_rfl) (by kernel_rfl) (by kernel_rfl) (fun _ _ _ h => h) (yieldsIf_load_mid (by rfl) _ _ rfl _ _ rfl (plL x t) _ (fun W hW => (fun j v hj => by rw [Nat.zero_add]; exact ((hW.blk 1 rfl).cell j).trans ((List.getElem?_toArray ..).trans hj))) Tryz.underlying47 rfl mplace_info) (by assumption) ?_
  try simp only [Act.put, List.setIfInBounds_toArray, List.set_cons_zero, List.set_cons_succ]
  refine heldTake (i := 8) (v := ?_) rfl (by kernel_rfl) (by kernel_rfl) (by kernel_rfl) (fun _ _ _ h => h) (Or.inl ⟨by rfl, ?_⟩) (by assumption) ?_
  rotate_left
  · intro w hSw; (try dsimp only at hSw); go_simp <;> (with_reducible rfl)
  try simp only [Act.put, List.setIfInBounds_toArray, List.set_cons_zero, List.set_cons_succ]
  refine heldTake (i := 9) (v := .int .i64 n) rfl (by kernel_rfl) (by kernel_rfl) (by kernel_rfl) (fun _ _ _ h => h) (Or.inl ⟨by rfl, fun W hW => ?_⟩) (by assumption) ?_
  · have hc : W.cell? ⟨w.heap.size, 3, none⟩ = some (.int .i64 n) := (hW.blk 0 rfl).cell 3
    go_simp <;> rfl
  try simp only [Act.put, List.setIfInBounds_toArray, List.set_cons_zero, List.set_cons_succ]
  refine wpAnyH_ready (rs := [4]) (by kernel_rfl) (by simp) ?_
  refine heldCons (i := 4) rfl (fun Kq hKq => ?_) AllReadyH.nil
  go_simp
  go_at_call 20
  (with_reducible refine (HA.out _).mono ?_)
  rintro _ y4 ⟨rfl, hlq⟩
  have HS_y4 : Hid (Duo w0 y4 b r S S ([(w.heap.size, 35, [.int .i64 5, .int .i64 x, .int .i64 t, .int .i64 n, .int .i64 more, .bool a, .int .u64 (mk : Int)]), (y1.heap.size, 47, plL (x) (t))] ++ U)) := hide (HS_dy3.out.later hlq)
  clear hlq
  first | (refine hKq.out _ _ HS_y4.out.own (fun hHeld => ?_)) | (go_wp2_with fail; refine hKq.out _ _ HS_y4.out.own (fun hHeld => ?_))
  clear hKq Kq
  try simp only [Act.put, List.setIfInBounds_toArray, List.set_cons_zero, List.set_cons_succ]
  refine wpAnyH_ready (rs := [5]) (by kernel_rfl) (by simp) ?_
  refine heldCons (i := 5) rfl (fun Kq hKq => ?_) AllReadyH.nil
  go_simp
  go_at_call 34
  (with_reducible refine (HS_y4.out.code (fun F hB => onI_write hB (by have := HWR.out; omega) x t d)).mono ?_)
  rintro _ y5 ⟨rfl, hsq⟩
  rw [H_S1.out] at hsq
  rw [H_e.out]
  have HS_y5 : Hid (Duo w0 y5 b r S1 S ([(w.heap.size, 35, [.int .i64 5, .int .i64 x, .int .i64 t, .int .i64 n, .int .i64 more, .bool a, .int .u64 (mk : Int)]), (y1.heap.size, 47, plL (x) (t))] ++ U)) := hide (hsq)
  clear hsq
  first | (refine hKq.out _ _ HS_y5.out.own (fun hHeld => ?_)) | (go_wp2_with fail; refine hKq.out _ _ HS_y5.out.own (fun hHeld => ?_))
  clear hKq Kq
  try simp only [Act.put, List.setIfInBounds_toArray, List.set_cons_zero, List.set_cons_succ]
  refine wpAnyH_ready (rs := [10]) (by kernel_rfl) (by simp) ?_
  refine heldCons (i := 10) rfl (fun Kq hKq => ?_) AllReadyH.nil
  go_simp
  go_at_call 20
  (with_reducible refine (HA.out _).mono ?_)
  rintro _ y6 ⟨rfl, hlq⟩
  have HS_y6 : Hid (Duo w0 y6 b r S1 S ([(w.heap.size, 35, [.int .i64 5, .int .i64 x, .int .i64 t, .int .i64 n, .int .i64 more, .bool a, .int .u64 (mk : Int)]), (y1.heap.size, 47, plL (x) (t))] ++ U)) := hide (HS_y5.out.later hlq)
  clear hlq
  first | (refine hKq.out _ _ HS_y6.out.own (fun hHeld => ?_)) | (go_wp2_with fail; refine hKq.out _ _ HS_y6.out.own (fun hHeld => ?_))
  clear hKq Kq
  try simp only [Act.put, List.setIfInBounds_toArray, List.set_cons_zero, List.set_cons_succ]
  refine wpAnyH_ready (rs := [11]) (by kernel_rfl) (by simp) ?_
  refine heldCons (i := 11) rfl (fun Kq hKq => ?_) AllReadyH.nil
  go_simp
  go_at_call 35
  (with_reducible refine (HS_y6.out.ref (fun G hB => rOnI_write hB (by have := HWR.out; omega) x t d)).mono ?_)
  rintro _ y7 ⟨rfl, hsq⟩
  rw [H_S1.out] at hsq
  rw [H_e.out]
  have HS_y7 : Hid (Duo w0 y7 b r S1 S1 ([(w.heap.size, 35, [.int .i64 5, .int .i64 x, .int .i64 t, .int .i64 n, .int .i64 more, .bool a, .int .u64 (mk : Int)]), (y1.heap.size, 47, plL (x) (t))] ++ U)) := hide (hsq)
  clear hsq
  first | (refine hKq.out _ _ HS_y7.out.own (fun hHeld => ?_)) | (go_wp2_with fail; refine hKq.out _ _ HS_y7.out.own (fun hHeld => ?_))
  clear hKq Kq
  try simp only [Act.put, List.setIfInBounds_toArray, List.set_cons_zero, List.set_cons_succ]
  refine heldTake (i := 12) (v := ?_) rfl (by kernel_rfl) (by kernel_rfl) (by kernel_rfl) (fun _ _ _ h => h) (Or.inl ⟨by rfl, ?_⟩) (by assumption) ?_
  rotate_left
  · intro w hSw; (try dsimp only at hSw); go_simp <;> (with_reducible rfl)
  try simp only [Act.put, List.setIfInBounds_toArray, List.set_cons_zero, List.set_cons_succ]
  refine heldTake (i := 13) (v := ?_) rfl (by kernel_rfl) (by kernel_rfl) (by kernel_rfl) (fun _ _ _ h => h) (Or.inl ⟨by rfl, ?_⟩) (by assumption) ?_
  rotate_left
  · intro w hSw; (try dsimp only at hSw); go_simp <;> (with_reducible rfl)
  try simp only [Act.put, List.setIfInBounds_toArray, List.set_cons_zero, List.set_cons_succ]
  refine wpAnyH_done (by kernel_rfl) ?_ _
  go_wp2_with fail
  go_ret
  exact ⟨by simp, S1, HS_y7.out.cutU, HFW.out⟩
set_option maxRecDepth 100000 in
set_option maxHeartbeats 8000000 in
theorem doesSE_any (h : Duo w0 w b r S S U) (hw : S.writes < 4611686018427380000) (hx : ExtV U A nx cx X) (k x t n more : Int) (a : Bool) (mk : Nat) (hx1 : I64In x) (ht1 : I64In t) (hn1 : I64In n) (hm : mk < 18446744073709551616) (hk : ∀ j : Nat, 1 ≤ j → j ≤ 11 → k ≠ (j : Int)) :
    Calls Tryz.prog 9 #[.pointer (some ⟨b, 0, none⟩), .pointer (some ⟨r, 0, none⟩), .slice A nx cx, .agg #[.int .i64 k, .int .i64 x, .int .i64 t, .int .i64 n, .int .i64 more, .bool a, .int .u64 (mk : Int)]] w fun e w' => e = .returned (.bool true) ∧ ∃ S', Duo w0 w' b r S' S' U ∧ S'.writes ≤ S.writes + 16 := by
  have HS_w : Hid (Duo w0 w b r S S ([] ++ U)) := hide h
  have HWR := hide hw
  have HX := hide hx
  have HX1 := hide hx1
  have HT1 := hide ht1
  have HN1 := hide hn1
  have k1 : (k == 1) = false := by simpa using hk 1 (by decide) (by decide)
  have k2 : (k == 2) = false := by simpa using hk 2 (by decide) (by decide)
  have k3 : (k == 3) = false := by simpa using hk 3 (by decide) (by decide)
  have k4 : (k == 4) = false := by simpa using hk 4 (by decide) (by decide)
  have k5 : (k == 5) = false := by simpa using hk 5 (by decide) (by decide)
  have k6 : (k == 6) = false := by simpa using hk 6 (by decide) (by decide)
  have k7 : (k == 7) = false := by simpa using hk 7 (by decide) (by decide)
  have k8 : (k == 8) = false := by simpa using hk 8 (by decide) (by decide)
  have k9 : (k == 9) = false := by simpa using hk 9 (by decide) (by decide)
  have k10 : (k == 10) = false := by simpa using hk 10 (by decide) (by decide)
  have k11 : (k == 11) = false := by simpa using hk 11 (by decide) (by decide)
  clear hk
  clear h hw hx hx1 ht1 hn1
  go_enter Tryz.func9, Tryz.ntmps9
  go_wp2_with (first
    | ((with_reducible refine at_slot 7 ?_); refine wpList_box_blk rfl 35 _ rfl (.agg #[.int .i64 k, .int .i64 x, .int .i64 t, .int .i64 n, .int .i64 more, .bool a, .int .u64 (mk : Int)]) rfl ?_; intro y1 hbq hl1 hs1; have HS_y1 : Hid (Duo w0 y1 b r S S ([(w.heap.size, 35, [.int .i64 k, .int .i64 x, .int .i64 t, .int .i64 n, .int .i64 more, .bool a, .int .u64 (mk : Int)])] ++ U)) := hide (HS_w.out.varU hl1 (Nat.le_refl _) hbq); clear hbq hl1 hs1; have hc0_y1 : y1.cell? ⟨w.heap.size, 0, none⟩ = some (.int .i64 k) := (HS_y1.out.own.blk 0 rfl).cell 0))
  go_ret
  exact ⟨by simp, S, HS_y1.out.cutU, by omega⟩
end
end Go.Proofs.YtmjjnbabfldbcaaGreat
namespace Go.Proofs.YtmjjnbabfldbcaaGreat
open Go.RowKit
set_option linter.unusedVariables false
theorem maskN (v : Int) (k : Nat) (hk : k ≤ 16) : ∃ N : Nat, bits .and .i64 v (2 ^ k - 1) = (N : Int) ∧ N < 2 ^ k := by
  have h := i64_mask v k (by omega)
  have hp : (0 : Int) < 2 ^ k := Int.pow_pos (by decide)
  refine ⟨(v % 2 ^ k).toNat, ?_, ?_⟩
  · rw [h]
    have := Int.emod_nonneg v (Int.ne_of_gt hp)
    omega
  · have h1 := Int.emod_nonneg v (Int.ne_of_gt hp)
    have h2 := Int.emod_lt_of_pos v hp
    have h3 : (2 : Int) ^ k = ((2 ^ k : Nat) : Int) := by simp
    rw [h3] at h1 h2 ⊢
    omega
theorem wall_writes : ∀ (l : List (PlI × Sec)) (S : Bank), (S.wallP l).2.2.writes ≤ S.writes + l.length
  | [], S => Nat.le_refl _
  | (p, s) :: l, S => by
    have h1 : (S.writeP p s).2.writes ≤ S.writes + 1 := zwrite_writes S _ _ s
    have ih := wall_writes l (S.writeP p s).2
    unfold Bank.wallP
    simp only
    split
    · simp only [List.length_cons]; omega
    · simp only [List.length_cons]; omega
theorem sfull_writes {S : Bank} {X : List PlI} {t : Int} {L : List Sec} (hX : X.length ≤ 12) : (S.sfull X t L).2.writes ≤ S.writes + 16 := by
  unfold Bank.sfull
  split
  · have h := wall_writes (fullL X t.toNat L) S
    have hl : (fullL X t.toNat L).length ≤ 13 := by
      unfold fullL
      rw [List.length_append, List.length_zip, List.length_singleton]
      by_cases h2 : 2 ≤ X.length
      · have := strD_length (X := X) (t := t.toNat) h2
        omega
      · rename_i hf
        unfold fullE at hf
        rw [if_pos (by omega)] at hf
        cases hf
    simp only
    omega
  · simp only
    omega
section
variable {w0 w : World} {b r nx cx : Nat} {S : Bank} {U : List (Nat × TypeId × List Value)} {A : Option Addr} {X : List PlI}
set_option maxRecDepth 100000 in
set_option maxHeartbeats 8000000 in
theorem doesS1_any (h : Duo w0 w b r S S U) (hw : S.writes < 4611686018427380000) (hx : ExtV U A nx cx X) (x t n more : Int) (a : Bool) (mk : Nat) (hx1 : I64In x) (ht1 : I64In t) (hn1 : I64In n) (hm : mk < 18446744073709551616) :
    Calls Tryz.prog 9 #[.pointer (some ⟨b, 0, none⟩), .pointer (some ⟨r, 0, none⟩), .slice A nx cx, .agg #[.int .i64 1, .int .i64 x, .int .i64 t, .int .i64 n, .int .i64 more, .bool a, .int .u64 (mk : Int)]] w fun e w' => e = .returned (.bool true) ∧ ∃ S', Duo w0 w' b r S' S' U ∧ S'.writes ≤ S.writes + 16 := by
  have HS_w : Hid (Duo w0 w b r S S ([] ++ U)) := hide h
  have HWR := hide hw
  have HX := hide hx
  have HX1 := hide hx1
  have HT1 := hide ht1
  have HN1 := hide hn1
  clear h hw hx hx1 ht1 hn1
  have hn12 : nx ≤ 12 := HX.out.few
  have hXn : X.length = nx := reads_len (HS_w.out.xin (HX.out.ahead _)).reads
  have HFW := hide (fun (L : List Sec) => sfull_writes (S := S) (t := t) (L := L) (show X.length ≤ 12 by omega))
  clear hXn
  obtain ⟨Q, hQ, hQ2⟩ := maskN more 1 (by decide)
  simp only [show ((2 : Int) ^ 1 - 1) = 1 by rfl] at hQ
  go_enter Tryz.func9, Tryz.ntmps9
  go_upto_block 1 with (first
    | ((with_reducible refine at_slot 7 ?_); refine wpList_box_blk rfl 35 _ rfl (.agg #[.int .i64 1, .int .i64 x, .int .i64 t, .int .i64 n, .int .i64 more, .bool a, .int .u64 (mk : Int)]) rfl ?_; intro y1 hbq hl1 hs1; have HS_y1 : Hid (Duo w0 y1 b r S S ([(w.heap.size, 35, [.int .i64 1, .int .i64 x, .int .i64 t, .int .i64 n, .int .i64 more, .bool a, .int .u64 (mk : Int)])] ++ U)) := hide (HS_w.out.varU hl1 (Nat.le_refl _) hbq); clear hbq hl1 hs1; have hc0_y1 : y1.cell? ⟨w.heap.size, 0, none⟩ = some (.int .i64 1) := (HS_y1.out.own.blk 0 rfl).cell 0; have hc3_y1 : y1.cell? ⟨w.heap.size, 3, none⟩ = some (.int .i64 n) := (HS_y1.out.own.blk 0 rfl).cell 3; have hc4_y1 : y1.cell? ⟨w.heap.size, 4, none⟩ = some (.int .i64 more) := (HS_y1.out.own.blk 0 rfl).cell 4))
  have HBO := hide (HS_y1.out.own.blk 0 rfl)
  go_wp2_with fail
  go_loopw [9, 10] (fun s9 s10 wr => ∃ (i : Nat) (A2 : Option Addr) (c2 : Nat) (L : List Sec), s9 = .slice A2 i c2 ∧ s10 = .int .i64 (i : Int) ∧ i ≤ 12 ∧ L.length = i ∧ Hid (SecOwn wr y1.heap.size A2 i c2 L) ∧ Hid (Below y1.heap.size y1 wr)) (fun _ s10 _ => 13 - (intOf s10).toNat)
  case atStart => exact ⟨0, none, 0, [], rfl, rfl, by decide, rfl, hide (World.ownsRow_nil _ _ _ _), hide (Below.refl _ _)⟩
  case round =>
    obtain ⟨i, A2, c2, L, rfl, rfl, hi12, hLi, HOW, HLW⟩ := hrel
    obtain ⟨wz, rfl⟩ : ∃ wz, wz = wr := ⟨_, rfl⟩
    have hb2 := HBO.out.below HLW.out HBO.out.lt
    have hk4 : wz.cell? ⟨w.heap.size, 4, none⟩ = some (.int .i64 more) := hb2.cell 4
    have hk3 : wz.cell? ⟨w.heap.size, 3, none⟩ = some (.int .i64 n) := hb2.cell 3
    have hk2 : wz.cell? ⟨w.heap.size, 2, none⟩ = some (.int .i64 t) := hb2.cell 2
    clear hb2
    by_cases hlt : (i : Int) < (nx : Int) - 1 + (Q : Int)
    · go_wp2_with (first
        | (go_at_call 20; refine (sector_any _ _).mono ?_; rintro _ z1 ⟨rfl, hl1⟩; have HO1 := hide (own_later HOW.out hl1); have HL1 := hide (HLW.out.trans (hl1.mono HLW.out.size)); clear hl1)
        | ((with_reducible refine at_slot 49 ?_); refine wpList_oneG rfl (.tmp 48) rfl _ rfl ?_)
        | ((with_reducible refine at_slot 50 ?_); refine wpList_pushG rfl (.tmp 43) (.tmp 49) rfl y1.heap.size A2 i c2 L _ rfl HO1.out rfl rfl (by omega) HL1.out.size ?_; intro A3 c3 z2 ho3 hl3; have HO3 := hide ho3; have HL3 := hide (HL1.out.trans hl3); clear ho3 hl3))
      go_roundw
      case rel => exact ⟨i + 1, A3, c3, _, rfl, by go_num, by omega, by rw [List.length_append, hLi]; rfl, HO3, HL3⟩
      case measure => simp [intOf]; omega
    · have hd2 : decide ((i : Int) < (nx : Int) - 1 + (Q : Int)) = false := by simpa using hlt
      go_upto_region 8 with fail
      obtain ⟨Un, hdu, hrow⟩ := Duo.row HS_y1.out HLW.out HOW.out (Nat.le_refl _)
      have HDU := hide hdu
      have hc2 := (own_shape HOW.out)
      obtain ⟨Aq, cq, hcq, hc3, hc4⟩ := hc2
      injection hcq with hcq1 _ hcq
      subst hcq
      subst hcq1
      have HSR := hide (show SecR _ A2 i c2 L from ⟨hrow, hLi, by omega, hc3, hc4⟩)
      have HXX := hide ((HX.out.ahead [(w.heap.size, 35, [.int .i64 1, .int .i64 x, .int .i64 t, .int .i64 n, .int .i64 more, .bool a, .int .u64 (mk : Int)])]).more Un)
      clear hdu hrow hc3 hc4 hk4 hk3 hk2
      obtain ⟨e, he⟩ : ∃ z, (S.sfull X t L).1 = z := ⟨_, rfl⟩
      have H_e := hide he
      obtain ⟨S1, hS1⟩ : ∃ z, (S.sfull X t L).2 = z := ⟨_, rfl⟩
      have H_S1 := hide hS1
      have HF := hide (show S1.writes ≤ S.writes + 16 by rw [← hS1]; exact HFW.out L)
      clear he hS1
      refine wp_region_held_drew (S := (fun W => OwnV W 0 (([(w.heap.size, 35, [.int .i64 1, .int .i64 x, .int .i64 t, .int .i64 n, .int .i64 more, .bool a, .int .u64 (mk : Int)])] ++ U) ++ Un))) (by kernel_rfl) ?_ (fun hHeld => ?_)
      · exact HDU.out.drew.own
      have HD0 := hide (HDU.out.drew)
      refine heldTake (i := 0) (v := ?_) rfl (by kernel_rfl) (by kernel_rfl) (by kernel_rfl) (fun _ _ _ h => h) (Or.inl ⟨by rfl, ?_⟩) (by assumption) ?_
      rotate_left
      · intro w hSw; (try dsimp only at hSw); go_simp <;> (with_reducible rfl)
      try simp only [Act.put, List.setIfInBounds_toArray, List.set_cons_zero, List.set_cons_succ]
      refine heldTake (i := 1) (v := ?_) rfl (by kernel_rfl) (by kernel_rfl) (by kernel_rfl) (fun _ _ _ h => h) (Or.inl ⟨by rfl, ?_⟩) (by assumption) ?_
      rotate_left
      · intro w hSw; (try dsimp only at hSw); go_simp <;> (with_reducible rfl)
      try simp only [Act.put, List.setIfInBounds_toArray, List.set_cons_zero, List.set_cons_succ]
      refine heldTake (i := 2) (v := ?_) rfl (by kernel_rfl) (by kernel_rfl) (by kernel_rfl) (fun _ _ _ h => h) (Or.inl ⟨by rfl, ?_⟩) (by assumption) ?_
      rotate_left
      · intro w hSw; (try dsimp only at hSw); go_simp <;> (with_reducible rfl)
      try simp only [Act.put, List.setIfInBounds_toArray, List.set_cons_zero, List.set_cons_succ]
      refine heldTake (i := 3) (v := .int .i64 t) rfl (by kernel_rfl) (by kernel_rfl) (by kernel_rfl) (fun _ _ _ h => h) (Or.inl ⟨by rfl, fun W hW => ?_⟩) (by assumption) ?_
      · have hc : W.cell? ⟨w.heap.size, 2, none⟩ = some (.int .i64 t) := (hW.blk 0 rfl).cell 2
        go_simp <;> rfl
      try simp only [Act.put, List.setIfInBounds_toArray, List.set_cons_zero, List.set_cons_succ]
      refine heldTake (i := 4) (v := ?_) rfl (by kernel_rfl) (by kernel_rfl) (by kernel_rfl) (fun _ _ _ h => h) (Or.inl ⟨by rfl, ?_⟩) (by assumption) ?_
      rotate_left
      · intro w hSw; (try dsimp only at hSw); go_simp <;> (with_reducible rfl)
      try simp only [Act.put, List.setIfInBounds_toArray, List.set_cons_zero, List.set_cons_succ]
      refine heldTake (i := 6) (v := ?_) rfl (by kernel_rfl) (by kernel_rfl) (by kernel_rfl) (fun _ _ _ h => h) (Or.inl ⟨by rfl, ?_⟩) (by assumption) ?_
      rotate_left
      · intro w hSw; (try dsimp only at hSw); go_simp <;> (with_reducible rfl)
      try simp only [Act.put, List.setIfInBounds_toArray, List.set_cons_zero, List.set_cons_succ]
      refine heldTake (i := 7) (v := ?_) rfl (by kernel_rfl) (by kernel_rfl) (by kernel_rfl) (fun _ _ _ h => h) (Or.inl ⟨by rfl, ?_⟩) (by assumption) ?_
      rotate_left
      · intro w hSw; (try dsimp only at hSw); go_simp <;> (with_reducible rfl)
      try simp only [Act.put, List.setIfInBounds_toArray, List.set_cons_zero, List.set_cons_succ]
      refine heldTake (i := 8) (v := ?_) rfl (by kernel_rfl) (by kernel_rfl) (by kernel_rfl) (fun _ _ _ h => h) (Or.inl ⟨by rfl, ?_⟩) (by assumption) ?_
      rotate_left
      · intro w hSw; (try dsimp only at hSw); go_simp <;> (with_reducible rfl)
      try simp only [Act.put, List.setIfInBounds_toArray, List.set_cons_zero, List.set_cons_succ]
      refine heldTake (i := 9) (v := .int .i64 t) rfl (by kernel_rfl) (by kernel_rfl) (by kernel_rfl) (fun _ _ _ h => h) (Or.inl ⟨by rfl, fun W hW => ?_⟩) (by assumption) ?_
      · have hc : W.cell? ⟨w.heap.size, 2, none⟩ = some (.int .i64 t) := (hW.blk 0 rfl).cell 2
        go_simp <;> rfl
      try simp only [Act.put, List.setIfInBounds_toArray, List.set_cons_zero, List.set_cons_succ]
      refine heldTake (i := 10) (v := ?_) rfl (by kernel_rfl) (by kernel_rfl) (by kernel_rfl) (fun _ _ _ h => h) (Or.inl ⟨by rfl, ?_⟩) (by assumption) ?_
      rotate_left
      · intro w hSw; (try dsimp only at hSw); go_simp <;> (with_reducible rfl)
      try simp only [Act.put, List.setIfInBounds_toArray, List.set_cons_zero, List.set_cons_succ]
      refine wpAnyH_ready (rs := [5]) (by kernel_rfl) (by simp) ?_
      refine heldCons (i := 5) rfl (fun Kq hKq => ?_) AllReadyH.nil
      go_simp
      go_at_call 19
      refine (HD0.out.cfull (by have := HWR.out; omega) HXX.out t HT1.out HSR.out).mono ?_
      rintro _ q1 ⟨rfl, hsq⟩
      rw [H_S1.out] at hsq
      rw [H_e.out]
      have HD1 := hide hsq
      clear hsq
      first | (refine hKq.out _ _ HD1.out.own (fun hHeld => ?_)) | (go_wp2_with fail; refine hKq.out _ _ HD1.out.own (fun hHeld => ?_))
      clear hKq Kq
      try simp only [Act.put, List.setIfInBounds_toArray, List.set_cons_zero, List.set_cons_succ]
      refine wpAnyH_ready (rs := [11]) (by kernel_rfl) (by simp) ?_
      refine heldCons (i := 11) rfl (fun Kq hKq => ?_) AllReadyH.nil
      go_simp
      go_at_call 26
      refine (HD1.out.dfull (by have := HWR.out; omega) HXX.out t HSR.out).mono ?_
      rintro _ q2 ⟨rfl, hsq⟩
      rw [H_S1.out] at hsq
      rw [H_e.out]
      have HD2 := hide hsq
      clear hsq
      first | (refine hKq.out _ _ HD2.out.own (fun hHeld => ?_)) | (go_wp2_with fail; refine hKq.out _ _ HD2.out.own (fun hHeld => ?_))
      clear hKq Kq
      try simp only [Act.put, List.setIfInBounds_toArray, List.set_cons_zero, List.set_cons_succ]
      refine heldTake (i := 12) (v := ?_) rfl (by kernel_rfl) (by kernel_rfl) (by kernel_rfl) (fun _ _ _ h => h) (Or.inl ⟨by rfl, ?_⟩) (by assumption) ?_
      rotate_left
      · intro w hSw; (try dsimp only at hSw); go_simp <;> (with_reducible rfl)
      try simp only [Act.put, List.setIfInBounds_toArray, List.set_cons_zero, List.set_cons_succ]
      refine heldTake (i := 13) (v := ?_) rfl (by kernel_rfl) (by kernel_rfl) (by kernel_rfl) (fun _ _ _ h => h) (Or.inl ⟨by rfl, ?_⟩) (by assumption) ?_
      rotate_left
      · intro w hSw; (try dsimp only at hSw); go_simp <;> (with_reducible rfl)
      try simp only [Act.put, List.setIfInBounds_toArray, List.set_cons_zero, List.set_cons_succ]
      refine wpAnyH_done (by kernel_rfl) ?_ _
      go_wp2_with fail
      go_ret
      exact ⟨by simp, S1, (HD2.out.sub (U := U) fun p hp => List.mem_append.2 (.inl (List.mem_append.2 (.inr hp)))), HF.out⟩
end
end Go.Proofs.YtmjjnbabfldbcaaGreat
