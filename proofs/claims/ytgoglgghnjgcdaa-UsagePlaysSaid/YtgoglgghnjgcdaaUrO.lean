/- The program's table and the document's, side by side. -/
import Derived.Test.YtgoglgghnjgcdaaUrE
namespace Go.Proofs.Ytgoglgghnjgcdaa
open Go.RowKit Go.Maps

/-- The blocks O are as they were. -/
def Kp (O : Nat → Prop) (w w' : World) : Prop := w.heap.size ≤ w'.heap.size ∧ ∀ i, O i → w'.heap[i]? = w.heap[i]?
/-- The program's table says S, the document's R; no block is of both, and none is one of O. -/
structure TwoU (w0 w : World) (t lo r m : Nat) (S R : Us) (O : Nat → Prop) : Prop where
  tbl : Tbl w0 w t lo m S
  rok : R.Ok
  rgs : R.G.length ≤ m
  rls : R.L.length ≤ m
  ref : ∃ AG cG AL cL, RefIn w r AG cG AL cL R ∧ ∀ i, RFoot r AG AL i → w0.heap.size ≤ i ∧ (i < lo ∨ lo + 4 ≤ i) ∧ ¬ O i
  off : ∀ i, O i → i < w.heap.size ∧ w0.heap.size ≤ i ∧ (i < lo ∨ lo + 4 ≤ i)
/-- A pair that was put aside. -/
def OldU (w0 w : World) (t r : Nat) (O : Nat → Prop) : Prop :=
  ∃ lo m S AG cG AL cL, Tbl w0 w t lo m S ∧ RefRd w r AG cG AL cL S ∧ (∀ i, lo ≤ i → i < lo + 4 → O i) ∧ ∀ i, RFoot r AG AL i → O i
section
variable {w0 w w' : World} {t lo r m : Nat} {S R : Us} {O : Nat → Prop}
theorem Kp.refl : Kp O w w := ⟨Nat.le_refl _, fun _ _ => rfl⟩
theorem Kp.trans {a b c : World} (h : Kp O a b) (k : Kp O b c) : Kp O a c := ⟨Nat.le_trans h.1 k.1, fun i hi => (k.2 i hi).trans (h.2 i hi)⟩
theorem Kp.less {O2 : Nat → Prop} (h : Kp O w w') (hO : ∀ i, O2 i → O i) : Kp O2 w w' := ⟨h.1, fun i hi => h.2 i (hO i hi)⟩
theorem TwoU.few (h : TwoU w0 w t lo r m S R O) : m < 999999 := h.tbl.few
theorem TwoU.code (h : TwoU w0 w t lo r m S R O) {m' : Nat} {S' : Us} (ht : Tbl w0 w' t lo m' S') (hu : Upto lo (lo + 4) w w') (hm : m ≤ m') : TwoU w0 w' t lo r m' S' R O ∧ Kp O w w' := by
  obtain ⟨AG, cG, AL, cL, h1, h2⟩ := h.ref
  refine ⟨⟨ht, h.rok, Nat.le_trans h.rgs hm, Nat.le_trans h.rls hm, ⟨AG, cG, AL, cL, h1.kept fun i hi => hu.block i (h1.foot_lt i hi) ?_, h2⟩, fun i hi => ⟨Nat.lt_of_lt_of_le (h.off i hi).1 hu.size, (h.off i hi).2⟩⟩, hu.size, fun i hi => hu.block i (h.off i hi).1 ?_⟩
  · have := (h2 i hi).2.1
    omega
  · have := (h.off i hi).2.2
    omega
theorem TwoU.refd (h : TwoU w0 w t lo r m S R O) {AG AL : Option Addr} (h2 : ∀ i, RFoot r AG AL i → w0.heap.size ≤ i ∧ (i < lo ∨ lo + 4 ≤ i) ∧ ¬ O i) {m' : Nat} {R' : Us} (ht : RTurn w w' r AG AL R') (hok : R'.Ok) (hg : R'.G.length ≤ m') (hl : R'.L.length ≤ m') (hm : m ≤ m') (hf : m' < 999999) : TwoU w0 w' t lo r m' S R' O ∧ Kp O w w' := by
  obtain ⟨AG', cG', AL', cL', k1, k2, k3⟩ := ht
  refine ⟨⟨(h.tbl.aside k3 fun i hi => ⟨(h2 i hi).1, (h2 i hi).2.1⟩).wider hm hf, hok, hg, hl, ⟨AG', cG', AL', cL', k1, fun i hi => ?_⟩, fun i hi => ⟨Nat.lt_of_lt_of_le (h.off i hi).1 k3.size, (h.off i hi).2⟩⟩, k3.size, fun i hi => k3.block i (h.off i hi).1 fun hF => (h2 i hF).2.2 hi⟩
  rcases k2 i hi with hF | hF
  · exact h2 i hF
  · have := h.tbl.room
    have := h.tbl.size
    exact ⟨by omega, by omega, fun ho => by have := (h.off i ho).1; omega⟩
theorem TwoU.open_ (h : TwoU w0 w t lo r m S R O) (g n : Int) (hg : okI64 g) (hm : m < 999998) :
    Calls Try.prog 16 #[.pointer (some ⟨t, 0, none⟩), .int .i64 g, .int .i64 n] w fun e w' => e = .returned (.int .i64 (S.openE g n)) ∧ TwoU w0 w' t lo r (m + 1) (S.open' g n) R O ∧ Kp O w w' :=
  (h.tbl.open_ g n hg hm).mono fun _ _ ⟨q1, q2, q3⟩ => ⟨q1, h.code q2 q3 (Nat.le_succ m)⟩
theorem TwoU.put_ (h : TwoU w0 w t lo r m S R O) (g s b : Int) (hg : okI64 g) (hs : okI64 s) (hb : okI64 b) (hm : m < 999998) :
    Calls Try.prog 18 #[.pointer (some ⟨t, 0, none⟩), .int .i64 g, .int .i64 s, .int .i64 b] w fun e w' => e = .returned (.int .i64 (S.putE g s b)) ∧ TwoU w0 w' t lo r (m + 1) (S.put' g s b) R O ∧ Kp O w w' :=
  (h.tbl.put_ g s b hg hs hb hm).mono fun _ _ ⟨q1, q2, q3⟩ => ⟨q1, h.code q2 q3 (Nat.le_succ m)⟩
theorem TwoU.clear_ (h : TwoU w0 w t lo r m S R O) (g s : Int) (hg : okI64 g) (hs : okI64 s) (hm : m < 999998) :
    Calls Try.prog 17 #[.pointer (some ⟨t, 0, none⟩), .int .i64 g, .int .i64 s] w fun e w' => e = .returned (.int .i64 (S.clearE g s)) ∧ TwoU w0 w' t lo r (m + 1) (S.clear' g s) R O ∧ Kp O w w' :=
  (h.tbl.clear_ g s hg hs).mono fun _ _ ⟨q1, q2, q3⟩ => ⟨q1, h.code (q2.wider (Nat.le_succ m) (by omega)) q3 (Nat.le_succ m)⟩
theorem TwoU.drop_ (h : TwoU w0 w t lo r m S R O) (g : Int) (hg : okI64 g) (hm : m < 999998) :
    Calls Try.prog 26 #[.pointer (some ⟨t, 0, none⟩), .int .i64 g] w fun e w' => e = .returned (.int .i64 (S.dropE g)) ∧ TwoU w0 w' t lo r (m + 1) (S.drop' g) R O ∧ Kp O w w' :=
  (h.tbl.drop_ g hg).mono fun _ _ ⟨q1, q2, q3⟩ => ⟨q1, h.code (q2.wider (Nat.le_succ m) (by omega)) q3 (Nat.le_succ m)⟩
theorem TwoU.ropen (h : TwoU w0 w t lo r m S R O) (g n : Int) (hg : okI64 g) (hm : m < 999998) :
    Calls Try.prog 32 #[.pointer (some ⟨r, 0, none⟩), .int .i64 g, .int .i64 n] w fun e w' => e = .returned (.int .i64 (R.openE g n)) ∧ TwoU w0 w' t lo r (m + 1) S (R.open' g n) O ∧ Kp O w w' := by
  obtain ⟨AG, cG, AL, cL, h1, h2⟩ := h.ref
  have k := R.open_len g n
  have h3 := h.rgs
  have h4 := h.rls
  exact (ropen_any h1 h.rok (by omega) g n).mono fun e w' ⟨q1, q2⟩ => ⟨q1, h.refd h2 q2 (h.rok.open' g n hg) (by omega) (by omega) (Nat.le_succ m) (by omega)⟩
theorem TwoU.rput (h : TwoU w0 w t lo r m S R O) (g s b : Int) (hb : okI64 b) (hm : m < 999998) :
    Calls Try.prog 34 #[.pointer (some ⟨r, 0, none⟩), .int .i64 g, .int .i64 s, .int .i64 b] w fun e w' => e = .returned (.int .i64 (R.putE g s b)) ∧ TwoU w0 w' t lo r (m + 1) S (R.put' g s b) O ∧ Kp O w w' := by
  obtain ⟨AG, cG, AL, cL, h1, h2⟩ := h.ref
  have k := R.put_len' g s b
  have h3 := h.rgs
  have h4 := h.rls
  exact (rput_any h1 h.rok (by omega) (by omega) g s b).mono fun e w' ⟨q1, q2⟩ => ⟨q1, h.refd h2 q2 (h.rok.put' g s b hb) (by rw [k.1]; omega) (by omega) (Nat.le_succ m) (by omega)⟩
theorem TwoU.rclear (h : TwoU w0 w t lo r m S R O) (g s : Int) (hm : m < 999998) :
    Calls Try.prog 35 #[.pointer (some ⟨r, 0, none⟩), .int .i64 g, .int .i64 s] w fun e w' => e = .returned (.int .i64 (R.clearE g s)) ∧ TwoU w0 w' t lo r (m + 1) S (R.clear' g s) O ∧ Kp O w w' := by
  obtain ⟨AG, cG, AL, cL, h1, h2⟩ := h.ref
  have k := R.clear_len g s
  have h3 := h.rgs
  have h4 := h.rls
  exact (rclear_any h1 h.rok (by omega) (by omega) g s).mono fun e w' ⟨q1, q2⟩ => ⟨q1, h.refd h2 q2 (h.rok.clear' g s) (by rw [k.1]; omega) (by omega) (Nat.le_succ m) (by omega)⟩
theorem TwoU.rdrop (h : TwoU w0 w t lo r m S R O) (g : Int) (hm : m < 999998) :
    Calls Try.prog 33 #[.pointer (some ⟨r, 0, none⟩), .int .i64 g] w fun e w' => e = .returned (.int .i64 (R.dropE g)) ∧ TwoU w0 w' t lo r (m + 1) S (R.drop' g) O ∧ Kp O w w' := by
  obtain ⟨AG, cG, AL, cL, h1, h2⟩ := h.ref
  have k := R.drop_len g
  have h3 := h.rgs
  have h4 := h.rls
  exact (rdrop_any h1 h.rok (by omega) (by omega) g).mono fun e w' ⟨q1, q2⟩ => ⟨q1, h.refd h2 q2 (h.rok.drop' g) (by omega) (by omega) (Nat.le_succ m) (by omega)⟩
theorem TwoU.rhole (h : TwoU w0 w t lo r m S R O) (g : Int) :
    Calls Try.prog 36 #[.pointer (some ⟨r, 0, none⟩), .int .i64 g] w fun e w' => e = .returned (.tuple #[.int .i64 (((R.hole g).getD 0 : Nat) : Int), .bool (R.hole g).isSome]) ∧ w = w' := by
  obtain ⟨AG, cG, AL, cL, h1, h2⟩ := h.ref
  have := h.few
  have h3 := h.rgs
  have h4 := h.rls
  exact rhole_any h1.rd h.rok (by omega) (by omega) g
theorem TwoU.later (h : TwoU w0 w t lo r m S R O) (hb : Below w.heap.size w w') : TwoU w0 w' t lo r m S R O := by
  obtain ⟨AG, cG, AL, cL, h1, h2⟩ := h.ref
  exact ⟨h.tbl.later hb, h.rok, h.rgs, h.rls, ⟨AG, cG, AL, cL, h1.later hb, h2⟩, fun i hi => ⟨Nat.lt_of_lt_of_le (h.off i hi).1 hb.size, (h.off i hi).2⟩⟩
theorem TwoU.kp (h : TwoU w0 w t lo r m S R O) (hb : Below w.heap.size w w') : Kp O w w' := ⟨hb.size, fun i hi => hb.block i (h.off i hi).1⟩
theorem TwoU.wider (h : TwoU w0 w t lo r m S R O) {m' : Nat} (hm : m ≤ m') (hf : m' < 999999) : TwoU w0 w t lo r m' S R O := ⟨h.tbl.wider hm hf, h.rok, Nat.le_trans h.rgs hm, Nat.le_trans h.rls hm, h.ref, h.off⟩
theorem TwoU.less (h : TwoU w0 w t lo r m S R O) {O2 : Nat → Prop} (hO : ∀ i, O2 i → O i) : TwoU w0 w t lo r m S R O2 := by
  obtain ⟨AG, cG, AL, cL, h1, h2⟩ := h.ref
  exact ⟨h.tbl, h.rok, h.rgs, h.rls, ⟨AG, cG, AL, cL, h1, fun i hi => ⟨(h2 i hi).1, (h2 i hi).2.1, fun ho => (h2 i hi).2.2 (hO i ho)⟩⟩, fun i hi => h.off i (hO i hi)⟩
/-- A block that was just made is none of theirs. -/
theorem TwoU.fresh (h : TwoU w0 w t lo r m S R O) (hb : Below w.heap.size w w') {b : Nat} (h1 : w.heap.size ≤ b) (h2 : b < w'.heap.size) : TwoU w0 w' t lo r m S R (fun i => O i ∨ i = b) := by
  obtain ⟨AG, cG, AL, cL, k1, k2⟩ := h.ref
  have hz := h.tbl.size
  have hr := h.tbl.room
  refine ⟨h.tbl.later hb, h.rok, h.rgs, h.rls, ⟨AG, cG, AL, cL, k1.later hb, fun i hi => ⟨(k2 i hi).1, (k2 i hi).2.1, fun ho => ?_⟩⟩, fun i hi => ?_⟩
  · rcases ho with ho | ho
    · exact (k2 i hi).2.2 ho
    · have := k1.foot_lt i hi
      omega
  · rcases hi with hi | hi
    · exact ⟨Nat.lt_of_lt_of_le (h.off i hi).1 hb.size, (h.off i hi).2⟩
    · omega
/-- A block of O is written. -/
theorem TwoU.poke (h : TwoU w0 w t lo r m S R O) {b : Nat} (hb : O b) (hg : w.grownBy w' (some b)) : TwoU w0 w' t lo r m S R O := by
  obtain ⟨AG, cG, AL, cL, k1, k2⟩ := h.ref
  have hz := hg.size
  refine ⟨h.tbl.grown hg fun g e => by injection e with e; subst e; exact (h.off _ hb).2, h.rok, h.rgs, h.rls, ⟨AG, cG, AL, cL, k1.kept fun i hi => hg.block i (k1.foot_lt i hi) fun e => ?_, k2⟩, fun i hi => ⟨Nat.lt_of_lt_of_le (h.off i hi).1 hz, (h.off i hi).2⟩⟩
  injection e with e
  subst e
  exact (k2 _ hi).2.2 hb
theorem OldU.kept (h : OldU w0 w t r O) (hk : Kp O w w') (hb : Below w0.heap.size w0 w') : OldU w0 w' t r O := by
  obtain ⟨lo, m, S, AG, cG, AL, cL, h1, h2, h3, h4⟩ := h
  obtain ⟨x, y, z, k1, k2⟩ := h1.tab
  exact ⟨lo, m, S, AG, cG, AL, cL, ⟨h1.above, Nat.le_trans h1.room hk.1, hb, h1.ok, h1.gs, h1.ls, h1.few, x, y, z, UsM.kept k1 fun i hi => hk.2 i (h3 i (k2 i hi).1 (k2 i hi).2), k2⟩, h2.kept hk.1 fun i hi => hk.2 i (h4 i hi), h3, h4⟩
theorem OldU.more (h : OldU w0 w t r O) {O2 : Nat → Prop} (hO : ∀ i, O i → O2 i) : OldU w0 w t r O2 := by
  obtain ⟨lo, m, S, AG, cG, AL, cL, h1, h2, h3, h4⟩ := h
  exact ⟨lo, m, S, AG, cG, AL, cL, h1, h2, fun i a b => hO i (h3 i a b), fun i hi => hO i (h4 i hi)⟩
theorem OldU.later (h : OldU w0 w t r O) (hb : Below w.heap.size w w') : OldU w0 w' t r O := by
  obtain ⟨lo, m, S, AG, cG, AL, cL, h1, h2, h3, h4⟩ := h
  exact ⟨lo, m, S, AG, cG, AL, cL, h1.later hb, h2.later hb, h3, h4⟩
/-- What a clone leaves: the pair goes on with a new table, the old one is put aside with the document's clone. -/
theorem TwoU.cloned {w1 w2 : World} {t' lo' r1 : Nat} {AG AL : Option Addr} {cG cL : Nat} (h : TwoU w0 w t lo r m S S O) (h1 : RefRd w1 r1 AG cG AL cL S) (h2 : ∀ i, RFoot r1 AG AL i → w.heap.size ≤ i) (h3 : Below w.heap.size w w1)
    (k1 : Tbl w0 w2 t' lo' m S) (k2 : w1.heap.size ≤ lo') (k3 : Below w1.heap.size w1 w2) :
    TwoU w0 w2 t' lo' r m S S (fun i => O i ∨ (lo ≤ i ∧ i < lo + 4) ∨ RFoot r1 AG AL i) ∧ OldU w0 w2 t r1 (fun i => O i ∨ (lo ≤ i ∧ i < lo + 4) ∨ RFoot r1 AG AL i) := by
  obtain ⟨AG0, cG0, AL0, cL0, j1, j2⟩ := h.ref
  have hz1 := h3.size
  have hz2 := k3.size
  have hb : Below w.heap.size w w2 := h3.trans (k3.mono hz1)
  have hz := h.tbl.size
  have hr := h.tbl.room
  have hab := h.tbl.above
  refine ⟨⟨k1, h.rok, h.rgs, h.rls, ⟨AG0, cG0, AL0, cL0, j1.later hb, fun i hi => ⟨(j2 i hi).1, ?_, fun ho => ?_⟩⟩, fun i hi => ?_⟩, lo, m, S, AG, cG, AL, cL, h.tbl.later hb, h1.later k3, fun i a b => .inr (.inl ⟨a, b⟩), fun i hi => .inr (.inr hi)⟩
  · have := j1.foot_lt i hi
    omega
  · have hl := j1.foot_lt i hi
    rcases ho with ho | ho | ho
    · exact (j2 i hi).2.2 ho
    · have := (j2 i hi).2.1
      omega
    · have := h2 i ho
      omega
  · rcases hi with hi | hi | hi
    · have := h.off i hi
      omega
    · omega
    · have := h2 i hi
      have := h1.fl i hi
      omega
end
#print axioms TwoU.cloned
end Go.Proofs.Ytgoglgghnjgcdaa
