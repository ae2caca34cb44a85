/- eachFinds of group in memory: which groups found which disk (a map of rows), and which disks were tried (a map without values). -/
import Derived.Test.YtmaiikmgpeafkaaGrpN
import Derived.Test.YtmaiikmgpeafkaaMapsN
namespace Go.Proofs.Ytmaiikmgpeafkaa
open Go.RowKit

def toI (l : List Nat) : List Int := l.map (fun (k : Nat) => (k : Int))
theorem toI_append (a b : List Nat) : toI (a ++ b) = toI a ++ toI b := by simp [toI]
theorem toI_length (a : List Nat) : (toI a).length = a.length := by simp [toI]
theorem toI_set (a : List Nat) (i x : Nat) : toI (a.set i x) = (toI a).set i (x : Int) := by simp [toI, List.map_set]
/-- One number of a row of the call's own is written over. -/
theorem own_poke {w w' : World} {base g n cap : Nat} {l : List Int} {i : Nat} {x : Int} (h : w.ownsRow base 3 1 (.slice (some ⟨g, 0, none⟩) n cap) n (I64 l)) {cur : Array Value} (hb : Blk w g 3 cur)
    (hb' : Blk w' g 3 (cur.setIfInBounds i (.int .i64 x))) : w'.ownsRow base 3 1 (.slice (some ⟨g, 0, none⟩) n cap) n (I64 (l.set i x)) := by
  have hl := h.1
  rw [I64_length] at hl
  rcases h.2 with ⟨h0, _⟩ | ⟨g', cap', cur', hv, h1, h2, h3, h4, h5, h6⟩
  · cases h0
  · injection hv with hv1 hv2 hv3
    injection hv1 with hv1
    injection hv1 with hv1
    subst hv1
    subst hv3
    have hc : cur' = cur := by
      unfold Blk at hb
      rw [h2] at hb
      injection hb with hb
      injection hb
    subst hc
    refine ⟨by rw [I64_length, List.length_set]; omega, .inr ⟨g, cap, _, rfl, h1, hb', h3, h4, by simpa using h5, ?_⟩⟩
    rw [Nat.mul_one] at h6 ⊢
    rw [Array.toList_setIfInBounds, List.take_set, h6]
    simp [I64, List.map_set]
/-- The map of those tried. -/
def trF (T : Nat → Bool) : Nat → Option Value := fun d => if T d then some (.agg #[]) else none
theorem trF_set (T : Nat → Bool) (d : Nat) : upd (trF T) d (some (.agg #[])) = trF (setF T d true) := by
  funext e
  by_cases h : e = d
  · subst h; rw [upd_self, trF, setF_self]; rfl
  · rw [upd_ne _ _ h, trF, trF, setF_ne _ _ h]
theorem trF_none : trF (fun _ => false) = fun _ => none := rfl
theorem trF_mem {n : Nat} {T : Nat → Bool} (h : ∀ d, T d = true → d < n) (k : Nat) : k ∈ (List.range n).filter T ↔ (trF T k).isSome = true := by
  rw [List.mem_filter, List.mem_range, trF]
  constructor
  · rintro ⟨_, h2⟩; rw [h2]; rfl
  · intro h2
    have h3 : T k = true := by
      cases hT : T k
      · rw [hT] at h2; simp at h2
      · rfl
    exact ⟨h k h3, h3⟩
theorem filter_few (n : Nat) (p : Nat → Bool) (hn : n ≤ 1000000) : ((List.range n).filter p).length < 1073741824 := by
  have := List.length_filter_le p (List.range n)
  rw [List.length_range] at this
  omega
/-- Map mF tells of each disk the groups F that found it, in rows of the call's own. -/
structure FS (w : World) (mF B1 n : Nat) (F : Nat → List Nat) (V : Nat → Value) : Prop where
  map : ∃ f, MapIs w mF f ∧ (∀ d, f d = some (V d) ∨ (f d = none ∧ .slice none 0 0 = V d)) ∧ ∀ d, n ≤ d → f d = none
  own : ∀ d, d < n → w.ownsRow B1 3 1 (V d) (F d).length (I64 (toI (F d)))
  apart : ∀ d e, d < n → e < n → d ≠ e → Apart (V d) (V e)
section
variable {w w' wa wb wc : World} {mF B1 n : Nat} {F : Nat → List Nat} {V : Nat → Value}
theorem FS.start (h : MapIs w mF (fun _ => none)) : FS w mF B1 n (fun _ => []) (fun _ => .slice none 0 0) :=
  ⟨⟨_, h, fun _ => .inr ⟨rfl, rfl⟩, fun _ _ => rfl⟩, fun _ _ => World.ownsRow_nil _ _ _ _, fun _ _ _ _ _ => Apart.nil⟩
theorem FS.grown {row : Option Nat} (h : FS w mF B1 n F V) (hg : w.grownBy w' row) (h1 : row ≠ some mF) (h2 : ∀ g, row = some g → g < B1) : FS w' mF B1 n F V := by
  obtain ⟨f, hm, hf, hf2⟩ := h.map
  refine ⟨⟨f, hm.grown hg (fun e => h1 e.symm), hf, hf2⟩, fun d hd => (h.own d hd).kept hg ?_, h.apart⟩
  cases hv : (V d).ownBlock with
  | none => exact .inl rfl
  | some b => exact .inr (fun e => by
      have := ((h.own d hd).lt b hv).1
      have := h2 b e.symm
      omega)
theorem FS.drewN (h : FS w mF B1 n F V) (q : Nat) : FS (w.drewN q) mF B1 n F V := h.grown (grown_drewN (grown_refl w none) q) (by simp) (by simp)
theorem FS.alloc (h : FS w mF B1 n F V) (o : Obj) : FS (w.alloc o) mF B1 n F V := h.grown (World.grownBy_alloc w o none) (by simp) (by simp)
/-- One more in a row. -/
theorem FS.add {f : Nat → Option Value} (h : FS w mF B1 n F V) {d x : Nat} {v' : Value} (hd : d < n) (hwa : w.grownBy wa none) (hf : ∀ d, f d = some (V d) ∨ (f d = none ∧ .slice none 0 0 = V d)) (hf2 : ∀ d, n ≤ d → f d = none) (hmB : mF < B1)
    (hown : wb.ownsRow B1 3 1 v' ((F d).length + 1) (I64 (toI (F d)) ++ [.int .i64 (x : Int)])) (hg : wa.grownBy wb (V d).ownBlock) (hv : v'.ownBlock = (V d).ownBlock ∨ v'.ownBlock = some wa.heap.size)
    (hmc : MapIs wc mF (upd f d (some v'))) (hgc : wb.grownBy wc (some mF)) : FS wc mF B1 n (setF F d (F d ++ [x])) (setF V d v') := by
  have hlt : ∀ e, e < n → ∀ b, (V e).ownBlock = some b → b < wa.heap.size := fun e he b hb => Nat.lt_of_lt_of_le ((h.own e he).lt b hb).2 hwa.size
  refine ⟨⟨_, hmc, fun e => ?_, fun e he => ?_⟩, fun e he => ?_, fun a e ha he hae => ?_⟩
  · by_cases hed : e = d
    · subst hed; rw [upd_self, setF_self]; exact .inl rfl
    · rw [upd_ne _ _ hed, setF_ne _ _ hed]; exact hf e
  · rw [upd_ne _ _ (by omega)]; exact hf2 e he
  · by_cases hed : e = d
    · subst hed
      rw [setF_self, setF_self, List.length_append, toI_append, I64_append]
      refine hown.kept hgc ?_
      cases hvb : v'.ownBlock with
      | none => exact .inl rfl
      | some b => exact .inr (fun e2 => by
          injection e2 with e2
          have := (hown.lt b hvb).1
          omega)
    · rw [setF_ne _ _ hed, setF_ne _ _ hed]
      have h1 : wa.ownsRow B1 3 1 (V e) (F e).length (I64 (toI (F e))) := (h.own e he).kept hwa (by cases (V e).ownBlock <;> simp)
      have h2 : wb.ownsRow B1 3 1 (V e) (F e).length (I64 (toI (F e))) := own_other h1 hg (h.apart d e hd he (fun e2 => hed e2.symm))
      refine h2.kept hgc ?_
      cases hvb : (V e).ownBlock with
      | none => exact .inl rfl
      | some b => exact .inr (fun e2 => by
          injection e2 with e2
          have := (h2.lt b hvb).1
          omega)
  · have hnew : ∀ e, e < n → e ≠ d → Apart v' (V e) := by
      intro e he hed b hb1 hb2
      rcases hv with hv | hv
      · exact h.apart d e hd he (fun e2 => hed e2.symm) b (hv ▸ hb1) hb2
      · rw [hv] at hb1
        injection hb1 with hb1
        have := hlt e he b hb2
        omega
    by_cases had : a = d
    · subst had
      rw [setF_self, setF_ne _ _ (fun e2 => hae e2.symm)]
      exact hnew e he (fun e2 => hae e2.symm)
    · by_cases hed : e = d
      · subst hed
        rw [setF_self, setF_ne _ _ had]
        exact (hnew a ha had).symm
      · rw [setF_ne _ _ had, setF_ne _ _ hed]
        exact h.apart a e ha he hae
/-- One of a row is another one. -/
theorem FS.put (h : FS w mF B1 n F V) {d i x g : Nat} (hd : d < n) (hmB : mF < B1) (hg : w.grownBy w' (some g)) (hv : (V d).ownBlock = some g) (hown : w'.ownsRow B1 3 1 (V d) (F d).length (I64 (toI ((F d).set i x)))) :
    FS w' mF B1 n (setF F d ((F d).set i x)) V := by
  obtain ⟨f, hm, hf, hf2⟩ := h.map
  have hgB := ((h.own d hd).lt g hv).1
  refine ⟨⟨f, hm.grown hg (fun e => by injection e with e; omega), hf, hf2⟩, fun e he => ?_, h.apart⟩
  by_cases hed : e = d
  · subst hed
    rw [setF_self, List.length_set]
    exact hown
  · rw [setF_ne _ _ hed]
    exact own_other (u := V d) (h.own e he) (by rw [hv]; exact hg) (h.apart d e hd he (fun e2 => hed e2.symm))
end
/-- Where the closure's variables lie: all behind block B0, below block B1; the maps apart. -/
structure Spots (B0 B1 bG bR mF bF mT bT bS : Nat) : Prop where
  g : B0 ≤ bG ∧ bG < B1 ∧ bG ≠ mF ∧ bG ≠ mT
  r : B0 ≤ bR ∧ bR < B1 ∧ bR ≠ mF ∧ bR ≠ mT
  f : B0 ≤ bF ∧ bF < B1 ∧ bF ≠ mF ∧ bF ≠ mT
  t : B0 ≤ bT ∧ bT < B1 ∧ bT ≠ mF ∧ bT ≠ mT
  s : B0 ≤ bS ∧ bS < B1 ∧ bS ≠ mF ∧ bS ≠ mT
  mf : B0 ≤ mF ∧ mF < B1 ∧ mF ≠ mT
  mt : B0 ≤ mT ∧ mT < B1
/-- What stays: what lay below B0, and the variables. -/
structure Vars (w0 : World) (B0 B1 bG bR mF bF mT bT bS : Nat) (vR vG : Value) (w : World) : Prop where
  low : Below B0 w0 w
  size : B1 ≤ w.heap.size
  g : w.cell? ⟨bG, 0, none⟩ = some vG
  r : w.cell? ⟨bR, 0, none⟩ = some vR
  f : w.cell? ⟨bF, 0, none⟩ = some (.map (some mF))
  t : w.cell? ⟨bT, 0, none⟩ = some (.map (some mT))
  s : w.cell? ⟨bS, 0, none⟩ = some (.func (.func 45) #[] #[.pointer (some ⟨bR, 0, none⟩), .pointer (some ⟨bF, 0, none⟩), .pointer (some ⟨bG, 0, none⟩), .pointer (some ⟨bT, 0, none⟩), .pointer (some ⟨bS, 0, none⟩)])
section
variable {w0 w w' : World} {B0 B1 bG bR mF bF mT bT bS : Nat} {vR vG : Value}
theorem Vars.grown {row : Option Nat} (h : Vars w0 B0 B1 bG bR mF bF mT bT bS vR vG w) (hs : Spots B0 B1 bG bR mF bF mT bT bS) (hg : w.grownBy w' row) (hr : ∀ g, row = some g → g = mF ∨ g = mT ∨ B1 ≤ g) : Vars w0 B0 B1 bG bR mF bF mT bT bS vR vG w' := by
  have hB : B0 ≤ B1 := by have := hs.g; omega
  have hc : ∀ b, b < B1 → b ≠ mF → b ≠ mT → w'.cell? ⟨b, 0, none⟩ = w.cell? ⟨b, 0, none⟩ := fun b h1 h2 h3 =>
    World.cell?_of_block (hg.block b (Nat.lt_of_lt_of_le h1 h.size) (fun e => by have := hr b e.symm; omega))
  refine ⟨h.low.grown hg (by have := h.size; have := h.low.size; omega) (fun g e => ?_), Nat.le_trans h.size hg.size, (hc _ hs.g.2.1 hs.g.2.2.1 hs.g.2.2.2).trans h.g, (hc _ hs.r.2.1 hs.r.2.2.1 hs.r.2.2.2).trans h.r, (hc _ hs.f.2.1 hs.f.2.2.1 hs.f.2.2.2).trans h.f, (hc _ hs.t.2.1 hs.t.2.2.1 hs.t.2.2.2).trans h.t, (hc _ hs.s.2.1 hs.s.2.2.1 hs.s.2.2.2).trans h.s⟩
  have := hr g e
  have := hs.mf
  have := hs.mt
  omega
end
/-- All of it. -/
structure St (w0 : World) (B0 B1 bG bR mF bF mT bT bS : Nat) (vR vG : Value) (n : Nat) (F : Nat → List Nat) (T : Nat → Bool) (V : Nat → Value) (w : World) : Prop where
  vars : Vars w0 B0 B1 bG bR mF bF mT bT bS vR vG w
  tri : MapIs w mT (trF T)
  fnd : FS w mF B1 n F V
section
variable {w0 w w' : World} {B0 B1 bG bR mF bF mT bT bS n : Nat} {vR vG : Value} {F : Nat → List Nat} {T : Nat → Bool} {V : Nat → Value}
theorem St.drewN (h : St w0 B0 B1 bG bR mF bF mT bT bS vR vG n F T V w) (hs : Spots B0 B1 bG bR mF bF mT bT bS) (q : Nat) : St w0 B0 B1 bG bR mF bF mT bT bS vR vG n F T V (w.drewN q) :=
  ⟨h.vars.grown hs (grown_drewN (grown_refl w none) q) (by simp), h.tri.grown (grown_drewN (grown_refl w none) q) (by simp), h.fnd.drewN q⟩
theorem St.alloc (h : St w0 B0 B1 bG bR mF bF mT bT bS vR vG n F T V w) (hs : Spots B0 B1 bG bR mF bF mT bT bS) (o : Obj) : St w0 B0 B1 bG bR mF bF mT bT bS vR vG n F T V (w.alloc o) :=
  ⟨h.vars.grown hs (World.grownBy_alloc w o none) (by simp), h.tri.grown (World.grownBy_alloc w o none) (by simp), h.fnd.alloc o⟩
/-- Nothing has turned but new blocks. -/
theorem St.below (h : St w0 B0 B1 bG bR mF bF mT bT bS vR vG n F T V w) (hs : Spots B0 B1 bG bR mF bF mT bT bS) (hb : Below w.heap.size w w') : St w0 B0 B1 bG bR mF bF mT bT bS vR vG n F T V w' :=
  ⟨h.vars.grown hs (grown_of_below hb none) (by simp), h.tri.grown (grown_of_below hb none) (by simp), h.fnd.grown (grown_of_below hb none) (by simp) (by simp)⟩
/-- The map of those tried has turned. -/
theorem St.tried {T' : Nat → Bool} (h : St w0 B0 B1 bG bR mF bF mT bT bS vR vG n F T V w) (hs : Spots B0 B1 bG bR mF bF mT bT bS) (hm : MapIs w' mT (trF T')) (hg : w.grownBy w' (some mT)) : St w0 B0 B1 bG bR mF bF mT bT bS vR vG n F T' V w' :=
  ⟨h.vars.grown hs hg (fun g e => by injection e with e; omega), hm, h.fnd.grown hg (fun e => by injection e with e; exact hs.mf.2.2 e.symm) (fun g e => by injection e with e; have := hs.mt; omega)⟩
theorem St.put (h : St w0 B0 B1 bG bR mF bF mT bT bS vR vG n F T V w) (hs : Spots B0 B1 bG bR mF bF mT bT bS) {d i x g : Nat} (hd : d < n) (hg : w.grownBy w' (some g)) (hv : (V d).ownBlock = some g) (hown : w'.ownsRow B1 3 1 (V d) (F d).length (I64 (toI ((F d).set i x)))) :
    St w0 B0 B1 bG bR mF bF mT bT bS vR vG n (setF F d ((F d).set i x)) T V w' := by
  have hgB := ((h.fnd.own d hd).lt g hv).1
  exact ⟨h.vars.grown hs hg (fun b e => by injection e with e; omega), h.tri.grown hg (fun e => by injection e with e; have := hs.mt; omega), h.fnd.put hd hs.mf.2.1 hg hv hown⟩
theorem St.add {wa wb wc : World} {f : Nat → Option Value} (h : St w0 B0 B1 bG bR mF bF mT bT bS vR vG n F T V w) (hs : Spots B0 B1 bG bR mF bF mT bT bS) {d x : Nat} {v' : Value} (hd : d < n) (hwa : w.grownBy wa none) (hf : ∀ d, f d = some (V d) ∨ (f d = none ∧ .slice none 0 0 = V d)) (hf2 : ∀ d, n ≤ d → f d = none)
    (hown : wb.ownsRow B1 3 1 v' ((F d).length + 1) (I64 (toI (F d)) ++ [.int .i64 (x : Int)])) (hg : wa.grownBy wb (V d).ownBlock) (hv : v'.ownBlock = (V d).ownBlock ∨ v'.ownBlock = some wa.heap.size)
    (hmc : MapIs wc mF (upd f d (some v'))) (hgc : wb.grownBy wc (some mF)) : St w0 B0 B1 bG bR mF bF mT bT bS vR vG n (setF F d (F d ++ [x])) T (setF V d v') wc := by
  have hVd : ∀ g, (V d).ownBlock = some g → B1 ≤ g := fun g hg => ((h.fnd.own d hd).lt g hg).1
  have h1 := h.vars.grown hs hwa (by simp)
  have h2 := h1.grown hs hg (fun g e => .inr (.inr (hVd g e)))
  have h3 := h2.grown hs hgc (fun g e => by injection e with e; omega)
  refine ⟨h3, ?_, h.fnd.add hd hwa hf hf2 hs.mf.2.1 hown hg hv hmc hgc⟩
  refine MapIs.grown (MapIs.grown (h.tri.grown hwa (by simp)) hg (fun e => ?_)) hgc (fun e => ?_)
  · have := hVd mT e.symm
    have := hs.mt
    omega
  · injection e with e
    exact hs.mf.2.2 e.symm
end
#print axioms St.add
end Go.Proofs.Ytmaiikmgpeafkaa
