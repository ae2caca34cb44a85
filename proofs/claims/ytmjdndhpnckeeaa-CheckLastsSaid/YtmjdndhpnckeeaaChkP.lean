/- Checkpoints on some members, by definition alone: what Save makes of a bank, what Load tells; banks that hold them; the law's invariant; Load's own way, row by row. -/
import Derived.Test.YtmjdndhpnckeeaaJouM
import Derived.Test.YtmjdndhpnckeeaaRecJ
namespace Go.Proofs.Ytmjdndhpnckeeaa
open Go.RowKit
/-- Which generation a sector of an area says; 0, if it is no part of a checkpoint. -/
def gen0 (s : List UInt8) : Nat := if partB s = true ∧ (readT s).nr = 0 then (readT s).gen.toNat else 0
def maxL (l : List Nat) : Nat := l.foldl max 0
/-- The greatest generation of all parts. -/
def seenC (V : List View) : Nat := maxL ((List.range 64).flatMap fun j => V.map fun v => gen0 (v j))
/-- Is a sector the first part of a checkpoint that has room in an area? -/
def firstC (s : List UInt8) : Bool := partB s && decide ((readT s).nr = 0 ∧ (readT s).part = 0 ∧ (readT s).parts ≤ 32)
/-- The sector of place i of the checkpoint whose first part is s. -/
def pieceC (V : List View) (a : Nat) (s : List UInt8) (i : Nat) : Option (List UInt8) := if i = 0 then some s else hit V (okT (readT s).gen 0 (readT s).parts.toNat i) (32 * a + i)
def thereC (V : List View) (a : Nat) (s : List UInt8) : Bool := firstC s && (List.range (readT s).parts.toNat).all fun i => (pieceC V a s i).isSome
def bytesC (V : List View) (a : Nat) (s : List UInt8) : List UInt8 := cat (fun i => match pieceC V a s i with | some x => contT x (readT x) | none => []) (readT s).parts.toNat
/-- A checkpoint: its area, its generation, its bytes. -/
structure Ckp where
  area : Nat
  gen : Nat
  bytes : List UInt8
def candC (V : List View) (a : Nat) : List Ckp := ((V.map fun v => v (32 * a)).filter fun s => thereC V a s).map fun s => ⟨a, (readT s).gen.toNat, bytesC V a s⟩
/-- The newest one, of several as new the first. -/
def newer (b : Option Ckp) (c : Ckp) : Option Ckp := match b with | none => some c | some b => if b.gen < c.gen then some c else some b
def bestC (l : List Ckp) (b : Option Ckp) : Option Ckp := l.foldl newer b
/-- What Load tells. -/
def loadC (V : List View) : Option Ckp := bestC (candC V 0 ++ candC V 1) none
/-- What Save answers, and makes of a bank. -/
def saveC (S : Bank) (live : List Nat) (area : Nat) (gen : Int) (x : List UInt8) : Nat × Bank :=
  if area ≤ 1 ∧ numB gen = true ∧ x.length ≤ 1696 then layAll (50 + 32 * area) (partsS gen 0 x) live S false else (1, S)

theorem maxL_le {l : List Nat} {m : Nat} (h : ∀ x ∈ l, x ≤ m) : maxL l ≤ m := by
  have : ∀ (l : List Nat) (b : Nat), b ≤ m → (∀ x ∈ l, x ≤ m) → l.foldl max b ≤ m := by
    intro l
    induction l with
    | nil => intro b hb _; exact hb
    | cons x l ih => intro b hb h; exact ih _ (by have := h x (by simp); omega) (fun y hy => h y (by simp [hy]))
  exact this l 0 (Nat.zero_le _) h
theorem le_maxL {l : List Nat} {x : Nat} (h : x ∈ l) : x ≤ maxL l := by
  have : ∀ (l : List Nat) (b : Nat), b ≤ l.foldl max b ∧ ∀ x ∈ l, x ≤ l.foldl max b := by
    intro l
    induction l with
    | nil => intro b; exact ⟨Nat.le_refl _, fun x hx => by cases hx⟩
    | cons y l ih =>
      intro b
      obtain ⟨h1, h2⟩ := ih (max b y)
      refine ⟨Nat.le_trans (Nat.le_max_left _ _) h1, fun x hx => ?_⟩
      rcases List.mem_cons.1 hx with rfl | hx
      · exact Nat.le_trans (Nat.le_max_right _ _) h1
      · exact h2 x hx
  exact (this l 0).2 x h
theorem seen_le {V : List View} {m : Nat} (h : ∀ v ∈ V, ∀ j, j < 64 → gen0 (v j) ≤ m) : seenC V ≤ m :=
  maxL_le fun x hx => by
    obtain ⟨j, hj, hx⟩ := List.mem_flatMap.1 hx
    obtain ⟨v, hv, rfl⟩ := List.mem_map.1 hx
    exact h v hv j (List.mem_range.1 hj)
theorem le_seen {V : List View} {v : View} {j : Nat} (hv : v ∈ V) (hj : j < 64) : gen0 (v j) ≤ seenC V :=
  le_maxL (List.mem_flatMap.2 ⟨j, List.mem_range.2 hj, List.mem_map.2 ⟨v, hv, rfl⟩⟩)
/-- The newest of some: one of them, none of them newer. -/
theorem best_some : ∀ (l : List Ckp) (b : Option Ckp), match bestC l b with
    | none => l = [] ∧ b = none
    | some c => (c ∈ l ∨ b = some c) ∧ (∀ d ∈ l, d.gen ≤ c.gen) ∧ ∀ d, b = some d → d.gen ≤ c.gen
  | [], b => by
    cases b with
    | none => exact ⟨rfl, rfl⟩
    | some c => exact ⟨.inr rfl, (fun d hd => by cases hd), (fun d hd => by injection hd with hd; rw [hd]; exact Nat.le_refl _)⟩
  | x :: l, b => by
    have ih := best_some l (newer b x)
    have e : bestC (x :: l) b = bestC l (newer b x) := rfl
    rw [e]
    cases hb : bestC l (newer b x) with
    | none =>
      rw [hb] at ih
      exfalso
      have h2 := ih.2
      unfold newer at h2
      cases b with
      | none => cases h2
      | some b =>
        simp only at h2
        split at h2 <;> cases h2
    | some c =>
      rw [hb] at ih
      obtain ⟨h1, h2, h3⟩ := ih
      cases b with
      | none =>
        refine ⟨.inl ?_, fun d hd => ?_, fun d hd => by cases hd⟩
        · rcases h1 with h1 | h1
          · simp [h1]
          · injection h1 with h1; simp [h1]
        · rcases List.mem_cons.1 hd with rfl | hd
          · exact h3 _ rfl
          · exact h2 d hd
      | some b =>
        by_cases hlt : b.gen < x.gen
        · have en : newer (some b) x = some x := by unfold newer; simp only; rw [if_pos hlt]
          rw [en] at h1 h3
          have hx := h3 x rfl
          refine ⟨.inl ?_, fun d hd => ?_, fun d hd => by injection hd with hd; rw [← hd]; omega⟩
          · rcases h1 with h1 | h1
            · simp [h1]
            · injection h1 with h1; simp [h1]
          · rcases List.mem_cons.1 hd with rfl | hd
            · exact hx
            · exact h2 d hd
        · have en : newer (some b) x = some b := by unfold newer; simp only; rw [if_neg hlt]
          rw [en] at h1 h3
          have hx := h3 b rfl
          refine ⟨?_, fun d hd => ?_, fun d hd => by injection hd with hd; rw [← hd]; exact hx⟩
          · rcases h1 with h1 | h1
            · exact .inl (by simp [h1])
            · exact .inr h1
          · rcases List.mem_cons.1 hd with rfl | hd
            · omega
            · exact h2 d hd
/-! ### Members all of whose sectors are pieces of known checkpoints -/
/-- Which checkpoint a generation is of. -/
abbrev Known := Nat → Option (Nat × List UInt8)
/-- A sector of place j is no part of a checkpoint, or a piece of the one that its generation is of. -/
def ProvS (X : Known) (j : Nat) (s : List UInt8) : Prop := (partB s = false ∨ (readT s).nr ≠ 0) ∨ ∃ k a i x, X k = some (a, x) ∧ j = 32 * a + i ∧ i < partsN x.length ∧ s = pieceS (k : Nat) 0 x i
def Prov (X : Known) (V : List View) : Prop := ∀ v ∈ V, ∀ j, j < 64 → ProvS X j (v j)
def ProvA (X : Known) (V : List View) (a : Nat) : Prop := ∀ v ∈ V, ∀ i, i < 32 → ProvS X (32 * a + i) (v (32 * a + i))
theorem Prov.area {X : Known} {V : List View} (h : Prov X V) {a : Nat} (ha : a ≤ 1) : ProvA X V a := fun v hv i hi => h v hv (32 * a + i) (by omega)
/-- What is known is right. -/
def Right (X : Known) : Prop := ∀ k a x, X k = some (a, x) → a ≤ 1 ∧ x.length ≤ 1696 ∧ numB (k : Nat) = true
/-- All pieces of it are there, each on one of the members. -/
def Whole (X : Known) (V : List View) (k : Nat) : Prop := ∃ a x, X k = some (a, x) ∧ ∀ i, i < partsN x.length → ∃ v ∈ V, v (32 * a + i) = pieceS (k : Nat) 0 x i
theorem parts_32 {x : List UInt8} (h : x.length ≤ 1696) : 1 ≤ partsN x.length ∧ partsN x.length ≤ 32 := by
  obtain ⟨h1, h2, h3⟩ := partsN_is (n := x.length) (by omega)
  omega
section
variable {X : Known} {V : List View} {k a : Nat} {x : List UInt8}
theorem nr_zero : numB 0 = true := by decide
/-- What a piece says. -/
theorem piece0_tag {i : Nat} (hg : numB (k : Nat) = true) (hi : i < partsN x.length) : partB (pieceS (k : Nat) 0 x i) = true ∧ (readT (pieceS (k : Nat) 0 x i)).gen = (k : Int) ∧ (readT (pieceS (k : Nat) 0 x i)).nr = 0 ∧ (readT (pieceS (k : Nat) 0 x i)).part = (i : Int) ∧ (readT (pieceS (k : Nat) 0 x i)).parts = (partsN x.length : Int) := by
  refine ⟨piece_part hg nr_zero hi, ?_⟩
  rw [piece_read hg nr_zero hi]
  exact ⟨rfl, rfl, rfl, rfl⟩
/-- A sector that is some part of a checkpoint is the piece that it says it is. -/
theorem prov_is (hX : Right X) {j : Nat} {s : List UInt8} (h : ProvS X j s) (hp : partB s = true) (hn : (readT s).nr = 0) : ∃ k a i x, X k = some (a, x) ∧ j = 32 * a + i ∧ i < partsN x.length ∧ s = pieceS (k : Nat) 0 x i ∧ (readT s).gen = (k : Int) ∧ (readT s).part = (i : Int) ∧ (readT s).parts = (partsN x.length : Int) := by
  rcases h with (h | h) | ⟨k, a, i, x, h1, h2, h3, rfl⟩
  · rw [hp] at h; cases h
  · exact absurd hn h
  · obtain ⟨_, _, hg⟩ := hX k a x h1
    obtain ⟨_, t1, _, t3, t4⟩ := piece0_tag (x := x) hg h3
    exact ⟨k, a, i, x, h1, h2, h3, rfl, t1, t3, t4⟩
/-- The pieces that are found are its own. -/
theorem pieceC_is (hX : Right X) (hP : ProvA X V a) (hk : X k = some (a, x)) {i : Nat} {t : List UInt8} (hi : i < partsN x.length) (h : pieceC V a (pieceS (k : Nat) 0 x 0) i = some t) : t = pieceS (k : Nat) 0 x i ∧ (0 < i → ∃ v ∈ V, v (32 * a + i) = t) := by
  obtain ⟨ha, hx, hg⟩ := hX k a x hk
  obtain ⟨h1, h32⟩ := parts_32 hx
  obtain ⟨_, t1, _, _, t4⟩ := piece0_tag (x := x) hg (show 0 < partsN x.length by omega)
  unfold pieceC at h
  by_cases h0 : i = 0
  · subst h0
    rw [if_pos rfl] at h
    injection h with h
    exact ⟨h.symm, fun h => absurd h (Nat.lt_irrefl 0)⟩
  · rw [if_neg h0, t1, t4] at h
    unfold hit at h
    have hm := List.mem_of_find?_eq_some h
    have hs := List.find?_some h
    obtain ⟨v, hv, e⟩ := List.mem_map.1 hm
    have e2 : v (32 * a + i) = t := e
    have hs2 : okT (k : Int) 0 ((partsN x.length : Int)).toNat i t = true := by simpa using hs
    unfold okT at hs2
    rw [Bool.and_eq_true, decide_eq_true_eq] at hs2
    obtain ⟨q1, q2, q3, q4, q5⟩ := hs2
    have hpv := hP v hv i (by omega)
    rw [e2] at hpv
    obtain ⟨k', a', i', x', r1, r2, r3, r4, r5, r6, r7⟩ := prov_is hX hpv q1 q3
    have ek : k' = k := by omega
    subst ek
    rw [hk] at r1
    injection r1 with r1
    injection r1 with ra rx
    subst ra
    subst rx
    have ei : i' = i := by omega
    subst ei
    exact ⟨r4, fun _ => ⟨v, hv, e2⟩⟩
theorem bytesC_is (hX : Right X) (hP : ProvA X V a) (hk : X k = some (a, x)) (h : ∀ i, i < partsN x.length → (pieceC V a (pieceS (k : Nat) 0 x 0) i).isSome) : bytesC V a (pieceS (k : Nat) 0 x 0) = x := by
  obtain ⟨ha, hx, hg⟩ := hX k a x hk
  obtain ⟨h1, h32⟩ := parts_32 hx
  obtain ⟨_, _, _, _, t4⟩ := piece0_tag (x := x) hg (show 0 < partsN x.length by omega)
  unfold bytesC
  rw [t4, Int.toNat_natCast]
  have e : cat (fun i => match pieceC V a (pieceS (k : Nat) 0 x 0) i with | some t => contT t (readT t) | none => []) (partsN x.length) = cat (heldT x) (partsN x.length) := by
    apply cat_congr
    intro i hi
    have h2 := h i hi
    cases hp : pieceC V a (pieceS (k : Nat) 0 x 0) i with
    | none => rw [hp] at h2; cases h2
    | some t =>
      obtain ⟨rfl, _⟩ := pieceC_is hX hP hk hi hp
      exact piece_cont hg nr_zero hi
  rw [e]
  exact cat_held_all (by omega)
theorem cand_out (hX : Right X) (hP : ProvA X V a) (ha : a ≤ 1) {c : Ckp} (hc : c ∈ candC V a) : ∃ k x, c = ⟨a, k, x⟩ ∧ X k = some (a, x) ∧ Whole X V k := by
  unfold candC at hc
  obtain ⟨s, hs, rfl⟩ := List.mem_map.1 hc
  obtain ⟨hm, ht⟩ := List.mem_filter.1 hs
  obtain ⟨v, hv, e⟩ := List.mem_map.1 hm
  have e2 : v (32 * a) = s := e
  unfold thereC firstC at ht
  rw [Bool.and_eq_true, Bool.and_eq_true, decide_eq_true_eq, List.all_eq_true] at ht
  obtain ⟨⟨q1, q2, q3, q4⟩, q5⟩ := ht
  have hpv := hP v hv 0 (by omega)
  rw [Nat.add_zero, e2] at hpv
  obtain ⟨k, a', i, x, r1, r2, r3, r4, r5, r6, r7⟩ := prov_is hX hpv q1 q2
  obtain ⟨ha', hx, hg⟩ := hX k a' x r1
  have hp32 := parts_32 hx
  have ei : i = 0 := by omega
  subst ei
  have ea : a' = a := by omega
  subst ea
  rw [r7, Int.toNat_natCast] at q5
  have hall : ∀ i, i < partsN x.length → (pieceC V a' (pieceS (k : Nat) 0 x 0) i).isSome := fun i hi => by
    have := q5 i (List.mem_range.2 hi)
    rw [r4] at this
    exact this
  refine ⟨k, x, ?_, r1, a', x, r1, fun i hi => ?_⟩
  · rw [r5, Int.toNat_natCast, r4, bytesC_is hX hP r1 hall]
  · by_cases h0 : i = 0
    · subst h0
      exact ⟨v, hv, by rw [Nat.add_zero, e2, r4]⟩
    · have h2 := hall i hi
      cases hp : pieceC V a' (pieceS (k : Nat) 0 x 0) i with
      | none => rw [hp] at h2; cases h2
      | some t =>
        obtain ⟨rfl, h3⟩ := pieceC_is hX hP r1 hi hp
        exact h3 (by omega)
theorem cand_in (hX : Right X) (hP : ProvA X V a) (hk : X k = some (a, x)) (hw : Whole X V k) : (⟨a, k, x⟩ : Ckp) ∈ candC V a := by
  obtain ⟨a', x', h1, h2⟩ := hw
  rw [hk] at h1
  injection h1 with h1
  injection h1 with e1 e2
  subst e1
  subst e2
  obtain ⟨ha, hx, hg⟩ := hX k a x hk
  have hp32 := parts_32 hx
  obtain ⟨t0, t1, t2, t3, t4⟩ := piece0_tag (x := x) hg (show 0 < partsN x.length by omega)
  have hall : ∀ i, i < partsN x.length → (pieceC V a (pieceS (k : Nat) 0 x 0) i).isSome := fun i hi => by
    unfold pieceC
    by_cases h0 : i = 0
    · rw [if_pos h0]; rfl
    · rw [if_neg h0, t1, t4, Int.toNat_natCast]
      unfold hit
      rw [List.find?_isSome]
      obtain ⟨v, hv, e⟩ := h2 i hi
      exact ⟨_, List.mem_map.2 ⟨v, hv, rfl⟩, by rw [e]; exact ok_piece hg nr_zero hi⟩
  obtain ⟨v, hv, e⟩ := h2 0 (by omega)
  rw [Nat.add_zero] at e
  unfold candC
  refine List.mem_map.2 ⟨pieceS (k : Nat) 0 x 0, List.mem_filter.2 ⟨List.mem_map.2 ⟨v, hv, e⟩, ?_⟩, ?_⟩
  · unfold thereC firstC
    rw [Bool.and_eq_true, Bool.and_eq_true, decide_eq_true_eq, List.all_eq_true]
    refine ⟨⟨t0, t2, t3, by rw [t4]; omega⟩, fun i hi => hall i ?_⟩
    have := List.mem_range.1 hi
    rwa [t4, Int.toNat_natCast] at this
  · rw [t1, Int.toNat_natCast, bytesC_is hX hP hk hall]
/-- What Load tells of such members: the newest of those that are whole. -/
theorem load_spec (hX : Right X) (hP : Prov X V) : match loadC V with
    | none => ∀ k, ¬ Whole X V k
    | some c => X c.gen = some (c.area, c.bytes) ∧ Whole X V c.gen ∧ ∀ k, Whole X V k → k ≤ c.gen := by
  have hin : ∀ k, Whole X V k → ∃ c ∈ candC V 0 ++ candC V 1, c.gen = k := by
    intro k hw
    have hw0 := hw
    obtain ⟨a, x, h1, _⟩ := hw
    obtain ⟨ha, _⟩ := hX k a x h1
    have h2 := cand_in hX (hP.area ha) h1 hw0
    rcases (by omega : a = 0 ∨ a = 1) with rfl | rfl
    · exact ⟨_, List.mem_append.2 (.inl h2), rfl⟩
    · exact ⟨_, List.mem_append.2 (.inr h2), rfl⟩
  have hb := best_some (candC V 0 ++ candC V 1) none
  unfold loadC
  cases hl : bestC (candC V 0 ++ candC V 1) none with
  | none =>
    rw [hl] at hb
    intro k hw
    obtain ⟨c, hc, _⟩ := hin k hw
    rw [hb.1] at hc
    cases hc
  | some c =>
    rw [hl] at hb
    obtain ⟨h1, h2, _⟩ := hb
    rcases h1 with h1 | h1
    · rcases List.mem_append.1 h1 with h1 | h1
      · obtain ⟨k, x, rfl, q1, q2⟩ := cand_out hX (hP.area (by decide)) (by decide) h1
        exact ⟨q1, q2, fun k hk => by obtain ⟨c, hc, e⟩ := hin k hk; rw [← e]; exact h2 c hc⟩
      · obtain ⟨k, x, rfl, q1, q2⟩ := cand_out hX (hP.area (by decide)) (by decide) h1
        exact ⟨q1, q2, fun k hk => by obtain ⟨c, hc, e⟩ := hin k hk; rw [← e]; exact h2 c hc⟩
    · cases h1
theorem gen0_le (hX : Right X) {j m : Nat} {s : List UInt8} (h : ProvS X j s) (hm : ∀ k a x, X k = some (a, x) → k ≤ m) : gen0 s ≤ m := by
  unfold gen0
  split
  · rename_i hc
    obtain ⟨k, a, i, x, h1, _, _, _, h5, _⟩ := prov_is hX h hc.1 hc.2
    have := hm k a x h1
    omega
  · exact Nat.zero_le _
theorem gen0_piece {i : Nat} (hg : numB (k : Nat) = true) (hi : i < partsN x.length) : gen0 (pieceS (k : Nat) 0 x i) = k := by
  obtain ⟨t0, t1, t2, _, _⟩ := piece0_tag (x := x) hg hi
  unfold gen0
  rw [if_pos ⟨t0, t2⟩, t1, Int.toNat_natCast]
end
#print axioms load_spec
#print axioms best_some
#print axioms le_seen
theorem crash_settled {S : Bank} (h : S.down = false) (m : Nat) : (S.crash m).newest = (S.crash m).flushed := by
  unfold Bank.crash
  rw [if_neg (by rw [h]; decide)]
theorem layB_settled : ∀ (l : List Sec) (S : Bank) (d q : Nat), Std S → d < S.n → q + l.length ≤ S.size d → (layB S d q l).1 = 6 → (layB S d q l).2.newest = (layB S d q l).2.flushed
  | [], S, d, q, hS, hd, _, h => by
    unfold layB Bank.may at h
    rw [if_neg (by omega)] at h
    simp only at h
    split at h
    · cases h
    · rw [hS.up] at h
      cases h
  | s :: l, S, d, q, hS, hd, hl, h => by
    rw [List.length_cons] at hl
    unfold layB at h ⊢
    rcases hS.write hd (show q < S.size d by omega) s with ⟨_, h2⟩ | ⟨_, _, h2⟩ | ⟨_, _, h2⟩
    · rw [h2, if_neg (show ¬ ((6 : Nat) = 0) by decide)]
      exact crash_settled (S := S.tickA) hS.up _
    · rw [h2, if_neg (show ¬ ((7 : Nat) = 0) by decide)] at h
      cases h
    · rw [h2, if_pos rfl] at h ⊢
      exact layB_settled l _ d (q + 1) (hS.tickA.put d q s) hd (by show q + 1 + l.length ≤ S.size d; omega) h
theorem layAll_settled (q : Nat) (l : List Sec) : ∀ (live : List Nat) (S : Bank) (any : Bool), Std S → (∀ d ∈ live, d < S.n ∧ q + l.length ≤ S.size d) → (layAll q l live S any).1 = 6 → (layAll q l live S any).2.newest = (layAll q l live S any).2.flushed
  | [], S, any, _, _, h => by
    unfold layAll at h
    cases any <;> cases h
  | d :: ds, S, any, hS, hl, h => by
    obtain ⟨hd1, hd2⟩ := hl d (by simp)
    have next : ∀ any', Std (layB S d q l).2 → Alike S (layB S d q l).2 → (layAll q l ds (layB S d q l).2 any').1 = 6 → (layAll q l ds (layB S d q l).2 any').2.newest = (layAll q l ds (layB S d q l).2 any').2.flushed := fun any' k3 k4 h =>
      layAll_settled q l ds (layB S d q l).2 any' k3 (fun i hi => by rw [k4.n, k4.size]; exact hl i (by simp [hi])) h
    have hset := layB_settled l S d q hS hd1 hd2
    unfold layAll at h ⊢
    rcases lay_std l S d q hS hd1 hd2 with ⟨_, k2, k3, k4, _⟩ | ⟨_, k2, k3, k4, _⟩ | ⟨_, k2, _⟩
    · rw [if_pos (.inl k2)] at h ⊢
      exact next any k3 k4 h
    · rw [if_neg (by omega), if_pos k2] at h ⊢
      exact next true k3 k4 h
    · rw [if_neg (by omega), if_neg (by omega)]
      exact hset k2
/-- What the members have in their areas. -/
abbrev Cont := Nat → Nat → List UInt8
def putC (C : Cont) (a : Nat) (k : Nat) (x : List UInt8) : Cont := fun d j => if 32 * a ≤ j ∧ j < 32 * a + partsN x.length then pieceS (k : Nat) 0 x (j - 32 * a) else C d j
/-- The live members hold these contents, flushed; and the bank is up. -/
structure CkB (S : Bank) (live : List Nat) (C : Cont) : Prop where
  std : Std S
  lv : ∀ d ∈ live, d < S.n ∧ 114 ≤ S.size d
  alive : ∀ d ∈ live, S.dead d = false
  hold : AllIn S fun d q s => d ∈ live → ∀ j, j < 64 → q = 50 + j → s.1 = C d j
theorem CkB.newest {S : Bank} {live : List Nat} {C : Cont} (h : CkB S live C) {d j : Nat} (hd : d ∈ live) (hj : j < 64) : (S.newest d (50 + j)).1 = C d j := (h.hold d (50 + j)).2 hd j hj rfl
/-- What Save makes of them: all of it, or power fails on the way. -/
theorem CkB.save {S : Bank} {live : List Nat} {C : Cont} (h : CkB S live C) (hne : live ≠ []) (hnd : live.Nodup) {a k : Nat} {x : List UInt8} (ha : a ≤ 1) (hx : x.length ≤ 1696) (hg : numB (k : Nat) = true) :
    ((saveC S live a (k : Nat) x).1 = 0 ∧ CkB (saveC S live a (k : Nat) x).2 live (putC C a k x) ∧ Alike S (saveC S live a (k : Nat) x).2) ∨
    (S.armed ≠ 0 ∧ (saveC S live a (k : Nat) x).1 = 6 ∧ (saveC S live a (k : Nat) x).2.down = true ∧ Alike S (saveC S live a (k : Nat) x).2 ∧ ∃ C', CkB (saveC S live a (k : Nat) x).2.start live C' ∧ ∀ d ∈ live, ∀ j, j < 64 → C' d j = C d j ∨ C' d j = putC C a k x d j) := by
  obtain ⟨hp1, hp32⟩ := parts_32 hx
  have hlen : (partsS (k : Nat) 0 x).length = partsN x.length := partsS_length _ _ _
  have hlv : ∀ d ∈ live, d < S.n ∧ 50 + 32 * a + (partsS (k : Nat) 0 x).length ≤ S.size d := fun d hd => by
    obtain ⟨h1, h2⟩ := h.lv d hd
    exact ⟨h1, by rw [hlen]; omega⟩
  have e : saveC S live a (k : Nat) x = layAll (50 + 32 * a) (partsS (k : Nat) 0 x) live S false := by
    unfold saveC
    rw [if_pos ⟨ha, hg, hx⟩]
  have hset := layAll_settled (50 + 32 * a) (partsS (k : Nat) 0 x) live S false h.std hlv
  have hc := layAll_std (50 + 32 * a) (partsS (k : Nat) 0 x) live S false h.std hlv hnd
  rw [e]
  clear e
  generalize layAll (50 + 32 * a) (partsS (k : Nat) 0 x) live S false = r at hset hc
  have hpl : ∀ (f : Nat → Sec) (d j : Nat), j < 64 → (f (50 + j)).1 = C d j → (laidF f (50 + 32 * a) (partsS (k : Nat) 0 x) (50 + j)).1 = putC C a k x d j := by
    intro f d j hj hf
    unfold laidF putC
    by_cases h1 : 32 * a ≤ j
    · rw [if_pos (by omega), show 50 + j - (50 + 32 * a) = j - 32 * a by omega]
      by_cases h2 : j < 32 * a + partsN x.length
      · rw [if_pos ⟨h1, h2⟩]
        cases hs : (partsS (k : Nat) 0 x)[j - 32 * a]? with
        | none =>
          rw [List.getElem?_eq_none_iff, hlen] at hs
          omega
        | some s => exact (partsS_at hs).2
      · rw [if_neg (by omega), List.getElem?_eq_none (by rw [hlen]; omega)]
        exact hf
    · rw [if_neg (by omega), if_neg (by omega)]
      exact hf
  rcases hc with ⟨k1, k2, k3, k4, k5⟩ | ⟨k1, k2, k3, k4, k5, k6⟩
  · left
    have hex : ∃ d ∈ live, S.dead d = false := by
      cases live with
      | nil => exact absurd rfl hne
      | cons d ds => exact ⟨d, by simp, h.alive d (by simp)⟩
    rw [if_pos (.inr hex)] at k1
    refine ⟨k1, { std := k2, lv := fun d hd => by rw [k3.n, k3.size]; exact h.lv d hd, alive := fun d hd => by rw [k3.dead]; exact h.alive d hd, hold := fun d q => ?_ }, k3⟩
    rw [k4, k5]
    refine ⟨fun hd j hj hq => ?_, fun hd j hj hq => ?_⟩
    · subst hq
      unfold laidOn
      rw [if_pos ⟨hd, h.alive d hd⟩]
      exact hpl _ d j hj (h.newest hd hj)
    · subst hq
      unfold laidOn
      rw [if_pos ⟨hd, h.alive d hd⟩]
      exact hpl _ d j hj (h.newest hd hj)
  · right
    have hs := hset k2
    have hA := k6 (fun d q s => d ∈ live → ∀ j, j < 64 → q = 50 + j → s.1 = C d j ∨ s.1 = putC C a k x d j) (fun d q => ⟨fun hd j hj hq => .inl ((h.hold d q).1 hd j hj hq), fun hd j hj hq => .inl ((h.hold d q).2 hd j hj hq)⟩) (fun d hd i s hs _ j hj hq => by
      obtain ⟨h1, h2⟩ := partsS_at hs
      right
      unfold putC
      rw [if_pos (by omega), h2, show j - 32 * a = i by omega])
    refine ⟨k1, k2, k3, k5, fun d j => (r.2.newest d (50 + j)).1, { std := ⟨rfl, fun d => by show r.2.failAt d = 0; rw [k4]; exact h.std.nofail d⟩, lv := fun d hd => by show d < r.2.n ∧ 114 ≤ r.2.size d; rw [k5.n, k5.size]; exact h.lv d hd, alive := fun d hd => by show r.2.dead d = false; rw [k5.dead]; exact h.alive d hd, hold := fun d q => ?_ }, fun d hd j hj => (hA d (50 + j)).2 hd j hj rfl⟩
    show (d ∈ live → ∀ j, j < 64 → q = 50 + j → (r.2.flushed d q).1 = _) ∧ (d ∈ live → ∀ j, j < 64 → q = 50 + j → (r.2.newest d q).1 = _)
    rw [← hs]
    exact ⟨fun _ j _ hq => by rw [hq], fun _ j _ hq => by rw [hq]⟩
theorem CkB.crash {S : Bank} {live : List Nat} {C : Cont} (h : CkB S live C) (m : Nat) : CkB (S.crash m).start live C := by
  obtain ⟨h1, h2, h3, h4, h5⟩ := crash_shape (S := S) m
  exact { std := ⟨rfl, fun d => by show (S.crash m).failAt d = 0; rw [h5]; exact h.std.nofail d⟩, lv := fun d hd => by show d < (S.crash m).n ∧ 114 ≤ (S.crash m).size d; rw [h1, h2]; exact h.lv d hd, alive := fun d hd => by show (S.crash m).dead d = false; rw [h3]; exact h.alive d hd, hold := h.hold.crash m }
theorem CkB.start {S : Bank} {live : List Nat} {C : Cont} (h : CkB S live C) : CkB S.start live C :=
  { std := ⟨rfl, h.std.nofail⟩, lv := h.lv, alive := h.alive, hold := h.hold }
theorem CkB.arm {S : Bank} {live : List Nat} {C : Cont} (h : CkB S live C) (n m : Nat) : CkB (S.arm n m) live C :=
  { std := ⟨h.std.up, h.std.nofail⟩, lv := h.lv, alive := h.alive, hold := h.hold }
/-- What the members that live have in their areas. -/
def viewsC (S : Bank) (live : List Nat) : List View := (live.filter fun d => !S.dead d).map fun d => fun j => (S.newest d (50 + j)).1
theorem viewsC_mem {S : Bank} {live : List Nat} {v : View} : v ∈ viewsC S live ↔ ∃ d ∈ live, S.dead d = false ∧ v = fun j => (S.newest d (50 + j)).1 := by
  unfold viewsC
  rw [List.mem_map]
  refine ⟨fun ⟨d, hd, e⟩ => ?_, fun ⟨d, hd, hx, e⟩ => ⟨d, List.mem_filter.2 ⟨hd, by simp [hx]⟩, e.symm⟩⟩
  obtain ⟨h1, h2⟩ := List.mem_filter.1 hd
  exact ⟨d, h1, by simpa using h2, e.symm⟩
/-- All pieces of a checkpoint are there on these members. -/
def WholeC (X : Known) (D : List Nat) (C : Cont) (k : Nat) : Prop := ∃ a x, X k = some (a, x) ∧ ∀ i, i < partsN x.length → ∃ d ∈ D, C d (32 * a + i) = pieceS (k : Nat) 0 x i
/-- Views of a bank whose members hold these contents. -/
def Shows (S : Bank) (live : List Nat) (C : Cont) : Prop := ∀ d ∈ live, S.dead d = false → ∀ j, j < 64 → (S.newest d (50 + j)).1 = C d j
theorem CkB.shows {S : Bank} {live : List Nat} {C : Cont} (h : CkB S live C) : Shows S live C := fun _ hd _ _ hj => h.newest hd hj
theorem Shows.prov {S : Bank} {live : List Nat} {C : Cont} {X : Known} (h : Shows S live C) (hp : ∀ d ∈ live, ∀ j, j < 64 → ProvS X j (C d j)) : Prov X (viewsC S live) := by
  intro v hv j hj
  obtain ⟨d, hd, hx, rfl⟩ := viewsC_mem.1 hv
  show ProvS X j (S.newest d (50 + j)).1
  rw [h d hd hx j hj]
  exact hp d hd j hj
theorem Shows.whole {S : Bank} {live : List Nat} {C : Cont} {X : Known} (h : Shows S live C) (hX : Right X) {k : Nat} : Whole X (viewsC S live) k ↔ WholeC X (live.filter fun d => !S.dead d) C k := by
  constructor
  · rintro ⟨a, x, h1, h2⟩
    obtain ⟨ha, hx, _⟩ := hX k a x h1
    have hp := parts_32 hx
    refine ⟨a, x, h1, fun i hi => ?_⟩
    obtain ⟨v, hv, e⟩ := h2 i hi
    obtain ⟨d, hd, hxd, rfl⟩ := viewsC_mem.1 hv
    exact ⟨d, List.mem_filter.2 ⟨hd, by simp [hxd]⟩, by rw [← h d hd hxd (32 * a + i) (by omega)]; exact e⟩
  · rintro ⟨a, x, h1, h2⟩
    obtain ⟨ha, hx, _⟩ := hX k a x h1
    have hp := parts_32 hx
    refine ⟨a, x, h1, fun i hi => ?_⟩
    obtain ⟨d, hd, e⟩ := h2 i hi
    obtain ⟨hd1, hd2⟩ := List.mem_filter.1 hd
    have hxd : S.dead d = false := by simpa using hd2
    exact ⟨_, viewsC_mem.2 ⟨d, hd1, hxd, rfl⟩, by show (S.newest d (50 + (32 * a + i))).1 = _; rw [h d hd1 hxd _ (by omega)]; exact e⟩
#print axioms CkB.save
#print axioms Shows.whole
/-- A sector that Save may have left there. -/
def Either (D : List Nat) (C C1 C' : Cont) : Prop := ∀ d ∈ D, ∀ j, j < 64 → C' d j = C d j ∨ C' d j = C1 d j
theorem Either.left {D : List Nat} {C C1 : Cont} : Either D C C1 C := fun _ _ _ _ => .inl rfl
theorem Either.right {D : List Nat} {C C1 : Cont} : Either D C C1 C1 := fun _ _ _ _ => .inr rfl
section
variable {X : Known} {D : List Nat} {C C' : Cont} {k a : Nat} {x : List UInt8}
theorem prov_either (hk : X k = some (a, x)) (hp : ∀ d ∈ D, ∀ j, j < 64 → ProvS X j (C d j)) (hc : Either D C (putC C a k x) C') : ∀ d ∈ D, ∀ j, j < 64 → ProvS X j (C' d j) := by
  intro d hd j hj
  rcases hc d hd j hj with h | h
  · rw [h]; exact hp d hd j hj
  · rw [h]
    unfold putC
    split
    · rename_i hr
      exact .inr ⟨k, a, j - 32 * a, x, hk, by omega, by omega, rfl⟩
    · exact hp d hd j hj
/-- Pieces of two generations are not the same. -/
theorem piece_gen {k k' : Nat} {x x' : List UInt8} {i i' : Nat} (hg : numB (k : Nat) = true) (hg' : numB (k' : Nat) = true) (hi : i < partsN x.length) (hi' : i' < partsN x'.length) (h : pieceS (k : Nat) 0 x i = pieceS (k' : Nat) 0 x' i') : k = k' := by
  obtain ⟨_, t1, _⟩ := piece0_tag (x := x) hg hi
  obtain ⟨_, t2, _⟩ := piece0_tag (x := x') hg' hi'
  rw [h, t2] at t1
  omega
/-- Another one that is whole was so. -/
theorem whole_back (hX : Right X) (hk : X k = some (a, x)) (hc : Either D C (putC C a k x) C') {k' : Nat} (hne : k' ≠ k) (h : WholeC X D C' k') : WholeC X D C k' := by
  obtain ⟨a', x', h1, h2⟩ := h
  obtain ⟨ha', hx', hg'⟩ := hX k' a' x' h1
  obtain ⟨_, hx, hg⟩ := hX k a x hk
  have hp := parts_32 hx'
  refine ⟨a', x', h1, fun i hi => ?_⟩
  obtain ⟨d, hd, e⟩ := h2 i hi
  refine ⟨d, hd, ?_⟩
  rcases hc d hd (32 * a' + i) (by omega) with q | q
  · rw [← q]; exact e
  · rw [q] at e
    unfold putC at e
    split at e
    · rename_i hr
      exact absurd (piece_gen hg hg' (by omega) hi e).symm hne
    · exact e
/-- One that is whole stays so when it is laid again, or one into the other area. -/
theorem whole_on (hX : Right X) (hk : X k = some (a, x)) (hc : Either D C (putC C a k x) C') {k' a' : Nat} {x' : List UInt8} (hk' : X k' = some (a', x')) (hne : k' = k ∨ a' ≠ a) {d i : Nat} (hd : d ∈ D) (hi : i < partsN x'.length) (h : C d (32 * a' + i) = pieceS (k' : Nat) 0 x' i) : C' d (32 * a' + i) = pieceS (k' : Nat) 0 x' i := by
  obtain ⟨ha', hx', _⟩ := hX k' a' x' hk'
  obtain ⟨ha, hx, _⟩ := hX k a x hk
  have hp' := parts_32 hx'
  have hp := parts_32 hx
  rcases hc d hd (32 * a' + i) (by omega) with q | q
  · rw [q]; exact h
  · rw [q]
    unfold putC
    split
    · rename_i hr
      rcases hne with rfl | hne
      · rw [hk] at hk'
        injection hk' with e
        injection e with e1 e2
        subst e1
        subst e2
        rw [show 32 * a + i - 32 * a = i by omega]
      · omega
    · exact h
theorem put_all {d i : Nat} (hi : i < partsN x.length) : putC C a k x d (32 * a + i) = pieceS (k : Nat) 0 x i := by
  unfold putC
  rw [if_pos (by omega), show 32 * a + i - 32 * a = i by omega]
end
/-- What is there: generation k0 on all members; of newer ones that are whole each may be. -/
structure CkI (D : List Nat) (C : Cont) (X : Known) (m k0 a0 : Nat) (x0 : List UInt8) (may : List (List UInt8)) : Prop where
  right : Right X
  prov : ∀ d ∈ D, ∀ j, j < 64 → ProvS X j (C d j)
  known : X k0 = some (a0, x0)
  in_ : x0 ∈ may
  all : ∀ d ∈ D, ∀ i, i < partsN x0.length → C d (32 * a0 + i) = pieceS (k0 : Nat) 0 x0 i
  newer : ∀ k, k0 < k → WholeC X D C k → ∃ a x, X k = some (a, x) ∧ a ≠ a0 ∧ x ∈ may
  bound : ∀ k a x, X k = some (a, x) → k ≤ m ∧ x.length ≤ 300
section
variable {D : List Nat} {C : Cont} {X : Known} {m k0 a0 : Nat} {x0 : List UInt8} {may : List (List UInt8)}
theorem CkI.whole (h : CkI D C X m k0 a0 x0 may) {E : List Nat} {d : Nat} (hd : d ∈ E) (hE : ∀ d ∈ E, d ∈ D) : WholeC X E C k0 :=
  ⟨a0, x0, h.known, fun i hi => ⟨d, hd, h.all d (hE d hd) i hi⟩⟩
theorem WholeC.more {E : List Nat} {k : Nat} (h : WholeC X E C k) (hE : ∀ d ∈ E, d ∈ D) : WholeC X D C k := by
  obtain ⟨a, x, h1, h2⟩ := h
  exact ⟨a, x, h1, fun i hi => by obtain ⟨d, hd, e⟩ := h2 i hi; exact ⟨d, hE d hd, e⟩⟩
/-- What Load tells of some of the members, one of them living. -/
theorem CkI.load (h : CkI D C X m k0 a0 x0 may) {S : Bank} (hS : Shows S D C) {d : Nat} (hd : d ∈ D) (hx : S.dead d = false) :
    ∃ c, loadC (viewsC S D) = some c ∧ X c.gen = some (c.area, c.bytes) ∧ k0 ≤ c.gen ∧ c.bytes ∈ may ∧ (c.gen = k0 ∨ c.area ≠ a0) ∧ WholeC X D C c.gen ∧ ((∀ d ∈ D, S.dead d = false) → ∀ k, WholeC X D C k → k ≤ c.gen) ∧ seenC (viewsC S D) ≤ m ∧ ((∀ d ∈ D, S.dead d = false) → ∀ d ∈ D, ∀ j, j < 64 → gen0 (C d j) ≤ seenC (viewsC S D)) ∧ c.gen ≤ m := by
  have hsub : ∀ i ∈ D.filter (fun d => !S.dead d), i ∈ D := fun i hi => (List.mem_filter.1 hi).1
  have hdf : d ∈ D.filter (fun d => !S.dead d) := List.mem_filter.2 ⟨hd, by simp [hx]⟩
  have hsp := load_spec h.right (hS.prov h.prov)
  have hw0 : Whole X (viewsC S D) k0 := (hS.whole h.right).2 (h.whole hdf hsub)
  cases hl : loadC (viewsC S D) with
  | none =>
    rw [hl] at hsp
    exact absurd hw0 (hsp k0)
  | some c =>
    rw [hl] at hsp
    obtain ⟨q1, q2, q3⟩ := hsp
    have hk := q3 k0 hw0
    have hwc := ((hS.whole h.right).1 q2).more hsub
    have hfull : (∀ d ∈ D, S.dead d = false) → D.filter (fun d => !S.dead d) = D := fun ha => List.filter_eq_self.2 fun i hi => by rw [ha i hi]; rfl
    refine ⟨c, rfl, q1, hk, ?_, ?_, hwc, fun ha k hwk => ?_, ?_, fun ha i hi j hj => ?_, (h.bound _ _ _ q1).1⟩
    · by_cases e : c.gen = k0
      · rw [e, h.known] at q1
        injection q1 with q1
        injection q1 with _ q1
        rw [← q1]
        exact h.in_
      · obtain ⟨a, x, r1, _, r3⟩ := h.newer c.gen (by omega) hwc
        rw [q1] at r1
        injection r1 with r1
        injection r1 with _ r1
        rw [r1]
        exact r3
    · by_cases e : c.gen = k0
      · exact .inl e
      · obtain ⟨a, x, r1, r2, _⟩ := h.newer c.gen (by omega) hwc
        rw [q1] at r1
        injection r1 with r1
        injection r1 with r1 _
        exact .inr (by rw [r1]; exact r2)
    · exact q3 k ((hS.whole h.right).2 (by rw [hfull ha]; exact hwk))
    · refine seen_le fun v hv j hj => ?_
      obtain ⟨i, hi, hxi, rfl⟩ := viewsC_mem.1 hv
      show gen0 (S.newest i (50 + j)).1 ≤ m
      rw [hS i hi hxi j hj]
      exact gen0_le h.right (h.prov i hi j hj) (fun k a x hk => (h.bound k a x hk).1)
    · rw [← hS i hi (ha i hi) j hj]
      exact le_seen (v := fun j => (S.newest i (50 + j)).1) (viewsC_mem.2 ⟨i, hi, ha i hi, rfl⟩) hj
/-- What was loaded is laid once more, and power fails on the way. -/
theorem CkI.again (h : CkI D C X m k0 a0 x0 may) {C' : Cont} {k a : Nat} {x : List UInt8} (hk : X k = some (a, x)) (hka : k = k0 ∨ a ≠ a0) (hw : WholeC X D C k) (hc : Either D C (putC C a k x) C') : CkI D C' X m k0 a0 x0 may := by
  refine { h with prov := prov_either hk h.prov hc, all := fun d hd i hi => whole_on h.right hk hc h.known (hka.elim (fun e => .inl e.symm) (fun e => .inr (fun e2 => e e2.symm))) hd hi (h.all d hd i hi), newer := fun k' hk' hw' => ?_ }
  by_cases e : k' = k
  · rw [e] at hk' ⊢
    exact h.newer k hk' hw
  · exact h.newer k' hk' (whole_back h.right hk hc e hw')
/-- .. and it is laid: it is on all members then. -/
theorem CkI.laid (h : CkI D C X m k0 a0 x0 may) {k a : Nat} {x : List UInt8} (hk : X k = some (a, x)) (hmax : ∀ k', WholeC X D C k' → k' ≤ k) : CkI D (putC C a k x) X m k a x [x] := by
  refine { right := h.right, prov := prov_either hk h.prov Either.right, known := hk, in_ := by simp, all := fun d _ i hi => put_all hi, newer := fun k' hk' hw' => ?_, bound := h.bound }
  have := hmax k' (whole_back h.right hk Either.right (by omega) hw')
  omega
/-- The next one is begun, of a generation above all that are there. -/
def learnX (X : Known) (g a : Nat) (x : List UInt8) : Known := fun k => if k = g then some (a, x) else X k
theorem CkI.learnt (h : CkI D C X m k0 a0 x0 may) (hmax : ∀ k, WholeC X D C k → k ≤ k0) {g a : Nat} {x : List UInt8} (hg : k0 < g) (hgm : g ≤ m + 1) (hgb : numB (g : Nat) = true) (ha : a ≤ 1) (hx : x.length ≤ 300) (hfar : ∀ d ∈ D, ∀ j, j < 64 → gen0 (C d j) < g) :
    CkI D C (learnX X g a x) (m + 1) k0 a0 x0 may ∧ ∀ k, WholeC (learnX X g a x) D C k → k ≤ k0 := by
  have hne : ∀ k, k ≠ g → learnX X g a x k = X k := fun k hk => if_neg hk
  have hR : Right (learnX X g a x) := fun k a' x' hk => by
    by_cases e : k = g
    · subst e
      rw [show learnX X k a x k = some (a, x) from if_pos rfl] at hk
      injection hk with hk
      injection hk with h1 h2
      subst h1
      subst h2
      exact ⟨ha, by omega, hgb⟩
    · rw [hne k e] at hk
      exact h.right k a' x' hk
  have hP : ∀ d ∈ D, ∀ j, j < 64 → ProvS (learnX X g a x) j (C d j) := fun d hd j hj => by
    rcases h.prov d hd j hj with q | ⟨k, a', i, x', h1, h2, h3, h4⟩
    · exact .inl q
    · have hk : k < g := by
        have h5 := hfar d hd j hj
        rw [h4, gen0_piece (h.right k a' x' h1).2.2 h3] at h5
        exact h5
      exact .inr ⟨k, a', i, x', by rw [hne k (by omega)]; exact h1, h2, h3, h4⟩
  have hW : ∀ k, WholeC (learnX X g a x) D C k → k ≤ k0 := fun k hw => by
    by_cases e : k = g
    · exfalso
      subst e
      obtain ⟨a', x', h1, h2⟩ := hw
      obtain ⟨_, hx', hg'⟩ := hR k a' x' h1
      obtain ⟨ha', _⟩ := hR k a' x' h1
      have hp := parts_32 hx'
      obtain ⟨d, hd, e⟩ := h2 0 (by omega)
      have h5 := hfar d hd (32 * a' + 0) (by omega)
      rw [e, gen0_piece hg' (by omega)] at h5
      omega
    · obtain ⟨a', x', h1, h2⟩ := hw
      rw [hne k e] at h1
      exact hmax k ⟨a', x', h1, h2⟩
  refine ⟨{ right := hR, prov := hP, known := by rw [hne k0 (by omega)]; exact h.known, in_ := h.in_, all := h.all, newer := fun k hk hw => absurd (hW k hw) (by omega), bound := fun k a' x' hk => ?_ }, hW⟩
  by_cases e : k = g
  · subst e
    rw [show learnX X k a x k = some (a, x) from if_pos rfl] at hk
    injection hk with hk
    injection hk with _ h2
    subst h2
    exact ⟨hgm, hx⟩
  · rw [hne k e] at hk
    have := h.bound k a' x' hk
    omega
/-- .. and power fails on the way. -/
theorem CkI.begun (h : CkI D C X m k0 a0 x0 may) (hmax : ∀ k, WholeC X D C k → k ≤ k0) {C' : Cont} {k a : Nat} {x : List UInt8} (hk : X k = some (a, x)) (hgt : k0 < k) (hne : a ≠ a0) (hc : Either D C (putC C a k x) C') : CkI D C' X m k0 a0 x0 (may ++ [x]) := by
  refine { right := h.right, prov := prov_either hk h.prov hc, known := h.known, in_ := by simp [h.in_], all := fun d hd i hi => whole_on h.right hk hc h.known (.inr fun e => hne e.symm) hd hi (h.all d hd i hi), newer := fun k' hk' hw' => ?_, bound := h.bound }
  by_cases e : k' = k
  · subst e
    exact ⟨a, x, hk, hne, by simp⟩
  · have := hmax k' (whole_back h.right hk hc e hw')
    omega
#print axioms CkI.load
#print axioms CkI.again
#print axioms CkI.laid
#print axioms CkI.learnt
#print axioms CkI.begun
end
/-- Is a sector a part of some checkpoint? -/
def part0 (s : List UInt8) : Bool := partB s && decide ((readT s).nr = 0)
/-- The parts that members have at a place, in the order of the members. -/
def rowC (V : List View) (j : Nat) : List (List UInt8) := (V.map fun v => v j).filter part0
/-- The rows of an area. -/
abbrev Rows := Nat → List (List UInt8)
def rowsC (V : List View) (a : Nat) : Rows := fun i => rowC V (32 * a + i)
def genT (s : List UInt8) : Nat := (readT s).gen.toNat
theorem genT_is (s : List UInt8) : (readT s).gen = (genT s : Int) := by
  have := (readT_ok s).g0
  unfold genT
  omega
/-- The greatest generation in the rows ahead of the i-th. -/
def seenTo (K : Rows) (i : Nat) : Nat := maxL ((List.range i).flatMap fun i => (K i).map genT)
theorem foldl_max (l : List Nat) : ∀ b, l.foldl max b = max b (l.foldl max 0) := by
  induction l with
  | nil => intro b; simp
  | cons x l ih =>
    intro b
    rw [List.foldl_cons, List.foldl_cons, ih (max b x), ih (max 0 x)]
    omega
theorem maxL_append (a b : List Nat) : maxL (a ++ b) = max (maxL a) (maxL b) := by
  unfold maxL
  rw [List.foldl_append, foldl_max b]
theorem maxL_snoc (a : List Nat) (x : Nat) : maxL (a ++ [x]) = max (maxL a) x := by rw [maxL_append]; simp [maxL]
theorem seenTo_succ (K : Rows) (i : Nat) : seenTo K (i + 1) = max (seenTo K i) (maxL ((K i).map genT)) := by
  unfold seenTo
  rw [List.range_succ, List.flatMap_append, maxL_append]
  simp
theorem gen0_part {s : List UInt8} (h : part0 s = true) : gen0 s = genT s := by
  unfold part0 at h
  rw [Bool.and_eq_true, decide_eq_true_eq] at h
  exact if_pos h
theorem gen0_none {s : List UInt8} (h : part0 s = false) : gen0 s = 0 := by
  unfold gen0
  rw [if_neg]
  intro h2
  unfold part0 at h
  rw [h2.1, decide_eq_true h2.2] at h
  cases h
theorem seenC_rows (V : List View) : seenC V = max (seenTo (rowsC V 0) 32) (seenTo (rowsC V 1) 32) := by
  have hle : ∀ (a i : Nat), i < 32 → a ≤ 1 → ∀ s ∈ rowsC V a i, genT s ≤ seenC V := by
    intro a i hi ha s hs
    obtain ⟨hm, hp⟩ := List.mem_filter.1 hs
    obtain ⟨v, hv, rfl⟩ := List.mem_map.1 hm
    have h1 := le_seen (j := 32 * a + i) hv (by omega)
    rwa [gen0_part hp] at h1
  have hto : ∀ a, a ≤ 1 → seenTo (rowsC V a) 32 ≤ seenC V := fun a ha => maxL_le fun x hx => by
    obtain ⟨i, hi, hx⟩ := List.mem_flatMap.1 hx
    obtain ⟨s, hs, rfl⟩ := List.mem_map.1 hx
    exact hle a i (List.mem_range.1 hi) ha s hs
  have h0 := hto 0 (by decide)
  have h1 := hto 1 (by decide)
  refine Nat.le_antisymm (seen_le fun v hv j hj => ?_) (Nat.max_le.2 ⟨h0, h1⟩)
  cases hp : part0 (v j) with
  | false => rw [gen0_none hp]; exact Nat.zero_le _
  | true =>
    rw [gen0_part hp]
    have hin : ∀ a i, i < 32 → j = 32 * a + i → genT (v j) ≤ seenTo (rowsC V a) 32 := fun a i hi e => le_maxL (List.mem_flatMap.2 ⟨i, List.mem_range.2 hi, List.mem_map.2 ⟨v j, List.mem_filter.2 ⟨List.mem_map.2 ⟨v, hv, by rw [e]⟩, hp⟩, rfl⟩⟩)
    by_cases h32 : j < 32
    · have := hin 0 j h32 (by omega)
      omega
    · have := hin 1 (j - 32) (by omega) (by omega)
      omega
/-! ### A checkpoint out of rows -/
def pieceK (K : Rows) (s : List UInt8) (i : Nat) : Option (List UInt8) := if i = 0 then some s else (K i).find? (okT (readT s).gen 0 (readT s).parts.toNat i)
def thereK (K : Rows) (s : List UInt8) : Bool := firstC s && (List.range (readT s).parts.toNat).all fun i => (pieceK K s i).isSome
def bytesK (K : Rows) (s : List UInt8) : List UInt8 := cat (fun i => match pieceK K s i with | some x => contT x (readT x) | none => []) (readT s).parts.toNat
theorem find_filter {α : Type} (p q : α → Bool) (h : ∀ x, q x = true → p x = true) : ∀ l : List α, (l.filter p).find? q = l.find? q
  | [] => rfl
  | x :: l => by
    have ih := find_filter p q h l
    by_cases hp : p x = true
    · rw [List.filter_cons_of_pos hp, List.find?_cons, List.find?_cons, ih]
    · rw [List.filter_cons_of_neg hp, List.find?_cons, ih]
      cases hq : q x with
      | true => exact absurd (h x hq) hp
      | false => rfl
theorem ok_part0 {g : Int} {n i : Nat} {s : List UInt8} (h : okT g 0 n i s = true) : part0 s = true := by
  unfold okT at h
  rw [Bool.and_eq_true, decide_eq_true_eq] at h
  unfold part0
  rw [h.1, decide_eq_true h.2.2.1]
  rfl
theorem pieceK_is (V : List View) (a : Nat) (s : List UInt8) (i : Nat) : pieceK (rowsC V a) s i = pieceC V a s i := by
  unfold pieceK pieceC
  split
  · rfl
  · exact find_filter part0 _ (fun x hx => ok_part0 hx) _
theorem thereK_is (V : List View) (a : Nat) (s : List UInt8) : thereK (rowsC V a) s = thereC V a s := by
  unfold thereK thereC
  simp only [pieceK_is]
theorem bytesK_is (V : List View) (a : Nat) (s : List UInt8) : bytesK (rowsC V a) s = bytesC V a s := by
  unfold bytesK bytesC
  apply cat_congr
  intro i _
  exact congrArg (fun o : Option (List UInt8) => match o with | some x => contT x (readT x) | none => []) (pieceK_is V a s i)
theorem there_part0 {V : List View} {a : Nat} {s : List UInt8} (h : thereC V a s = true) : part0 s = true := by
  unfold thereC firstC at h
  rw [Bool.and_eq_true, Bool.and_eq_true, decide_eq_true_eq] at h
  unfold part0
  rw [h.1.1, decide_eq_true h.1.2.1]
  rfl
/-- The newest checkpoint of an area, gone through as far as the j-th part. -/
def newestTo (K : Rows) (a j : Nat) : Option Ckp := bestC ((((K 0).take j).filter fun s => thereK K s).map fun s => ⟨a, genT s, bytesK K s⟩) none
theorem filter_filter_of {α : Type} (p q : α → Bool) (h : ∀ x, q x = true → p x = true) : ∀ l : List α, (l.filter p).filter q = l.filter q
  | [] => rfl
  | x :: l => by
    have ih := filter_filter_of p q h l
    by_cases hp : p x = true
    · rw [List.filter_cons_of_pos hp, List.filter_cons, List.filter_cons, ih]
    · rw [List.filter_cons_of_neg hp, List.filter_cons, ih]
      rw [if_neg (fun hq => hp (h x hq))]
theorem newestTo_all (V : List View) (a : Nat) : newestTo (rowsC V a) a (rowsC V a 0).length = bestC (candC V a) none := by
  unfold newestTo candC
  rw [List.take_length]
  have e : (rowsC V a 0).filter (fun s => thereK (rowsC V a) s) = ((V.map fun v => v (32 * a)).filter fun s => thereC V a s) := by
    simp only [thereK_is]
    exact filter_filter_of part0 _ (fun x hx => there_part0 hx) _
  rw [e]
  simp only [bytesK_is]
  rfl
theorem best_append (l m : List Ckp) (b : Option Ckp) : bestC (l ++ m) b = bestC m (bestC l b) := List.foldl_append
theorem newestTo_succ {K : Rows} {a j : Nat} {s : List UInt8} (h : (K 0)[j]? = some s) : newestTo K a (j + 1) = if thereK K s = true then newer (newestTo K a j) ⟨a, genT s, bytesK K s⟩ else newestTo K a j := by
  unfold newestTo
  rw [List.take_add_one, h]
  simp only [Option.toList_some, List.filter_append, List.map_append, best_append]
  cases ht : thereK K s with
  | true => simp [ht, bestC]
  | false => simp [ht, bestC]
/-- Of two lists the newest: of each the newest, the first of both if they are as new. -/
def newerO (b : Option Ckp) (c : Option Ckp) : Option Ckp := match c with | none => b | some c => newer b c
theorem newer_comm (b c d : Ckp) : newer (newer (some b) c) d = newerO (some b) (newer (some c) d) := by
  unfold newerO newer
  simp only
  by_cases h1 : b.gen < c.gen
  · rw [if_pos h1]
    simp only
    by_cases h2 : c.gen < d.gen
    · rw [if_pos h2]
      simp only
      rw [if_pos (by omega)]
    · rw [if_neg h2]
      simp only
      rw [if_pos h1]
  · rw [if_neg h1]
    simp only
    by_cases h2 : c.gen < d.gen
    · rw [if_pos h2]
    · rw [if_neg h2]
      simp only
      rw [if_neg h1, if_neg (by omega)]
theorem newer_some (b : Option Ckp) (c : Ckp) : ∃ d, newer b c = some d := by
  unfold newer
  cases b with
  | none => exact ⟨_, rfl⟩
  | some b =>
    simp only
    split
    · exact ⟨_, rfl⟩
    · exact ⟨_, rfl⟩
theorem newerO_some (b : Ckp) (c : Option Ckp) : ∃ d, newerO (some b) c = some d := by
  unfold newerO
  cases c with
  | none => exact ⟨_, rfl⟩
  | some c => exact newer_some _ _
theorem best_from : ∀ (l : List Ckp) (b : Ckp), bestC l (some b) = newerO (some b) (bestC l none)
  | [], b => rfl
  | c :: l, b => by
    have ih := best_from l
    show bestC l (newer (some b) c) = newerO (some b) (bestC l (newer none c))
    have e : newer none c = some c := rfl
    rw [e, ih c]
    obtain ⟨d, hd⟩ := newer_some (some b) c
    rw [hd, ih d]
    cases hb : bestC l none with
    | none =>
      show some d = newer (some b) c
      exact hd.symm
    | some x =>
      show newer (some d) x = newerO (some b) (newer (some c) x)
      rw [← hd]
      exact newer_comm b c x
theorem loadC_is (V : List View) : loadC V = newerO (bestC (candC V 0) none) (bestC (candC V 1) none) := by
  unfold loadC
  rw [best_append]
  cases h : bestC (candC V 0) none with
  | none =>
    unfold newerO
    cases bestC (candC V 1) none with
    | none => rfl
    | some c => rfl
  | some b => exact best_from _ b
/-- The newest of an area stands there. -/
theorem best_area {l : List Ckp} {a : Nat} (h : ∀ c ∈ l, c.area = a) : ∀ (b : Option Ckp), (∀ c, b = some c → c.area = a) → ∀ c, bestC l b = some c → c.area = a := by
  induction l with
  | nil => intro b hb c hc; exact hb c hc
  | cons x l ih =>
    intro b hb c hc
    refine ih (fun c hc => h c (by simp [hc])) (newer b x) (fun d hd => ?_) c hc
    have hx := h x (by simp)
    unfold newer at hd
    cases b with
    | none => injection hd with hd; rw [← hd]; exact hx
    | some b =>
      simp only at hd
      split at hd
      · injection hd with hd; rw [← hd]; exact hx
      · injection hd with hd; rw [← hd]; exact hb b rfl
theorem cand_area {V : List View} {a : Nat} : ∀ c ∈ candC V a, c.area = a := by
  intro c hc
  unfold candC at hc
  obtain ⟨s, _, rfl⟩ := List.mem_map.1 hc
  rfl
/-! ### What Join makes of the pieces -/
/-- The first pieces, one behind the other. -/
def lumpK (K : Rows) (s : List UInt8) (i : Nat) : List UInt8 := (List.range i).flatMap fun i => (pieceK K s i).getD []
def AllLong (K : Rows) : Prop := ∀ i, i < 32 → ∀ s ∈ K i, s.length = 64 ∧ part0 s = true
theorem first_is {s : List UInt8} (h : firstC s = true) : partB s = true ∧ (readT s).nr = 0 ∧ (readT s).part = 0 ∧ ∃ n : Nat, (readT s).parts = (n : Int) ∧ 1 ≤ n ∧ n ≤ 32 := by
  unfold firstC at h
  rw [Bool.and_eq_true, decide_eq_true_eq] at h
  obtain ⟨h1, h2, h3, h4⟩ := h
  have h5 := (right_iff _).1 (part_right h1)
  refine ⟨h1, h2, h3, (readT s).parts.toNat, ?_, ?_, ?_⟩ <;> omega
section
variable {K : Rows} {s : List UInt8} {n : Nat}
theorem piece_long (hK : AllLong K) (hs : s.length = 64) {i : Nat} (hi : i < 32) {x : List UInt8} (h : pieceK K s i = some x) : x.length = 64 := by
  unfold pieceK at h
  split at h
  · injection h with h; rw [← h]; exact hs
  · exact (hK i hi x (List.mem_of_find?_eq_some h)).1
theorem piece_ok0 (hf : firstC s = true) {i : Nat} {x : List UInt8} (h : pieceK K s i = some x) : okT (readT s).gen 0 (readT s).parts.toNat i x = true := by
  unfold pieceK at h
  split at h
  · rename_i h0
    injection h with h
    subst h0
    rw [← h]
    obtain ⟨h1, h2, h3, n, h4, _⟩ := first_is hf
    rw [okT, h1, Bool.true_and, decide_eq_true_eq]
    refine ⟨rfl, h2, by rw [h3]; rfl, ?_⟩
    rw [h4]
    rfl
  · exact List.find?_some h
theorem lump_succ {i : Nat} {x : List UInt8} (h : pieceK K s i = some x) : lumpK K s (i + 1) = lumpK K s i ++ x := by
  unfold lumpK
  rw [List.range_succ, List.flatMap_append]
  simp [h]
theorem lump_length (hK : AllLong K) (hs : s.length = 64) : ∀ i, i ≤ 32 → (∀ k, k < i → ∃ x, pieceK K s k = some x) → (lumpK K s i).length = i * 64
  | 0, _, _ => rfl
  | i + 1, hi, h => by
    obtain ⟨x, hx⟩ := h i (by omega)
    rw [lump_succ hx, List.length_append, lump_length hK hs i (by omega) (fun k hk => h k (by omega)), piece_long hK hs (by omega) hx]
    omega
theorem lump_at (hK : AllLong K) (hs : s.length = 64) : ∀ i, i ≤ 32 → (∀ k, k < i → ∃ x, pieceK K s k = some x) → ∀ k x, k < i → pieceK K s k = some x → secAt (lumpK K s i) k = x
  | 0, _, _, k, x, hk, _ => absurd hk (Nat.not_lt_zero k)
  | i + 1, hi, h, k, x, hk, hx => by
    obtain ⟨y, hy⟩ := h i (by omega)
    have hl := lump_length hK hs i (by omega) (fun k hk => h k (by omega))
    rw [lump_succ hy]
    have hxl := piece_long hK hs (by omega) hx
    unfold secAt
    by_cases e : k = i
    · subst e
      rw [hx] at hy
      injection hy with hy
      subst hy
      rw [List.drop_append, hl]
      have e1 : (lumpK K s k).drop (k * 64) = [] := List.drop_of_length_le (by omega)
      rw [e1, Nat.sub_self, List.nil_append, List.drop_zero]
      exact List.take_of_length_le (by omega)
    · have ih := lump_at hK hs i (by omega) (fun k hk => h k (by omega)) k x (by omega) hx
      unfold secAt at ih
      rw [List.drop_append, List.take_append]
      have h2 : 64 ≤ ((lumpK K s i).drop (k * 64)).length := by rw [List.length_drop, hl]; omega
      have h3 : 64 - ((lumpK K s i).drop (k * 64)).length = 0 := by omega
      rw [h3, List.take_zero, List.append_nil]
      exact ih
/-- All pieces there: Join takes them, and makes the bytes of them. -/
theorem join_lump (hK : AllLong K) (hs : s.length = 64) (hf : firstC s = true) (hn : (readT s).parts = (n : Int)) (h : ∀ k, k < n → ∃ x, pieceK K s k = some x) : joinB (readT s).gen 0 n (lumpK K s n) = true ∧ joinL (readT s).gen 0 n (lumpK K s n) = bytesK K s ∧ thereK K s = true := by
  obtain ⟨h1, h2, h3, n', h4, h5, h6⟩ := first_is hf
  have e : n' = n := by omega
  subst e
  have hall : AllOk (readT s).gen 0 n' (lumpK K s n') n' := fun i hi => by
    obtain ⟨x, hx⟩ := h i hi
    rw [lump_at hK hs n' h6 h i x hi hx]
    have := piece_ok0 hf hx
    rwa [h4, Int.toNat_natCast] at this
  obtain ⟨q1, q2⟩ := join_all hall
  refine ⟨by rw [q1]; exact decide_eq_true (by omega), ?_, ?_⟩
  · rw [q2]
    unfold bytesK
    rw [h4, Int.toNat_natCast]
    apply cat_congr
    intro i hi
    obtain ⟨x, hx⟩ := h i hi
    rw [hx]
    unfold contAt
    rw [lump_at hK hs n' h6 h i x hi hx]
  · unfold thereK
    rw [hf, Bool.true_and, List.all_eq_true]
    intro i hi
    rw [h4, Int.toNat_natCast] at hi
    obtain ⟨x, hx⟩ := h i (List.mem_range.1 hi)
    rw [hx]
    rfl
theorem there_gap (hf : firstC s = true) (hn : (readT s).parts = (n : Int)) {i : Nat} (hi : i < n) (h : pieceK K s i = none) : thereK K s = false := by
  unfold thereK
  rw [hf, Bool.true_and, hn, Int.toNat_natCast]
  cases hb : (List.range n).all fun i => (pieceK K s i).isSome with
  | false => rfl
  | true =>
    rw [List.all_eq_true] at hb
    have := hb i (List.mem_range.2 hi)
    rw [h] at this
    cases this
theorem there_first (hf : firstC s = false) : thereK K s = false := by
  unfold thereK
  rw [hf]
  rfl
end
#print axioms seenC_rows
#print axioms loadC_is
#print axioms join_lump
end Go.Proofs.Ytmjdndhpnckeeaa
