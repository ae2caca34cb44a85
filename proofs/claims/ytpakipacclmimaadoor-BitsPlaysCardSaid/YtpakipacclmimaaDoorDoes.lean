/- What a step on both maps does: they answer the same, and say the same ever after. -/
import Derived.Test.YtpakipacclmimaaDoorClone
import Derived.Deep.RegionWith
import Derived.Outline
namespace Go.Proofs.YtpakipacclmimaaDoor
open Go.RowKit

/-- Nothing that was there has turned but block b and the row r. -/
structure Two (w w' : World) (b : Nat) (r : Option Nat) : Prop where
  os : w'.os = w.os
  tape : w'.tape = w.tape
  output : w'.output = w.output
  size : w.heap.size ≤ w'.heap.size
  block : ∀ k, k < w.heap.size → k ≠ b → some k ≠ r → w'.heap[k]? = w.heap[k]?
section
variable {w w' w'' : World} {b : Nat} {r : Option Nat}
theorem Two.refl : Two w w b r := ⟨rfl, rfl, rfl, Nat.le_refl _, fun _ _ _ _ => rfl⟩
theorem Two.trans (h : Two w w' b r) (k : Two w' w'' b r) : Two w w'' b r :=
  ⟨k.os.trans h.os, k.tape.trans h.tape, k.output.trans h.output, Nat.le_trans h.size k.size, fun i hi h1 h2 => (k.block i (Nat.lt_of_lt_of_le hi h.size) h1 h2).trans (h.block i hi h1 h2)⟩
theorem Two.drew (h : Two w w' b r) : Two w w'.drew b r := ⟨h.os, h.tape, h.output, h.size, h.block⟩
theorem Two.drewN (h : Two w w' b r) (k : Nat) : Two w (w'.drewN k) b r := ⟨h.os, h.tape, h.output, h.size, h.block⟩
theorem Two.below (h : Below w.heap.size w w') : Two w w' b r := ⟨h.os, h.tape, h.output, h.size, fun k hk _ _ => h.block k hk⟩
theorem Two.of_b (h : w.grownBy w' (some b)) : Two w w' b r := ⟨h.os, h.tape, h.output, h.size, fun k hk h1 _ => h.block k hk (fun e => h1 (by injection e))⟩
theorem Two.of_r (h : w.grownBy w' r) : Two w w' b r := ⟨h.os, h.tape, h.output, h.size, fun k hk _ h2 => h.block k hk h2⟩
theorem Two.map {n bo : Nat} {t : Nat → Bool} (h : Two w w' b r) (hm : MapAt w bo n t) (h1 : bo ≠ b) (h2 : some bo ≠ r) : MapAt w' bo n t :=
  ⟨hm.le, hm.out, (h.block bo hm.lt h1 h2).trans hm.blk⟩
theorem Two.tab (h : Two w w' b r) (hT : Tab w) (h1 : 0 ≠ b) (h2 : some 0 ≠ r) : Tab w' := fun j hj => (World.cell?_of_block (h.block 0 hT.pos h1 h2)).trans (hT j hj)
theorem Two.base {a : World} {B : Nat} (h : Two w w' b r) (hb : Below B a w) (hB : B ≤ w.heap.size) (h1 : B ≤ b) (h2 : ∀ k, r = some k → B ≤ k) : Below B a w' :=
  ⟨h.os.trans hb.os, h.tape.trans hb.tape, h.output.trans hb.output, Nat.le_trans hb.size h.size, fun k hk => (h.block k (Nat.lt_of_lt_of_le hk hB) (by omega) (fun e => by have := h2 k e.symm; omega)).trans (hb.block k hk)⟩
theorem Two.ref {B p c n : Nat} {A : Option Addr} {t : Nat → Bool} (h : Two w w' b r) (hr : RefAt w B p A c n t) (h1 : p ≠ b) (h2 : some p ≠ r) (h3 : (Value.slice A n c).ownBlock = none ∨ (Value.slice A n c).ownBlock ≠ r) (h4 : (Value.slice A n c).ownBlock = none ∨ (Value.slice A n c).ownBlock ≠ some b) : RefAt w' B p A c n t := by
  refine ⟨(h.block p hr.blk.lt h1 h2).trans hr.blk, ?_, hr.le, hr.low⟩
  cases hv : (Value.slice A n c).ownBlock with
  | none =>
    refine ⟨hr.row.1, ?_⟩
    rcases hr.row.2 with h5 | ⟨g, cap, cur, h5, _⟩
    · exact .inl h5
    · rw [h5] at hv; simp [Value.ownBlock] at hv
  | some g =>
    have hg : g < w.heap.size := (hr.row.lt g hv).2
    have hgb : g ≠ b := fun e => by
      rcases h4 with h | h
      · rw [hv] at h; cases h
      · rw [hv] at h; exact h (by rw [e])
    have hgr : some g ≠ r := by
      rcases h3 with h | h
      · rw [hv] at h; cases h
      · rw [hv] at h; exact h
    have hblk := h.block g hg hgb hgr
    refine ⟨hr.row.1, ?_⟩
    rcases hr.row.2 with h5 | ⟨g', cap, cur, h5, h6, h7, h8⟩
    · exact .inl h5
    · have e : g' = g := by rw [h5] at hv; simpa [Value.ownBlock] using hv
      subst e
      exact .inr ⟨g', cap, cur, h5, h6, hblk.trans h7, h8⟩
end
def DoesAns (w : World) (b n B p : Nat) (A : Option Addr) (c : Nat) (kind x : Int) : Prop :=
  Calls Tryd.prog 17 #[.pointer (some ⟨b, 0, none⟩), .pointer (some ⟨p, 0, none⟩), .agg #[.int .i64 kind, .int .i64 x]] w fun e w' =>
    e = .returned (.bool true) ∧ ∃ t', MapAt w' b n t' ∧ RefAt w' B p A c n t' ∧ Two w w' b (Value.slice A n c).ownBlock
section
variable {b n B p c : Nat} {A : Option Addr} {t : Nat → Bool} {w : World}
set_option maxRecDepth 100000 in
set_option maxHeartbeats 2000000 in
theorem does_1 (x : Int) (hm : MapAt w b n t) (hr : RefAt w B p A c n t) : DoesAns w b n B p A c 1 x := by
  have h1 := hm.alloc (.cells #[.int .i64 1, .int .i64 x] 30)
  have h2 : RefAt (w.alloc (.cells #[.int .i64 1, .int .i64 x] 30)) B p A c n t := hr.later ((Below.refl _ _).alloc (Nat.le_refl _) _)
  have h3 := Blk.new w 30 #[.int .i64 1, .int .i64 x]
  have h4 : Two w (w.alloc (.cells #[.int .i64 1, .int .i64 x] 30)) b (Value.slice A n c).ownBlock := Two.below ((Below.refl _ _).alloc (Nat.le_refl _) _)
  go_enter Tryd.func17, Tryd.ntmps17
  go_wp2_with fail
  obtain ⟨wB, hwB⟩ : ∃ wB, wB = w.alloc (.cells #[.int .i64 1, .int .i64 x] 30) := ⟨_, rfl⟩
  rw [← hwB] at h1 h2 h3 h4 ⊢
  obtain ⟨o, ho⟩ : ∃ o, o = w.heap.size := ⟨_, rfl⟩
  rw [← ho] at h3 ⊢
  clear hwB ho hm hr
  have hm0 : MapAt wB.drew b n t := h1.drew
  have hr0 : RefAt wB.drew B p A c n t := h2.drewN 1
  have hk0 : Blk wB.drew o 30 #[.int .i64 1, .int .i64 x] := h3.drew
  have hw0 : Two w wB.drew b (Value.slice A n c).ownBlock := h4.drew
  have hc2 : wB.drew.cell? ⟨o, 1, none⟩ = some (.int .i64 x) := hk0.cell 1
  have hc3 : wB.cell? ⟨o, 1, none⟩ = some (.int .i64 x) := h3.cell 1
  clear h1 h2 h3 h4
  go_region_with ((first
    | (go_at_call 22; refine (takeAt_any x hm0).mono ?_; rintro e w1 ⟨rfl, hm1, hg1⟩; have hr1 := RefAt.map hr0 hm0 hg1; have hk1 := hk0.grown hg1 (fun e => map_blk_ne hm0 hk0 (by decide) (by injection e)); have hw1 := hw0.trans (Two.of_b (r := (Value.slice A n c).ownBlock) hg1); have hc4 : w1.cell? ⟨o, 1, none⟩ = some (.int .i64 x) := hk1.cell 1)
    | (go_at_call 22; refine (takeAt_any x hm2).mono ?_; rintro e w1 ⟨rfl, hm1, hg1⟩; have hr1 := RefAt.map hr2 hm2 hg1; have hk1 := hk2.grown hg1 (fun e => map_blk_ne hm2 hk2 (by decide) (by injection e)); have hw1 := hw2.trans (Two.of_b (r := (Value.slice A n c).ownBlock) hg1); have hc4 : w1.cell? ⟨o, 1, none⟩ = some (.int .i64 x) := hk1.cell 1)
    | (go_at_call 28; refine (rtakeAt_any x hr0).mono ?_; rintro e w2 ⟨rfl, hr2, hg2⟩; have hm2 := hm0.grown hg2 (own_map_ne hr0.row hm0 (by decide)); have hk2 := hk0.grown hg2 (own_blk_ne hr0.row hk0 (by decide)); have hw2 := hw0.trans (Two.of_r (b := b) hg2); have hc5 : w2.cell? ⟨o, 1, none⟩ = some (.int .i64 x) := hk2.cell 1)
    | (go_at_call 28; refine (rtakeAt_any x hr1).mono ?_; rintro e w2 ⟨rfl, hr2, hg2⟩; have hm2 := hm1.grown hg2 (own_map_ne hr1.row hm1 (by decide)); have hk2 := hk1.grown hg2 (own_blk_ne hr1.row hk1 (by decide)); have hw2 := hw1.trans (Two.of_r (b := b) hg2); have hc5 : w2.cell? ⟨o, 1, none⟩ = some (.int .i64 x) := hk2.cell 1)))
  all_goals
    clear hc2 hc3 hc4 hc5
    go_wp2
    go_ret
    first | exact ⟨rfl, _, hm2, hr2, hw2⟩ | exact ⟨rfl, _, hm1, hr1, hw1⟩
set_option maxRecDepth 100000 in
set_option maxHeartbeats 2000000 in
theorem does_2 (x : Int) (hm : MapAt w b n t) (hr : RefAt w B p A c n t) : DoesAns w b n B p A c 2 x := by
  have h1 := hm.alloc (.cells #[.int .i64 2, .int .i64 x] 30)
  have h2 : RefAt (w.alloc (.cells #[.int .i64 2, .int .i64 x] 30)) B p A c n t := hr.later ((Below.refl _ _).alloc (Nat.le_refl _) _)
  have h3 := Blk.new w 30 #[.int .i64 2, .int .i64 x]
  have h4 : Two w (w.alloc (.cells #[.int .i64 2, .int .i64 x] 30)) b (Value.slice A n c).ownBlock := Two.below ((Below.refl _ _).alloc (Nat.le_refl _) _)
  go_enter Tryd.func17, Tryd.ntmps17
  go_wp2_with fail
  obtain ⟨wB, hwB⟩ : ∃ wB, wB = w.alloc (.cells #[.int .i64 2, .int .i64 x] 30) := ⟨_, rfl⟩
  rw [← hwB] at h1 h2 h3 h4 ⊢
  obtain ⟨o, ho⟩ : ∃ o, o = w.heap.size := ⟨_, rfl⟩
  rw [← ho] at h3 ⊢
  clear hwB ho hm hr
  have hm0 : MapAt wB.drew b n t := h1.drew
  have hr0 : RefAt wB.drew B p A c n t := h2.drewN 1
  have hk0 : Blk wB.drew o 30 #[.int .i64 2, .int .i64 x] := h3.drew
  have hw0 : Two w wB.drew b (Value.slice A n c).ownBlock := h4.drew
  have hc2 : wB.drew.cell? ⟨o, 1, none⟩ = some (.int .i64 x) := hk0.cell 1
  have hc3 : wB.cell? ⟨o, 1, none⟩ = some (.int .i64 x) := h3.cell 1
  clear h1 h2 h3 h4
  go_region_with ((first
    | (go_at_call 23; refine (free_any x hm0).mono ?_; rintro e w1 ⟨rfl, hm1, hg1⟩; have hr1 := RefAt.map hr0 hm0 hg1; have hk1 := hk0.grown hg1 (fun e => map_blk_ne hm0 hk0 (by decide) (by injection e)); have hw1 := hw0.trans (Two.of_b (r := (Value.slice A n c).ownBlock) hg1); have hc4 : w1.cell? ⟨o, 1, none⟩ = some (.int .i64 x) := hk1.cell 1)
    | (go_at_call 23; refine (free_any x hm2).mono ?_; rintro e w1 ⟨rfl, hm1, hg1⟩; have hr1 := RefAt.map hr2 hm2 hg1; have hk1 := hk2.grown hg1 (fun e => map_blk_ne hm2 hk2 (by decide) (by injection e)); have hw1 := hw2.trans (Two.of_b (r := (Value.slice A n c).ownBlock) hg1); have hc4 : w1.cell? ⟨o, 1, none⟩ = some (.int .i64 x) := hk1.cell 1)
    | (go_at_call 29; refine (rfree_any x hr0).mono ?_; rintro e w2 ⟨rfl, hr2, hg2⟩; have hm2 := hm0.grown hg2 (own_map_ne hr0.row hm0 (by decide)); have hk2 := hk0.grown hg2 (own_blk_ne hr0.row hk0 (by decide)); have hw2 := hw0.trans (Two.of_r (b := b) hg2); have hc5 : w2.cell? ⟨o, 1, none⟩ = some (.int .i64 x) := hk2.cell 1)
    | (go_at_call 29; refine (rfree_any x hr1).mono ?_; rintro e w2 ⟨rfl, hr2, hg2⟩; have hm2 := hm1.grown hg2 (own_map_ne hr1.row hm1 (by decide)); have hk2 := hk1.grown hg2 (own_blk_ne hr1.row hk1 (by decide)); have hw2 := hw1.trans (Two.of_r (b := b) hg2); have hc5 : w2.cell? ⟨o, 1, none⟩ = some (.int .i64 x) := hk2.cell 1)))
  all_goals
    clear hc2 hc3 hc4 hc5
    go_wp2
    go_ret
    first | exact ⟨rfl, _, hm2, hr2, hw2⟩ | exact ⟨rfl, _, hm1, hr1, hw1⟩
theorem has_nat (i : Nat) (hm : MapAt w b n t) :
    Calls Tryd.prog 26 #[.pointer (some ⟨b, 0, none⟩), .int .i64 i] w fun e w' => e = .returned (.bool (t i)) ∧ ∃ k, w' = w.drewN k := by
  by_cases hi : i < n
  · exact has_in i hm hi
  · rw [hm.out i (by omega)]
    exact has_above i hm (by omega)
set_option maxRecDepth 100000 in
set_option maxHeartbeats 2000000 in
theorem does_3 (x : Int) (hm : MapAt w b n t) (hr : RefAt w B p A c n t) (hT : Tab w) : DoesAns w b n B p A c 3 x := by
  have h1 := hm.alloc (.cells #[.int .i64 3, .int .i64 x] 30)
  have h2 : RefAt (w.alloc (.cells #[.int .i64 3, .int .i64 x] 30)) B p A c n t := hr.later ((Below.refl _ _).alloc (Nat.le_refl _) _)
  have h3 := Blk.new w 30 #[.int .i64 3, .int .i64 x]
  have h4 : Two w (w.alloc (.cells #[.int .i64 3, .int .i64 x] 30)) b (Value.slice A n c).ownBlock := Two.below ((Below.refl _ _).alloc (Nat.le_refl _) _)
  have hT1 : Tab (w.alloc (.cells #[.int .i64 3, .int .i64 x] 30)) := hT.later ((Below.refl _ _).alloc (Nat.le_refl _) _)
  go_enter Tryd.func17, Tryd.ntmps17
  go_wp2_with fail
  obtain ⟨wB, hwB⟩ : ∃ wB, wB = w.alloc (.cells #[.int .i64 3, .int .i64 x] 30) := ⟨_, rfl⟩
  rw [← hwB] at h1 h2 h3 h4 hT1 ⊢
  obtain ⟨o, ho⟩ : ∃ o, o = w.heap.size := ⟨_, rfl⟩
  rw [← ho] at h3 ⊢
  clear hwB ho hm hr hT
  have hc3 : wB.cell? ⟨o, 1, none⟩ = some (.int .i64 x) := h3.cell 1
  refine (next_any x h1 hT1).mono ?_
  rintro e w1 ⟨⟨k, ok, rfl, hN1⟩, rfl⟩
  go_wp2_with fail
  refine (rnext_any x h2).mono ?_
  rintro e w1 ⟨⟨k2, ok2, rfl, hN2⟩, rfl⟩
  obtain ⟨rfl, rfl⟩ := hN1.same hN2
  clear hN1 hN2
  go_wp2_with fail
  go_ret
  exact ⟨rfl, _, h1, h2, h4⟩
set_option maxRecDepth 100000 in
set_option maxHeartbeats 2000000 in
theorem does_4n (x : Int) (hx : x < 0) (hm : MapAt w b n t) (hr : RefAt w B p A c n t) (hT : Tab w) : DoesAns w b n B p A c 4 x := by
  have h1 := hm.alloc (.cells #[.int .i64 4, .int .i64 x] 30)
  have h2 : RefAt (w.alloc (.cells #[.int .i64 4, .int .i64 x] 30)) B p A c n t := hr.later ((Below.refl _ _).alloc (Nat.le_refl _) _)
  have h3 := Blk.new w 30 #[.int .i64 4, .int .i64 x]
  have h4 : Two w (w.alloc (.cells #[.int .i64 4, .int .i64 x] 30)) b (Value.slice A n c).ownBlock := Two.below ((Below.refl _ _).alloc (Nat.le_refl _) _)
  have hT1 : Tab (w.alloc (.cells #[.int .i64 4, .int .i64 x] 30)) := hT.later ((Below.refl _ _).alloc (Nat.le_refl _) _)
  go_enter Tryd.func17, Tryd.ntmps17
  go_wp2_with fail
  obtain ⟨wB, hwB⟩ : ∃ wB, wB = w.alloc (.cells #[.int .i64 4, .int .i64 x] 30) := ⟨_, rfl⟩
  rw [← hwB] at h1 h2 h3 h4 hT1 ⊢
  obtain ⟨o, ho⟩ : ∃ o, o = w.heap.size := ⟨_, rfl⟩
  rw [← ho] at h3 ⊢
  clear hwB ho hm hr hT
  have hc3 : wB.cell? ⟨o, 1, none⟩ = some (.int .i64 x) := h3.cell 1
  go_quiet (first | (go_at_call 26; exact quiet_on (has_below x hx)) | (go_at_call 31; exact quiet_as (rhas_below x hx)))
  go_wp2
  go_ret
  exact ⟨rfl, _, h1.drewN _, h2.drewN _, h4.drewN _⟩
set_option maxRecDepth 100000 in
set_option maxHeartbeats 2000000 in
theorem does_4p (x : Nat) (hm : MapAt w b n t) (hr : RefAt w B p A c n t) (hT : Tab w) : DoesAns w b n B p A c 4 (x : Int) := by
  have h1 := hm.alloc (.cells #[.int .i64 4, .int .i64 (x : Int)] 30)
  have h2 : RefAt (w.alloc (.cells #[.int .i64 4, .int .i64 (x : Int)] 30)) B p A c n t := hr.later ((Below.refl _ _).alloc (Nat.le_refl _) _)
  have h3 := Blk.new w 30 #[.int .i64 4, .int .i64 (x : Int)]
  have h4 : Two w (w.alloc (.cells #[.int .i64 4, .int .i64 (x : Int)] 30)) b (Value.slice A n c).ownBlock := Two.below ((Below.refl _ _).alloc (Nat.le_refl _) _)
  have hT1 : Tab (w.alloc (.cells #[.int .i64 4, .int .i64 (x : Int)] 30)) := hT.later ((Below.refl _ _).alloc (Nat.le_refl _) _)
  go_enter Tryd.func17, Tryd.ntmps17
  go_wp2_with fail
  obtain ⟨wB, hwB⟩ : ∃ wB, wB = w.alloc (.cells #[.int .i64 4, .int .i64 (x : Int)] 30) := ⟨_, rfl⟩
  rw [← hwB] at h1 h2 h3 h4 hT1 ⊢
  obtain ⟨o, ho⟩ : ∃ o, o = w.heap.size := ⟨_, rfl⟩
  rw [← ho] at h3 ⊢
  clear hwB ho hm hr hT
  have hc3 : wB.cell? ⟨o, 1, none⟩ = some (.int .i64 (x : Int)) := h3.cell 1
  have ho := h1.out
  go_quiet (first | (go_at_call 26; exact quiet_on (has_nat x (h1.drewN _))) | (go_at_call 31; exact quiet_as (rhas_nat x (h2.drewN _) ho)))
  go_wp2
  go_ret
  exact ⟨rfl, _, h1.drewN _, h2.drewN _, h4.drewN _⟩
set_option maxRecDepth 100000 in
set_option maxHeartbeats 2000000 in
theorem does_else (kind x : Int) (hk : kind ≠ 1 ∧ kind ≠ 2 ∧ kind ≠ 3 ∧ kind ≠ 4) (hm : MapAt w b n t) (hr : RefAt w B p A c n t) (hT : Tab w) : DoesAns w b n B p A c kind x := by
  have hd1 : (kind == (1 : Int)) = false := by simpa using hk.1
  have hd2 : (kind == (2 : Int)) = false := by simpa using hk.2.1
  have hd3 : (kind == (3 : Int)) = false := by simpa using hk.2.2.1
  have hd4 : (kind == (4 : Int)) = false := by simpa using hk.2.2.2
  clear hk
  have h1 := hm.alloc (.cells #[.int .i64 kind, .int .i64 x] 30)
  have h2 : RefAt (w.alloc (.cells #[.int .i64 kind, .int .i64 x] 30)) B p A c n t := hr.later ((Below.refl _ _).alloc (Nat.le_refl _) _)
  have h3 := Blk.new w 30 #[.int .i64 kind, .int .i64 x]
  have h4 : Two w (w.alloc (.cells #[.int .i64 kind, .int .i64 x] 30)) b (Value.slice A n c).ownBlock := Two.below ((Below.refl _ _).alloc (Nat.le_refl _) _)
  have hT1 : Tab (w.alloc (.cells #[.int .i64 kind, .int .i64 x] 30)) := hT.later ((Below.refl _ _).alloc (Nat.le_refl _) _)
  go_enter Tryd.func17, Tryd.ntmps17
  go_wp2_with fail
  obtain ⟨wB, hwB⟩ : ∃ wB, wB = w.alloc (.cells #[.int .i64 kind, .int .i64 x] 30) := ⟨_, rfl⟩
  rw [← hwB] at h1 h2 h3 h4 hT1 ⊢
  obtain ⟨o, ho⟩ : ∃ o, o = w.heap.size := ⟨_, rfl⟩
  rw [← ho] at h3 ⊢
  clear hwB ho hm hr hT
  have hc3 : wB.cell? ⟨o, 1, none⟩ = some (.int .i64 x) := h3.cell 1
  refine (take_any h1 hT1).mono ?_
  rintro e w1 ⟨k, ok, rfl, hN1, hm1, hg1⟩
  have hr1 := RefAt.map h2 h1 hg1
  have hw1 := h4.trans (Two.of_b (r := (Value.slice A n c).ownBlock) hg1)
  clear hc3 h1 h2 h3 h4 hT1
  go_wp2_with fail
  refine (rtake_any hr1).mono ?_
  rintro e w2 ⟨k2, ok2, rfl, hN2, hr2, hg2⟩
  obtain ⟨rfl, rfl⟩ := hN1.same hN2
  have hm2 := hm1.grown hg2 (own_map_ne hr1.row hm1 (by decide))
  have hw2 := hw1.trans (Two.of_r (b := b) hg2)
  clear hN1 hN2 hm1 hr1 hw1 hg1 hg2
  go_wp2_with fail
  go_ret
  exact ⟨rfl, _, hm2, hr2, hw2⟩
theorem does_any (kind x : Int) (hm : MapAt w b n t) (hr : RefAt w B p A c n t) (hT : Tab w) : DoesAns w b n B p A c kind x := by
  by_cases h1 : kind = 1
  · subst h1; exact does_1 x hm hr
  by_cases h2 : kind = 2
  · subst h2; exact does_2 x hm hr
  by_cases h3 : kind = 3
  · subst h3; exact does_3 x hm hr hT
  by_cases h4 : kind = 4
  · subst h4
    rcases Int.lt_or_le x 0 with hx | hx
    · exact does_4n x hx hm hr hT
    · obtain ⟨x, rfl⟩ := Int.eq_ofNat_of_zero_le hx
      exact does_4p x hm hr hT
  · exact does_else kind x ⟨h1, h2, h3, h4⟩ hm hr hT
end
#print axioms does_any
end Go.Proofs.YtpakipacclmimaaDoor
