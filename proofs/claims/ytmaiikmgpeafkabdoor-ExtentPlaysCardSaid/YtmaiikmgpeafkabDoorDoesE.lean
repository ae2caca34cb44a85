/- What a step on both maps of members does: they answer the same, and say the same ever after. -/
import Derived.Test.YtmaiikmgpeafkabDoorExtCl
import Derived.Test.YtmaiikmgpeafkabDoorExtL
import Derived.Test.YtmaiikmgpeafkabDoorRefC
import Derived.Deep.RegionHeld3
import Derived.Outline
namespace Go.Proofs.YtmaiikmgpeafkabDoor
open Go.RowKit

/-- The program's map and the reference's say the same; no block is of both. -/
structure TwoE (w : World) (b r : Nat) (F G : Nat → Prop) (S : Ext) : Prop where
  one : ExtOn w b F S
  two : RefOnE w r G S
  apart : ∀ y, F y → ¬ G y
  tab : Tab w
/-- They are turned, and say the same. -/
def TurnsE (w w' : World) (b r : Nat) (F G : Nat → Prop) (S : Ext) : Prop := ∃ S' F' G', TwoE w' b r F' G' S' ∧ S'.ks.length ≤ S.ks.length + 1 ∧ (∀ y, F' y → F y ∨ w.heap.size ≤ y) ∧ (∀ y, G' y → G y ∨ w.heap.size ≤ y) ∧ Turn (fun y => F y ∨ G y) w w'
section
variable {w w' w0 w1 w2 : World} {b r : Nat} {F G F1 G1 : Nat → Prop} {S S' : Ext}
theorem TwoE.lt1 (h : TwoE w b r F G S) {y : Nat} (hy : F y) : 0 < y ∧ y < w.heap.size := h.one.1 y hy
theorem TwoE.lt2 (h : TwoE w b r F G S) {y : Nat} (hy : G y) : 0 < y ∧ y < w.heap.size := h.two.1 y hy
theorem TwoE.no0 (h : TwoE w b r F G S) : ¬ (F 0 ∨ G 0) := fun e => by
  rcases e with e | e
  · have := (h.lt1 e).1; omega
  · have := (h.lt2 e).1; omega
theorem TwoE.later (h : TwoE w b r F G S) (hb : Below w.heap.size w w') : TwoE w' b r F G S :=
  ⟨h.one.later hb, h.two.later hb, h.apart, h.tab.turned (Turn.of_below (F := F) hb) (fun e => h.no0 (.inl e))⟩
/-- Both calls, the program's first. -/
theorem two_end (h : TwoE w0 b r F G S) (o1 : ExtOn w1 b F1 S') (t1 : Turn F w0 w1) (hF : ∀ y, F1 y → F y ∨ (w0.heap.size ≤ y ∧ y < w1.heap.size)) (o2 : RefOnE w2 r G1 S') (t2 : Turn G w1 w2) (hG : ∀ y, G1 y → G y ∨ (w1.heap.size ≤ y ∧ y < w2.heap.size))
    (hl : S'.ks.length ≤ S.ks.length + 1) : TurnsE w0 w2 b r F G S := by
  have z1 := t1.size
  have z2 := t2.size
  refine ⟨S', F1, G1, ⟨o1.kept t2 (fun y hy hg => ?_), o2, fun y hy hg => ?_, (h.tab.turned t1 (fun e => h.no0 (.inl e))).turned t2 (fun e => h.no0 (.inr e))⟩, hl, fun y hy => ?_, fun y hy => ?_, (t1.wider (fun _ => .inl)).trans (t2.wider (fun _ => .inr))⟩
  · rcases hF y hy with e | e
    · exact h.apart y e hg
    · have := (h.lt2 hg).2; omega
  · rcases hF y hy with e | e <;> rcases hG y hg with k | k
    · exact h.apart y e k
    · have := (h.lt1 e).2; omega
    · have := (h.lt2 k).2; omega
    · omega
  · rcases hF y hy with e | e
    · exact .inl e
    · exact .inr e.1
  · rcases hG y hy with e | e
    · exact .inl e
    · exact .inr (by omega)
/-- .. the reference's first. -/
theorem two_end' (h : TwoE w0 b r F G S) (o2 : RefOnE w1 r G1 S') (t2 : Turn G w0 w1) (hG : ∀ y, G1 y → G y ∨ (w0.heap.size ≤ y ∧ y < w1.heap.size)) (o1 : ExtOn w2 b F1 S') (t1 : Turn F w1 w2) (hF : ∀ y, F1 y → F y ∨ (w1.heap.size ≤ y ∧ y < w2.heap.size))
    (hl : S'.ks.length ≤ S.ks.length + 1) : TurnsE w0 w2 b r F G S := by
  have z1 := t1.size
  have z2 := t2.size
  refine ⟨S', F1, G1, ⟨o1, o2.kept t1 (fun y hy hg => ?_), fun y hy hg => ?_, (h.tab.turned t2 (fun e => h.no0 (.inr e))).turned t1 (fun e => h.no0 (.inl e))⟩, hl, fun y hy => ?_, fun y hy => ?_, (t2.wider (fun _ => .inr)).trans (t1.wider (fun _ => .inl))⟩
  · rcases hG y hy with e | e
    · exact h.apart y hg e
    · have := (h.lt1 hg).2; omega
  · rcases hF y hy with e | e <;> rcases hG y hg with k | k
    · exact h.apart y e k
    · have := (h.lt1 e).2; omega
    · have := (h.lt2 k).2; omega
    · omega
  · rcases hF y hy with e | e
    · exact .inl e
    · exact .inr (by omega)
  · rcases hG y hy with e | e
    · exact .inl e
    · exact .inr e.1
/-- What went before made blocks alone. -/
theorem TurnsE.behind (h : TurnsE w0 w' b r F G S) (hb : Below w.heap.size w w0) : TurnsE w w' b r F G S := by
  obtain ⟨S', F', G', h1, h2, h3, h4, h5⟩ := h
  have z := hb.size
  exact ⟨S', F', G', h1, h2, fun y hy => (h3 y hy).imp id (fun e => by omega), fun y hy => (h4 y hy).imp id (fun e => by omega), (Turn.of_below hb).trans h5⟩
theorem poke_len (S : Ext) (d p : Int) (v : Bool) : (S.poke d p v).ks.length ≤ S.ks.length + 1 := by
  unfold Ext.poke
  split
  · exact Nat.le_succ _
  · exact Nat.le_succ _
theorem more_len (S : Ext) (d s : Int) : (S.more d s).ks.length ≤ S.ks.length + 1 := by
  unfold Ext.more
  split
  · show (S.ks ++ [d.toNat]).length ≤ _
    rw [List.length_append]
    exact Nat.le_refl _
  · exact Nat.le_succ _
theorem take_once {d : Int} {v v' : Value} {S S' S2 : Ext} (h : TakeE S d v S') (k : TakeE S d v' S2) : v = v' ∧ S' = S2 := by
  rcases h with ⟨h1, rfl, rfl⟩ | ⟨m, rfl, hm, h2, rfl, rfl⟩ | ⟨m, i, rfl, hm, h2, h3, h4, rfl, rfl⟩
  · rcases k with ⟨_, rfl, rfl⟩ | ⟨m, rfl, hm, _⟩ | ⟨m, i, rfl, hm, _⟩
    · exact ⟨rfl, rfl⟩
    · rw [inE_of hm] at h1; cases h1
    · rw [inE_of hm] at h1; cases h1
  · rcases k with ⟨h1, _⟩ | ⟨m', hmm, _, _, rfl, rfl⟩ | ⟨m', i, hmm, hm', k2, k3, _⟩
    · rw [inE_of hm] at h1; cases h1
    · exact ⟨rfl, rfl⟩
    · have e : m = m' := by omega
      subst e
      rw [h2 i k2] at k3
      cases k3
  · rcases k with ⟨h1, _⟩ | ⟨m', hmm, _, k2, _⟩ | ⟨m', j, hmm, _, k2, k3, k4, rfl, rfl⟩
    · rw [inE_of hm] at h1; cases h1
    · have e : m = m' := by omega
      subst e
      rw [k2 i h2] at h3
      cases h3
    · have e : m = m' := by omega
      subst e
      have ij : i = j := by
        rcases Nat.lt_trichotomy i j with e | e | e
        · rw [k4 i e] at h3; cases h3
        · exact e
        · rw [h4 j e] at k3; cases k3
      subst ij
      exact ⟨rfl, rfl⟩
theorem take_form {d : Int} {v : Value} {S S' : Ext} (h : TakeE S d v S') : S'.ks.length = S.ks.length ∧ ∃ x y c : Int, v = .tuple #[.agg #[.int .i64 x, .int .i64 y], .int .i64 c] := by
  rcases h with ⟨_, rfl, rfl⟩ | ⟨_, _, _, _, rfl, rfl⟩ | ⟨_, _, rfl, _, _, _, _, rfl, rfl⟩
  · exact ⟨rfl, _, _, _, rfl⟩
  · exact ⟨rfl, _, _, _, rfl⟩
  · exact ⟨rfl, _, _, _, rfl⟩
end
def DoesE (w : World) (b r : Nat) (F G : Nat → Prop) (S : Ext) (k d n : Int) : Prop :=
  Calls Tryd.prog 9 #[.pointer (some ⟨b, 0, none⟩), .pointer (some ⟨r, 0, none⟩), .agg #[.int .i64 k, .int .i64 d, .int .i64 n]] w fun e w' => e = .returned (.bool true) ∧ TurnsE w w' b r F G S
section
variable {w : World} {b r : Nat} {F G : Nat → Prop} {S : Ext}
set_option maxRecDepth 100000 in
set_option maxHeartbeats 2000000 in
theorem doesE_1 (h : TwoE w b r F G S) (hf : S.ks.length < 999999) (d n : Int) (_h1 : -9223372036854775808 ≤ n) (_h2 : n < 9223372036854775808) (g1 : -9223372036854775808 ≤ d) (g2 : d < 9223372036854775808) : DoesE w b r F G S 1 d n := by
  obtain ⟨wB, hwB⟩ : ∃ x, x = w.alloc (.cells #[.int .i64 1, .int .i64 d, .int .i64 n] 29) := ⟨_, rfl⟩
  obtain ⟨wE, hwE⟩ : ∃ x, x = wB.alloc (.cells #[.int .i64 d, .int .i64 n] 36) := ⟨_, rfl⟩
  have zB : wB.heap.size = w.heap.size + 1 := by rw [hwB]; exact World.size_alloc _ _
  have kB : Blk wB w.heap.size 29 #[.int .i64 1, .int .i64 d, .int .i64 n] := by rw [hwB]; exact Blk.new _ _ _
  have kE : Blk wE wB.heap.size 36 #[.int .i64 d, .int .i64 n] := by rw [hwE]; exact Blk.new _ _ _
  have lB : Below w.heap.size w wB := by rw [hwB]; exact (Below.refl _ w).alloc (Nat.le_refl _) _
  have lE : Below wB.heap.size wB wE := by rw [hwE]; exact (Below.refl _ wB).alloc (Nat.le_refl _) _
  have kB' : Blk wE w.heap.size 29 #[.int .i64 1, .int .i64 d, .int .i64 n] := kB.of_block (lE.block _ (by omega))
  have lW : Below w.heap.size w wE := lB.trans (lE.mono (by omega))
  have zE : wE.heap.size = w.heap.size + 2 := by rw [hwE, World.size_alloc, zB]
  have HW := hide (h.later lW)
  have hF0 : ∀ y, w.heap.size ≤ y → ¬ (F y ∨ G y) := fun y hy e => by
    rcases e with e | e
    · have := (h.lt1 e).2; omega
    · have := (h.lt2 e).2; omega
  have HF0 := hide hF0
  have HLW := hide lW
  have e4 : (w.alloc (.cells #[.int .i64 1, .int .i64 d, .int .i64 n] 29)).alloc (.cells #[.int .i64 d, .int .i64 n] 36) = wE := by rw [hwE, hwB]
  have HE4 := hide e4
  have HZ := hide zE
  rw [zB] at kE
  have HKB := hide kB'
  have HKE := hide kE
  have HL1 := hide hf
  clear h zB kB kE lB lE kB' lW zE hF0 hf hwB hwE e4
  unfold DoesE
  go_enter Tryd.func9, Tryd.ntmps9
  go_wp2_with fail
  rw [HE4.out]
  obtain ⟨w0, hw0⟩ : ∃ x, x = wE.drew := ⟨_, rfl⟩
  have HW0 : Hid (TwoE w0 b r F G S) := hide (by rw [hw0]; exact HW.out.later ((Below.refl _ wE).drew))
  have HL0 : Hid (Below w.heap.size w w0) := hide (by rw [hw0]; exact HLW.out.drew)
  have HKT : Hid (∀ W, Turn (fun y => F y ∨ G y) w0 W → W.cell? ⟨w.heap.size, 1, none⟩ = some (.int .i64 d) ∧ W.cell? ⟨w.heap.size, 2, none⟩ = some (.int .i64 n)) := hide (fun W hu => by
    have hz := HZ.out
    have z0 : w0.heap.size = w.heap.size + 2 := by rw [hw0]; exact hz
    have k1 : Blk w0 w.heap.size 29 #[.int .i64 1, .int .i64 d, .int .i64 n] := by rw [hw0]; exact HKB.out
    have k2 : Blk w0 (w.heap.size + 1) 36 #[.int .i64 d, .int .i64 n] := by rw [hw0]; exact HKE.out
    have j1 : Blk W w.heap.size 29 #[.int .i64 1, .int .i64 d, .int .i64 n] := k1.of_block (hu.block _ (by omega) (HF0.out _ (Nat.le_refl _)))
    have j2 : Blk W (w.heap.size + 1) 36 #[.int .i64 d, .int .i64 n] := k2.of_block (hu.block _ (by omega) (HF0.out _ (by omega)))
    exact ⟨j1.cell 1, j1.cell 2⟩)
  have hT0 : Turn (fun y => F y ∨ G y) w0 wE.drew := by rw [hw0]; exact Turn.refl _ _
  have HOP : Hid (ExtOn wE.drew b F S) := hide (by rw [← hw0]; exact HW0.out.one)
  have HOR : Hid (RefOnE wE.drew r G S) := hide (by rw [← hw0]; exact HW0.out.two)
  have HTP : Hid (∀ W, Turn F wE.drew W → Turn F w0 W) := hide (by rw [hw0]; exact fun _ h => h)
  have HTR : Hid (∀ W, Turn G wE.drew W → Turn G w0 W) := hide (by rw [hw0]; exact fun _ h => h)
  have HGR : Hid (wE.drew = w0) := hide hw0.symm
  clear hw0 HE4
  go_region_held3 (fun W => W.cell? ⟨w.heap.size, 1, none⟩ = some (.int .i64 d) ∧ W.cell? ⟨w.heap.size, 2, none⟩ = some (.int .i64 n)) (first | exact HKT.out _ (by assumption)) (first
    | ((go_at_call 11; refine (on_add hpB HL1.out d n g1 g2).mono ?_; rintro _ w2 ⟨rfl, ho2, ht2⟩; have hT2 := hT1.trans (ht2.wider (fun _ => Or.inl)); have HEND := hide (two_end' HW0.out ho1 ht1 (fun y hy => hy) ho2 ht2 (fun y hy => hy) (more_len _ _ _)); clear hpB ho2 ht2))
    | ((go_at_call 17; refine (rOnE_add hrA HL1.out d n g1 g2).mono ?_; rintro _ w2 ⟨rfl, ho2, ht2⟩; have hT2 := hT1.trans (ht2.wider (fun _ => Or.inr)); have HEND := hide (two_end HW0.out ho1 ht1 (fun y hy => hy) ho2 ht2 (fun y hy => hy) (more_len _ _ _)); clear hrA ho2 ht2))
    | ((go_at_call 11; refine (on_add HOP.out HL1.out d n g1 g2).mono ?_; rintro _ w1 ⟨rfl, ho1, ht1⟩; rw [HGR.out] at ho1 ht1; have hrA := HW0.out.two.kept ht1 (fun y hy hg => HW0.out.apart y hg hy); have hT1 : Turn (fun y => F y ∨ G y) w0 w1 := ht1.wider (fun _ => Or.inl)))
    | ((go_at_call 17; refine (rOnE_add HOR.out HL1.out d n g1 g2).mono ?_; rintro _ w1 ⟨rfl, ho1, ht1⟩; rw [HGR.out] at ho1 ht1; have hpB := HW0.out.one.kept ht1 (fun y hy hg => HW0.out.apart y hy hg); have hT1 : Turn (fun y => F y ∨ G y) w0 w1 := ht1.wider (fun _ => Or.inr))))
  all_goals
    go_wp2
    go_ret
    exact ⟨rfl, HEND.out.behind HL0.out⟩
set_option maxRecDepth 100000 in
set_option maxHeartbeats 2000000 in
theorem doesE_3 (h : TwoE w b r F G S) (hf : S.ks.length < 999999) (d n : Int) (h1 : -9223372036854775808 ≤ n) (h2 : n < 9223372036854775808) (g1 : -9223372036854775808 ≤ d) (g2 : d < 9223372036854775808) : DoesE w b r F G S 3 d n := by
  obtain ⟨wB, hwB⟩ : ∃ x, x = w.alloc (.cells #[.int .i64 3, .int .i64 d, .int .i64 n] 29) := ⟨_, rfl⟩
  obtain ⟨wE, hwE⟩ : ∃ x, x = wB.alloc (.cells #[.int .i64 d, .int .i64 n] 36) := ⟨_, rfl⟩
  have zB : wB.heap.size = w.heap.size + 1 := by rw [hwB]; exact World.size_alloc _ _
  have kB : Blk wB w.heap.size 29 #[.int .i64 3, .int .i64 d, .int .i64 n] := by rw [hwB]; exact Blk.new _ _ _
  have kE : Blk wE wB.heap.size 36 #[.int .i64 d, .int .i64 n] := by rw [hwE]; exact Blk.new _ _ _
  have lB : Below w.heap.size w wB := by rw [hwB]; exact (Below.refl _ w).alloc (Nat.le_refl _) _
  have lE : Below wB.heap.size wB wE := by rw [hwE]; exact (Below.refl _ wB).alloc (Nat.le_refl _) _
  have kB' : Blk wE w.heap.size 29 #[.int .i64 3, .int .i64 d, .int .i64 n] := kB.of_block (lE.block _ (by omega))
  have lW : Below w.heap.size w wE := lB.trans (lE.mono (by omega))
  have zE : wE.heap.size = w.heap.size + 2 := by rw [hwE, World.size_alloc, zB]
  have HW := hide (h.later lW)
  have hF0 : ∀ y, w.heap.size ≤ y → ¬ (F y ∨ G y) := fun y hy e => by
    rcases e with e | e
    · have := (h.lt1 e).2; omega
    · have := (h.lt2 e).2; omega
  have HF0 := hide hF0
  have HLW := hide lW
  have e4 : (w.alloc (.cells #[.int .i64 3, .int .i64 d, .int .i64 n] 29)).alloc (.cells #[.int .i64 d, .int .i64 n] 36) = wE := by rw [hwE, hwB]
  have HE4 := hide e4
  have HZ := hide zE
  rw [zB] at kE
  have HKB := hide kB'
  have HKE := hide kE
  have HL1 := hide hf
  clear h zB kB kE lB lE kB' lW zE hF0 hf hwB hwE e4
  unfold DoesE
  go_enter Tryd.func9, Tryd.ntmps9
  go_wp2_with fail
  rw [HE4.out]
  obtain ⟨w0, hw0⟩ : ∃ x, x = wE.drew := ⟨_, rfl⟩
  have HW0 : Hid (TwoE w0 b r F G S) := hide (by rw [hw0]; exact HW.out.later ((Below.refl _ wE).drew))
  have HL0 : Hid (Below w.heap.size w w0) := hide (by rw [hw0]; exact HLW.out.drew)
  have HKT : Hid (∀ W, Turn (fun y => F y ∨ G y) w0 W → W.cell? ⟨w.heap.size + 1, 0, none⟩ = some (.int .i64 d) ∧ W.cell? ⟨w.heap.size + 1, 1, none⟩ = some (.int .i64 n)) := hide (fun W hu => by
    have hz := HZ.out
    have z0 : w0.heap.size = w.heap.size + 2 := by rw [hw0]; exact hz
    have k1 : Blk w0 w.heap.size 29 #[.int .i64 3, .int .i64 d, .int .i64 n] := by rw [hw0]; exact HKB.out
    have k2 : Blk w0 (w.heap.size + 1) 36 #[.int .i64 d, .int .i64 n] := by rw [hw0]; exact HKE.out
    have j1 : Blk W w.heap.size 29 #[.int .i64 3, .int .i64 d, .int .i64 n] := k1.of_block (hu.block _ (by omega) (HF0.out _ (Nat.le_refl _)))
    have j2 : Blk W (w.heap.size + 1) 36 #[.int .i64 d, .int .i64 n] := k2.of_block (hu.block _ (by omega) (HF0.out _ (by omega)))
    exact ⟨j2.cell 0, j2.cell 1⟩)
  have hT0 : Turn (fun y => F y ∨ G y) w0 wE.drew := by rw [hw0]; exact Turn.refl _ _
  have HOP : Hid (ExtOn wE.drew b F S) := hide (by rw [← hw0]; exact HW0.out.one)
  have HOR : Hid (RefOnE wE.drew r G S) := hide (by rw [← hw0]; exact HW0.out.two)
  have HTP : Hid (∀ W, Turn F wE.drew W → Turn F w0 W) := hide (by rw [hw0]; exact fun _ h => h)
  have HTR : Hid (∀ W, Turn G wE.drew W → Turn G w0 W) := hide (by rw [hw0]; exact fun _ h => h)
  have HGR : Hid (wE.drew = w0) := hide hw0.symm
  clear hw0 HE4
  go_region_held3 (fun W => W.cell? ⟨w.heap.size + 1, 0, none⟩ = some (.int .i64 d) ∧ W.cell? ⟨w.heap.size + 1, 1, none⟩ = some (.int .i64 n)) (first | exact HKT.out _ (by assumption)) (first
    | ((go_at_call 18; refine (on_takeAt hpB d n h1 h2 g1 g2).mono ?_; rintro _ w2 ⟨rfl, ho2, ht2⟩; have hT2 := hT1.trans (ht2.wider (fun _ => Or.inl)); have HEND := hide (two_end' HW0.out ho1 ht1 (fun y hy => .inl hy) ho2 ht2 (fun y hy => .inl hy) (poke_len _ _ _ _)); clear hpB ho2 ht2))
    | ((go_at_call 19; refine (rOnE_takeAt hrA d n h1 h2 g1 g2).mono ?_; rintro _ w2 ⟨rfl, ho2, ht2⟩; have hT2 := hT1.trans (ht2.wider (fun _ => Or.inr)); have HEND := hide (two_end HW0.out ho1 ht1 (fun y hy => .inl hy) ho2 ht2 (fun y hy => .inl hy) (poke_len _ _ _ _)); clear hrA ho2 ht2))
    | ((go_at_call 18; refine (on_takeAt HOP.out d n h1 h2 g1 g2).mono ?_; rintro _ w1 ⟨rfl, ho1, ht1⟩; rw [HGR.out] at ht1; have hrA := HW0.out.two.kept ht1 (fun y hy hg => HW0.out.apart y hg hy); have hT1 : Turn (fun y => F y ∨ G y) w0 w1 := ht1.wider (fun _ => Or.inl)))
    | ((go_at_call 19; refine (rOnE_takeAt HOR.out d n h1 h2 g1 g2).mono ?_; rintro _ w1 ⟨rfl, ho1, ht1⟩; rw [HGR.out] at ht1; have hpB := HW0.out.one.kept ht1 (fun y hy hg => HW0.out.apart y hy hg); have hT1 : Turn (fun y => F y ∨ G y) w0 w1 := ht1.wider (fun _ => Or.inr))))
  all_goals
    go_wp2
    go_ret
    exact ⟨rfl, HEND.out.behind HL0.out⟩
set_option maxRecDepth 100000 in
set_option maxHeartbeats 2000000 in
theorem doesE_4 (h : TwoE w b r F G S) (hf : S.ks.length < 999999) (d n : Int) (h1 : -9223372036854775808 ≤ n) (h2 : n < 9223372036854775808) (g1 : -9223372036854775808 ≤ d) (g2 : d < 9223372036854775808) : DoesE w b r F G S 4 d n := by
  obtain ⟨wB, hwB⟩ : ∃ x, x = w.alloc (.cells #[.int .i64 4, .int .i64 d, .int .i64 n] 29) := ⟨_, rfl⟩
  obtain ⟨wE, hwE⟩ : ∃ x, x = wB.alloc (.cells #[.int .i64 d, .int .i64 n] 36) := ⟨_, rfl⟩
  have zB : wB.heap.size = w.heap.size + 1 := by rw [hwB]; exact World.size_alloc _ _
  have kB : Blk wB w.heap.size 29 #[.int .i64 4, .int .i64 d, .int .i64 n] := by rw [hwB]; exact Blk.new _ _ _
  have kE : Blk wE wB.heap.size 36 #[.int .i64 d, .int .i64 n] := by rw [hwE]; exact Blk.new _ _ _
  have lB : Below w.heap.size w wB := by rw [hwB]; exact (Below.refl _ w).alloc (Nat.le_refl _) _
  have lE : Below wB.heap.size wB wE := by rw [hwE]; exact (Below.refl _ wB).alloc (Nat.le_refl _) _
  have kB' : Blk wE w.heap.size 29 #[.int .i64 4, .int .i64 d, .int .i64 n] := kB.of_block (lE.block _ (by omega))
  have lW : Below w.heap.size w wE := lB.trans (lE.mono (by omega))
  have zE : wE.heap.size = w.heap.size + 2 := by rw [hwE, World.size_alloc, zB]
  have HW := hide (h.later lW)
  have hF0 : ∀ y, w.heap.size ≤ y → ¬ (F y ∨ G y) := fun y hy e => by
    rcases e with e | e
    · have := (h.lt1 e).2; omega
    · have := (h.lt2 e).2; omega
  have HF0 := hide hF0
  have HLW := hide lW
  have e4 : (w.alloc (.cells #[.int .i64 4, .int .i64 d, .int .i64 n] 29)).alloc (.cells #[.int .i64 d, .int .i64 n] 36) = wE := by rw [hwE, hwB]
  have HE4 := hide e4
  have HZ := hide zE
  rw [zB] at kE
  have HKB := hide kB'
  have HKE := hide kE
  have HL1 := hide hf
  clear h zB kB kE lB lE kB' lW zE hF0 hf hwB hwE e4
  unfold DoesE
  go_enter Tryd.func9, Tryd.ntmps9
  go_wp2_with fail
  rw [HE4.out]
  obtain ⟨w0, hw0⟩ : ∃ x, x = wE.drew := ⟨_, rfl⟩
  have HW0 : Hid (TwoE w0 b r F G S) := hide (by rw [hw0]; exact HW.out.later ((Below.refl _ wE).drew))
  have HL0 : Hid (Below w.heap.size w w0) := hide (by rw [hw0]; exact HLW.out.drew)
  have HKT : Hid (∀ W, Turn (fun y => F y ∨ G y) w0 W → W.cell? ⟨w.heap.size + 1, 0, none⟩ = some (.int .i64 d) ∧ W.cell? ⟨w.heap.size + 1, 1, none⟩ = some (.int .i64 n)) := hide (fun W hu => by
    have hz := HZ.out
    have z0 : w0.heap.size = w.heap.size + 2 := by rw [hw0]; exact hz
    have k1 : Blk w0 w.heap.size 29 #[.int .i64 4, .int .i64 d, .int .i64 n] := by rw [hw0]; exact HKB.out
    have k2 : Blk w0 (w.heap.size + 1) 36 #[.int .i64 d, .int .i64 n] := by rw [hw0]; exact HKE.out
    have j1 : Blk W w.heap.size 29 #[.int .i64 4, .int .i64 d, .int .i64 n] := k1.of_block (hu.block _ (by omega) (HF0.out _ (Nat.le_refl _)))
    have j2 : Blk W (w.heap.size + 1) 36 #[.int .i64 d, .int .i64 n] := k2.of_block (hu.block _ (by omega) (HF0.out _ (by omega)))
    exact ⟨j2.cell 0, j2.cell 1⟩)
  have hT0 : Turn (fun y => F y ∨ G y) w0 wE.drew := by rw [hw0]; exact Turn.refl _ _
  have HOP : Hid (ExtOn wE.drew b F S) := hide (by rw [← hw0]; exact HW0.out.one)
  have HOR : Hid (RefOnE wE.drew r G S) := hide (by rw [← hw0]; exact HW0.out.two)
  have HTP : Hid (∀ W, Turn F wE.drew W → Turn F w0 W) := hide (by rw [hw0]; exact fun _ h => h)
  have HTR : Hid (∀ W, Turn G wE.drew W → Turn G w0 W) := hide (by rw [hw0]; exact fun _ h => h)
  have HGR : Hid (wE.drew = w0) := hide hw0.symm
  clear hw0 HE4
  go_region_held3 (fun W => W.cell? ⟨w.heap.size + 1, 0, none⟩ = some (.int .i64 d) ∧ W.cell? ⟨w.heap.size + 1, 1, none⟩ = some (.int .i64 n)) (first | exact HKT.out _ (by assumption)) (first
    | ((go_at_call 20; refine (on_free hpB d n h1 h2 g1 g2).mono ?_; rintro _ w2 ⟨rfl, ho2, ht2⟩; have hT2 := hT1.trans (ht2.wider (fun _ => Or.inl)); have HEND := hide (two_end' HW0.out ho1 ht1 (fun y hy => .inl hy) ho2 ht2 (fun y hy => .inl hy) (poke_len _ _ _ _)); clear hpB ho2 ht2))
    | ((go_at_call 21; refine (rOnE_free hrA d n h1 h2 g1 g2).mono ?_; rintro _ w2 ⟨rfl, ho2, ht2⟩; have hT2 := hT1.trans (ht2.wider (fun _ => Or.inr)); have HEND := hide (two_end HW0.out ho1 ht1 (fun y hy => .inl hy) ho2 ht2 (fun y hy => .inl hy) (poke_len _ _ _ _)); clear hrA ho2 ht2))
    | ((go_at_call 20; refine (on_free HOP.out d n h1 h2 g1 g2).mono ?_; rintro _ w1 ⟨rfl, ho1, ht1⟩; rw [HGR.out] at ht1; have hrA := HW0.out.two.kept ht1 (fun y hy hg => HW0.out.apart y hg hy); have hT1 : Turn (fun y => F y ∨ G y) w0 w1 := ht1.wider (fun _ => Or.inl)))
    | ((go_at_call 21; refine (rOnE_free HOR.out d n h1 h2 g1 g2).mono ?_; rintro _ w1 ⟨rfl, ho1, ht1⟩; rw [HGR.out] at ht1; have hpB := HW0.out.one.kept ht1 (fun y hy hg => HW0.out.apart y hy hg); have hT1 : Turn (fun y => F y ∨ G y) w0 w1 := ht1.wider (fun _ => Or.inr))))
  all_goals
    go_wp2
    go_ret
    exact ⟨rfl, HEND.out.behind HL0.out⟩
set_option maxRecDepth 100000 in
set_option maxHeartbeats 2000000 in
theorem doesE_5 (h : TwoE w b r F G S) (hf : S.ks.length < 999999) (d n : Int) (h1 : -9223372036854775808 ≤ n) (h2 : n < 9223372036854775808) (g1 : -9223372036854775808 ≤ d) (g2 : d < 9223372036854775808) : DoesE w b r F G S 5 d n := by
  obtain ⟨wB, hwB⟩ : ∃ x, x = w.alloc (.cells #[.int .i64 5, .int .i64 d, .int .i64 n] 29) := ⟨_, rfl⟩
  obtain ⟨wE, hwE⟩ : ∃ x, x = wB.alloc (.cells #[.int .i64 d, .int .i64 n] 36) := ⟨_, rfl⟩
  have zB : wB.heap.size = w.heap.size + 1 := by rw [hwB]; exact World.size_alloc _ _
  have kB : Blk wB w.heap.size 29 #[.int .i64 5, .int .i64 d, .int .i64 n] := by rw [hwB]; exact Blk.new _ _ _
  have kE : Blk wE wB.heap.size 36 #[.int .i64 d, .int .i64 n] := by rw [hwE]; exact Blk.new _ _ _
  have lB : Below w.heap.size w wB := by rw [hwB]; exact (Below.refl _ w).alloc (Nat.le_refl _) _
  have lE : Below wB.heap.size wB wE := by rw [hwE]; exact (Below.refl _ wB).alloc (Nat.le_refl _) _
  have kB' : Blk wE w.heap.size 29 #[.int .i64 5, .int .i64 d, .int .i64 n] := kB.of_block (lE.block _ (by omega))
  have lW : Below w.heap.size w wE := lB.trans (lE.mono (by omega))
  have zE : wE.heap.size = w.heap.size + 2 := by rw [hwE, World.size_alloc, zB]
  have HW := hide (h.later lW)
  have hF0 : ∀ y, w.heap.size ≤ y → ¬ (F y ∨ G y) := fun y hy e => by
    rcases e with e | e
    · have := (h.lt1 e).2; omega
    · have := (h.lt2 e).2; omega
  have HF0 := hide hF0
  have HLW := hide lW
  have e4 : (w.alloc (.cells #[.int .i64 5, .int .i64 d, .int .i64 n] 29)).alloc (.cells #[.int .i64 d, .int .i64 n] 36) = wE := by rw [hwE, hwB]
  have HE4 := hide e4
  have HZ := hide zE
  rw [zB] at kE
  have HKB := hide kB'
  have HKE := hide kE
  have HL1 := hide hf
  clear h zB kB kE lB lE kB' lW zE hF0 hf hwB hwE e4
  unfold DoesE
  go_enter Tryd.func9, Tryd.ntmps9
  go_wp2_with fail
  rw [HE4.out]
  obtain ⟨w0, hw0⟩ : ∃ x, x = wE.drew := ⟨_, rfl⟩
  have HW0 : Hid (TwoE w0 b r F G S) := hide (by rw [hw0]; exact HW.out.later ((Below.refl _ wE).drew))
  have HL0 : Hid (Below w.heap.size w w0) := hide (by rw [hw0]; exact HLW.out.drew)
  have HKT : Hid (∀ W, Turn (fun y => F y ∨ G y) w0 W → W.cell? ⟨w.heap.size + 1, 0, none⟩ = some (.int .i64 d) ∧ W.cell? ⟨w.heap.size + 1, 1, none⟩ = some (.int .i64 n)) := hide (fun W hu => by
    have hz := HZ.out
    have z0 : w0.heap.size = w.heap.size + 2 := by rw [hw0]; exact hz
    have k1 : Blk w0 w.heap.size 29 #[.int .i64 5, .int .i64 d, .int .i64 n] := by rw [hw0]; exact HKB.out
    have k2 : Blk w0 (w.heap.size + 1) 36 #[.int .i64 d, .int .i64 n] := by rw [hw0]; exact HKE.out
    have j1 : Blk W w.heap.size 29 #[.int .i64 5, .int .i64 d, .int .i64 n] := k1.of_block (hu.block _ (by omega) (HF0.out _ (Nat.le_refl _)))
    have j2 : Blk W (w.heap.size + 1) 36 #[.int .i64 d, .int .i64 n] := k2.of_block (hu.block _ (by omega) (HF0.out _ (by omega)))
    exact ⟨j2.cell 0, j2.cell 1⟩)
  have hT0 : Turn (fun y => F y ∨ G y) w0 wE.drew := by rw [hw0]; exact Turn.refl _ _
  have HOP : Hid (ExtOn wE.drew b F S) := hide (by rw [← hw0]; exact HW0.out.one)
  have HOR : Hid (RefOnE wE.drew r G S) := hide (by rw [← hw0]; exact HW0.out.two)
  have HTP : Hid (∀ W, Turn F wE.drew W → Turn F w0 W) := hide (by rw [hw0]; exact fun _ h => h)
  have HTR : Hid (∀ W, Turn G wE.drew W → Turn G w0 W) := hide (by rw [hw0]; exact fun _ h => h)
  have HGR : Hid (wE.drew = w0) := hide hw0.symm
  clear hw0 HE4
  go_region_held3 (fun W => W.cell? ⟨w.heap.size + 1, 0, none⟩ = some (.int .i64 d) ∧ W.cell? ⟨w.heap.size + 1, 1, none⟩ = some (.int .i64 n)) (first | exact HKT.out _ (by assumption)) (first
    | ((go_at_call 22; refine (on_has hpB d n h1 h2 g1 g2).mono ?_; rintro _ w2 ⟨rfl, ho2, ht2⟩; have hT2 := hT1.trans (ht2.wider (fun _ => Or.inl)); have HEND := hide (two_end' HW0.out ho1 ht1 (fun y hy => .inl hy) ho2 ht2 (fun y hy => .inl hy) (Nat.le_succ _)); clear hpB ho2 ht2))
    | ((go_at_call 23; refine (rOnE_has hrA d n h1 h2 g1 g2).mono ?_; rintro _ w2 ⟨rfl, ho2, ht2⟩; have hT2 := hT1.trans (ht2.wider (fun _ => Or.inr)); have HEND := hide (two_end HW0.out ho1 ht1 (fun y hy => .inl hy) ho2 ht2 (fun y hy => .inl hy) (Nat.le_succ _)); clear hrA ho2 ht2))
    | ((go_at_call 22; refine (on_has HOP.out d n h1 h2 g1 g2).mono ?_; rintro _ w1 ⟨rfl, ho1, ht1⟩; rw [HGR.out] at ht1; have hrA := HW0.out.two.kept ht1 (fun y hy hg => HW0.out.apart y hg hy); have hT1 : Turn (fun y => F y ∨ G y) w0 w1 := ht1.wider (fun _ => Or.inl)))
    | ((go_at_call 23; refine (rOnE_has HOR.out d n h1 h2 g1 g2).mono ?_; rintro _ w1 ⟨rfl, ho1, ht1⟩; rw [HGR.out] at ht1; have hpB := HW0.out.one.kept ht1 (fun y hy hg => HW0.out.apart y hy hg); have hT1 : Turn (fun y => F y ∨ G y) w0 w1 := ht1.wider (fun _ => Or.inr))))
  all_goals
    go_wp2
    go_ret
    exact ⟨rfl, HEND.out.behind HL0.out⟩
set_option maxRecDepth 100000 in
set_option maxHeartbeats 2000000 in
theorem doesE_x (h : TwoE w b r F G S) (hf : S.ks.length < 999999) (k d n : Int) (q1 : (k == 1) = false) (q3 : (k == 3) = false) (q4 : (k == 4) = false) (q5 : (k == 5) = false) (_h1 : -9223372036854775808 ≤ n) (_h2 : n < 9223372036854775808) (g1 : -9223372036854775808 ≤ d) (g2 : d < 9223372036854775808) : DoesE w b r F G S k d n := by
  obtain ⟨wB, hwB⟩ : ∃ x, x = w.alloc (.cells #[.int .i64 k, .int .i64 d, .int .i64 n] 29) := ⟨_, rfl⟩
  obtain ⟨wE, hwE⟩ : ∃ x, x = wB.alloc (.cells #[.int .i64 d, .int .i64 n] 36) := ⟨_, rfl⟩
  have zB : wB.heap.size = w.heap.size + 1 := by rw [hwB]; exact World.size_alloc _ _
  have kB : Blk wB w.heap.size 29 #[.int .i64 k, .int .i64 d, .int .i64 n] := by rw [hwB]; exact Blk.new _ _ _
  have kE : Blk wE wB.heap.size 36 #[.int .i64 d, .int .i64 n] := by rw [hwE]; exact Blk.new _ _ _
  have lB : Below w.heap.size w wB := by rw [hwB]; exact (Below.refl _ w).alloc (Nat.le_refl _) _
  have lE : Below wB.heap.size wB wE := by rw [hwE]; exact (Below.refl _ wB).alloc (Nat.le_refl _) _
  have kB' : Blk wE w.heap.size 29 #[.int .i64 k, .int .i64 d, .int .i64 n] := kB.of_block (lE.block _ (by omega))
  have lW : Below w.heap.size w wE := lB.trans (lE.mono (by omega))
  have zE : wE.heap.size = w.heap.size + 2 := by rw [hwE, World.size_alloc, zB]
  have HW := hide (h.later lW)
  have hF0 : ∀ y, w.heap.size ≤ y → ¬ (F y ∨ G y) := fun y hy e => by
    rcases e with e | e
    · have := (h.lt1 e).2; omega
    · have := (h.lt2 e).2; omega
  have HF0 := hide hF0
  have HLW := hide lW
  have e4 : (w.alloc (.cells #[.int .i64 k, .int .i64 d, .int .i64 n] 29)).alloc (.cells #[.int .i64 d, .int .i64 n] 36) = wE := by rw [hwE, hwB]
  have HE4 := hide e4
  have HZ := hide zE
  rw [zB] at kE
  have HKB := hide kB'
  have HKE := hide kE
  have HL1 := hide hf
  clear h zB kB kE lB lE kB' lW zE hF0 hf hwB hwE e4
  unfold DoesE
  have HTAB := hide HW.out.tab
  go_enter Tryd.func9, Tryd.ntmps9
  have hj : ∀ W, Turn (fun y => F y ∨ G y) wE W → W.cell? ⟨w.heap.size, 1, none⟩ = some (.int .i64 d) ∧ w.heap.size + 2 ≤ W.heap.size := fun W hu => by
    have hz := HZ.out
    have hs := hu.size
    have j1 : Blk W w.heap.size 29 #[.int .i64 k, .int .i64 d, .int .i64 n] := HKB.out.of_block (hu.block _ (by omega) (HF0.out _ (Nat.le_refl _)))
    exact ⟨j1.cell 1, by omega⟩
  have HJ := hide hj
  clear hj
  go_wp2_with (first
    | (go_at_call 12; rw [HE4.out]; refine (on_take HW.out.one HTAB.out d g1 g2).mono ?_; rintro _ w1 ⟨v, S', rfl, htk, ho1, ht1⟩; obtain ⟨hlen, x, y, c, rfl⟩ := take_form htk; have HTK := hide htk; have HLEN := hide hlen; have hA1 : Below w1.heap.size w1 (w1.alloc (.cells #[.int .i64 x, .int .i64 y] 36)) := (Below.refl _ w1).alloc (Nat.le_refl _) _; have HA1 := hide hA1; have HRA := hide ((HW.out.two.kept ht1 (fun y hy hg => HW.out.apart y hg hy)).later hA1); have hTA : Turn (fun y => F y ∨ G y) wE (w1.alloc (.cells #[.int .i64 x, .int .i64 y] 36)) := (ht1.wider (fun _ => Or.inl)).more hA1; have c1 := (HJ.out _ hTA).1; have HT1 := hide ht1; have HO1 := hide ho1; clear htk hlen ht1 ho1 hA1 hTA)
    | (go_at_call 24; refine (rOnE_take HRA.out d g1 g2).mono ?_; rintro _ w2 ⟨v2, S2, rfl, htk2, ho2, ht2⟩; obtain ⟨rfl, rfl⟩ := take_once HTK.out htk2; have hA2 : Below w2.heap.size w2 (w2.alloc (.cells #[.int .i64 x, .int .i64 y] 36)) := (Below.refl _ w2).alloc (Nat.le_refl _) _; have kx : Blk (w1.alloc (.cells #[.int .i64 x, .int .i64 y] 36)) w1.heap.size 36 #[.int .i64 x, .int .i64 y] := Blk.new _ _ _; have hnG : ¬ G w1.heap.size := (fun e => by have h1 := (HW.out.lt2 e).2; have h2 := HT1.out.size; omega); have kx2 := (kx.of_block (ht2.block _ kx.lt hnG)).of_block (hA2.block _ (Nat.lt_of_lt_of_le kx.lt ht2.size)); have ky2 : Blk (w2.alloc (.cells #[.int .i64 x, .int .i64 y] 36)) w2.heap.size 36 #[.int .i64 x, .int .i64 y] := Blk.new _ _ _; have kx0 := kx2.cell 0; have kx1 := kx2.cell 1; have ky0 := ky2.cell 0; have ky1 := ky2.cell 1; have HEND := hide (two_end HW.out HO1.out HT1.out (fun y hy => .inl hy) (ho2.later hA2) (((Turn.of_below (F := G) HA1.out).trans ht2).more hA2) (fun y hy => .inl hy) (by have h1 := HLEN.out; omega)); clear htk2 ho2 ht2 hA2 kx hnG kx2 ky2))
  go_ret
  exact ⟨rfl, HEND.out.behind HLW.out⟩
theorem does_any (h : TwoE w b r F G S) (hf : S.ks.length < 999999) (k d n : Int) (h1 : -9223372036854775808 ≤ n) (h2 : n < 9223372036854775808) (g1 : -9223372036854775808 ≤ d) (g2 : d < 9223372036854775808) : DoesE w b r F G S k d n := by
  by_cases q1 : k = 1
  · subst q1; exact doesE_1 h hf d n h1 h2 g1 g2
  by_cases q3 : k = 3
  · subst q3; exact doesE_3 h hf d n h1 h2 g1 g2
  by_cases q4 : k = 4
  · subst q4; exact doesE_4 h hf d n h1 h2 g1 g2
  by_cases q5 : k = 5
  · subst q5; exact doesE_5 h hf d n h1 h2 g1 g2
  exact doesE_x h hf k d n (by simpa using q1) (by simpa using q3) (by simpa using q4) (by simpa using q5) h1 h2 g1 g2
end
end Go.Proofs.YtmaiikmgpeafkabDoor
