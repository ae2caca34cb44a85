/- What a step on both tables does: they answer the same, and say the same ever after. -/
import Derived.Test.YtgoglgghnjgcdaaUrO
import Derived.Test.YtgoglgghnjgcdaaArgU5
import Derived.Deep.RegionHeld3
namespace Go.Proofs.Ytgoglgghnjgcdaa
open Go.RowKit Go.Maps

def DoesU (w0 w : World) (t lo r m : Nat) (O : Nat → Prop) (k g s b n : Int) : Prop :=
  Calls Try.prog 14 #[.pointer (some ⟨t, 0, none⟩), .pointer (some ⟨r, 0, none⟩), .agg #[.int .i64 k, .int .i64 g, .int .i64 s, .int .i64 b, .int .i64 n]] w fun e w' => e = .returned (.bool true) ∧ ∃ S', TwoU w0 w' t lo r (m + 2) S' S' O ∧ Kp O w w'
section
variable {w0 w : World} {t lo r m : Nat} {S : Us} {O : Nat → Prop}
/-- The step's own variable: its cells stay. -/
theorem op_held {W W' : World} {ob : Nat} {k g s b n : Int} (hb : Blk W ob 29 #[.int .i64 k, .int .i64 g, .int .i64 s, .int .i64 b, .int .i64 n]) (hk : Kp (fun i => O i ∨ i = ob) W W') :
    W'.cell? ⟨ob, 0, none⟩ = some (.int .i64 k) ∧ W'.cell? ⟨ob, 1, none⟩ = some (.int .i64 g) ∧ W'.cell? ⟨ob, 2, none⟩ = some (.int .i64 s) ∧ W'.cell? ⟨ob, 3, none⟩ = some (.int .i64 b) ∧ W'.cell? ⟨ob, 4, none⟩ = some (.int .i64 n) :=
  have h : Blk W' ob 29 #[.int .i64 k, .int .i64 g, .int .i64 s, .int .i64 b, .int .i64 n] := hb.of_block (hk.2 ob (.inr rfl))
  ⟨h.cell 0, h.cell 1, h.cell 2, h.cell 3, h.cell 4⟩
theorem does_end {W W2 : World} {m' : Nat} {S' : Us} (h : TwoU w0 W2 t lo r m' S' S' (fun i => O i ∨ i = w.heap.size)) (hm : m' ≤ m + 2) (hf : m < 999990) (k0 : Kp O w W) (k : Kp (fun i => O i ∨ i = w.heap.size) W W2) : ∃ S', TwoU w0 W2 t lo r (m + 2) S' S' O ∧ Kp O w W2 :=
  ⟨S', (h.less fun _ => .inl).wider hm (by omega), k0.trans (k.less fun _ => .inl)⟩
set_option maxRecDepth 100000 in
set_option maxHeartbeats 2000000 in
theorem doesU_1 (h : TwoU w0 w t lo r m S S O) (hm : m < 999990) (g s b n : Int) (hg : okI64 g) (_ : okI64 s) (_ : okI64 b) : DoesU w0 w t lo r m O 1 g s b n := by
  obtain ⟨ob, hob⟩ : ∃ x, x = w.heap.size := ⟨_, rfl⟩
  obtain ⟨wB, hwB⟩ : ∃ x, x = w.alloc (.cells #[.int .i64 1, .int .i64 g, .int .i64 s, .int .i64 b, .int .i64 n] 29) := ⟨_, rfl⟩
  have kB : Blk wB ob 29 #[.int .i64 1, .int .i64 g, .int .i64 s, .int .i64 b, .int .i64 n] := by rw [hwB, hob]; exact Blk.new _ _ _
  have lB : Below w.heap.size w wB := by rw [hwB]; exact (Below.refl _ w).alloc (Nat.le_refl _) _
  have zB : wB.heap.size = w.heap.size + 1 := by rw [hwB]; exact World.size_alloc _ _
  have HW : Hid (TwoU w0 wB.drew t lo r m S S (fun i => O i ∨ i = w.heap.size)) := hide (h.fresh (b := w.heap.size) lB.drew (Nat.le_refl _) (by show w.heap.size < wB.heap.size; omega))
  have HLW : Hid (Kp O w wB.drew) := hide (h.kp lB.drew)
  have HE4 : Hid (w.alloc (.cells #[.int .i64 1, .int .i64 g, .int .i64 s, .int .i64 b, .int .i64 n] 29) = wB) := hide hwB.symm
  have HO : Hid (w.heap.size = ob) := hide hob.symm
  have HKB : Hid (Blk wB.drew ob 29 #[.int .i64 1, .int .i64 g, .int .i64 s, .int .i64 b, .int .i64 n]) := hide kB
  have HM := hide hm
  have HG := hide hg
  clear h hm hg kB lB zB hwB hob
  unfold DoesU
  go_enter Try.func14, Try.ntmps14
  go_wp2_with fail
  rw [HE4.out, HO.out]
  have HW0 := HW
  rw [HO.out] at HW0
  obtain ⟨W0, hW0⟩ : ∃ x, x = wB.drew := ⟨_, rfl⟩
  have HKT : Hid (∀ W, Kp (fun i => O i ∨ i = ob) wB.drew W → (fun W => W.cell? ⟨ob, 0, none⟩ = some (.int .i64 1) ∧ W.cell? ⟨ob, 1, none⟩ = some (.int .i64 g) ∧ W.cell? ⟨ob, 2, none⟩ = some (.int .i64 s) ∧ W.cell? ⟨ob, 3, none⟩ = some (.int .i64 b) ∧ W.cell? ⟨ob, 4, none⟩ = some (.int .i64 n)) W) := hide (fun W hk => op_held HKB.out hk)
  have hT0 : Kp (fun i => O i ∨ i = ob) wB.drew wB.drew := Kp.refl
  go_region_held3 (fun W => W.cell? ⟨ob, 0, none⟩ = some (.int .i64 1) ∧ W.cell? ⟨ob, 1, none⟩ = some (.int .i64 g) ∧ W.cell? ⟨ob, 2, none⟩ = some (.int .i64 s) ∧ W.cell? ⟨ob, 3, none⟩ = some (.int .i64 b) ∧ W.cell? ⟨ob, 4, none⟩ = some (.int .i64 n)) (first | exact HKT.out _ (by assumption)) (first
    | ((go_at_call 16; refine (hB1.open_ g n HG.out (by have := HM.out; omega)).mono ?_; rintro _ w2 ⟨rfl, hE, hk2⟩; have hT2 := hT1.trans hk2; have HEND := hide (And.intro hE hT2); clear hB1 hE hk2))
    | ((go_at_call 32; refine (hA1.ropen g n HG.out (by have := HM.out; omega)).mono ?_; rintro _ w2 ⟨rfl, hE, hk2⟩; have hT2 := hT1.trans hk2; have HEND := hide (And.intro hE hT2); clear hA1 hE hk2))
    | ((go_at_call 16; refine (HW0.out.open_ g n HG.out (by have := HM.out; omega)).mono ?_; rintro _ w1 ⟨rfl, hA1, hk1⟩; have hT1 := hT0.trans hk1))
    | ((go_at_call 32; refine (HW0.out.ropen g n HG.out (by have := HM.out; omega)).mono ?_; rintro _ w1 ⟨rfl, hB1, hk1⟩; have hT1 := hT0.trans hk1)))
  all_goals
    go_wp2
    go_ret
    have hO := HO.out
    subst hO
    exact ⟨rfl, does_end HEND.out.1 (by omega) HM.out HLW.out HEND.out.2⟩
set_option maxRecDepth 100000 in
set_option maxHeartbeats 2000000 in
theorem doesU_2 (h : TwoU w0 w t lo r m S S O) (hm : m < 999990) (g s b n : Int) (hg : okI64 g) (_ : okI64 s) (_ : okI64 b) : DoesU w0 w t lo r m O 2 g s b n := by
  obtain ⟨ob, hob⟩ : ∃ x, x = w.heap.size := ⟨_, rfl⟩
  obtain ⟨wB, hwB⟩ : ∃ x, x = w.alloc (.cells #[.int .i64 2, .int .i64 g, .int .i64 s, .int .i64 b, .int .i64 n] 29) := ⟨_, rfl⟩
  have kB : Blk wB ob 29 #[.int .i64 2, .int .i64 g, .int .i64 s, .int .i64 b, .int .i64 n] := by rw [hwB, hob]; exact Blk.new _ _ _
  have lB : Below w.heap.size w wB := by rw [hwB]; exact (Below.refl _ w).alloc (Nat.le_refl _) _
  have zB : wB.heap.size = w.heap.size + 1 := by rw [hwB]; exact World.size_alloc _ _
  have HW : Hid (TwoU w0 wB.drew t lo r m S S (fun i => O i ∨ i = w.heap.size)) := hide (h.fresh (b := w.heap.size) lB.drew (Nat.le_refl _) (by show w.heap.size < wB.heap.size; omega))
  have HLW : Hid (Kp O w wB.drew) := hide (h.kp lB.drew)
  have HE4 : Hid (w.alloc (.cells #[.int .i64 2, .int .i64 g, .int .i64 s, .int .i64 b, .int .i64 n] 29) = wB) := hide hwB.symm
  have HO : Hid (w.heap.size = ob) := hide hob.symm
  have HKB : Hid (Blk wB.drew ob 29 #[.int .i64 2, .int .i64 g, .int .i64 s, .int .i64 b, .int .i64 n]) := hide kB
  have HM := hide hm
  have HG := hide hg
  clear h hm hg kB lB zB hwB hob
  unfold DoesU
  go_enter Try.func14, Try.ntmps14
  go_wp2_with fail
  rw [HE4.out, HO.out]
  have HW0 := HW
  rw [HO.out] at HW0
  obtain ⟨W0, hW0⟩ : ∃ x, x = wB.drew := ⟨_, rfl⟩
  have HKT : Hid (∀ W, Kp (fun i => O i ∨ i = ob) wB.drew W → (fun W => W.cell? ⟨ob, 0, none⟩ = some (.int .i64 2) ∧ W.cell? ⟨ob, 1, none⟩ = some (.int .i64 g) ∧ W.cell? ⟨ob, 2, none⟩ = some (.int .i64 s) ∧ W.cell? ⟨ob, 3, none⟩ = some (.int .i64 b) ∧ W.cell? ⟨ob, 4, none⟩ = some (.int .i64 n)) W) := hide (fun W hk => op_held HKB.out hk)
  have hT0 : Kp (fun i => O i ∨ i = ob) wB.drew wB.drew := Kp.refl
  go_region_held3 (fun W => W.cell? ⟨ob, 0, none⟩ = some (.int .i64 2) ∧ W.cell? ⟨ob, 1, none⟩ = some (.int .i64 g) ∧ W.cell? ⟨ob, 2, none⟩ = some (.int .i64 s) ∧ W.cell? ⟨ob, 3, none⟩ = some (.int .i64 b) ∧ W.cell? ⟨ob, 4, none⟩ = some (.int .i64 n)) (first | exact HKT.out _ (by assumption)) (first
    | ((go_at_call 26; refine (hB1.drop_ g HG.out (by have := HM.out; omega)).mono ?_; rintro _ w2 ⟨rfl, hE, hk2⟩; have hT2 := hT1.trans hk2; have HEND := hide (And.intro hE hT2); clear hB1 hE hk2))
    | ((go_at_call 33; refine (hA1.rdrop g (by have := HM.out; omega)).mono ?_; rintro _ w2 ⟨rfl, hE, hk2⟩; have hT2 := hT1.trans hk2; have HEND := hide (And.intro hE hT2); clear hA1 hE hk2))
    | ((go_at_call 26; refine (HW0.out.drop_ g HG.out (by have := HM.out; omega)).mono ?_; rintro _ w1 ⟨rfl, hA1, hk1⟩; have hT1 := hT0.trans hk1))
    | ((go_at_call 33; refine (HW0.out.rdrop g (by have := HM.out; omega)).mono ?_; rintro _ w1 ⟨rfl, hB1, hk1⟩; have hT1 := hT0.trans hk1)))
  all_goals
    go_wp2
    go_ret
    have hO := HO.out
    subst hO
    exact ⟨rfl, does_end HEND.out.1 (by omega) HM.out HLW.out HEND.out.2⟩
set_option maxRecDepth 100000 in
set_option maxHeartbeats 2000000 in
theorem doesU_3 (h : TwoU w0 w t lo r m S S O) (hm : m < 999990) (g s b n : Int) (hg : okI64 g) (hs : okI64 s) (hb : okI64 b) : DoesU w0 w t lo r m O 3 g s b n := by
  obtain ⟨ob, hob⟩ : ∃ x, x = w.heap.size := ⟨_, rfl⟩
  obtain ⟨wB, hwB⟩ : ∃ x, x = w.alloc (.cells #[.int .i64 3, .int .i64 g, .int .i64 s, .int .i64 b, .int .i64 n] 29) := ⟨_, rfl⟩
  have kB : Blk wB ob 29 #[.int .i64 3, .int .i64 g, .int .i64 s, .int .i64 b, .int .i64 n] := by rw [hwB, hob]; exact Blk.new _ _ _
  have lB : Below w.heap.size w wB := by rw [hwB]; exact (Below.refl _ w).alloc (Nat.le_refl _) _
  have zB : wB.heap.size = w.heap.size + 1 := by rw [hwB]; exact World.size_alloc _ _
  have HW : Hid (TwoU w0 wB.drew t lo r m S S (fun i => O i ∨ i = w.heap.size)) := hide (h.fresh (b := w.heap.size) lB.drew (Nat.le_refl _) (by show w.heap.size < wB.heap.size; omega))
  have HLW : Hid (Kp O w wB.drew) := hide (h.kp lB.drew)
  have HE4 : Hid (w.alloc (.cells #[.int .i64 3, .int .i64 g, .int .i64 s, .int .i64 b, .int .i64 n] 29) = wB) := hide hwB.symm
  have HO : Hid (w.heap.size = ob) := hide hob.symm
  have HKB : Hid (Blk wB.drew ob 29 #[.int .i64 3, .int .i64 g, .int .i64 s, .int .i64 b, .int .i64 n]) := hide kB
  have HM := hide hm
  have HG := hide hg
  have HSS := hide hs
  have HBB := hide hb
  clear h hm hg hs hb kB lB zB hwB hob
  unfold DoesU
  go_enter Try.func14, Try.ntmps14
  go_wp2_with fail
  rw [HE4.out, HO.out]
  have HW0 := HW
  rw [HO.out] at HW0
  obtain ⟨W0, hW0⟩ : ∃ x, x = wB.drew := ⟨_, rfl⟩
  have HKT : Hid (∀ W, Kp (fun i => O i ∨ i = ob) wB.drew W → (fun W => W.cell? ⟨ob, 0, none⟩ = some (.int .i64 3) ∧ W.cell? ⟨ob, 1, none⟩ = some (.int .i64 g) ∧ W.cell? ⟨ob, 2, none⟩ = some (.int .i64 s) ∧ W.cell? ⟨ob, 3, none⟩ = some (.int .i64 b) ∧ W.cell? ⟨ob, 4, none⟩ = some (.int .i64 n)) W) := hide (fun W hk => op_held HKB.out hk)
  have hT0 : Kp (fun i => O i ∨ i = ob) wB.drew wB.drew := Kp.refl
  go_region_held3 (fun W => W.cell? ⟨ob, 0, none⟩ = some (.int .i64 3) ∧ W.cell? ⟨ob, 1, none⟩ = some (.int .i64 g) ∧ W.cell? ⟨ob, 2, none⟩ = some (.int .i64 s) ∧ W.cell? ⟨ob, 3, none⟩ = some (.int .i64 b) ∧ W.cell? ⟨ob, 4, none⟩ = some (.int .i64 n)) (first | exact HKT.out _ (by assumption)) (first
    | ((go_at_call 18; refine (hB1.put_ g s b HG.out HSS.out HBB.out (by have := HM.out; omega)).mono ?_; rintro _ w2 ⟨rfl, hE, hk2⟩; have hT2 := hT1.trans hk2; have HEND := hide (And.intro hE hT2); clear hB1 hE hk2))
    | ((go_at_call 34; refine (hA1.rput g s b HBB.out (by have := HM.out; omega)).mono ?_; rintro _ w2 ⟨rfl, hE, hk2⟩; have hT2 := hT1.trans hk2; have HEND := hide (And.intro hE hT2); clear hA1 hE hk2))
    | ((go_at_call 18; refine (HW0.out.put_ g s b HG.out HSS.out HBB.out (by have := HM.out; omega)).mono ?_; rintro _ w1 ⟨rfl, hA1, hk1⟩; have hT1 := hT0.trans hk1))
    | ((go_at_call 34; refine (HW0.out.rput g s b HBB.out (by have := HM.out; omega)).mono ?_; rintro _ w1 ⟨rfl, hB1, hk1⟩; have hT1 := hT0.trans hk1)))
  all_goals
    go_wp2
    go_ret
    have hO := HO.out
    subst hO
    exact ⟨rfl, does_end HEND.out.1 (by omega) HM.out HLW.out HEND.out.2⟩
set_option maxRecDepth 100000 in
set_option maxHeartbeats 2000000 in
theorem doesU_4 (h : TwoU w0 w t lo r m S S O) (hm : m < 999990) (g s b n : Int) (hg : okI64 g) (hs : okI64 s) (_ : okI64 b) : DoesU w0 w t lo r m O 4 g s b n := by
  obtain ⟨ob, hob⟩ : ∃ x, x = w.heap.size := ⟨_, rfl⟩
  obtain ⟨wB, hwB⟩ : ∃ x, x = w.alloc (.cells #[.int .i64 4, .int .i64 g, .int .i64 s, .int .i64 b, .int .i64 n] 29) := ⟨_, rfl⟩
  have kB : Blk wB ob 29 #[.int .i64 4, .int .i64 g, .int .i64 s, .int .i64 b, .int .i64 n] := by rw [hwB, hob]; exact Blk.new _ _ _
  have lB : Below w.heap.size w wB := by rw [hwB]; exact (Below.refl _ w).alloc (Nat.le_refl _) _
  have zB : wB.heap.size = w.heap.size + 1 := by rw [hwB]; exact World.size_alloc _ _
  have HW : Hid (TwoU w0 wB.drew t lo r m S S (fun i => O i ∨ i = w.heap.size)) := hide (h.fresh (b := w.heap.size) lB.drew (Nat.le_refl _) (by show w.heap.size < wB.heap.size; omega))
  have HLW : Hid (Kp O w wB.drew) := hide (h.kp lB.drew)
  have HE4 : Hid (w.alloc (.cells #[.int .i64 4, .int .i64 g, .int .i64 s, .int .i64 b, .int .i64 n] 29) = wB) := hide hwB.symm
  have HO : Hid (w.heap.size = ob) := hide hob.symm
  have HKB : Hid (Blk wB.drew ob 29 #[.int .i64 4, .int .i64 g, .int .i64 s, .int .i64 b, .int .i64 n]) := hide kB
  have HM := hide hm
  have HG := hide hg
  have HSS := hide hs
  clear h hm hg hs kB lB zB hwB hob
  unfold DoesU
  go_enter Try.func14, Try.ntmps14
  go_wp2_with fail
  rw [HE4.out, HO.out]
  have HW0 := HW
  rw [HO.out] at HW0
  obtain ⟨W0, hW0⟩ : ∃ x, x = wB.drew := ⟨_, rfl⟩
  have HKT : Hid (∀ W, Kp (fun i => O i ∨ i = ob) wB.drew W → (fun W => W.cell? ⟨ob, 0, none⟩ = some (.int .i64 4) ∧ W.cell? ⟨ob, 1, none⟩ = some (.int .i64 g) ∧ W.cell? ⟨ob, 2, none⟩ = some (.int .i64 s) ∧ W.cell? ⟨ob, 3, none⟩ = some (.int .i64 b) ∧ W.cell? ⟨ob, 4, none⟩ = some (.int .i64 n)) W) := hide (fun W hk => op_held HKB.out hk)
  have hT0 : Kp (fun i => O i ∨ i = ob) wB.drew wB.drew := Kp.refl
  go_region_held3 (fun W => W.cell? ⟨ob, 0, none⟩ = some (.int .i64 4) ∧ W.cell? ⟨ob, 1, none⟩ = some (.int .i64 g) ∧ W.cell? ⟨ob, 2, none⟩ = some (.int .i64 s) ∧ W.cell? ⟨ob, 3, none⟩ = some (.int .i64 b) ∧ W.cell? ⟨ob, 4, none⟩ = some (.int .i64 n)) (first | exact HKT.out _ (by assumption)) (first
    | ((go_at_call 17; refine (hB1.clear_ g s HG.out HSS.out (by have := HM.out; omega)).mono ?_; rintro _ w2 ⟨rfl, hE, hk2⟩; have hT2 := hT1.trans hk2; have HEND := hide (And.intro hE hT2); clear hB1 hE hk2))
    | ((go_at_call 35; refine (hA1.rclear g s (by have := HM.out; omega)).mono ?_; rintro _ w2 ⟨rfl, hE, hk2⟩; have hT2 := hT1.trans hk2; have HEND := hide (And.intro hE hT2); clear hA1 hE hk2))
    | ((go_at_call 17; refine (HW0.out.clear_ g s HG.out HSS.out (by have := HM.out; omega)).mono ?_; rintro _ w1 ⟨rfl, hA1, hk1⟩; have hT1 := hT0.trans hk1))
    | ((go_at_call 35; refine (HW0.out.rclear g s (by have := HM.out; omega)).mono ?_; rintro _ w1 ⟨rfl, hB1, hk1⟩; have hT1 := hT0.trans hk1)))
  all_goals
    go_wp2
    go_ret
    have hO := HO.out
    subst hO
    exact ⟨rfl, does_end HEND.out.1 (by omega) HM.out HLW.out HEND.out.2⟩
theorem hole_ok (h : S.Ok) (g : Int) : okI64 (((S.hole g).getD 0 : Nat) : Int) := by
  have h1 := Us.slots_le h g
  cases hh : S.hole g with
  | none => simp [okI64]
  | some j =>
    unfold Us.hole at hh
    have := List.mem_range.1 (List.mem_of_find?_eq_some hh)
    simp only [Option.getD_some]
    unfold okI64
    omega
set_option maxRecDepth 100000 in
set_option maxHeartbeats 2000000 in
theorem doesU_5 (h : TwoU w0 w t lo r m S S O) (hm : m < 999990) (k g s b n : Int) (hg : okI64 g) (hb : okI64 b) (k1 : k ≠ 1) (k2 : k ≠ 2) (k3 : k ≠ 3) (k4 : k ≠ 4) : DoesU w0 w t lo r m O k g s b n := by
  obtain ⟨ob, hob⟩ : ∃ x, x = w.heap.size := ⟨_, rfl⟩
  obtain ⟨wB, hwB⟩ : ∃ x, x = w.alloc (.cells #[.int .i64 k, .int .i64 g, .int .i64 s, .int .i64 b, .int .i64 n] 29) := ⟨_, rfl⟩
  have kB : Blk wB ob 29 #[.int .i64 k, .int .i64 g, .int .i64 s, .int .i64 b, .int .i64 n] := by rw [hwB, hob]; exact Blk.new _ _ _
  have lB : Below w.heap.size w wB := by rw [hwB]; exact (Below.refl _ w).alloc (Nat.le_refl _) _
  have zB : wB.heap.size = w.heap.size + 1 := by rw [hwB]; exact World.size_alloc _ _
  have HWB : Hid (TwoU w0 wB t lo r m S S (fun i => O i ∨ i = w.heap.size)) := hide (h.fresh (b := w.heap.size) lB (Nat.le_refl _) (by show w.heap.size < wB.heap.size; omega))
  have HW : Hid (TwoU w0 wB.drew t lo r m S S (fun i => O i ∨ i = w.heap.size)) := hide (h.fresh (b := w.heap.size) lB.drew (Nat.le_refl _) (by show w.heap.size < wB.heap.size; omega))
  have HLW : Hid (Kp O w wB.drew) := hide (h.kp lB.drew)
  have HE4 : Hid (w.alloc (.cells #[.int .i64 k, .int .i64 g, .int .i64 s, .int .i64 b, .int .i64 n] 29) = wB) := hide hwB.symm
  have HO : Hid (w.heap.size = ob) := hide hob.symm
  have HKB : Hid (Blk wB.drew ob 29 #[.int .i64 k, .int .i64 g, .int .i64 s, .int .i64 b, .int .i64 n]) := hide kB
  have d1 : (k == 1) = false := by simpa using k1
  have d2 : (k == 2) = false := by simpa using k2
  have d3 : (k == 3) = false := by simpa using k3
  have d4 : (k == 4) = false := by simpa using k4
  have hq1 : wB.cell? ⟨ob, 1, none⟩ = some (.int .i64 g) := kB.cell 1
  have ha := hole_ok h.tbl.ok g
  obtain ⟨a, hae⟩ : ∃ a : Int, (((S.hole g).getD 0 : Nat) : Int) = a := ⟨_, rfl⟩
  obtain ⟨p, hpe⟩ : ∃ p : Bool, (S.hole g).isSome = p := ⟨_, rfl⟩
  rw [hae] at ha
  have HA := hide ha
  have HAE := hide hae
  have HPE := hide hpe
  have HM := hide hm
  have HG := hide hg
  have HBB := hide hb
  clear h hm hg hb ha hae hpe kB lB zB hob k1 k2 k3 k4
  unfold DoesU
  go_enter Try.func14, Try.ntmps14
  go_upto_region 10 with fail
  rw [HE4.out, HO.out]
  clear HE4 hwB d1 d2 d3 d4
  go_upto_region 12 with (first
    | (go_at_call 22; refine (HWB.out.tbl.hole_ g HG.out).mono ?_; rw [HAE.out, HPE.out]; rintro _ _ ⟨rfl, rfl⟩)
    | (go_at_call 36; refine (HWB.out.rhole g).mono ?_; rw [HAE.out, HPE.out]; rintro _ _ ⟨rfl, rfl⟩))
  have HW0 := HW
  rw [HO.out] at HW0
  have HKT : Hid (∀ W, Kp (fun i => O i ∨ i = ob) wB.drew W → (fun W => W.cell? ⟨ob, 0, none⟩ = some (.int .i64 k) ∧ W.cell? ⟨ob, 1, none⟩ = some (.int .i64 g) ∧ W.cell? ⟨ob, 2, none⟩ = some (.int .i64 s) ∧ W.cell? ⟨ob, 3, none⟩ = some (.int .i64 b) ∧ W.cell? ⟨ob, 4, none⟩ = some (.int .i64 n)) W) := hide (fun W hk => op_held HKB.out hk)
  have hT0 : Kp (fun i => O i ∨ i = ob) wB.drew wB.drew := Kp.refl
  clear hq1
  go_region_held3 (fun W => W.cell? ⟨ob, 0, none⟩ = some (.int .i64 k) ∧ W.cell? ⟨ob, 1, none⟩ = some (.int .i64 g) ∧ W.cell? ⟨ob, 2, none⟩ = some (.int .i64 s) ∧ W.cell? ⟨ob, 3, none⟩ = some (.int .i64 b) ∧ W.cell? ⟨ob, 4, none⟩ = some (.int .i64 n)) (first | exact HKT.out _ (by assumption)) (first
    | ((go_at_call 18; refine (hB1.put_ g a b HG.out HA.out HBB.out (by have := HM.out; omega)).mono ?_; rintro _ w2 ⟨rfl, hE, hk2⟩; have hT2 := hT1.trans hk2; have HEND := hide (And.intro hE hT2); clear hB1 hE hk2))
    | ((go_at_call 34; refine (hA1.rput g a b HBB.out (by have := HM.out; omega)).mono ?_; rintro _ w2 ⟨rfl, hE, hk2⟩; have hT2 := hT1.trans hk2; have HEND := hide (And.intro hE hT2); clear hA1 hE hk2))
    | ((go_at_call 18; refine (HW0.out.put_ g a b HG.out HA.out HBB.out (by have := HM.out; omega)).mono ?_; rintro _ w1 ⟨rfl, hA1, hk1⟩; have hT1 := hT0.trans hk1))
    | ((go_at_call 34; refine (HW0.out.rput g a b HBB.out (by have := HM.out; omega)).mono ?_; rintro _ w1 ⟨rfl, hB1, hk1⟩; have hT1 := hT0.trans hk1)))
  all_goals
    go_wp2
    go_ret
    have hO := HO.out
    subst hO
    exact ⟨rfl, does_end HEND.out.1 (by omega) HM.out HLW.out HEND.out.2⟩
theorem does14_any (h : TwoU w0 w t lo r m S S O) (hm : m < 999990) (k g s b n : Int) (hg : okI64 g) (hs : okI64 s) (hb : okI64 b) : DoesU w0 w t lo r m O k g s b n := by
  by_cases k1 : k = 1
  · subst k1; exact doesU_1 h hm g s b n hg hs hb
  by_cases k2 : k = 2
  · subst k2; exact doesU_2 h hm g s b n hg hs hb
  by_cases k3 : k = 3
  · subst k3; exact doesU_3 h hm g s b n hg hs hb
  by_cases k4 : k = 4
  · subst k4; exact doesU_4 h hm g s b n hg hs hb
  exact doesU_5 h hm k g s b n hg hb k1 k2 k3 k4
end
#print axioms does14_any
end Go.Proofs.Ytgoglgghnjgcdaa
