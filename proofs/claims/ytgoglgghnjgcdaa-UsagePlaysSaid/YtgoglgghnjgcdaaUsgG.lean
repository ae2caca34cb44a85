/- What New, Clone, Groups, Drop and Emptiest of a table do. -/
import Derived.Test.YtgoglgghnjgcdaaUsgF
import Derived.Test.YtgoglgghnjgcdaaShelfM
import Derived.Test.YtgoglgghnjgcdaaShelfU
import Derived.Deep.RegionWith
import Derived.Deep.RegionHeld3
namespace Go.Proofs.Ytgoglgghnjgcdaa
open Go.RowKit Go.Maps Go.Sort Go.Shelf

theorem mapIs_clone {ι : Type} {C : Coded ι} {w : World} {b : Nat} {f : ι → Option Value} (h : MapIs C w b f) : ∃ es clock, w.heap[b]? = some (.map es clock) ∧ ∀ w' g, w'.heap[g]? = some (.map es clock) → MapIs C w' g f := by
  obtain ⟨D, ⟨es, clock, h1, h2⟩, hs⟩ := h
  exact ⟨es, clock, h1, fun w' g hg => ⟨D, ⟨es, clock, hg, h2⟩, hs⟩⟩
/-- A number of a row of the call's own. -/
theorem own_num {w : World} {base : Nat} {A : Option Addr} {c : Nat} {l : List Int} (h : w.ownsRow base 3 1 (.slice A l.length c) l.length (I64 l)) {k : Nat} (hk : k < l.length) :
    ∃ ad, A = some ad ∧ base ≤ ad.block ∧ ad.block < w.heap.size ∧ w.cell? (ad.add k) = some (.int .i64 l[k]) := by
  obtain ⟨g, cap, hv, _, hlt⟩ := h.form (by omega)
  have hA : A = some ⟨g, 0, none⟩ := by injection hv
  subst hA
  exact ⟨_, rfl, (h.lt g rfl).1, (h.lt g rfl).2, h.cells (g := g) rfl k _ (I64_at l hk)⟩
theorem own_kept {w w' : World} {base : Nat} {e : TypeId} {size n : Nat} {v : Value} {xs : List Value} (h : w.ownsRow base e size v n xs) {F : Nat → Prop} (ht : Turn F w w') (hF : ∀ i, F i → i < base) : w'.ownsRow base e size v n xs := by
  refine ⟨h.1, ?_⟩
  rcases h.2 with h2 | ⟨g, cap, cur, hv, h1, h2, h3⟩
  · exact .inl h2
  · exact .inr ⟨g, cap, cur, hv, h1, (ht.block g (h.lt g (by rw [hv]; rfl)).2 (fun hf => by have := hF g hf; omega)).trans h2, h3⟩
theorem table_built (x y z : Nat) : Try.prog.built 56 [(0, .map (some x)), (1, .map (some y)), (2, .map (some z))] = some #[.map (some x), .map (some y), .map (some z)] := by kernel_rfl
section
variable {S : Us} {w : World} {t x y z : Nat}
theorem gF_none : ∀ g, (fun _ => none : Int → Option Value) g = gF Us.none_ g := fun g => by rw [gF_no (S := Us.none_) rfl]
set_option maxRecDepth 100000 in
theorem table_new (w : World) : Calls Try.prog 10 #[] w fun e w' => e = .returned (.pointer (some ⟨w.heap.size + 3, 0, none⟩)) ∧ UsIn w' (w.heap.size + 3) w.heap.size (w.heap.size + 1) (w.heap.size + 2) Us.none_ ∧ Below w.heap.size w w' ∧ w'.heap.size = w.heap.size + 4 := by
  have hmm := @run_makeMap Try.prog
  have hb := table_built w.heap.size (w.heap.size + 1) (w.heap.size + 2)
  obtain ⟨w1, hw1⟩ : ∃ w1, w1 = w.alloc (.map #[] 0) := ⟨_, rfl⟩
  obtain ⟨w2, hw2⟩ : ∃ w2, w2 = w1.alloc (.map #[] 0) := ⟨_, rfl⟩
  obtain ⟨w3, hw3⟩ : ∃ w3, w3 = w2.alloc (.map #[] 0) := ⟨_, rfl⟩
  have e1 : w1.heap.size = w.heap.size + 1 := by rw [hw1]; exact World.size_alloc _ _
  have e2 : w2.heap.size = w.heap.size + 2 := by rw [hw2, World.size_alloc, e1]
  have e3 : w3.heap.size = w.heap.size + 3 := by rw [hw3, World.size_alloc, e2]
  have m1 : MapIs intKey w1 w.heap.size (fun _ => none) := by rw [hw1]; exact MapIs.new w
  have m2 : MapIs placeKey w2 (w.heap.size + 1) (fun _ => none) := by rw [hw2, ← e1]; exact MapIs.new w1
  have m3 : MapIs intKey w3 (w.heap.size + 2) (fun _ => none) := by rw [hw3, ← e2]; exact MapIs.new w2
  have l1 : Below w.heap.size w w1 := by rw [hw1]; exact (Below.refl _ w).alloc (Nat.le_refl _) _
  have l2 : Below w1.heap.size w1 w2 := by rw [hw2]; exact (Below.refl _ w1).alloc (Nat.le_refl _) _
  have l3 : Below w2.heap.size w2 w3 := by rw [hw3]; exact (Below.refl _ w2).alloc (Nat.le_refl _) _
  have HW := hide (show w3 = ((w.alloc (.map #[] 0)).alloc (.map #[] 0)).alloc (.map #[] 0) by rw [hw3, hw2, hw1])
  have HE1 := hide e1
  have HE2 := hide e2
  have HE3 := hide e3
  clear hw1 hw2 hw3 e1 e2 e3
  go_enter Try.func10, Try.ntmps10
  go_wp2_with (first
    | (refine wpList_build_is rfl 56 _ rfl [(0, .map (some w.heap.size)), (1, .map (some (w.heap.size + 1))), (2, .map (some (w.heap.size + 2)))] (by simp [Act.eval, Act.put]) _ hb ?_)
    | (rw [← HW.out]; refine wpList_box_blk rfl 56 (.tmp 4) rfl (.agg #[.map (some w.heap.size), .map (some (w.heap.size + 1)), .map (some (w.heap.size + 2))]) rfl ?_; intro w4 hb4 hl4 hs4; rw [HE3.out] at hb4 hs4 ⊢))
  go_ret
  have e1 := HE1.out
  have e2 := HE2.out
  have e3 := HE3.out
  refine ⟨rfl, ⟨hb4, ?_, ?_, ?_, by omega, by omega, by omega⟩, ?_, by omega⟩
  · exact ((((m1.below l2 (by omega)).below l3 (by omega)).below hl4 (by omega))).congr gF_none
  · exact (((m2.below l3 (by omega)).below hl4 (by omega))).congr (fun _ => rfl)
  · exact ((m3.below hl4 (by omega))).congr (fun _ => rfl)
  · exact ((l1.trans (l2.mono (by omega))).trans (l3.mono (by omega))).trans (hl4.mono (by omega))
set_option maxRecDepth 100000 in
set_option maxHeartbeats 1000000 in
theorem clone_any (m : UsIn w t x y z S) :
    Calls Try.prog 13 #[.pointer (some ⟨t, 0, none⟩)] w fun e w' => e = .returned (.pointer (some ⟨w.heap.size + 3, 0, none⟩)) ∧ UsIn w' (w.heap.size + 3) w.heap.size (w.heap.size + 1) (w.heap.size + 2) S ∧ Below w.heap.size w w' ∧ w'.heap.size = w.heap.size + 4 := by
  obtain ⟨es1, k1, b1, n1⟩ := mapIs_clone m.gm
  obtain ⟨es2, k2, b2, n2⟩ := mapIs_clone m.bm
  obtain ⟨es3, k3, b3, n3⟩ := mapIs_clone m.pm
  have hc0 := m.c0
  have hc1 := m.c1
  have hc2 := m.c2
  have h1 := m.gm.lt
  have h2 := m.bm.lt
  have h3 := m.pm.lt
  have hlt := m.head.lt
  obtain ⟨w1, hw1⟩ : ∃ w1, w1 = w.drew.alloc (.map es1 k1) := ⟨_, rfl⟩
  obtain ⟨w2, hw2⟩ : ∃ w2, w2 = w1.alloc (.map es2 k2) := ⟨_, rfl⟩
  obtain ⟨w3, hw3⟩ : ∃ w3, w3 = w2.alloc (.map es3 k3) := ⟨_, rfl⟩
  have e1 : w1.heap.size = w.heap.size + 1 := by rw [hw1]; exact World.size_alloc _ _
  have e2 : w2.heap.size = w.heap.size + 2 := by rw [hw2, World.size_alloc, e1]
  have e3 : w3.heap.size = w.heap.size + 3 := by rw [hw3, World.size_alloc, e2]
  have l1 : Below w.heap.size w w1 := by rw [hw1]; exact ((Below.refl _ w).drew).alloc (Nat.le_refl _) _
  have l2 : Below w1.heap.size w1 w2 := by rw [hw2]; exact (Below.refl _ w1).alloc (Nat.le_refl _) _
  have l3 : Below w2.heap.size w2 w3 := by rw [hw3]; exact (Below.refl _ w2).alloc (Nat.le_refl _) _
  have m1 : MapIs intKey w1 w.heap.size (gF S) := n1 _ _ (by rw [hw1]; exact heap_alloc_new w.drew _)
  have m2 : MapIs placeKey w2 (w.heap.size + 1) (bF S) := n2 _ _ (by rw [hw2, ← e1]; exact heap_alloc_new w1 _)
  have m3 : MapIs intKey w3 (w.heap.size + 2) (pF S) := n3 _ _ (by rw [hw3, ← e2]; exact heap_alloc_new w2 _)
  have S0 : w.drew.cell? ⟨t, 0, none⟩ = some (.map (some x)) ∧ w.drew.cell? ⟨t, 1, none⟩ = some (.map (some y)) ∧ w.drew.cell? ⟨t, 2, none⟩ = some (.map (some z)) := ⟨hc0, hc1, hc2⟩
  have S1 : w1.cell? ⟨t, 0, none⟩ = some (.map (some x)) ∧ w1.cell? ⟨t, 1, none⟩ = some (.map (some y)) ∧ w1.cell? ⟨t, 2, none⟩ = some (.map (some z)) := ⟨(l1.cell (p := ⟨t, 0, none⟩) hlt).trans hc0, (l1.cell (p := ⟨t, 1, none⟩) hlt).trans hc1, (l1.cell (p := ⟨t, 2, none⟩) hlt).trans hc2⟩
  have hlt2 : t < w1.heap.size := by omega
  have S2 : w2.cell? ⟨t, 0, none⟩ = some (.map (some x)) ∧ w2.cell? ⟨t, 1, none⟩ = some (.map (some y)) ∧ w2.cell? ⟨t, 2, none⟩ = some (.map (some z)) := ⟨(l2.cell (p := ⟨t, 0, none⟩) hlt2).trans S1.1, (l2.cell (p := ⟨t, 1, none⟩) hlt2).trans S1.2.1, (l2.cell (p := ⟨t, 2, none⟩) hlt2).trans S1.2.2⟩
  have hlt3 : t < w2.heap.size := by omega
  have S3 : w3.cell? ⟨t, 0, none⟩ = some (.map (some x)) ∧ w3.cell? ⟨t, 1, none⟩ = some (.map (some y)) ∧ w3.cell? ⟨t, 2, none⟩ = some (.map (some z)) := ⟨(l3.cell (p := ⟨t, 0, none⟩) hlt3).trans S2.1, (l3.cell (p := ⟨t, 1, none⟩) hlt3).trans S2.2.1, (l3.cell (p := ⟨t, 2, none⟩) hlt3).trans S2.2.2⟩
  have SS0 := hide S0
  have SS1 := hide S1
  have SS2 := hide S2
  have SS3 := hide S3
  have hlt4 : t < w3.heap.size := by omega
  have SS4 : Hid (∀ o : Obj, (w3.alloc o).cell? ⟨t, 0, none⟩ = some (.map (some x)) ∧ (w3.alloc o).cell? ⟨t, 1, none⟩ = some (.map (some y)) ∧ (w3.alloc o).cell? ⟨t, 2, none⟩ = some (.map (some z))) := hide (fun o => ⟨(World.cell?_alloc_lt w3 o ⟨t, 0, none⟩ hlt4).trans S3.1, (World.cell?_alloc_lt w3 o ⟨t, 1, none⟩ hlt4).trans S3.2.1, (World.cell?_alloc_lt w3 o ⟨t, 2, none⟩ hlt4).trans S3.2.2⟩)
  clear hlt2 hlt3 hlt4 S0 S1 S2 S3 hc0 hc1 hc2
  have C1 : Hid (Calls Try.prog 29 #[.map (some x)] w.drew fun e w' => e = .returned (.map (some w.heap.size)) ∧ w' = w1) := hide ((AnyW.maps_Clone lay_mcG x es1 k1 w.drew b1).mono fun e w' ⟨q1, q2⟩ => ⟨q1, by rw [q2, hw1]⟩)
  have C2 : Hid (Calls Try.prog 30 #[.map (some y)] w1 fun e w' => e = .returned (.map (some (w.heap.size + 1))) ∧ w' = w2) := hide ((AnyW.maps_Clone lay_mcB y es2 k2 w1 ((l1.block y h2).trans b2)).mono fun e w' ⟨q1, q2⟩ => ⟨by rw [q1, e1], by rw [q2, hw2]⟩)
  have C3 : Hid (Calls Try.prog 31 #[.map (some z)] w2 fun e w' => e = .returned (.map (some (w.heap.size + 2))) ∧ w' = w3) := hide ((AnyW.maps_Clone lay_mcP z es3 k3 w2 ((l2.block z (by omega)).trans ((l1.block z h3).trans b3))).mono fun e w' ⟨q1, q2⟩ => ⟨by rw [q1, e2], by rw [q2, hw3]⟩)
  have hb := table_built w.heap.size (w.heap.size + 1) (w.heap.size + 2)
  have HE1 := hide e1
  have HE2 := hide e2
  have HE3 := hide e3
  have L1 := hide l1
  have L2 := hide l2
  have L3 := hide l3
  clear hw1 hw2 hw3 b1 b2 b3 n1 n2 n3 e1 e2 e3 l1 l2 l3 m
  go_enter Try.func13, Try.ntmps13
  go_wp2
  go_region_held3 (fun W' => (W'.cell? ⟨t, 0, none⟩ = some (.map (some x)) ∧ W'.cell? ⟨t, 1, none⟩ = some (.map (some y)) ∧ W'.cell? ⟨t, 2, none⟩ = some (.map (some z)))) (first | exact SS0.out | exact SS1.out | exact SS2.out | exact SS3.out | exact SS4.out _) (first
    | (go_at_call 29; with_reducible refine C1.out.mono ?_; rintro _ w' ⟨rfl, hw'⟩; subst hw')
    | (go_at_call 30; with_reducible refine C2.out.mono ?_; rintro _ w' ⟨rfl, hw'⟩; subst hw')
    | (go_at_call 31; with_reducible refine C3.out.mono ?_; rintro _ w9 ⟨rfl, hw'⟩; subst hw'))
  all_goals
    have e1 := HE1.out
    have e2 := HE2.out
    have e3 := HE3.out
    go_wp2
    go_ret
    have hbx := Below.alloc (Below.refl w9.heap.size w9) (Nat.le_refl _) (.cells #[.map (some w.heap.size), .map (some (w.heap.size + 1)), .map (some (w.heap.size + 2))] 56)
    have hnew := Blk.new w9 56 #[.map (some w.heap.size), .map (some (w.heap.size + 1)), .map (some (w.heap.size + 2))]
    rw [e3] at hnew
    refine ⟨by rw [e3]; rfl, ⟨hnew, ?_, ?_, ?_, by omega, by omega, by omega⟩, ?_, by rw [World.size_alloc]; omega⟩
    · exact ((m1.below L2.out (by omega)).below L3.out (by omega)).below hbx (by omega)
    · exact (m2.below L3.out (by omega)).below hbx (by omega)
    · exact m3.below hbx (by omega)
    · exact ((L1.out.trans (L2.out.mono (by omega))).trans (L3.out.mono (by omega))).trans (hbx.mono (by omega))
end
#print axioms clone_any
end Go.Proofs.Ytgoglgghnjgcdaa
