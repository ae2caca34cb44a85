/- What the order by 'since' answers for two places. -/
import Derived.Test.YtmjjnbabfldbcaaGreatSince
import Derived.Deep.RegionHeld3
namespace Go.Proofs.YtmjjnbabfldbcaaGreat
open Go.RowKit Go.Sort

/-- Draws, and blocks behind: nothing else. -/
def Gr (a w : World) : Prop := ∃ q os', w = grow (a.drewN q) os'
theorem Gr.refl (a : World) : Gr a a := ⟨0, #[], by rw [grow_empty]; rfl⟩
theorem drewN_grow (a : World) (os : Array Obj) (n : Nat) : (grow a os).drewN n = grow (a.drewN n) os := rfl
theorem drewN_drewN2 (a : World) (m n : Nat) : (a.drewN m).drewN n = a.drewN (m + n) := by simp [World.drewN, Nat.add_assoc]
theorem Gr.drew {a w : World} (h : Gr a w) : Gr a w.drew := by
  obtain ⟨q, os, rfl⟩ := h
  exact ⟨q + 1, os, rfl⟩
theorem Gr.alloc {a w : World} (h : Gr a w) (o : Obj) : Gr a (w.alloc o) := by
  obtain ⟨q, os, rfl⟩ := h
  exact ⟨q, os ++ #[o], by rw [alloc_eq_grow, grow_grow]⟩
theorem Gr.trans {a b c : World} (h : Gr a b) (k : Gr b c) : Gr a c := by
  obtain ⟨q, os, rfl⟩ := h
  obtain ⟨q', os', rfl⟩ := k
  exact ⟨q + q', os ++ os', by rw [drewN_grow, grow_grow, drewN_drewN2]⟩
theorem Gr.below {a w : World} (h : Gr a w) : Below a.heap.size a w := by
  obtain ⟨q, os, rfl⟩ := h
  refine ⟨rfl, rfl, rfl, by simp [grow, World.drewN], fun k hk => ?_⟩
  show (a.heap ++ os)[k]? = a.heap[k]?
  rw [Array.getElem?_append_left hk]
def byS (S : Bank) (L : Lay) (x y : Nat × Nat) : Int := Lib.compareInt (sinceOf S L x) (sinceOf S L y)
section
variable {w : World} {b : Nat} {L : Lay} {S : Bank}
set_option maxRecDepth 100000 in
theorem closure_any (h : BankIn w b L S) (hok : S.Ok) (bx : Nat) (hbx : w.cell? ⟨bx, 0, none⟩ = some (.pointer (some ⟨b, 0, none⟩))) (hbl : bx < w.heap.size) (x y : Nat × Nat) (hx : x.1 < S.n) (hx2 : x.2 < 9223372036854775808) (hy : y.1 < S.n) (hy2 : y.2 < 9223372036854775808) :
    Calls Tryz.prog 98 #[.agg (placeL x).toArray, .agg (placeL y).toArray, .pointer (some ⟨bx, 0, none⟩)] w fun e w' => e = .returned (.int .i64 (byS S L x y)) ∧ Gr w w' := by
  obtain ⟨w2, hw2⟩ : ∃ w2, w2 = (w.alloc (.cells (placeL x).toArray 47)).alloc (.cells (placeL y).toArray 47) := ⟨_, rfl⟩
  have hg : Gr w w2 := by rw [hw2]; exact ((Gr.refl w).alloc _).alloc _
  have hbel := hg.below
  have hA : Blk w2 w.heap.size 47 (placeL x).toArray := by rw [hw2]; exact (Blk.new w _ _).alloc _
  have hB : Blk w2 (w.heap.size + 1) 47 (placeL y).toArray := by
    rw [hw2]
    have := Blk.new (w.alloc (.cells (placeL x).toArray 47)) 47 (placeL y).toArray
    rwa [World.size_alloc] at this
  have FS : ∀ W', Gr w2 W' → (W'.cell? ⟨bx, 0, none⟩ = some (.pointer (some ⟨b, 0, none⟩)) ∧ W'.cell? ⟨w.heap.size, 0, none⟩ = some (.int .i64 (x.1 : Int)) ∧ W'.cell? ⟨w.heap.size, 1, none⟩ = some (.int .i64 (x.2 : Int)) ∧
      W'.cell? ⟨w.heap.size + 1, 0, none⟩ = some (.int .i64 (y.1 : Int)) ∧ W'.cell? ⟨w.heap.size + 1, 1, none⟩ = some (.int .i64 (y.2 : Int)) ∧ Gr w2 W') := by
    intro W' hG
    have hb := hG.below
    refine ⟨(hb.cell (by have := hbel.size; exact Nat.lt_of_lt_of_le hbl this)).trans ((hbel.cell hbl).trans hbx), (hb.cell hA.lt).trans (hA.cell 0), (hb.cell hA.lt).trans (hA.cell 1), (hb.cell hB.lt).trans (hB.cell 0), (hb.cell hB.lt).trans (hB.cell 1), hG⟩
  have h2 : BankIn w2 b L S := h.later hbel
  have HS : ∀ (z : Nat × Nat), z.1 < S.n → z.2 < 9223372036854775808 → ∀ W', Gr w2 W' → Calls Tryz.prog 100 #[.pointer (some ⟨b, 0, none⟩), .agg #[.int .i64 (z.1 : Int), .int .i64 (z.2 : Int)]] W' fun e w' => e = .returned (.int .i64 (sinceOf S L z : Int)) ∧ Gr w2 w' := by
    intro z hz hz2 W' hG
    refine (since_any (h2.later hG.below) hok z.1 z.2 hz hz2).mono ?_
    rintro e w' ⟨he, rfl⟩
    exact ⟨he, (hG.alloc _).drew⟩
  have hX := HS x hx hx2
  have hY := HS y hy hy2
  have hC : ∀ W', Calls Tryz.prog 99 #[.int .i64 (sinceOf S L x : Int), .int .i64 (sinceOf S L y : Int)] W' fun e w' => e = .returned (.int .i64 (byS S L x y)) ∧ w' = W' := fun W' => AnyG.cmp_Compare_int lay_cmpInt _ _ W'
  unfold placeL at hw2 ⊢
  generalize byS S L x y = r at hC ⊢
  generalize sinceOf S L x = s1 at hX hC
  generalize sinceOf S L y = s2 at hY hC
  have HX := hide hX
  have HY := hide hY
  have HC := hide hC
  have HF := hide FS
  have HG := hide hg
  have HW := hide hw2
  clear hX hY hC FS HS hA hB hbel h h2 hok hbx hw2 hg
  go_enter Tryz.func98, Tryz.ntmps98
  go_wp2
  rw [← HW.out]
  go_region_held3 (fun W' => (W'.cell? ⟨bx, 0, none⟩ = some (.pointer (some ⟨b, 0, none⟩)) ∧ W'.cell? ⟨w.heap.size, 0, none⟩ = some (.int .i64 (x.1 : Int)) ∧ W'.cell? ⟨w.heap.size, 1, none⟩ = some (.int .i64 (x.2 : Int)) ∧
      W'.cell? ⟨w.heap.size + 1, 0, none⟩ = some (.int .i64 (y.1 : Int)) ∧ W'.cell? ⟨w.heap.size + 1, 1, none⟩ = some (.int .i64 (y.2 : Int)) ∧ Gr w2 W')) (first | assumption | exact HF.out _ (by assumption) | exact HF.out _ ((Gr.refl _).drew) | exact HF.out _ (Gr.refl _))
    ((first
      | (go_at_call 100; ((with_reducible refine (HX.out _ (‹_ ∧ _ ∧ _ ∧ _ ∧ _ ∧ Gr w2 _›.2.2.2.2.2)).mono ?_); rintro e w6 ⟨rfl, hg6⟩))
      | (go_at_call 100; ((with_reducible refine (HY.out _ (‹_ ∧ _ ∧ _ ∧ _ ∧ _ ∧ Gr w2 _›.2.2.2.2.2)).mono ?_); rintro e w7 ⟨rfl, hg7⟩))
      | (go_at_call 99; ((with_reducible refine (HC.out _).mono ?_); rintro e w8 ⟨rfl, rfl⟩))))
  all_goals
    have hend := ‹_ ∧ _ ∧ _ ∧ _ ∧ _ ∧ Gr w2 _›.2.2.2.2.2
    go_wp2
    go_ret
    exact ⟨rfl, HG.out.trans hend⟩
end
end Go.Proofs.YtmjjnbabfldbcaaGreat
