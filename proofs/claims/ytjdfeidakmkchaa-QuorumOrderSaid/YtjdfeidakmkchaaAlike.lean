/- When two labels say the same but for whose they are: slices.Equal of members, alike, and the closures that Choose, missingOf and Lost look by. -/
import Derived.Test.YtjdfeidakmkchaaSameL
import Derived.Test.YtjdfeidakmkchaaLbs
namespace Go.Proofs.Ytjdfeidakmkchaa
open Go.RowKit

set_option maxRecDepth 100000 in
set_option maxHeartbeats 1000000 in
theorem equalMb_any (A C : Option Addr) (n c m d : Nat) (a b : List Mb) (B1 B2 : Nat) (w : World) (ha : MbIn w B1 A n c a) (hb : MbIn w B2 C m d b) :
    Calls Try.prog 35 #[.slice A n c, .slice C m d] w fun e w' => e = .returned (.bool (decide (a = b))) ∧ ∃ q, w' = w.drewN q := by
  have hla := ha.len
  have hlb := hb.len
  have hnc := ha.2
  have hmd := hb.2
  by_cases hnm : n = m
  · subst hnm
    have LA := hide hla
    have LB := hide hlb
    clear hla hlb
    go_enter Try.func35, Try.ntmps35
    go_wp2
    go_loopw [5, 13] (fun _ i wr => ∃ k q : Nat, k ≤ n ∧ i = .int .i64 k ∧ wr = w.drewN q ∧ Hid (a.take k = b.take k)) (fun _ i _ => n - (intOf i).toNat)
    case atStart => exact ⟨0, 0, Nat.zero_le _, rfl, rfl, hide (by simp)⟩
    case round =>
      obtain ⟨k, q, hk, rfl, rfl, hall⟩ := hrel
      by_cases hkn : k < n
      · obtain ⟨ad, x, rfl, _, hx, hca⟩ := ha.at_ hkn
        obtain ⟨bd, y, rfl, _, hy, hcb⟩ := hb.at_ hkn
        have HX := hide hx
        have HY := hide hy
        have HCA := hide hca
        have HCB := hide hcb
        clear hx hy hca hcb
        go_wp2_with fail
        refine wp_region_quiet_lit (by kernel_rfl) (by kernel_rfl) ?_
        iterate 3 (go_big_quiet_step (fail))
        refine quiet_load_at rfl 28 (.tmp 18) rfl (ad.add (k * 3)) rfl (mbC x) _ (by rintro w1 ⟨q1, rfl⟩ j v hv; exact HCA.out j v hv) Try.underlying28 rfl mb_info ?_
        simp only [Act.put, List.setIfInBounds_toArray, List.set_cons_succ, List.set_cons_zero]
        iterate 3 (go_big_quiet_step (fail))
        refine quiet_load_at rfl 28 (.tmp 22) rfl (bd.add (k * 3)) rfl (mbC y) _ (by rintro w1 ⟨q1, rfl⟩ j v hv; exact HCB.out j v hv) Try.underlying28 rfl mb_info ?_
        refine quiet_neq_mb rfl (.tmp 19) (.tmp 23) _ rfl x y rfl rfl ?_
        refine wpQuiet_nil ?_
        rintro w1 ⟨q1, rfl⟩
        simp only [Act.put, List.setIfInBounds_toArray, List.set_cons_succ, List.set_cons_zero]
        by_cases hxy : x = y
        · have HXY := hide hxy
          have hdd : (!decide (x = y)) = false := by simp [hxy]
          rw [hdd]
          clear hxy
          go_wp2
          go_roundw
          case rel => exact ⟨k + 1, _, by omega, by go_num, rfl, hide (by rw [take_more HX.out, take_more HY.out, hall.out, HXY.out])⟩
          case measure => simp [intOf]; omega
        · have hdd : (!decide (x = y)) = true := by simp [hxy]
          have H := hide (same_no HX.out HY.out hxy)
          rw [hdd]
          go_wp2
          go_ret
          exact ⟨ret_b H.out.symm, _, World.drewN_drewN _ _ _⟩
      · obtain rfl : k = n := by omega
        have H := hide (same_yes LA.out LB.out hall.out)
        go_wp2
        go_ret
        exact ⟨ret_b H.out.symm, q, rfl⟩
  · have H := hide (same_len (a := a) (b := b) (by omega))
    have hne : ((n : Int) != (m : Int)) = true := by simp; omega
    clear hla hlb
    go_enter Try.func35, Try.ntmps35
    go_wp2
    go_ret
    exact ⟨ret_b H.out.symm, 0, rfl⟩
set_option maxRecDepth 100000 in
set_option maxHeartbeats 2000000 in
theorem alike_any (a b : Lab) (A C : Option Addr) (n c m d : Nat) (B1 B2 : Nat) (w : World) (ha : MbIn w B1 A n c a.members) (hb : MbIn w B2 C m d b.members) (hB1 : B1 ≤ w.heap.size) (hB2 : B2 ≤ w.heap.size) :
    Calls Try.prog 28 #[labV a A n c, labV b C m d] w fun e w' => e = .returned (.bool (alikeB a b)) ∧ Below w.heap.size w w' := by
  have HM := hide (fun w1 (hl : Below w.heap.size w w1) => equalMb_any A C n c m d a.members b.members B1 B2 w1 (ha.below (hl.mono hB1)) (hb.below (hl.mono hB2)))
  clear ha hb
  have hcast : ∀ x y : Int, (x == y) = decide (x = y) := fun x y => rfl
  cases h0 : (a.array == b.array) with
  | false =>
    have HR := hide (show alikeB a b = false by simp [alikeB, ← hcast, h0])
    rw [HR.out]
    clear hcast
    go_enter Try.func28, Try.ntmps28
    go_wp2_with (first
      | (refine wpList_box_blk rfl 24 (.tmp 0) rfl (.agg (labC a A n c).toArray) rfl ?_; intro w1 hb1q hl1 hs1; clear hs1; have hb1 : Blk w1 w.heap.size 24 (labC a A n c).toArray := hb1q; clear hb1q)
      | (refine wpList_box_blk rfl 24 (.tmp 1) rfl (.agg (labC b C m d).toArray) rfl ?_; intro w2 hb2q hl2 hs2; clear hs2; have hb2 : Blk w2 w1.heap.size 24 (labC b C m d).toArray := hb2q; clear hb2q; have hz1 := hb1.lt; have hb12 := hb1.below hl2 hz1; have x0 := lab_c0 hb12; have x1 := lab_c1 hb12; have x3 := lab_c3 hb12; have x4 := lab_c4 hb12; have y0 := lab_c0 hb2; have y1 := lab_c1 hb2; have y3 := lab_c3 hb2; have y4 := lab_c4 hb2))
    go_ret
    exact ⟨rfl, hl1.trans (hl2.mono (by omega))⟩
  | true =>
    cases h1 : (a.gen == b.gen) with
    | false =>
      have HR := hide (show alikeB a b = false by simp [alikeB, ← hcast, h1])
      rw [HR.out]
      clear hcast
      go_enter Try.func28, Try.ntmps28
      go_wp2_with (first
        | (refine wpList_box_blk rfl 24 (.tmp 0) rfl (.agg (labC a A n c).toArray) rfl ?_; intro w1 hb1q hl1 hs1; clear hs1; have hb1 : Blk w1 w.heap.size 24 (labC a A n c).toArray := hb1q; clear hb1q)
        | (refine wpList_box_blk rfl 24 (.tmp 1) rfl (.agg (labC b C m d).toArray) rfl ?_; intro w2 hb2q hl2 hs2; clear hs2; have hb2 : Blk w2 w1.heap.size 24 (labC b C m d).toArray := hb2q; clear hb2q; have hz1 := hb1.lt; have hb12 := hb1.below hl2 hz1; have x0 := lab_c0 hb12; have x1 := lab_c1 hb12; have x3 := lab_c3 hb12; have x4 := lab_c4 hb12; have y0 := lab_c0 hb2; have y1 := lab_c1 hb2; have y3 := lab_c3 hb2; have y4 := lab_c4 hb2))
      go_ret
      exact ⟨rfl, hl1.trans (hl2.mono (by omega))⟩
    | true =>
      cases h2 : (a.blocks == b.blocks) with
      | false =>
        have HR := hide (show alikeB a b = false by simp [alikeB, ← hcast, h2])
        rw [HR.out]
        clear hcast
        go_enter Try.func28, Try.ntmps28
        go_wp2_with (first
          | (refine wpList_box_blk rfl 24 (.tmp 0) rfl (.agg (labC a A n c).toArray) rfl ?_; intro w1 hb1q hl1 hs1; clear hs1; have hb1 : Blk w1 w.heap.size 24 (labC a A n c).toArray := hb1q; clear hb1q)
          | (refine wpList_box_blk rfl 24 (.tmp 1) rfl (.agg (labC b C m d).toArray) rfl ?_; intro w2 hb2q hl2 hs2; clear hs2; have hb2 : Blk w2 w1.heap.size 24 (labC b C m d).toArray := hb2q; clear hb2q; have hz1 := hb1.lt; have hb12 := hb1.below hl2 hz1; have x0 := lab_c0 hb12; have x1 := lab_c1 hb12; have x3 := lab_c3 hb12; have x4 := lab_c4 hb12; have y0 := lab_c0 hb2; have y1 := lab_c1 hb2; have y3 := lab_c3 hb2; have y4 := lab_c4 hb2))
        go_ret
        exact ⟨rfl, hl1.trans (hl2.mono (by omega))⟩
      | true =>
        have HR := hide (show alikeB a b = decide (a.members = b.members) by simp [alikeB, ← hcast, h0, h1, h2])
        rw [HR.out]
        clear hcast
        generalize decide (a.members = b.members) = r at HM ⊢
        go_enter Try.func28, Try.ntmps28
        go_wp2_with (first
          | (refine wpList_box_blk rfl 24 (.tmp 0) rfl (.agg (labC a A n c).toArray) rfl ?_; intro w1 hb1q hl1 hs1; clear hs1; have hb1 : Blk w1 w.heap.size 24 (labC a A n c).toArray := hb1q; clear hb1q)
          | (refine wpList_box_blk rfl 24 (.tmp 1) rfl (.agg (labC b C m d).toArray) rfl ?_; intro w2 hb2q hl2 hs2; clear hs2; have hb2 : Blk w2 w1.heap.size 24 (labC b C m d).toArray := hb2q; clear hb2q; have hz1 := hb1.lt; have hb12 := hb1.below hl2 hz1; have x0 := lab_c0 hb12; have x1 := lab_c1 hb12; have x3 := lab_c3 hb12; have x4 := lab_c4 hb12; have y0 := lab_c0 hb2; have y1 := lab_c1 hb2; have y3 := lab_c3 hb2; have y4 := lab_c4 hb2)
          | (go_at_call 35; refine (HM.out w2 (hl1.trans (hl2.mono (by omega)))).mono ?_; rintro _ w3 ⟨rfl, q3, rfl⟩))
        go_ret
        exact ⟨rfl, below_drewN (hl1.trans (hl2.mono (by omega))) _⟩

/-- The closure that asks whether a label is as new as the newest one, and another one. -/
def OtherAt (w : World) (B0 g : Nat) (N : LabV) : Prop := Blk w g 24 (lvC N).toArray ∧ LvIn w B0 N
theorem another_eq {L x : Lab} (h : (x.gen == L.gen) = true) : anotherB L x = !alikeB x L := by
  have : x.gen = L.gen := by simpa using h
  simp [anotherB, this]
theorem another_ne {L x : Lab} (h : (x.gen == L.gen) = false) : anotherB L x = false := by
  have : ¬ x.gen = L.gen := by simpa using h
  simp [anotherB, this]
set_option maxRecDepth 100000 in
set_option maxHeartbeats 2000000 in
theorem other_any (x N : LabV) (g B0 : Nat) (w : World) (hx : LvIn w B0 x) (hB0 : B0 ≤ w.heap.size) (hN : Blk w g 24 (lvC N).toArray) (hNm : LvIn w B0 N) :
    Calls Try.prog 27 #[lvV x, .pointer (some ⟨g, 0, none⟩)] w fun e w' => e = .returned (.bool (anotherB N.1 x.1)) ∧ Below w.heap.size w w' := by
  obtain ⟨l, A, n, c⟩ := x
  obtain ⟨L, C, m, d⟩ := N
  have hxm : MbIn w B0 A n c l.members := hx
  have hNm' : MbIn w B0 C m d L.members := hNm
  have hN' : Blk w g 24 (labC L C m d).toArray := hN
  have HA := hide (fun w1 (hl : Below w.heap.size w w1) => alike_any l L A C n c m d B0 B0 w1 (hxm.below (hl.mono hB0)) (hNm'.below (hl.mono hB0)) (Nat.le_trans hB0 hl.size) (Nat.le_trans hB0 hl.size))
  have hgl := hN'.lt
  clear hx hN hNm hxm hNm'
  show Calls Try.prog 27 #[labV l A n c, .pointer (some ⟨g, 0, none⟩)] w fun e w' => e = .returned (.bool (anotherB L l)) ∧ Below w.heap.size w w'
  cases h0 : (l.gen == L.gen) with
  | false =>
    rw [another_ne h0]
    go_enter Try.func27, Try.ntmps27
    go_wp2_with (refine wpList_box_blk rfl 24 (.tmp 0) rfl (.agg (labC l A n c).toArray) rfl ?_; intro w1 hb1q hl1 hs1; clear hs1; have hb1 : Blk w1 w.heap.size 24 (labC l A n c).toArray := hb1q; clear hb1q; have hg1 := hN'.below hl1 hgl; have x1 := lab_c1 hb1; have y1 := lab_c1 hg1)
    go_ret
    exact ⟨rfl, hl1⟩
  | true =>
    rw [another_eq h0]
    generalize alikeB l L = r at HA ⊢
    go_enter Try.func27, Try.ntmps27
    go_wp2_with (first
      | (refine wpList_box_blk rfl 24 (.tmp 0) rfl (.agg (labC l A n c).toArray) rfl ?_; intro w1 hb1q hl1 hs1; clear hs1; have hb1 : Blk w1 w.heap.size 24 (labC l A n c).toArray := hb1q; clear hb1q; have hg1 := hN'.below hl1 hgl; have x1 := lab_c1 hb1; have y1 := lab_c1 hg1)
      | (refine when_load rfl 24 (.tmp 2) rfl w.heap.size 0 24 _ hb1 rfl (labC l A n c) _ (fun j v hj => by rw [Nat.zero_add]; simpa using hj) Try.underlying24 rfl lab_info ?_)
      | (refine when_load rfl 24 (.tmp 1) rfl g 0 24 _ hg1 rfl (labC L C m d) _ (fun j v hj => by rw [Nat.zero_add]; simpa using hj) Try.underlying24 rfl lab_info ?_)
      | (go_at_call 28; refine (HA.out w1 hl1).mono ?_; rintro _ w2 ⟨rfl, hl2⟩))
    go_ret
    exact ⟨rfl, hl1.trans (hl2.mono hl1.size)⟩
/-- The closure that asks whether a label is of this array and this member. -/
theorem ofIt_no {L x : Lab} {id : Int} (h : (x.array == L.array) = false) : ofItB L id x = false := by
  have : ¬ x.array = L.array := by simpa using h
  simp [ofItB, this]
theorem ofIt_yes {L x : Lab} {id : Int} (h : (x.array == L.array) = true) : ofItB L id x = (x.member == id) := by
  have : x.array = L.array := by simpa using h
  simp only [ofItB, this, decide_true, Bool.true_and]
  rfl
set_option maxRecDepth 100000 in
set_option maxHeartbeats 1000000 in
theorem ofIt_any (x : LabV) (L : Lab) (id : Int) (g gm : Nat) (w : World) (hg : g < w.heap.size) (hgm : gm < w.heap.size) (h0 : w.cell? ⟨g, 0, none⟩ = some (.int .i64 L.array)) (h1 : w.cell? ⟨gm, 0, none⟩ = some (.int .i64 id)) :
    Calls Try.prog 37 #[lvV x, .pointer (some ⟨g, 0, none⟩), .pointer (some ⟨gm, 0, none⟩)] w fun e w' => e = .returned (.bool (ofItB L id x.1)) ∧ Below w.heap.size w w' := by
  obtain ⟨l, A, n, c⟩ := x
  show Calls Try.prog 37 #[labV l A n c, .pointer (some ⟨g, 0, none⟩), .pointer (some ⟨gm, 0, none⟩)] w fun e w' => e = .returned (.bool (ofItB L id l)) ∧ Below w.heap.size w w'
  cases hq : (l.array == L.array) with
  | false =>
    rw [ofIt_no hq]
    go_enter Try.func37, Try.ntmps37
    go_wp2_with (refine wpList_box_blk rfl 24 (.tmp 0) rfl (.agg (labC l A n c).toArray) rfl ?_; intro w1 hb1q hl1 hs1; clear hs1; have hb1 : Blk w1 w.heap.size 24 (labC l A n c).toArray := hb1q; clear hb1q; have y0 := (hl1.cell (p := ⟨g, 0, none⟩) hg).trans h0; have z0 := (hl1.cell (p := ⟨gm, 0, none⟩) hgm).trans h1; have x0 := lab_c0 hb1; have x2 := lab_c2 hb1)
    go_ret
    exact ⟨rfl, hl1⟩
  | true =>
    rw [ofIt_yes hq]
    go_enter Try.func37, Try.ntmps37
    go_wp2_with (refine wpList_box_blk rfl 24 (.tmp 0) rfl (.agg (labC l A n c).toArray) rfl ?_; intro w1 hb1q hl1 hs1; clear hs1; have hb1 : Blk w1 w.heap.size 24 (labC l A n c).toArray := hb1q; clear hb1q; have y0 := (hl1.cell (p := ⟨g, 0, none⟩) hg).trans h0; have z0 := (hl1.cell (p := ⟨gm, 0, none⟩) hgm).trans h1; have x0 := lab_c0 hb1; have x2 := lab_c2 hb1)
    go_ret
    exact ⟨rfl, hl1⟩
theorem idIs_any (m : Mb) (id : Int) (g : Nat) (w : World) (hg : g < w.heap.size) (hc : w.cell? ⟨g, 0, none⟩ = some (.int .i64 id)) :
    Calls Try.prog 20 #[mbV m, .pointer (some ⟨g, 0, none⟩)] w fun e w' => e = .returned (.bool (m.1 == id)) ∧ Below w.heap.size w w' := by
  unfold mbV
  have hne : g ≠ w.heap.size := by omega
  go_enter Try.func20, Try.ntmps20
  go_wp2
  all_goals (go_ret; exact ⟨by simp_all, (Below.refl _ _).alloc (Nat.le_refl _) _⟩)
theorem isFailed_any (m : Mb) (w : World) :
    Calls Try.prog 21 #[mbV m] w fun e w' => e = .returned (.bool (m.2.2 == 1)) ∧ Below w.heap.size w w' := by
  unfold mbV
  go_enter Try.func21, Try.ntmps21
  go_wp2
  all_goals (go_ret; exact ⟨by simp_all, (Below.refl _ _).alloc (Nat.le_refl _) _⟩)
#print axioms alike_any
#print axioms other_any
#print axioms ofIt_any
end Go.Proofs.Ytjdfeidakmkchaa
