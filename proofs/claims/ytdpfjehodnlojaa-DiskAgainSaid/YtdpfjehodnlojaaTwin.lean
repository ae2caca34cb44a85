/- A disk of its own that is as another one. -/
import Derived.Test.YtdpfjehodnlojaaAdd
namespace Go.Proofs.Ytdpfjehodnlojaa
open Go.RowKit

section
variable {w : World} {mb o l x : Nat} {f g : Nat → Option Value}
theorem clone_flat (h : MapIs w x f) : Calls Try.prog 48 #[.map (some x)] w fun e w' => e = .returned (.map (some w.heap.size)) ∧ MapIs w' w.heap.size f ∧ Below w.heap.size w w' := by
  obtain ⟨D, hown, hs⟩ := h
  refine (AnyW.maps_Clone_owns lay_cloneF 3 RH x _ D w hown).mono ?_
  rintro e w' ⟨he, h1, _, h3⟩
  exact ⟨he, ⟨D, h1, hs⟩, h3⟩
theorem clone_loose (h : MapIs w x f) : Calls Try.prog 49 #[.map (some x)] w fun e w' => e = .returned (.map (some w.heap.size)) ∧ MapIs w' w.heap.size f ∧ Below w.heap.size w w' := by
  obtain ⟨D, hown, hs⟩ := h
  refine (AnyW.maps_Clone_owns lay_cloneL 3 RH x _ D w hown).mono ?_
  rintro e w' ⟨he, h1, _, h3⟩
  exact ⟨he, ⟨D, h1, hs⟩, h3⟩
theorem clone_flat_nil (w : World) : Calls Try.prog 48 #[.map none] w fun e w' => e = .returned (.map none) ∧ w = w' :=
  (AnyW.maps_Clone_nil lay_cloneF w).mono fun _ _ ⟨h1, h2⟩ => ⟨h1, h2.symm⟩
theorem clone_loose_nil (w : World) : Calls Try.prog 49 #[.map none] w fun e w' => e = .returned (.map none) ∧ w = w' :=
  (AnyW.maps_Clone_nil lay_cloneL w).mono fun _ _ ⟨h1, h2⟩ => ⟨h1, h2.symm⟩
theorem disk_zero (w : World) : (zeroValue 60).run Try.prog w = .ok (.agg #[.int .i64 0, .bool false, .map none, .map none]) w := by kernel_rfl
set_option maxRecDepth 100000 in
set_option maxHeartbeats 2000000 in
theorem twin_some (z : Nat) (d : Bool) (hm : mb < w.heap.size) (c0 : w.cell? ⟨mb, o, none⟩ = some (.int .i64 (z : Int))) (c1 : w.cell? ⟨mb, o + 1, none⟩ = some (.bool d)) (c2 : w.cell? ⟨mb, o + 2, none⟩ = some (.map (some x))) (hx : MapIs w x f)
    (c3 : w.cell? ⟨mb, o + 3, none⟩ = some (.map (some l))) (hl : MapIs w l g) :
    Calls Try.prog 40 #[.pointer (some ⟨mb, o, none⟩)] w fun e w' => ∃ x' l', e = .returned (.agg #[.int .i64 (z : Int), .bool d, .map (some x'), .map (some l')]) ∧ MapIs w' x' f ∧ MapIs w' l' g ∧ x' ≠ l' ∧ w.heap.size ≤ x' ∧ w.heap.size ≤ l' ∧ Below w.heap.size w w' := by
  have hxt := hx.lt
  have hlt := hl.lt
  have hC : ∀ W, Below w.heap.size w W → ∀ (j : Nat) v, ([.int .i64 (z : Int), .bool d, .map (some x), .map (some l)] : List Value)[j]? = some v → W.cell? ((⟨mb, o, none⟩ : Addr).add j) = some v := by
    intro W hW j v hj
    have hadd : (⟨mb, o, none⟩ : Addr).add j = ⟨mb, o + j, none⟩ := by unfold Addr.add; split <;> simp_all
    rw [hadd, hW.cell (p := ⟨mb, o + j, none⟩) hm]
    match j, hj with
    | 0, hj => injection hj with hj; rw [← hj]; exact c0
    | 1, hj => injection hj with hj; rw [← hj]; exact c1
    | 2, hj => injection hj with hj; rw [← hj]; exact c2
    | 3, hj => injection hj with hj; rw [← hj]; exact c3
    | _ + 4, hj => cases hj
  have HC := hide hC
  have HX := hide hx
  have HL := hide hl
  clear hC hx hl
  go_enter Try.func40, Try.ntmps40
  go_wp2_with (first
    | (refine wpList_alloc_blk rfl 60 rfl _ (disk_zero _) ?_; intro w1 hb1 hl1 hs1; have H1 := hide (HC.out w1 hl1))
    | (refine wpList_load_at rfl 60 (.tmp 5) rfl ⟨mb, o, none⟩ rfl [.int .i64 (z : Int), .bool d, .map (some x), .map (some l)] _ H1.out Try.underlying60 rfl disk_info ?_)
    | (refine wpList_alloc_blk rfl 60 rfl _ (disk_zero _) ?_; intro w2 hb2 hl2 hs2)
    | (refine wpList_store_all rfl 60 (.tmp 3) (.tmp 6) rfl w1.heap.size 60 _ hb2 rfl [.int .i64 (z : Int), .bool d, .map (some x), .map (some l)] rfl disk_info rfl (by intro v hv; simp at hv; rcases hv with rfl | rfl | rfl | rfl <;> rfl) ?_; intro w3 hb3 hg3 hs3))
  simp only [Act.put, List.setIfInBounds_toArray, List.set_cons_succ, List.set_cons_zero]
  have hl03 : Below w.heap.size w w3 := (hl1.trans (hl2.mono hl1.size)).grown hg3 (by have := hl1.size; have := hl2.size; omega) (fun g e => by injection e with e; omega)
  have hs03 : w3.heap.size = w.heap.size + 1 + 1 := by omega
  have hb13 : Blk w3 w.heap.size 60 _ := (hb1.below hl2 (by omega)).grown hg3 (fun e => by injection e with e; omega)
  have hx3 : MapIs w3.drew x f := (HX.out.below hl03 hxt).drew
  have hl3 : MapIs w3 l g := HL.out.below hl03 hlt
  have c2d : w3.drew.cell? ⟨mb, o + 2, none⟩ = some (.map (some x)) := (hl03.cell (p := ⟨mb, o + 2, none⟩) hm).trans c2
  have c3d : w3.drew.cell? ⟨mb, o + 3, none⟩ = some (.map (some l)) := (hl03.cell (p := ⟨mb, o + 3, none⟩) hm).trans c3
  have hK1 : Calls Try.prog 48 #[.map (some x)] w3.drew fun e w' => e = .returned (.map (some w3.heap.size)) ∧ MapIs w' w3.heap.size f ∧ Below w3.heap.size w3 w' := (clone_flat hx3).mono fun e w' ⟨h1, h2, h3⟩ => ⟨h1, h2, ((Below.refl _ w3).drew).trans h3⟩
  have HK1 := hide hK1
  have HB3 := hide hb3
  have HB1 := hide hb13
  have HL3 := hide hl3
  have hlt1 : w.heap.size < w1.heap.size := by omega
  have hlt3 : w1.heap.size < w3.heap.size := by omega
  clear hl1 hl2 hg3 hb1 hb2 hb3 hb13 hK1 hx3 hl3 H1 hs1 hs2 hs3 hs03
  go_region_with (first
    | (go_at_call 48; refine HK1.out.mono ?_; rintro _ w4 ⟨rfl, hx4, hl4⟩; have hsz4 := hl4.size; have c34 : w4.cell? ⟨mb, o + 3, none⟩ = some (.map (some l)) := (hl4.cell (p := ⟨mb, o + 3, none⟩) (show mb < w3.heap.size by omega)).trans c3d; have hlp4 := HL3.out.below hl4 (show l < w3.heap.size by omega))
    | (go_at_call 49; refine (clone_loose hlp4).mono ?_; rintro _ w5 ⟨rfl, hlp5, hlo5⟩; have hl35 := hl4.trans (hlo5.mono hsz4); have hx5 := hx4.below hlo5 hx4.lt; have hb5 := HB3.out.below hl35 (show w1.heap.size < w3.heap.size by omega); have hb15 := HB1.out.below hl35 (show w.heap.size < w3.heap.size by omega); have c52 : w5.cell? ⟨w1.heap.size, 2, none⟩ = some (.map (some x)) := hb5.cell 2; have c53 : w5.cell? ⟨w1.heap.size, 3, none⟩ = some (.map (some l)) := hb5.cell 3; have f52 := hb5.frozen 2; have f53 := hb5.frozen 3))
  all_goals
    have hg6 := grown_set (grown_set (grown_refl w5 (some w1.heap.size)) ⟨w1.heap.size, 2, none⟩ rfl (.map (some w3.heap.size))) ⟨w1.heap.size, 3, none⟩ rfl (.map (some w4.heap.size))
    have hb6 := (hb5.set_ 2 (.map (some w3.heap.size))).set_ 3 (.map (some w4.heap.size))
    obtain ⟨w6, hw6⟩ : ∃ W, W = (w5.setCell ⟨w1.heap.size, 2, none⟩ (.map (some w3.heap.size))).setCell ⟨w1.heap.size, 3, none⟩ (.map (some w4.heap.size)) := ⟨_, rfl⟩
    rw [← hw6] at hg6 hb6 ⊢
    have hx4t := hx4.lt
    have hb16 := hb15.grown hg6 (fun e => by injection e with e; omega)
    have hx6 := hx5.grown hg6 (fun e => by injection e with e; omega)
    have hlo6 := hlp5.grown hg6 (fun e => by injection e with e; omega)
    have hs5 := hlo5.size
    have hl06 : Below w.heap.size w w6 := (hl03.trans (hl35.mono hl03.size)).grown hg6 (by have := hl03.size; omega) (fun g e => by injection e with e; omega)
    clear c52 c53 f52 f53 hw6 hg6 hb5 hb15 hx5 hlp5
    go_wp2_with (first
      | (refine wpList_load_blk rfl 60 (.tmp 3) rfl w1.heap.size 0 60 _ hb6 rfl [.int .i64 (z : Int), .bool d, .map (some w3.heap.size), .map (some w4.heap.size)] _ (fun j v hj => by rw [Nat.zero_add]; simpa using hj) Try.underlying60 rfl disk_info ?_)
      | (refine wpList_store_all rfl 60 (.tmp 2) (.tmp 19) rfl w.heap.size 60 _ hb16 rfl [.int .i64 (z : Int), .bool d, .map (some w3.heap.size), .map (some w4.heap.size)] rfl disk_info rfl (by intro v hv; simp at hv; rcases hv with rfl | rfl | rfl | rfl <;> rfl) ?_; intro w7 hb7 hg7 hs7))
    refine ret_cell rfl w.heap.size 60 [.int .i64 (z : Int), .bool d, .map (some w3.heap.size), .map (some w4.heap.size)] _ hb7 rfl Try.underlying60 rfl disk_info rfl ?_
    exact ⟨_, _, rfl, hx6.grown hg7 (fun e => by injection e with e; omega), hlo6.grown hg7 (fun e => by injection e with e; omega), by omega, by omega, by omega, hl06.grown hg7 hl06.size (fun g e => by injection e with e; omega)⟩
set_option maxRecDepth 100000 in
set_option maxHeartbeats 2000000 in
theorem twin_none (z : Nat) (d : Bool) (hm : mb < w.heap.size) (c0 : w.cell? ⟨mb, o, none⟩ = some (.int .i64 (z : Int))) (c1 : w.cell? ⟨mb, o + 1, none⟩ = some (.bool d)) (c2 : w.cell? ⟨mb, o + 2, none⟩ = some (.map none)) (c3 : w.cell? ⟨mb, o + 3, none⟩ = some (.map none)) :
    Calls Try.prog 40 #[.pointer (some ⟨mb, o, none⟩)] w fun e w' => e = .returned (.agg #[.int .i64 (z : Int), .bool d, .map none, .map none]) ∧ Below w.heap.size w w' := by
  have hC : ∀ W, Below w.heap.size w W → ∀ (j : Nat) v, ([.int .i64 (z : Int), .bool d, .map none, .map none] : List Value)[j]? = some v → W.cell? ((⟨mb, o, none⟩ : Addr).add j) = some v := by
    intro W hW j v hj
    have hadd : (⟨mb, o, none⟩ : Addr).add j = ⟨mb, o + j, none⟩ := by unfold Addr.add; split <;> simp_all
    rw [hadd, hW.cell (p := ⟨mb, o + j, none⟩) hm]
    match j, hj with
    | 0, hj => injection hj with hj; rw [← hj]; exact c0
    | 1, hj => injection hj with hj; rw [← hj]; exact c1
    | 2, hj => injection hj with hj; rw [← hj]; exact c2
    | 3, hj => injection hj with hj; rw [← hj]; exact c3
    | _ + 4, hj => cases hj
  have HC := hide hC
  clear hC
  go_enter Try.func40, Try.ntmps40
  go_wp2_with (first
    | (refine wpList_alloc_blk rfl 60 rfl _ (disk_zero _) ?_; intro w1 hb1 hl1 hs1; have H1 := hide (HC.out w1 hl1))
    | (refine wpList_load_at rfl 60 (.tmp 5) rfl ⟨mb, o, none⟩ rfl [.int .i64 (z : Int), .bool d, .map none, .map none] _ H1.out Try.underlying60 rfl disk_info ?_)
    | (refine wpList_alloc_blk rfl 60 rfl _ (disk_zero _) ?_; intro w2 hb2 hl2 hs2)
    | (refine wpList_store_all rfl 60 (.tmp 3) (.tmp 6) rfl w1.heap.size 60 _ hb2 rfl [.int .i64 (z : Int), .bool d, .map none, .map none] rfl disk_info rfl (by intro v hv; simp at hv; rcases hv with rfl | rfl | rfl | rfl <;> rfl) ?_; intro w3 hb3 hg3 hs3))
  simp only [Act.put, List.setIfInBounds_toArray, List.set_cons_succ, List.set_cons_zero]
  have hl03 : Below w.heap.size w w3 := (hl1.trans (hl2.mono hl1.size)).grown hg3 (by have := hl1.size; have := hl2.size; omega) (fun g e => by injection e with e; omega)
  have hb13 : Blk w3 w.heap.size 60 _ := (hb1.below hl2 (by omega)).grown hg3 (fun e => by injection e with e; omega)
  have c2d : w3.drew.cell? ⟨mb, o + 2, none⟩ = some (.map none) := (hl03.cell (p := ⟨mb, o + 2, none⟩) hm).trans c2
  have c3d : w3.drew.cell? ⟨mb, o + 3, none⟩ = some (.map none) := (hl03.cell (p := ⟨mb, o + 3, none⟩) hm).trans c3
  have HB3 := hide hb3
  have HB1 := hide hb13
  have hlt1 : w.heap.size < w1.heap.size := by omega
  have c52 : w3.drew.cell? ⟨w1.heap.size, 2, none⟩ = some (.map none) := hb3.cell 2
  have c53 : w3.drew.cell? ⟨w1.heap.size, 3, none⟩ = some (.map none) := hb3.cell 3
  have f52 : w3.drew.frozen? ⟨w1.heap.size, 2, none⟩ = false := hb3.frozen 2
  have f53 : w3.drew.frozen? ⟨w1.heap.size, 3, none⟩ = false := hb3.frozen 3
  have c62 : w3.cell? ⟨w1.heap.size, 2, none⟩ = some (.map none) := hb3.cell 2
  have c63 : w3.cell? ⟨w1.heap.size, 3, none⟩ = some (.map none) := hb3.cell 3
  have f62 : w3.frozen? ⟨w1.heap.size, 2, none⟩ = false := hb3.frozen 2
  have f63 : w3.frozen? ⟨w1.heap.size, 3, none⟩ = false := hb3.frozen 3
  clear hl1 hl2 hg3 hb1 hb2 hb3 hb13 H1 hs1 hs2 hs3
  go_region_with (first
    | (go_at_call 48; refine (clone_flat_nil _).mono ?_; rintro _ _ ⟨rfl, rfl⟩)
    | (go_at_call 49; refine (clone_loose_nil _).mono ?_; rintro _ _ ⟨rfl, rfl⟩))
  all_goals
    have hg6 := grown_drew (grown_set (grown_set (grown_refl w3 (some w1.heap.size)) ⟨w1.heap.size, 2, none⟩ rfl (.map none)) ⟨w1.heap.size, 3, none⟩ rfl (.map none))
    have hb6 := ((HB3.out.set_ 2 (.map none)).set_ 3 (.map none)).drew
    obtain ⟨w6, hw6⟩ : ∃ W, W = ((w3.setCell ⟨w1.heap.size, 2, none⟩ (.map none)).setCell ⟨w1.heap.size, 3, none⟩ (.map none)).drew := ⟨_, rfl⟩
    rw [← hw6] at hg6 hb6 ⊢
    have hb16 := HB1.out.grown hg6 (fun e => by injection e with e; omega)
    have hl06 : Below w.heap.size w w6 := hl03.grown hg6 hl03.size (fun g e => by injection e with e; omega)
    clear c52 c53 f52 f53 c62 c63 f62 f63 hw6 hg6 c2d c3d
    go_wp2_with (first
      | (refine wpList_load_blk rfl 60 (.tmp 3) rfl w1.heap.size 0 60 _ hb6 rfl [.int .i64 (z : Int), .bool d, .map none, .map none] _ (fun j v hj => by rw [Nat.zero_add]; simpa using hj) Try.underlying60 rfl disk_info ?_)
      | (refine wpList_store_all rfl 60 (.tmp 2) (.tmp 19) rfl w.heap.size 60 _ hb16 rfl [.int .i64 (z : Int), .bool d, .map none, .map none] rfl disk_info rfl (by intro v hv; simp at hv; rcases hv with rfl | rfl | rfl | rfl <;> rfl) ?_; intro w7 hb7 hg7 hs7))
    refine ret_cell rfl w.heap.size 60 [.int .i64 (z : Int), .bool d, .map none, .map none] _ hb7 rfl Try.underlying60 rfl disk_info rfl ?_
    exact ⟨rfl, hl06.grown hg7 hl06.size (fun g e => by injection e with e; omega)⟩
end
end Go.Proofs.Ytdpfjehodnlojaa
