/- What quorum's laws begin with: a label of three members, a label cut to twenty members. -/
import Derived.Test.YtjdfeidakmkchaaOwnL
namespace Go.Proofs.Ytjdfeidakmkchaa
open Go.RowKit

def threeL (gen member : Int) : Lab := ⟨9, gen, member, 16, [(0, 200, 0), (1, 300, 0), (2, 160, 0)]⟩
def threeV (gen member : Int) (A : Option Addr) (c : Nat) : Value := .agg #[.int .i64 9, .int .i64 gen, .int .i64 member, .int .i64 16, .slice A 3 c]
set_option maxRecDepth 100000 in
set_option maxHeartbeats 1000000 in
theorem three_any (gen member : Int) (w : World) :
    Calls Try.prog 14 #[.int .i64 gen, .int .i64 member] w fun e w' => (∃ A c, e = .returned (threeV gen member A c) ∧ Gave (threeL gen member) w w' A 3 c) ∧ Below w.heap.size w w' := by
  go_enter Try.func14, Try.ntmps14
  go_wp2_with fail
  have hb : Blk ((w.alloc (.cells (labC (threeL gen member) (some ⟨w.heap.size + 1, 0, none⟩) 3 3).toArray 24)).alloc (.cells (mbL (threeL gen member).members).toArray 28)) w.heap.size 24 (labC (threeL gen member) (some ⟨w.heap.size + 1, 0, none⟩) 3 3).toArray := (Blk.new _ _ _).alloc _
  have hr := Reads.fresh (w.alloc (.cells (labC (threeL gen member) (some ⟨w.heap.size + 1, 0, none⟩) 3 3).toArray 24)) (mbL (threeL gen member).members) 28 (w.heap.size + 2) 3 3 (by rw [World.size_alloc]; omega) rfl
  rw [World.size_alloc] at hr
  refine ret_cell rfl w.heap.size 24 (labC (threeL gen member) (some ⟨w.heap.size + 1, 0, none⟩) 3 3) _ hb rfl Try.underlying24 rfl lab_info rfl ⟨⟨_, _, rfl, ⟨⟨hr.more ?_, Nat.le_refl _, by omega⟩, ?_⟩⟩, ?_⟩
  · rw [World.size_alloc, World.size_alloc]
    omega
  · intro _ ad e
    injection e with e
    subst e
    show w.heap.size ≤ w.heap.size + 1
    omega
  · exact (((Below.refl _ _).alloc (Nat.le_refl _) _).alloc (by rw [World.size_alloc]; omega) _)
set_option maxRecDepth 100000 in
set_option maxHeartbeats 1000000 in
theorem cut5_any (l : Lab) (A : Option Addr) (n c : Nat) (B0 : Nat) (w : World) (hr : MbIn w B0 A n c l.members) (hB0 : B0 ≤ w.heap.size) :
    Calls Try.prog 9 #[labV l A n c] w (Copied (cutL l) w) := by
  obtain ⟨i0, hi0, hz0, hz1i, hz2i⟩ := info_parts mb_parts
  have hlen := hr.len
  obtain ⟨m, hm⟩ : ∃ m : Nat, m = min n 20 := ⟨_, rfl⟩
  have hm1 : m ≤ n := by omega
  have hm2 : m ≤ 20 := by omega
  have hhead := hr.1.head hm1
  rw [mbL_take] at hhead
  have htake : l.members.take m = l.members.take 20 := by
    by_cases h : n ≤ 20
    · rw [List.take_of_length_le (by omega), List.take_of_length_le (by omega)]
    · rw [show m = 20 by omega]
  have hnc := hr.2
  have HH := hide hhead
  have HT := hide htake
  have hA : 0 + m ≤ maxLen := by simp only [maxLen]; omega
  have hB : (0 + m) * 24 ≤ 140737488355328 := by omega
  have hmA : (20 : Int) < (n : Int) → m = 20 := fun h => by rw [hm]; exact Nat.min_eq_right (by omega)
  have hmB : ¬ (20 : Int) < (n : Int) → m = n := fun h => by rw [hm]; exact Nat.min_eq_left (by omega)
  by_cases h20 : (20 : Int) < (n : Int)
  · obtain rfl : m = 20 := hmA h20
    clear hr hlen hm hhead htake hmA hmB
    go_enter Try.func9, Try.ntmps9
    go_wp2_with (first
      | (refine wpList_box_blk rfl 24 _ rfl (.agg (labC l A n c).toArray) rfl ?_; intro w1 hb1q hl1 hs1; clear hs1; have hb1 : Blk w1 w.heap.size 24 (labC l A n c).toArray := hb1q; clear hb1q)
      | (refine wpList_alloc_blk rfl 24 rfl _ (lab_zero _) ?_; intro w2 hb2 hl2 hs2; clear hs2; have hz1 := hb1.lt; have hz2 := hb2.lt; have x4 : (w2.alloc (.cells #[] 28)).cell? ⟨w.heap.size, 4, none⟩ = some (.slice A n c) := ((hb1.below hl2 hb1.lt).alloc _).cell 4)
      | (at_builtin; refine wpList_append_any _ rfl (.tmp 3) (.tmp 10) _ rfl w2.heap.size 28 i0 _ 3 24 Try.underlying22 hi0 hz0 hz1i hz2i rfl (by omega) _ 0 [] rfl (World.ownsRow_made w2 #[] 0 (Nat.le_refl _) (Nat.zero_le _) rfl) B0 A 20 c _ rfl (HH.out.below (((hl1.trans (hl2.mono (by omega))).alloc (by omega) _).mono hB0)) (mbL_one _) hA hB (le_alloc (Nat.le_refl _) _) ?_; intro v3 w3 ho3 hl3; rw [List.nil_append, HT.out, Nat.zero_add] at ho3; obtain ⟨A3, c3, rfl, hn3, hc3⟩ := own_shape ho3; have y4 := (hl3.cell (p := ⟨w.heap.size, 4, none⟩) (by show w.heap.size < w2.heap.size; omega)).trans x4; have HX3 := hide (((hb1.below hl2 hz1).alloc (.cells #[] 28)).below hl3 (by show w.heap.size < w2.heap.size; omega)); have f4 := HX3.out.frozen 4; have HY : Hid (Blk (w3.setCell ⟨w.heap.size, 4, none⟩ (.slice A3 20 c3)) w.heap.size 24 (labC (cutL l) A3 20 c3).toArray) := HX3.out.set_ 4 _)
      | (refine wpList_load_blk rfl 24 (.tmp 1) rfl w.heap.size 0 24 _ HY.out rfl (labC (cutL l) A3 20 c3) _ (fun j v hj => by rw [Nat.zero_add]; simpa using hj) Try.underlying24 rfl lab_info ?_; have HZ := hide (((hb2.alloc (.cells #[] 28)).below hl3 (by show w1.heap.size < w2.heap.size; omega)).far (p := ⟨w.heap.size, 4, none⟩) (by show w1.heap.size ≠ w.heap.size; omega) (.slice A3 20 c3)))
      | (refine wpList_store_all rfl 24 (.tmp 2) (.tmp 13) rfl w1.heap.size 24 _ HZ.out rfl (labC (cutL l) A3 20 c3) rfl lab_info rfl (labC_one _ _ _ _) ?_; intro w5 hb5 hg5 hs5; clear hs5))
    have hl03 : Below w.heap.size w (w3.setCell ⟨w.heap.size, 4, none⟩ (.slice A3 20 c3)) := (((hl1.trans (hl2.mono (by omega))).alloc (by omega) _).trans (hl3.mono (by omega))).setCell (p := ⟨w.heap.size, 4, none⟩) (Nat.le_refl _) _
    have hz3 := hl03.size
    have hnb : ∀ g, (Value.slice A3 20 c3).ownBlock = some g → w2.heap.size ≤ g := fun g e => (ho3.lt g e).1
    have ho5 := (ho3.kept (grown_set (grown_refl w3 (some w.heap.size)) ⟨w.heap.size, 4, none⟩ rfl (.slice A3 20 c3)) (.inr (fun e => by have := hnb _ e; omega))).kept hg5 (.inr (fun e => by have := hnb _ e; omega))
    exact ret_cell rfl w1.heap.size 24 (labC (cutL l) A3 20 c3) _ hb5 rfl Try.underlying24 rfl lab_info rfl ⟨⟨_, _, _, rfl, hn3, hc3, own_base ho5 (by omega)⟩, hl03.grown hg5 hz3 (fun g e => by injection e with e; omega)⟩
  · obtain rfl : n = m := (hmB h20).symm
    clear hr hlen hm hhead htake hmA hmB
    go_enter Try.func9, Try.ntmps9
    go_wp2_with (first
      | (refine wpList_box_blk rfl 24 _ rfl (.agg (labC l A n c).toArray) rfl ?_; intro w1 hb1q hl1 hs1; clear hs1; have hb1 : Blk w1 w.heap.size 24 (labC l A n c).toArray := hb1q; clear hb1q)
      | (refine wpList_alloc_blk rfl 24 rfl _ (lab_zero _) ?_; intro w2 hb2 hl2 hs2; clear hs2; have hz1 := hb1.lt; have hz2 := hb2.lt; have x4 : (w2.alloc (.cells #[] 28)).cell? ⟨w.heap.size, 4, none⟩ = some (.slice A n c) := ((hb1.below hl2 hb1.lt).alloc _).cell 4)
      | (at_builtin; refine wpList_append_any _ rfl (.tmp 3) (.tmp 10) _ rfl w2.heap.size 28 i0 _ 3 24 Try.underlying22 hi0 hz0 hz1i hz2i rfl (by omega) _ 0 [] rfl (World.ownsRow_made w2 #[] 0 (Nat.le_refl _) (Nat.zero_le _) rfl) B0 A n c _ rfl (HH.out.below (((hl1.trans (hl2.mono (by omega))).alloc (by omega) _).mono hB0)) (mbL_one _) hA hB (le_alloc (Nat.le_refl _) _) ?_; intro v3 w3 ho3 hl3; rw [List.nil_append, HT.out, Nat.zero_add] at ho3; obtain ⟨A3, c3, rfl, hn3, hc3⟩ := own_shape ho3; have y4 := (hl3.cell (p := ⟨w.heap.size, 4, none⟩) (by show w.heap.size < w2.heap.size; omega)).trans x4; have HX3 := hide (((hb1.below hl2 hz1).alloc (.cells #[] 28)).below hl3 (by show w.heap.size < w2.heap.size; omega)); have f4 := HX3.out.frozen 4; have HY : Hid (Blk (w3.setCell ⟨w.heap.size, 4, none⟩ (.slice A3 n c3)) w.heap.size 24 (labC (cutL l) A3 n c3).toArray) := HX3.out.set_ 4 _)
      | (refine wpList_load_blk rfl 24 (.tmp 1) rfl w.heap.size 0 24 _ HY.out rfl (labC (cutL l) A3 n c3) _ (fun j v hj => by rw [Nat.zero_add]; simpa using hj) Try.underlying24 rfl lab_info ?_; have HZ := hide (((hb2.alloc (.cells #[] 28)).below hl3 (by show w1.heap.size < w2.heap.size; omega)).far (p := ⟨w.heap.size, 4, none⟩) (by show w1.heap.size ≠ w.heap.size; omega) (.slice A3 n c3)))
      | (refine wpList_store_all rfl 24 (.tmp 2) (.tmp 13) rfl w1.heap.size 24 _ HZ.out rfl (labC (cutL l) A3 n c3) rfl lab_info rfl (labC_one _ _ _ _) ?_; intro w5 hb5 hg5 hs5; clear hs5))
    have hl03 : Below w.heap.size w (w3.setCell ⟨w.heap.size, 4, none⟩ (.slice A3 n c3)) := (((hl1.trans (hl2.mono (by omega))).alloc (by omega) _).trans (hl3.mono (by omega))).setCell (p := ⟨w.heap.size, 4, none⟩) (Nat.le_refl _) _
    have hz3 := hl03.size
    have hnb : ∀ g, (Value.slice A3 n c3).ownBlock = some g → w2.heap.size ≤ g := fun g e => (ho3.lt g e).1
    have ho5 := (ho3.kept (grown_set (grown_refl w3 (some w.heap.size)) ⟨w.heap.size, 4, none⟩ rfl (.slice A3 n c3)) (.inr (fun e => by have := hnb _ e; omega))).kept hg5 (.inr (fun e => by have := hnb _ e; omega))
    exact ret_cell rfl w1.heap.size 24 (labC (cutL l) A3 n c3) _ hb5 rfl Try.underlying24 rfl lab_info rfl ⟨⟨_, _, _, rfl, hn3, hc3, own_base ho5 (by omega)⟩, hl03.grown hg5 hz3 (fun g e => by injection e with e; omega)⟩
#print axioms cut5_any
end Go.Proofs.Ytjdfeidakmkchaa
