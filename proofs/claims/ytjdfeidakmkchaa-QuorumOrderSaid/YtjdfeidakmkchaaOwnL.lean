/- A label copied with members of its own: slices.Clone of members, ownCopy. -/
import Derived.Test.YtjdfeidakmkchaaMissF
import Derived.WalkSpells
namespace Go.Proofs.Ytjdfeidakmkchaa
open Go.RowKit

set_option maxHeartbeats 400000 in
theorem cloneMb_any (A : Option Addr) (n c : Nat) (l : List Mb) (B0 : Nat) (w : World) (hm : MbIn w B0 A n c l) (hB0 : B0 ≤ w.heap.size) (h1000 : n ≤ 1000) :
    Calls Try.prog 33 #[.slice A n c] w (Made w.heap.size 28 3 (mbL l) w) := by
  obtain ⟨i0, hi0, hz0, hz1, hz2⟩ := info_parts mb_parts
  have hr := hm.1
  cases A with
  | none =>
    have hn0 : n = 0 := by
      rcases Nat.eq_zero_or_pos n with h0 | h0
      · exact h0
      · obtain ⟨ad, h, _⟩ := hr.2 h0
        cases h
    subst hn0
    have hx : mbL l = [] := List.eq_nil_of_length_eq_zero (by simpa using hr.1)
    have hq := fun (w : World) => Lib.run_eql_slice_nil (P := Try.prog) w 22 28 none 0 c 0 0 Try.underlying22
    have H := hide hx
    clear hx hr hm
    go_enter Try.func33, Try.ntmps33
    go_wp2
    go_ret
    exact made_of (n := 0) (by rw [H.out]; exact World.ownsRow_nil _ _ _ _) (Below.refl _ _)
  | some ad =>
    have hq := fun (w : World) => Lib.run_eql_slice_nil (P := Try.prog) w 22 28 (some ad) n c 0 0 Try.underlying22
    have h63 : 0 + n ≤ maxLen := by simp only [maxLen]; omega
    have hm2 : (0 + n) * 24 ≤ 140737488355328 := by omega
    have HR := hide hr
    clear hr hm
    go_enter Try.func33, Try.ntmps33
    go_wp2_with (at_builtin; refine wpList_append_any _ rfl (.tmp 5) (.tmp 6) _ rfl w.heap.size 28 i0 _ 3 24 Try.underlying22 hi0 hz0 hz1 hz2 rfl (by omega) _ 0 [] rfl (World.ownsRow_made w #[] 0 (Nat.le_refl _) (Nat.zero_le _) rfl) B0 (some ad) n c (mbL l) rfl (HR.out.alloc hB0 _) (mbL_one _) h63 hm2 (le_alloc (Nat.le_refl _) _) ?_; intro v1 w1 hown1 hbel1)
    go_ret
    exact made_of (by simpa using hown1) (((Below.refl _ _).alloc (Nat.le_refl _) _).trans hbel1)
/-- A label that a call hands back with members in a row of its own. -/
def Copied (l : Lab) (w : World) (e : Ending) (w' : World) : Prop := (∃ A n c, e = .returned (labV l A n c) ∧ n ≤ c ∧ c ≤ maxLen ∧ w'.ownsRow w.heap.size 28 3 (.slice A n c) n (mbL l.members)) ∧ Below w.heap.size w w'
theorem own_gave {l : Lab} {w w' : World} {A : Option Addr} {n c : Nat} (hn : n ≤ c) (hc : c ≤ maxLen) (ho : w'.ownsRow w.heap.size 28 3 (.slice A n c) n (mbL l.members)) : Gave l w w' A n c :=
  ⟨⟨Reads.of_own ho, hn, by simpa [maxLen] using hc⟩, fun _ ad e => by
    subst e
    exact (ho.lt ad.block rfl).1⟩
set_option maxRecDepth 100000 in
set_option maxHeartbeats 1000000 in
theorem ownCopy_any (l : Lab) (A : Option Addr) (n c : Nat) (B0 : Nat) (w : World) (hm : MbIn w B0 A n c l.members) (hB0 : B0 ≤ w.heap.size) (h1000 : n ≤ 1000) :
    Calls Try.prog 22 #[.agg (labC l A n c).toArray] w (Copied l w) := by
  have HC := hide (fun (w1 : World) (hl : Below w.heap.size w w1) => cloneMb_any A n c l.members B0 w1 (hm.below (hl.mono hB0)) (Nat.le_trans hB0 hl.size) h1000)
  have hlen := hm.len
  have HLen := hide hlen
  clear hm hlen
  go_enter Try.func22, Try.ntmps22
  go_wp2_with (first
    | (refine wpList_box_blk rfl 24 _ rfl (.agg (labC l A n c).toArray) rfl ?_; intro w1 hb1q hl1 hs1; clear hs1; have hb1 : Blk w1 w.heap.size 24 (labC l A n c).toArray := hb1q; clear hb1q)
    | (refine wpList_alloc_blk rfl 24 rfl _ (lab_zero _) ?_; intro w2 hb2 hl2 hs2; clear hs2; have hz1 := hb1.lt; have hz2 := hb2.lt; have x4 : w2.cell? ⟨w.heap.size, 4, none⟩ = some (.slice A n c) := (hb1.below hl2 hb1.lt).cell 4; have hl12 : Below w.heap.size w w2 := hl1.trans (hl2.mono (by omega)))
    | (go_at_call 33; refine (HC.out w2 hl12).mono ?_; rintro _ w3 ⟨A3, n3, c3, rfl, hn3, hc3, ho3, hl3⟩; have HO := hide ho3; have HX3 := hide ((hb1.below hl2 hz1).below hl3 (by omega)); have y4 := (hl3.cell (p := ⟨w.heap.size, 4, none⟩) (by show w.heap.size < w2.heap.size; omega)).trans x4; have f4 := HX3.out.frozen 4; have HY : Hid (Blk (w3.setCell ⟨w.heap.size, 4, none⟩ (.slice A3 n3 c3)) w.heap.size 24 (labC l A3 n3 c3).toArray) := HX3.out.set_ 4 _; clear ho3)
    | (refine wpList_load_blk rfl 24 (.tmp 1) rfl w.heap.size 0 24 _ HY.out rfl (labC l A3 n3 c3) _ (fun j v hj => by rw [Nat.zero_add]; simpa using hj) Try.underlying24 rfl lab_info ?_; have HZ := hide ((hb2.below hl3 (by omega)).far (p := ⟨w.heap.size, 4, none⟩) (by show w1.heap.size ≠ w.heap.size; omega) (.slice A3 n3 c3)))
    | (refine wpList_store_all rfl 24 (.tmp 2) (.tmp 7) rfl w1.heap.size 24 _ HZ.out rfl (labC l A3 n3 c3) rfl lab_info rfl (labC_one _ _ _ _) ?_; intro w5 hb5 hg5 hs5; clear hs5))
  have hl03 : Below w.heap.size w (w3.setCell ⟨w.heap.size, 4, none⟩ (.slice A3 n3 c3)) := (hl12.trans (hl3.mono (by omega))).setCell (p := ⟨w.heap.size, 4, none⟩) (Nat.le_refl _) _
  have hz3 := hl03.size
  have hne : ∀ g, (Value.slice A3 n3 c3).ownBlock = some g → w2.heap.size ≤ g := fun g e => (HO.out.lt g e).1
  have ho4 : (w3.setCell ⟨w.heap.size, 4, none⟩ (.slice A3 n3 c3)).ownsRow w2.heap.size 28 3 (.slice A3 n3 c3) n3 (mbL l.members) := HO.out.kept (grown_set (grown_refl w3 (some w.heap.size)) ⟨w.heap.size, 4, none⟩ rfl _) (.inr (fun e => by have := hne _ e; omega))
  have ho5 : w5.ownsRow w2.heap.size 28 3 (.slice A3 n3 c3) n3 (mbL l.members) := ho4.kept hg5 (.inr (fun e => by have := hne _ e; omega))
  exact ret_cell rfl w1.heap.size 24 (labC l A3 n3 c3) _ hb5 rfl Try.underlying24 rfl lab_info rfl ⟨⟨_, _, _, rfl, hn3, hc3, own_base ho5 (by omega)⟩, hl03.grown hg5 hz3 (fun g e => by injection e with e; omega)⟩
#print axioms ownCopy_any
end Go.Proofs.Ytjdfeidakmkchaa
