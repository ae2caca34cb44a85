/- The reference's bank where what it holds is not asked: a new one, and a disk more; each turns nothing but what is its own. -/
import Derived.Test.YtbbfgcekjelmkaaBank
import Derived.Deep.RegionLaw
import Derived.Deep.AppendLies
import Derived.Laws.MakeOwn
namespace Go.Proofs.Ytbbfgcekjelmkaa
open Go.RowKit

structure Shell (w : World) (r : Nat) (F : Nat → Prop) (n : Nat) : Prop where
  ex : ∃ A c xs x1 x2 x3 x4 x5, Blk w r 94 #[.slice A n c, x1, x2, x3, x4, x5] ∧ w.ownsRow 0 97 1 (.slice A n c) n xs ∧ (∀ g, (Value.slice A n c).ownBlock = some g → F g ∧ g ≠ r)
  own : F r ∧ ∀ x, F x → x < w.heap.size
theorem Shell.kept {w w' : World} {r n : Nat} {F G : Nat → Prop} (h : Shell w r F n) (hu : Turn G w w') (ha : ∀ x, F x → ¬ G x) : Shell w' r F n := by
  obtain ⟨⟨A, c, xs, x1, x2, x3, x4, x5, h1, h2, h3⟩, h4, h5⟩ := h
  refine ⟨⟨A, c, xs, x1, x2, x3, x4, x5, h1.of_block (hu.block r (h5 r h4) (ha r h4)), ?_, h3⟩, h4, fun x hx => Nat.lt_of_lt_of_le (h5 x hx) hu.size⟩
  refine ⟨h2.1, ?_⟩
  rcases h2.2 with h | ⟨g, cap, cur, hv, h6, hb, h7⟩
  · exact .inl h
  · have hg := h3 g (by rw [hv]; rfl)
    exact .inr ⟨g, cap, cur, hv, h6, (hu.block g (h5 g hg.1) (ha g hg.1)).trans hb, h7⟩
theorem ptr_info : (Try.prog.info? 97).map (fun i => (i.zero, i.size, i.bytes)) = some (some (.pointer none), 1, 8) := by kernel_rfl
theorem secs_info : ∃ i z, Try.prog.info? 26 = some i ∧ i.zero = some z ∧ i.size = 64 ∧ i.bytes = 64 := ⟨(Try.prog.info? 26).get!, secV zeroSec, by kernel_rfl, by kernel_rfl, by kernel_rfl, by kernel_rfl⟩
theorem refNew_any (w : World) :
    Calls Try.prog 47 #[] w fun e w' => e = .returned (.pointer (some ⟨w.heap.size, 0, none⟩)) ∧ Shell w' w.heap.size (fun x => x = w.heap.size) 0 ∧ Below w.heap.size w w' ∧ w'.heap.size = w.heap.size + 1 := by
  go_enter Try.func47, Try.ntmps47
  go_wp2
  go_ret
  refine ⟨rfl, ⟨⟨none, 0, [], _, _, _, _, _, Blk.new _ _ _, World.ownsRow_nil _ _ _ _, fun g hg => by simp [Value.ownBlock] at hg⟩, rfl, fun x hx => ?_⟩, (Below.refl _ _).alloc (Nat.le_refl _) _, World.size_alloc _ _⟩
  rw [World.size_alloc]
  omega
theorem shell_add {w w4 w5 : World} {r n : Nat} {F : Nat → Prop} {A : Option Addr} {c g5 cap5 : Nat} {x1 x2 x3 x4 x5 : Value} {ys : List Value} (hb : Blk w r 94 #[.slice A n c, x1, x2, x3, x4, x5]) (hF : ∀ g, (Value.slice A n c).ownBlock = some g → F g ∧ g ≠ r) (hr : F r) (hlt : ∀ x, F x → x < w.heap.size)
    (hl : Below w.heap.size w w4) (hg5 : w4.grownBy w5 (Value.slice A n c).ownBlock) (hown5 : w5.ownsRow 0 97 1 (.slice (some ⟨g5, 0, none⟩) (n + 1) cap5) (n + 1) ys) (hat : (Value.slice A n c).ownBlock = some g5 ∨ w.heap.size ≤ g5) (hgl : g5 < w5.heap.size) :
    Shell (w5.setCell ⟨r, 0, none⟩ (.slice (some ⟨g5, 0, none⟩) (n + 1) cap5)) r (fun y => F y ∨ (w.heap.size ≤ y ∧ y < (w5.setCell ⟨r, 0, none⟩ (.slice (some ⟨g5, 0, none⟩) (n + 1) cap5)).heap.size)) (n + 1) ∧ Turn F w (w5.setCell ⟨r, 0, none⟩ (.slice (some ⟨g5, 0, none⟩) (n + 1) cap5)) := by
  have hsz6 : (w5.setCell ⟨r, 0, none⟩ (.slice (some ⟨g5, 0, none⟩) (n + 1) cap5)).heap.size = w5.heap.size := by simp [World.setCell]
  have hs4 := hl.size
  have hs5 := hg5.size
  have hbr : Blk w5 r 94 #[.slice A n c, x1, x2, x3, x4, x5] := (hb.below hl (hlt r hr)).of_block (hg5.block r (by have := hlt r hr; omega) (fun e => (hF r e.symm).2 rfl))
  have hgr : g5 ≠ r := by
    rcases hat with h | h
    · exact (hF g5 h).2
    · have := hlt r hr
      omega
  have hT : Turn F w w5 := (Turn.of_below hl).grown hg5 (fun g hg => .inl (hF g hg).1)
  refine ⟨⟨⟨some ⟨g5, 0, none⟩, cap5, ys, x1, x2, x3, x4, x5, hbr.set_ 0 _, ?_, fun g hg => ?_⟩, .inl hr, fun x hx => ?_⟩, hT.set ⟨r, 0, none⟩ (.inl hr) _⟩
  · refine ⟨hown5.1, ?_⟩
    rcases hown5.2 with h | ⟨g, cap, cur, hv, h6, hbk, h7⟩
    · exact .inl h
    · injection hv with hv1 hv2 hv3
      injection hv1 with hv1
      injection hv1 with hv1
      subst hv1 hv3
      exact .inr ⟨g5, cap5, cur, rfl, h6, (Below.heap_setCell _ _ _ _ hgr).trans hbk, h7⟩
  · injection hg with hg
    subst hg
    refine ⟨?_, hgr⟩
    rcases hat with h | h
    · exact .inl (hF g5 h).1
    · exact .inr ⟨h, by rw [hsz6]; exact hgl⟩
  · rw [hsz6] at hx ⊢
    rcases hx with hx | hx
    · have := hlt x hx
      omega
    · exact hx.2
set_option maxRecDepth 100000 in
set_option maxHeartbeats 2000000 in
theorem refAdd_any {w : World} {r n : Nat} {F : Nat → Prop} (h : Shell w r F n) (hn : n < 32) :
    Calls Try.prog 49 #[.pointer (some ⟨r, 0, none⟩), .int .i64 200] w fun e w' => (∃ v, e = .returned v) ∧ Shell w' r (fun y => F y ∨ (w.heap.size ≤ y ∧ y < w'.heap.size)) (n + 1) ∧ Turn F w w' := by
  obtain ⟨⟨A, c, xs, x1, x2, x3, x4, x5, hb, hrow, hF⟩, hr, hlt⟩ := h
  have c0 : w.cell? ⟨r, 0, none⟩ = some (.slice A n c) := hb.cell 0
  obtain ⟨i1, z1, hi1, hz1, hs1, hy1⟩ := secs_info
  obtain ⟨i0, hi0, hz0, hz1i, hz2i⟩ := info_parts ptr_info
  obtain ⟨Z, hZ⟩ : ∃ Z, Z = madeCells z1.cells (200 * 64) := ⟨_, rfl⟩
  have hmk : ∀ w : World, (Instr.makeSlice 38 (.int .i64 200) (.int .i64 200)).run Try.prog w = .ok (.slice (some ⟨w.heap.size, 0, none⟩) 200 200) (w.alloc (.cells Z 26)) := fun w => by
    have := run_makeSlice (P := Try.prog) (w := w) 38 26 i1 z1 Try.underlying38 hi1 hz1 .i64 .i64 200 200 (by decide) (by decide) (by rw [hs1]; decide) (by rw [hy1]; decide) (by decide)
    rw [hs1] at this
    rw [hZ]
    exact this
  clear hZ hi1 hz1 hs1 hy1
  have HB := hide hb
  have hz3 : ∀ D, (((w.alloc (.cells Z 26)).alloc (.cells Z 26)).alloc D).heap.size = w.heap.size + 1 + 1 + 1 := fun D => by simp only [World.size_alloc]
  have hl3 : ∀ D, Below w.heap.size w (((w.alloc (.cells Z 26)).alloc (.cells Z 26)).alloc D) := fun D => (((Below.refl _ w).alloc (Nat.le_refl _) _).alloc (by rw [World.size_alloc]; omega) _).alloc (by simp only [World.size_alloc]; omega) _
  have hl4 := fun D => ((hl3 D).alloc (by rw [hz3]; omega) (.cells #[Value.pointer (some ⟨w.heap.size + 1 + 1, 0, none⟩)] 97)).drew
  have hrow4 := fun D => ((((hrow.alloc (.cells Z 26)).alloc (.cells Z 26)).alloc D).alloc (.cells #[Value.pointer (some ⟨w.heap.size + 1 + 1, 0, none⟩)] 97)).drew
  have hnews := fun D => World.news_of_block ((Blk.new (((w.alloc (.cells Z 26)).alloc (.cells Z 26)).alloc D) 97 #[Value.pointer (some ⟨w.heap.size + 1 + 1, 0, none⟩)]).drew)
  simp only [hz3] at hnews
  have HL4 := hide hl4
  have HROW := hide hrow4
  have HNEWS := hide hnews
  have c0d : w.drew.cell? ⟨r, 0, none⟩ = some (.slice A n c) := c0
  have c0a : ∀ o, (w.alloc o).cell? ⟨r, 0, none⟩ = some (.slice A n c) := fun o => (World.cell?_alloc_lt w o _ (hlt r hr)).trans c0
  have c0b : ∀ o p, ((w.alloc o).alloc p).cell? ⟨r, 0, none⟩ = some (.slice A n c) := fun o p => (World.cell?_alloc_lt (w.alloc o) p _ (by have := hlt r hr; rw [World.size_alloc]; show r < _; omega)).trans (c0a o)
  have c0e : ∀ o p q, (((w.alloc o).alloc p).alloc q).cell? ⟨r, 0, none⟩ = some (.slice A n c) := fun o p q => (World.cell?_alloc_lt ((w.alloc o).alloc p) q _ (by have := hlt r hr; simp only [World.size_alloc]; show r < _; omega)).trans (c0b o p)
  have c0g : ∀ o p q s, ((((w.alloc o).alloc p).alloc q).alloc s).cell? ⟨r, 0, none⟩ = some (.slice A n c) := fun o p q s => (World.cell?_alloc_lt (((w.alloc o).alloc p).alloc q) s _ (by have := hlt r hr; simp only [World.size_alloc]; show r < _; omega)).trans (c0e o p q)
  have hn32 : ¬ ((32 : Int) ≤ (n : Int)) := by omega
  have hnm : n + 1 ≤ maxLen ∧ (n + 1) * 8 ≤ 140737488355328 := by simp only [maxLen]; omega
  have HNM := hide hnm
  have HF := hide hF
  have HR := hide (And.intro hr hlt)
  have HI := hide (And.intro hi0 (And.intro hz0 (And.intro hz1i hz2i)))
  have hrlt := hlt r hr
  clear hl3 hl4 hrow4 hnews hz3 hrow hF hr hlt hi0 hz0 hz1i hz2i hnm hb
  go_enter Try.func49, Try.ntmps49
  go_wp2
  go_region_law (first
    | (refine step_append_lies _ rfl (.tmp 22) (.tmp 29) 91 rfl 0 97 i0 _ 1 8 Try.underlying91 HI.out.1 HI.out.2.1 HI.out.2.2.1 HI.out.2.2.2 rfl (by decide) _ _ _ rfl (HROW.out _) ⟨w.heap.size + 1 + 1 + 1, 0, none⟩ 1 1 [.pointer (some ⟨w.heap.size + 1 + 1, 0, none⟩)] rfl rfl (HNEWS.out _) (by intro u hu; simp at hu; subst hu; rfl) (by decide) HNM.out.1 HNM.out.2 (Nat.zero_le _) _ rfl ?_; intro g5 cap5 w5 hown5 hg5 hat5 hgl5; have HAT : Hid ((Value.slice A n c).ownBlock = some g5 ∨ w.heap.size ≤ g5) := (hat5.imp id (fun e => by rw [e]; exact (HL4.out _).size)); have hB5 : Blk w5 r 94 _ := (HB.out.below (HL4.out _) hrlt).of_block (hg5.block r (Nat.lt_of_lt_of_le hrlt (HL4.out _).size) (fun e => (HF.out r e.symm).2 rfl)); have c05 : w5.cell? ⟨r, 0, none⟩ = some (.slice A n c) := hB5.cell 0; have f05 := hB5.frozen 0; have HG5 := hide hg5; clear hat5 hg5 hB5))
  all_goals
    have HFIN := hide (shell_add HB.out HF.out HR.out.1 HR.out.2 (HL4.out _) HG5.out hown5 HAT.out hgl5)
    go_wp2
    go_ret2
    exact ⟨⟨_, rfl⟩, HFIN.out⟩
#print axioms refAdd_any
end Go.Proofs.Ytbbfgcekjelmkaa
