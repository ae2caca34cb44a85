/- The reference's map behind an Add: where the new member lies. -/
import Derived.Test.YtmaiikmgpeafkabDoorRefA
import Derived.Deep.RegionLaw
import Derived.Deep.AppendLies
namespace Go.Proofs.YtmaiikmgpeafkabDoor
open Go.RowKit

section
variable {w wm w5 : World} {r : Nat} {vm : Value} {vt : Nat → Value} {S : Ext}
theorem radd_made (h : RefE w r vm vt S) {d n g5 cap : Nat} (hd : d ∉ S.ks) (hn : n ≤ 497) (hm : wm = w.drew.alloc (.cells (BL n (fun _ => false)).toArray 4)) {o : Obj}
    (hrow : w5.ownsRow 0 50 2 (.slice (some ⟨g5, 0, none⟩) (S.ks.length + 1) cap) (S.ks.length + 1) (mbsE vt S.ks ++ [.int .i64 (d : Int), .slice (some ⟨w.heap.size, 0, none⟩) n n]))
    (hg : (wm.alloc o).grownBy w5 vm.ownBlock) (hat : vm.ownBlock = some g5 ∨ g5 = (wm.alloc o).heap.size) :
    RefE (w5.setCell ⟨r, 0, none⟩ (.slice (some ⟨g5, 0, none⟩) (S.ks.length + 1) cap)) r (.slice (some ⟨g5, 0, none⟩) (S.ks.length + 1) cap) (upd vt d (.slice (some ⟨w.heap.size, 0, none⟩) n n)) (S.add d n) ∧
    Turn (RFootE r vm vt S) w (w5.setCell ⟨r, 0, none⟩ (.slice (some ⟨g5, 0, none⟩) (S.ks.length + 1) cap)) ∧
    ∀ y, RFootE r (.slice (some ⟨g5, 0, none⟩) (S.ks.length + 1) cap) (upd vt d (.slice (some ⟨w.heap.size, 0, none⟩) n n)) (S.add d n) y → RFootE r vm vt S y ∨ (w.heap.size ≤ y ∧ y < (w5.setCell ⟨r, 0, none⟩ (.slice (some ⟨g5, 0, none⟩) (S.ks.length + 1) cap)).heap.size) := by
  have hzm : wm.heap.size = w.heap.size + 1 := by rw [hm]; exact World.size_alloc _ _
  have hzo : (wm.alloc o).heap.size = w.heap.size + 2 := by rw [World.size_alloc, hzm]
  have hz5 := hg.size
  rw [hzo] at hz5
  have hbm : Below w.heap.size w wm := by rw [hm]; exact ((Below.refl _ w).drew).alloc (Nat.le_refl _) _
  have hbo : Below w.heap.size w (wm.alloc o) := hbm.trans ((Below.refl _ wm).alloc (by omega) _)
  have hold : ∀ y, y < w.heap.size → some y ≠ vm.ownBlock → w5.heap[y]? = w.heap[y]? := fun y hy hne => (hg.block y (by omega) hne).trans (hbo.block y hy)
  have hrv : vm.ownBlock ≠ some r := kind_blk_ne h.row h.head (by decide)
  have hB5 : Blk w5 r 47 _ := h.head.of_block (hold r h.head.lt (fun e => hrv e.symm))
  have hg5r : g5 ≠ r := fun e => kind_blk_ne hrow hB5 (by decide) (by rw [e]; rfl)
  obtain ⟨wf, hwf⟩ : ∃ wf, wf = w5.setCell ⟨r, 0, none⟩ (.slice (some ⟨g5, 0, none⟩) (S.ks.length + 1) cap) := ⟨_, rfl⟩
  have hfar : ∀ y, y ≠ r → wf.heap[y]? = w5.heap[y]? := fun y hy => by rw [hwf]; exact Below.heap_setCell w5 ⟨r, 0, none⟩ _ y hy
  have hzf : wf.heap.size = w5.heap.size := by rw [hwf]; exact World.size_setCell _ _ _
  have hfin : Blk wf r 47 #[.slice (some ⟨g5, 0, none⟩) (S.ks.length + 1) cap] := by
    rw [hwf]
    exact hB5.set_ 0 _
  rw [← hwf]
  have hlit := World.ownsRow_lit (base := 0) (e := 4) (size := 1) w.drew (BL n (fun _ => false)).toArray n (Nat.zero_le _) (by unfold maxLen; omega) (by simp [BL_length])
  have hnewm : wm.ownsRow 0 4 1 (.slice (some ⟨w.heap.size, 0, none⟩) n n) n (BL n (fun _ => false)) := by rw [hm]; simpa using hlit
  have hr0 : r < w.heap.size := h.head.lt
  have hvm : ∀ g, vm.ownBlock = some g → g < w.heap.size := fun g e => (World.ownsRow.lt h.row g e).2
  have hnew5 : wf.ownsRow 0 4 1 (.slice (some ⟨w.heap.size, 0, none⟩) n n) n (BL n (fun _ => false)) := own_of_block hnewm (fun g e => by
    simp only [Value.ownBlock] at e
    injection e with e
    subst e
    rw [hfar _ (by omega), hg.block _ (by omega) (fun e2 => by have := hvm _ e2.symm; omega)]
    exact ((Below.refl wm.heap.size wm).alloc (Nat.le_refl _) o).block _ (by omega))
  have hks : ∀ e ∈ S.ks, e ≠ d := fun e he hed => hd (hed ▸ he)
  refine ⟨⟨hfin, ?_, fun e he => ?_, fun e he f hf g hq1 hq2 => ?_⟩, ?_, fun y hy => ?_⟩
  · have hk : mbsE (upd vt d (.slice (some ⟨w.heap.size, 0, none⟩) n n)) (S.ks ++ [d]) = mbsE vt S.ks ++ [.int .i64 (d : Int), .slice (some ⟨w.heap.size, 0, none⟩) n n] := by
      rw [mbsE_append, mbsE_congr (vu := vt) (fun e he => upd_ne _ _ (hks e he))]
      congr 1
      show mbE _ d ++ [] = _
      unfold mbE
      rw [upd_self]
      rfl
    show wf.ownsRow 0 _ 2 _ (S.ks ++ [d]).length (mbsE _ (S.ks ++ [d]))
    rw [hk, List.length_append]
    exact own_of_block hrow (fun g e => by
      simp only [Value.ownBlock] at e
      injection e with e
      subst e
      exact hfar _ hg5r)
  · show wf.ownsRow 0 _ 1 (upd vt d _ e) (upd S.n d n e) (BL (upd S.n d n e) (upd S.t d (fun _ => false) e))
    by_cases hed : e = d
    · subst hed
      rw [upd_self, upd_self, upd_self]
      exact hnew5
    · rw [upd_ne _ _ hed, upd_ne _ _ hed, upd_ne _ _ hed]
      have hek : e ∈ S.ks := by
        rcases List.mem_append.1 he with h1 | h1
        · exact h1
        · simp at h1; exact absurd h1 hed
      have hre := h.mem e hek
      exact own_of_block hre (fun g hg1 => by
        have h1 := (World.ownsRow.lt hre g hg1).2
        rw [hfar g (fun e2 => kind_blk_ne hre h.head (by decide) (e2 ▸ hg1))]
        exact hold g h1 (fun e2 => kinds_ne hre h.row (by decide) hg1 e2.symm))
  · have hin : ∀ z, z ∈ (S.add d n).ks → z ≠ d → z ∈ S.ks := fun z hz hzd => by
      rcases List.mem_append.1 hz with h1 | h1
      · exact h1
      · simp at h1; exact absurd h1 hzd
    by_cases hed : e = d
    · by_cases hfd : f = d
      · rw [hed, hfd]
      · rw [hed, upd_self] at hq1
        rw [upd_ne _ _ hfd] at hq2
        simp only [Value.ownBlock] at hq1
        injection hq1 with hq1
        have := (World.ownsRow.lt (h.mem f (hin f hf hfd)) g hq2).2
        omega
    · by_cases hfd : f = d
      · rw [hfd, upd_self] at hq2
        rw [upd_ne _ _ hed] at hq1
        simp only [Value.ownBlock] at hq2
        injection hq2 with hq2
        have := (World.ownsRow.lt (h.mem e (hin e he hed)) g hq1).2
        omega
      · rw [upd_ne _ _ hed] at hq1
        rw [upd_ne _ _ hfd] at hq2
        exact h.inj e (hin e he hed) f (hin f hf hfd) g hq1 hq2
  · rw [hwf]
    refine (((Turn.of_below hbo).grown hg (fun g e => .inl (.inr (.inl e)))).set _ (.inl (.inl rfl)) _)
  · rcases hy with rfl | hy | ⟨e, he, hy⟩
    · exact .inl (.inl rfl)
    · simp only [Value.ownBlock] at hy
      injection hy with hy
      subst hy
      rcases hat with hat | hat
      · exact .inl (.inr (.inl hat))
      · have := (World.ownsRow.lt hrow g5 rfl).2
        exact .inr ⟨by omega, by omega⟩
    · by_cases hed : e = d
      · rw [hed, upd_self] at hy
        simp only [Value.ownBlock] at hy
        injection hy with hy
        exact .inr ⟨by omega, by omega⟩
      · rw [upd_ne _ _ hed] at hy
        refine .inl (.inr (.inr ⟨e, ?_, hy⟩))
        rcases List.mem_append.1 he with h1 | h1
        · exact h1
        · simp at h1; exact absurd h1 hed
end
#print axioms radd_made
end Go.Proofs.YtmaiikmgpeafkabDoor
