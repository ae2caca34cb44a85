/- What Clone of the map of members makes: each member's own map copied, and the set of blocks that the new one lies in. -/
import Derived.Test.YtmaiikmgpeafkabDoorClone
import Derived.Test.YtmaiikmgpeafkabDoorExtA
import Derived.Deep.RegionWith
namespace Go.Proofs.YtmaiikmgpeafkabDoor
open Go.RowKit Go.Maps

/-- Those members that a loop has come by. -/
def Ext.part (S : Ext) (left : Nat → Bool) : Ext := ⟨S.ks.filter (fun k => !left k), S.n, S.t⟩
theorem Ext.part_mem (S : Ext) (left : Nat → Bool) (e : Nat) : e ∈ (S.part left).ks ↔ e ∈ S.ks ∧ left e = false := by
  unfold Ext.part
  simp [List.mem_filter]
theorem Ext.part_all (S : Ext) (left : Nat → Bool) (h : ∀ k, left k = false) : S.part left = S := by
  unfold Ext.part
  have : S.ks.filter (fun k => !left k) = S.ks := List.filter_eq_self.2 fun k _ => by simp [h k]
  rw [this]
theorem Ext.part_none (S : Ext) (left : Nat → Bool) (h : ∀ k ∈ S.ks, left k = true) : (S.part left).ks = [] := by
  unfold Ext.part
  exact List.filter_eq_nil_iff.2 fun k hk => by simp [h k hk]
section
variable {w : World} {b x : Nat} {q : Nat → Nat} {S : Ext}
theorem ExtIn.gain {w1 w2 : World} {T : Ext} (h : ExtIn w b x q S) {d g : Nat} (hd : d ∉ S.ks) (hT : ∀ e, e ∈ T.ks ↔ e ∈ S.ks ∨ e = d) (hs : ∀ e ∈ S.ks, T.n e = S.n e ∧ T.t e = S.t e) (hg : w.heap.size ≤ g) (hb : Below w.heap.size w w1) (hm : MapAt w1 g (T.n d) (T.t d))
    (hx : MapIs w2 x (upd (extF S.ks q) d (some (.pointer (some ⟨g, 0, none⟩))))) (hgr : w1.grownBy w2 (some x)) : ExtIn w2 b x (upd q d g) T := by
  have h1 := h.later hb
  refine ⟨h1.head.grown hgr (fun e => h.x_ne_b (by injection e with e; exact e.symm)), hx.congr (fun k => ?_), fun e he => ?_, fun e he f hf hq => ?_⟩
  · by_cases hkd : k = d
    · subst hkd
      rw [upd_self, extF_in ((hT k).2 (.inr rfl)), upd_self]
    · rw [upd_ne _ _ hkd]
      by_cases hk : k ∈ S.ks
      · rw [extF_in hk, extF_in ((hT k).2 (.inl hk)), upd_ne _ _ hkd]
      · rw [extF_out hk, extF_out (fun hk2 => by rcases (hT k).1 hk2 with h | h; exact hk h; exact hkd h)]
  · by_cases hed : e = d
    · subst hed
      rw [upd_self]
      exact hm.grown hgr (fun e => by injection e with e; have := h.map.lt; omega)
    · rw [upd_ne _ _ hed]
      have hes : e ∈ S.ks := by
        rcases (hT e).1 he with h | h
        · exact h
        · exact absurd h hed
      rw [(hs e hes).1, (hs e hes).2]
      exact (h1.mem e hes).grown hgr (fun e => h1.x_ne_q hes (by injection e with e; exact e.symm))
  · have hin : ∀ e, e ∈ T.ks → e ≠ d → e ∈ S.ks := by
      intro e he hed
      rcases (hT e).1 he with h | h
      · exact h
      · exact absurd h hed
    by_cases hed : e = d
    · by_cases hfd : f = d
      · rw [hed, hfd]
      · rw [hed, upd_self, upd_ne _ _ hfd] at hq
        have := (h.mem f (hin f hf hfd)).lt
        omega
    · by_cases hfd : f = d
      · rw [hfd, upd_self, upd_ne _ _ hed] at hq
        have := (h.mem e (hin e he hed)).lt
        omega
      · rw [upd_ne _ _ hed, upd_ne _ _ hfd] at hq
        exact h.inj e (hin e he hed) f (hin f hf hfd) hq
theorem below_grows {w w' : World} (h : Below w.heap.size w w') : w.grownBy w' none := ⟨h.os, h.tape, h.output, h.size, fun i hi _ => h.block i hi⟩
set_option maxRecDepth 100000 in
set_option maxHeartbeats 1000000 in
theorem extClone_any (h : ExtIn w b x q S) (hok : S.Ok) :
    Calls Tryd.prog 8 #[.pointer (some ⟨b, 0, none⟩)] w fun e w' => e = .returned (.pointer (some ⟨w.heap.size + 1, 0, none⟩)) ∧ ∃ x' q', ExtIn w' (w.heap.size + 1) x' q' S ∧ (∀ y, EFoot (w.heap.size + 1) x' q' S y → w.heap.size ≤ y) ∧ Below w.heap.size w w' := by
  have hw0 : 0 < w.heap.size := by have := h.head.lt; omega
  have HH := hide h
  have HOK := hide hok
  clear h hok
  obtain ⟨f, hf⟩ : ∃ f, f = extF S.ks q := ⟨_, rfl⟩
  have HF := hide hf
  clear hf
  go_enter Tryd.func8, Tryd.ntmps8
  go_wp2_with (first
    | (go_at_call 5; refine (on_new w hw0).mono ?_; rintro _ w1 ⟨rfl, ho1, hl1, hs1⟩; have hE1 := HH.out.later hl1; have hk1 := hE1.c0; have hm1 : MapIs w1 x f := (by rw [HF.out]; exact hE1.map); have HO1 := hide ho1; have HL1 := hide hl1; clear ho1 hl1 hE1)
    | (refine wpList_range rfl (.tmp 10) 42 51 rfl Tryd.underlying42 (some x) f rfl hm1 ?_; intro w0 hgo0 hg0 hs0; go_frame))
  obtain ⟨C, hC⟩ : ∃ C, C = w.heap.size + 1 := ⟨_, rfl⟩
  obtain ⟨r, hr⟩ : ∃ r, r = w1.heap.size := ⟨_, rfl⟩
  have HC := hide hC
  have hrw : w.heap.size + 2 = r := by omega
  have hx0 : x < w.heap.size := HH.out.map.lt
  have HX0 := hide hx0
  have HRW := hide hrw
  have HP0 : Hid (∃ x1 q1, ExtIn w0 C x1 q1 (S.part (fun k => (f k).isSome)) ∧ ∀ y, EFoot C x1 q1 (S.part (fun k => (f k).isSome)) y → w.heap.size ≤ y ∧ y ≠ r) := hide (by
    obtain ⟨_, _, x1, q1, h3, h4⟩ := HO1.out
    rw [← hC] at h3 h4
    have hn : (S.part (fun k => (f k).isSome)).ks = [] := S.part_none _ (fun k hk => by rw [HF.out]; exact (extF_mem _ _ k).1 hk)
    have hlt : ∀ y, EFoot C x1 q1 Ext.none_ y → y < w1.heap.size := h3.foot_lt
    have h5 := h3.kept (w' := w0) (fun y hy => hg0.block y (hlt y hy) (by simp))
    refine ⟨x1, q1, ⟨h5.head, h5.map.congr (fun k => by rw [hn]; rfl), (fun d hd => by rw [hn] at hd; cases hd), (fun d hd => by rw [hn] at hd; cases hd)⟩, ?_⟩
    rintro y (rfl | rfl | ⟨d, hd, _⟩)
    · omega
    · have := h4 y (.inr (.inl rfl)); omega
    · rw [hn] at hd; cases hd)
  have HL0 := hide (HL1.out.grown hg0 HL1.out.size (fun g e => by cases e))
  rw [← hr] at hgo0 ⊢
  have HGO0 := hide hgo0
  rw [← hC]
  clear hgo0 hC hr hrw hx0 HO1 hm1 hk1 hg0 hs0 hs1 HL1
  go_loopw [4, 5] (fun _ _ wr => ∃ left, Hid (Going wr (some x) r f left) ∧ Hid (∃ x1 q1, ExtIn wr C x1 q1 (S.part left) ∧ ∀ y, EFoot C x1 q1 (S.part left) y → w.heap.size ≤ y ∧ y ≠ r) ∧ Hid (Below w.heap.size w wr)) (fun _ _ wr => goingLeft wr (some x) r)
  case atStart => exact ⟨_, HGO0, HP0, HL0⟩
  case round =>
    obtain ⟨left, HGO, HP, HL⟩ := hrel
    clear HGO0 HP0 HL0
    have hgo := HGO.out
    go_wp2_with (first | (refine wpList_next rfl (.tmp 11) rfl (some x) r f left rfl hgo ?_ ?_))
    · intro hdone
      have HD := hide hdone
      clear hdone hgo
      go_wp2
      go_ret
      obtain ⟨x1, q1, h1, h2⟩ := HP.out
      rw [S.part_all left HD.out] at h1 h2
      rw [HC.out] at h1 h2
      exact ⟨(by rw [HC.out]; rfl), x1, q1, h1, (fun y hy => (h2 y hy).1), HL.out⟩
    · intro k v w2 hlk hfk hk4 hgo2 hlt2 hg2 hs2 hen
      have hks : k ∈ S.ks := (extF_mem S.ks q k).2 (by rw [← HF.out, hfk]; rfl)
      have hv : v = .pointer (some ⟨q k, 0, none⟩) := by
        have h1 := hfk
        rw [HF.out, extF_in hks] at h1
        injection h1 with h1
        exact h1.symm
      subst hv
      have hL2 : Below w.heap.size w w2 := HL.out.grown hg2 HL.out.size (fun g e => by injection e with e; have := HRW.out; omega)
      have hmk := (HH.out.later hL2).mem k hks
      obtain ⟨x1, q1, hE, hF⟩ := HP.out
      have hE2 : ExtIn w2 C x1 q1 (S.part left) := hE.kept (fun y hy => hg2.block y (hE.foot_lt y hy) (fun e => by injection e with e; exact (hF y hy).2 e))
      have hc2 := hE2.c0
      have HCT := hide hE2.head.lt
      have HE2 := hide hE2
      have HFT := hide hF
      have hrl : r < w2.heap.size := by have := hgo.lt; omega
      have HRL := hide hrl
      have HCL : Hid (Calls Tryd.prog 16 #[.pointer (some ⟨q k, 0, none⟩)] w2.drew fun e w' => e = .returned (.pointer (some ⟨w2.heap.size, 0, none⟩)) ∧ MapAt w' w2.heap.size (S.n k) (S.t k) ∧ Below w2.heap.size w2 w') := hide ((clone_any (w := w2.drew) ⟨hmk.le, hmk.out, hmk.blk⟩).mono (fun e w' ⟨h1, h2, h3⟩ => ⟨h1, h2, ((Below.refl _ w2).drew).trans h3⟩))
      have HLK := hide hlk
      have HKS := hide hks
      have HGO2 := hide hgo2
      have HLT := hide hlt2
      have HL2 := hide hL2
      clear hgo hks hlk hfk hgo2 hlt2 hg2 hs2 hL2 hmk hE hF hE2 hrl HGO HP HL
      go_wp2
      go_region_with (first
        | (go_at_call 16; refine HCL.out.mono ?_; rintro _ w3 ⟨rfl, hm3, hl3⟩; have c3 : w3.cell? ⟨C, 0, none⟩ = some (.map (some x1)) := (hl3.cell (p := ⟨C, 0, none⟩) HCT.out).trans hc2; obtain ⟨w4, hrun, hm4, hg4⟩ := ((HE2.out.map).below hl3 HE2.out.map.lt).put Tryd.underlying42 hk4 (.pointer (some ⟨w2.heap.size, 0, none⟩)) (HOK.out.nodup.filter _) (extF_mem _ _) (by have h1 := HOK.out.few; have h2 : (S.ks.filter (fun k => !left k)).length ≤ S.ks.length := List.length_filter_le _ _; omega)))
      all_goals
        have hnk : k ∉ (S.part left).ks := fun h => by
          have h1 := ((S.part_mem left k).1 h).2
          rw [HLK.out] at h1
          cases h1
        have hfin := HE2.out.gain (T := S.part (fun j => left j && !decide (j = k))) hnk (fun e => by
          rw [S.part_mem, S.part_mem]
          by_cases hek : e = k
          · subst hek; simp [HKS.out]
          · simp [hek]) (fun e _ => ⟨rfl, rfl⟩) (Nat.le_refl _) hl3 hm3 hm4 hg4
        have hx1 := HFT.out x1 (.inr (.inl rfl))
        have hgA := below_grows hl3
        have hgo3 := HGO2.out.kept hgA (by simp) (by simp)
        have hxx : ∀ b, some x = some b → some b ≠ some x1 := fun b e1 e2 => by
          injection e1 with e1
          injection e2 with e2
          have := HX0.out
          omega
        have hrx : some r ≠ some x1 := fun e => by injection e with e; exact hx1.2 e.symm
        have HGO4 := hide (hgo3.kept hg4 hxx hrx)
        have hlt4 : goingLeft w4 (some x) r < goingLeft wr (some x) r := by
          rw [goingLeft_kept hgo3 hg4 hxx hrx, goingLeft_kept HGO2.out hgA (by simp) (by simp)]
          exact HLT.out
        have HLT4 := hide hlt4
        have HP4 : Hid (∃ x1 q1, ExtIn w4 C x1 q1 (S.part (fun j => left j && !decide (j = k))) ∧ ∀ y, EFoot C x1 q1 (S.part (fun j => left j && !decide (j = k))) y → w.heap.size ≤ y ∧ y ≠ r) := hide ⟨x1, _, hfin, fun y hy => by
          rcases hy with rfl | rfl | ⟨e, he, rfl⟩
          · exact HFT.out _ (.inl rfl)
          · exact hx1
          · by_cases hek : e = k
            · subst hek
              rw [upd_self]
              have h1 := HL2.out.size
              have h2 := HRL.out
              exact ⟨h1, by omega⟩
            · rw [upd_ne _ _ hek]
              refine HFT.out _ (.inr (.inr ⟨e, ?_, rfl⟩))
              rw [S.part_mem] at he ⊢
              exact ⟨he.1, by simpa [hek] using he.2⟩⟩
        have HL4 := hide ((HL2.out.trans (hl3.mono HL2.out.size)).grown hg4 (HL2.out.trans (hl3.mono HL2.out.size)).size (fun g e => by injection e with e; have := hx1.1; omega))
        clear hnk hfin hx1 hgA hgo3 hxx hrx hlt4 hm3 hl3 hm4 hg4 hrun c3
        go_wp2
        go_roundw
        case rel => exact ⟨_, HGO4, HP4, HL4⟩
        case measure => exact HLT4.out
/-- The clone lies in blocks of its own. -/
theorem on_clone {F : Nat → Prop} (h : ExtOn w b F S) :
    Calls Tryd.prog 8 #[.pointer (some ⟨b, 0, none⟩)] w fun e w' => e = .returned (.pointer (some ⟨w.heap.size + 1, 0, none⟩)) ∧ ExtOn w' (w.heap.size + 1) (fun y => w.heap.size ≤ y ∧ y < w'.heap.size) S ∧ Below w.heap.size w w' := by
  obtain ⟨h1, hok, x, q, hin, hfoot⟩ := h
  have hw : 0 < w.heap.size := by have := hin.head.lt; omega
  exact (extClone_any hin hok).mono fun e w' ⟨k1, x', q', k2, k3, k4⟩ => ⟨k1, ⟨fun y hy => by omega, hok, x', q', k2, fun y hy => ⟨k3 y hy, k2.foot_lt y hy⟩⟩, k4⟩
end
#print axioms on_clone
end Go.Proofs.YtmaiikmgpeafkabDoor
