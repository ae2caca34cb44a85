/- What the document's New, Open, Drop, Put and Clear of a table do. -/
import Derived.Test.YtgoglgghnjgcdaaUrG
namespace Go.Proofs.Ytgoglgghnjgcdaa
open Go.RowKit Go.Maps

/-- Rows of two kinds of elements are never one block. -/
theorem kinds_apart {w : World} {b1 b2 s1 s2 n1 n2 : Nat} {e1 e2 : TypeId} {v1 v2 : Value} {xs ys : List Value} (h1 : w.ownsRow b1 e1 s1 v1 n1 xs) (h2 : w.ownsRow b2 e2 s2 v2 n2 ys) (he : e1 ≠ e2) : Apart v1 v2 := by
  intro g hg1 hg2
  rcases h1.2 with ⟨rfl, _⟩ | ⟨g1, cap1, cur1, rfl, _, hb1, _⟩
  · simp [Value.ownBlock] at hg1
  rcases h2.2 with ⟨rfl, _⟩ | ⟨g2, cap2, cur2, rfl, _, hb2, _⟩
  · simp [Value.ownBlock] at hg2
  simp [Value.ownBlock] at hg1 hg2
  subst hg1 hg2
  rw [hb1] at hb2
  injection hb2 with hb2
  injection hb2 with _ hb2 _
  exact he hb2
theorem row_blk {w : World} {b s n g : Nat} {e t : TypeId} {v : Value} {xs : List Value} {cs : Array Value} (h : w.ownsRow b e s v n xs) (hb : Blk w g t cs) (he : e ≠ t) : ∀ i, v.ownBlock = some i → i ≠ g := by
  intro i hi e2
  subst e2
  rcases h.2 with ⟨rfl, _⟩ | ⟨g1, cap1, cur1, rfl, _, hb1, _⟩
  · simp [Value.ownBlock] at hi
  · simp [Value.ownBlock] at hi
    subst hi
    unfold Blk at hb
    rw [hb1] at hb
    injection hb with hb
    injection hb with _ hb _
    exact he hb
theorem rtab_built0 : Try.prog.built 60 [] = some #[.slice none 0 0, .slice none 0 0] := by kernel_rfl
theorem rgrp_built (a b : Int) : Try.prog.built 80 [(0, .int .i64 a), (1, .int .i64 b)] = some #[.int .i64 a, .int .i64 b] := by kernel_rfl
theorem rliv_built (a b d : Int) : Try.prog.built 83 [(0, .int .i64 a), (1, .int .i64 b), (2, .int .i64 d)] = some #[.int .i64 a, .int .i64 b, .int .i64 d] := by kernel_rfl
theorem slices_one : (Try.prog.info? 57).map (·.size) = some 1 ∧ (Try.prog.info? 58).map (·.size) = some 1 := ⟨by kernel_rfl, by kernel_rfl⟩
def grC2 (x : Gr) : List Value := [.int .i64 x.id, .int .i64 x.n]
theorem grC2_one (x : Gr) : ∀ v ∈ grC2 x, v.oneCell' = true := by
  intro v hv
  simp [grC2] at hv
  rcases hv with rfl | rfl <;> rfl
section
variable {w w' : World} {r cG cL : Nat} {AG AL : Option Addr} {S : Us}
/-- What a call that turns a table leaves: the table S', and what it takes now. -/
def RTurn (w w' : World) (r : Nat) (AG AL : Option Addr) (S' : Us) : Prop :=
  ∃ AG' cG' AL' cL', RefIn w' r AG' cG' AL' cL' S' ∧ (∀ i, RFoot r AG' AL' i → RFoot r AG AL i ∨ w.heap.size ≤ i) ∧ Turn (RFoot r AG AL) w w'
theorem RTurn.same (h : RefIn w r AG cG AL cL S) : RTurn w w r AG AL S := ⟨_, _, _, _, h, fun _ h => .inl h, Turn.refl _ _⟩
theorem own_in_foot {A : Option Addr} {n c : Nat} {i : Nat} (h : (Value.slice A n c).ownBlock = some i) : ∃ a, A = some a ∧ a.block = i := by
  cases A with
  | none => simp [Value.ownBlock] at h
  | some a => exact ⟨a, rfl, by simpa [Value.ownBlock] using h⟩
theorem foot_own {A : Option Addr} {n c : Nat} {a : Addr} (h : A = some a) : (Value.slice A n c).ownBlock = some a.block := by rw [h]; rfl
theorem rnew_any (w : World) : Calls Try.prog 11 #[] w fun e w' => e = .returned (.pointer (some ⟨w.heap.size, 0, none⟩)) ∧ RefIn w' w.heap.size none 0 none 0 Us.none_ ∧ Below w.heap.size w w' ∧ w'.heap.size = w.heap.size + 1 := by
  go_enter Try.func11, Try.ntmps11
  go_wp2_with (first
    | (refine wpList_build_is rfl 60 #[] rfl [] (by simp) _ rtab_built0 ?_)
    | (refine wpList_box_blk rfl 60 (.tmp 1) rfl (.agg #[.slice none 0 0, .slice none 0 0]) rfl ?_; intro w1 hb1 hl1 hs1))
  go_ret
  exact ⟨rfl, ⟨hb1, ⟨rfl, .inl ⟨rfl, rfl⟩⟩, ⟨rfl, .inl ⟨rfl, rfl⟩⟩⟩, hl1, hs1⟩
/-- Row 0 is replaced by another row of groups. -/
theorem RefIn.setG {w1 w2 : World} (h : RefIn w1 r AG cG AL cL S) {A2 : Option Addr} {c2 : Nat} {G2 : List Gr} (hown : w1.ownsRow 0 80 2 (.slice A2 G2.length c2) G2.length (grL G2)) (hb : Blk w2 r 60 #[.slice A2 G2.length c2, .slice AL S.L.length cL]) (hg : w1.grownBy w2 (some r)) : RefIn w2 r A2 c2 AL cL ⟨G2, S.L⟩ :=
  ⟨hb, own_held hown fun i hi => hg.block i (hown.lt i hi).2 (fun e => row_blk hown h.head (by decide) i hi (by injection e)), own_held h.lr fun i hi => hg.block i (h.lr.lt i hi).2 (fun e => row_blk h.lr h.head (by decide) i hi (by injection e))⟩
theorem RefIn.setL {w1 w2 : World} (h : RefIn w1 r AG cG AL cL S) {A2 : Option Addr} {c2 : Nat} {L2 : List Lv} (hown : w1.ownsRow 0 83 3 (.slice A2 L2.length c2) L2.length (lvL L2)) (hb : Blk w2 r 60 #[.slice AG S.G.length cG, .slice A2 L2.length c2]) (hg : w1.grownBy w2 (some r)) : RefIn w2 r AG cG A2 c2 ⟨S.G, L2⟩ :=
  ⟨hb, own_held h.gr fun i hi => hg.block i (h.gr.lt i hi).2 (fun e => row_blk h.gr h.head (by decide) i hi (by injection e)), own_held hown fun i hi => hg.block i (hown.lt i hi).2 (fun e => row_blk hown h.head (by decide) i hi (by injection e))⟩
set_option maxRecDepth 100000 in
set_option maxHeartbeats 2000000 in
theorem ropen_any (h : RefIn w r AG cG AL cL S) (hok : S.Ok) (hf : S.G.length < 1000000) (g n : Int) :
    Calls Try.prog 32 #[.pointer (some ⟨r, 0, none⟩), .int .i64 g, .int .i64 n] w fun e w' => e = .returned (.int .i64 (S.openE g n)) ∧ RTurn w w' r AG AL (S.open' g n) := by
  by_cases hb : g < 0 ∨ n < 1 ∨ 4096 < n
  · have e1 : S.openE g n = 1 := by unfold Us.openE; rw [if_pos hb]
    have e2 : S.open' g n = S := by unfold Us.open'; rw [e1]; rfl
    rw [e1, e2]
    have HU := hide h
    clear h hok hf e1 e2
    go_enter Try.func32, Try.ntmps32
    go_wp2
    all_goals first
      | (exfalso; omega)
      | (go_ret; exact ⟨rfl, RTurn.same HU.out⟩)
  · have HS := hide (rslots_any h.rd hok hf g)
    have hhs := Us.has_slots hok g
    obtain ⟨N, hN⟩ : ∃ N, S.slots g = N := ⟨_, rfl⟩
    rw [hN] at HS hhs
    by_cases h0 : 0 < N
    · have e1 : S.openE g n = 9 := by unfold Us.openE; rw [if_neg hb, hhs]; simp [h0]
      have e2 : S.open' g n = S := by unfold Us.open'; rw [e1]; rfl
      rw [e1, e2]
      have HU := hide h
      clear h hok hf e1 e2 hhs hN
      go_enter Try.func32, Try.ntmps32
      go_wp2_with (first
        | (go_at_call 39; refine HS.out.mono ?_; rintro _ _ ⟨rfl, rfl⟩))
      go_ret
      exact ⟨rfl, RTurn.same HU.out⟩
    · have e1 : S.openE g n = 0 := by unfold Us.openE; rw [if_neg hb, hhs]; simp [h0]
      have e2 : S.open' g n = S.opened g n := by unfold Us.open'; rw [e1]; rfl
      rw [e1, e2]
      obtain ⟨i0, hi0, hz0, hz1, hz2⟩ := info_parts grp_parts
      have HII := hide (And.intro hi0 (And.intro hz0 (And.intro hz1 hz2)))
      have HU := hide h
      have hc0 := h.c0
      have HLN := hide (show S.G.length + 1 ≤ maxLen ∧ (S.G.length + 1) * 16 ≤ 140737488355328 by simp only [maxLen]; omega)
      have hd0 : decide (0 < N) = false := by simpa using h0
      clear h hok hf e1 e2 hhs hN hi0 hz0 hz1 hz2
      go_enter Try.func32, Try.ntmps32
      go_wp2_with (first
        | (go_at_call 39; refine HS.out.mono ?_; rintro _ _ ⟨rfl, rfl⟩)
        | (refine wpList_build_is rfl 80 _ rfl _ rfl _ (rgrp_built g n) ?_)
        | (refine wpList_build_agg _ rfl (.tmp 28) 57 rfl 80 i0 _ 2 Try.underlying57 HII.out.1 (Try.zeroValue80 _) HII.out.2.2.1 (by decide) (by decide) (grC2 ⟨g, n⟩).toArray rfl rfl ?_)
        | ((with_reducible refine at_slot 30 ?_); refine wpList_append_two _ rfl (.tmp 25) (.tmp 29) _ rfl 0 80 i0 _ 2 16 Try.underlying57 HII.out.1 HII.out.2.1 HII.out.2.2.1 HII.out.2.2.2 rfl (by decide) _ S.G.length _ rfl (own_later HU.out.gr ((Below.refl _ w).alloc (Nat.le_refl _) _)) (w.heap.size + 1) (some ⟨w.heap.size, 0, none⟩) 1 1 (grC2 ⟨g, n⟩) rfl (Reads.lump _ (grC2 ⟨g, n⟩) _ _ 2 (by omega) rfl) (grC2_one _) HLN.out.1 HLN.out.2 (Nat.zero_le _) ?_; intro v2 w2 hown2 hg2 hb2; obtain ⟨A2, c2, rfl, _, _⟩ := own_shape hown2)
        | (refine wpList_poke rfl 57 (.tmp 32) (.tmp 30) rfl r 0 60 _ (show Blk w2 r 60 #[.slice AG S.G.length cG, .slice AL S.L.length cL] from (HU.out.later (Below.alloc (Below.refl w.heap.size w) (Nat.le_refl _) (.cells (grC2 ⟨g, n⟩).toArray 80))).head.grown hg2 (fun e => row_blk (HU.out.later (Below.alloc (Below.refl w.heap.size w) (Nat.le_refl _) (.cells (grC2 ⟨g, n⟩).toArray 80))).gr (HU.out.later (Below.alloc (Below.refl w.heap.size w) (Nat.le_refl _) (.cells (grC2 ⟨g, n⟩).toArray 80))).head (by decide) r e.symm rfl)) rfl _ rfl rfl slices_one.1 (show 0 < 2 by decide) ?_; intro w3 hb3 hg3 _))
      have hba := Below.alloc (Below.refl w.heap.size w) (Nat.le_refl _) (.cells (grC2 ⟨g, n⟩).toArray 80)
      have hI1 := HU.out.later hba
      have hlr := own_other hI1.lr hg2 (kinds_apart hI1.gr hI1.lr (by decide))
      have hI2 : RefIn w2 r AG cG AL cL S → True := fun _ => trivial
      clear hI2
      have hlen : (S.opened g n).G.length = S.G.length + 1 := Us.opened_len S g n
      have hgl : grL S.G ++ grC2 ⟨g, n⟩ = grL (S.opened g n).G := by
        show _ = grL (S.G ++ [⟨g, n⟩])
        rw [grL_append]
        rfl
      have hne := row_blk hI1.gr hI1.head (by decide)
      have hhead : Blk w2 r 60 #[.slice AG S.G.length cG, .slice AL S.L.length cL] := hI1.head.grown hg2 (fun e => hne r e.symm rfl)
      rw [hgl] at hown2
      have hgr : w2.ownsRow 0 80 2 (.slice A2 (S.opened g n).G.length c2) (S.opened g n).G.length (grL (S.opened g n).G) := by rw [hlen]; exact hown2
      go_wp2
      go_ret
      refine ⟨rfl, A2, c2, AL, cL, ⟨?_, own_held hgr fun i hi => hg3.block i (hgr.lt i hi).2 (fun e => row_blk hgr hhead (by decide) i hi (by injection e)), own_held hlr fun i hi => hg3.block i (hlr.lt i hi).2 (fun e => row_blk hlr hhead (by decide) i hi (by injection e))⟩, ?_, ?_⟩
      · rw [hlen]; exact hb3
      · rintro i (rfl | ⟨a, ha, rfl⟩ | ha)
        · exact .inl (.inl rfl)
        · rw [foot_own ha] at hb2
          rcases hb2 with hb2 | hb2
          · exact .inl (.inr (.inl (own_in_foot hb2.symm)))
          · injection hb2 with hb2
            have := hba.size
            exact .inr (by omega)
        · exact .inl (.inr (.inr ha))
      · exact (((Turn.of_below hba).grown hg2 (fun i hi => .inl (.inr (.inl (own_in_foot hi))))).grown hg3 (fun i hi => .inl (.inl (by injection hi with hi; exact hi.symm))))
end
#print axioms ropen_any
end Go.Proofs.Ytgoglgghnjgcdaa
