/- What Clone of the reference's map makes. -/
import Derived.Test.YtmaiikmgpeafkabDoorRefAG
import Derived.Test.YtmaiikmgpeafkabDoorStepK
import Derived.Deep.DrawnRows
namespace Go.Proofs.YtmaiikmgpeafkabDoor
open Go.RowKit

/-- The first members. -/
def Ext.first (S : Ext) (i : Nat) : Ext := ⟨S.ks.take i, S.n, S.t⟩
theorem Ext.first_all (S : Ext) : S.first S.ks.length = S := by unfold Ext.first; rw [List.take_length]
theorem Ext.first_join {S : Ext} {i d : Nat} (h : S.ks[i]? = some d) : (S.first i).join d (S.n d) (S.t d) = S.first (i + 1) := by
  unfold Ext.join Ext.first
  rw [List.take_add_one, h]
  have e1 : upd S.n d (S.n d) = S.n := by funext j; by_cases e : j = d <;> simp [upd, e]
  have e2 : upd S.t d (S.t d) = S.t := by funext j; by_cases e : j = d <;> simp [upd, e]
  simp only [e1, e2]
  rfl
theorem BL_cell (n : Nat) (t : Nat → Bool) : ∀ u ∈ BL n t, u.oneCell' = true := by
  intro u hu
  unfold BL at hu
  obtain ⟨i, _, rfl⟩ := List.mem_map.1 hu
  rfl
section
variable {w : World} {r : Nat} {vm : Value} {vt : Nat → Value} {S : Ext}
set_option maxRecDepth 100000 in
set_option maxHeartbeats 4000000 in
theorem refClone_any (h : RefE w r vm vt S) (hok : S.Ok) (hw : 0 < w.heap.size) :
    Calls Tryd.prog 7 #[.pointer (some ⟨r, 0, none⟩)] w fun e w' => e = .returned (.pointer (some ⟨w.heap.size, 0, none⟩)) ∧ ∃ vc vtc, RefE w' w.heap.size vc vtc S ∧ (∀ y, RFootE w.heap.size vc vtc S y → w.heap.size ≤ y) ∧ Below w.heap.size w w' := by
  obtain ⟨ib, hb0, hb1, hb2, hb3⟩ := info_parts bool_info
  obtain ⟨i0, hi0, hzz, hz3, hz4⟩ := refMember_info
  have hzero := refMember_zero
  have HB0 := hide hb0
  have HB1 := hide hb1
  have HB2 := hide hb2
  have HB3 := hide hb3
  have HI0 := hide hi0
  have HZZ := hide hzz
  have HZ3 := hide hz3
  have HZ4 := hide hz4
  have HH := hide h
  have HOK := hide hok
  have hf := hok.few
  obtain ⟨N, hN⟩ : ∃ N, N = S.ks.length := ⟨_, rfl⟩
  have HN := hide hN
  rw [← hN] at hf
  clear hN h hok hb0 hb1 hb2 hb3 hi0 hzz hz3 hz4
  go_enter Tryd.func7, Tryd.ntmps7
  go_wp2_with fail
  refine (rOnE_new w hw).mono ?_
  rintro _ w1 ⟨rfl, ho1, hl1, hs1⟩
  obtain ⟨C, hC⟩ : ∃ C, C = w.heap.size := ⟨_, rfl⟩
  have HC := hide hC
  have HR0 : Hid (∃ vc vtc, RefE w1 C vc vtc (S.first 0) ∧ ∀ y, RFootE C vc vtc (S.first 0) y → w.heap.size ≤ y) := hide (by
    obtain ⟨_, _, v0, t0, h3, h4⟩ := ho1
    rw [← hC] at h3 h4
    refine ⟨v0, t0, ⟨h3.head, h3.row, (fun d hd => by cases hd), (fun d hd => by cases hd)⟩, ?_⟩
    rintro y (rfl | hy | ⟨d, hd, _⟩)
    · omega
    · have := h4 y (.inr (.inl hy)); omega
    · cases hd)
  have HL1 := hide hl1
  rw [← hC]
  clear ho1 hl1 hs1 hC
  go_wp2_with fail
  go_loopw [4] (fun a wx => ∃ i : Nat, i ≤ N ∧ a = .int .i64 (i : Int) ∧ Hid (∃ vc vtc, RefE wx C vc vtc (S.first i) ∧ ∀ y, RFootE C vc vtc (S.first i) y → w.heap.size ≤ y) ∧ Hid (Below w.heap.size w wx)) (fun a _ => N - (intOf a).toNat)
  case atStart => exact ⟨0, Nat.zero_le _, rfl, HR0, HL1⟩
  case round =>
    obtain ⟨i, hi, rfl, HR, HL⟩ := hrel
    clear HR0 HL1
    have HE := hide (HH.out.later HL.out)
    have k0 := HE.out.c0
    obtain ⟨Am, cm, hvm, hlc, hcm⟩ := own_shape HE.out.row
    rw [hvm, ← HN.out] at k0
    by_cases hiN : i < N
    · have hii : (i : Int) < (N : Int) := by omega
      obtain ⟨d, hd⟩ : ∃ d, S.ks[i]? = some d := ⟨_, List.getElem?_eq_getElem (by rw [← HN.out]; exact hiN)⟩
      have hdm : d ∈ S.ks := List.mem_iff_getElem?.2 ⟨i, hd⟩
      obtain ⟨ad, c', hv, _, _, hc0, hc1⟩ := HE.out.cell hd
      rw [hvm] at hv
      injection hv with hA _ hcc
      subst hA
      subst hcc
      have hrow := HE.out.mem d hdm
      have hn497 := HOK.out.small d hdm
      have HDK := hide hd
      have HNX : Hid (d ∉ (S.first i).ks) := hide (fun hm => by
        obtain ⟨j, hj⟩ := List.mem_iff_getElem?.1 hm
        have hj2 : (S.ks.take i)[j]? = some d := hj
        have hji : j < i := by
          have := (List.getElem?_eq_some_iff.1 hj2).1
          simp at this; omega
        rw [List.getElem?_take_of_lt hji] at hj2
        have := (List.getElem?_inj (by have := (List.getElem?_eq_some_iff.1 hd).1; omega) HOK.out.nodup).1 (hj2.trans hd.symm)
        omega)
      obtain ⟨n, hn⟩ : ∃ n, n = S.n d := ⟨_, rfl⟩
      obtain ⟨Ab, cb, hvb, hnb, hcb⟩ := own_shape hrow
      rw [hvb] at hrow hc1
      rw [← hn] at hrow hc1 hn497 hnb
      have HNS := hide hn
      have hr := Reads.of_own hrow
      have ha : Below wr.heap.size wr (wr.drew.alloc (.cells #[] 4)) := ((Below.refl _ wr).drew).alloc (Nat.le_refl _) _
      have hs0 : (wr.drew.alloc (.cells #[] 4)).heap.size = wr.heap.size + 1 := World.size_alloc _ _
      obtain ⟨v1, y1, hrun1, ho1, hg1, hbl1⟩ := run_append_any (P := Tryd.prog) (wr.drew.alloc (.cells #[] 4)) 0 48 48 4 ib _ 1 1 Tryd.underlying48 HB0.out HB1.out HB2.out HB3.out rfl (by decide) _ 0 [] (World.ownsRow_made wr.drew #[] 0 (Nat.zero_le _) (Nat.zero_le _) rfl) wr.heap.size Ab n cb _ (hr.below ha) (BL_cell _ _) (by unfold maxLen; omega) (by omega) (Nat.zero_le _)
      rw [List.nil_append, Nat.zero_add] at ho1
      have hfresh : ∀ g, v1.ownBlock = some g → wr.heap.size ≤ g := by
        intro g e
        rcases hbl1 with hb1 | hb1
        · rw [hb1] at e; simp only [Value.ownBlock] at e; injection e with e; exact Nat.le_of_eq e
        · rw [hb1] at e; injection e with e; omega
      have hy1 : Below wr.heap.size wr y1 := ha.grown hg1 (by omega) (fun g e => by simp only [Value.ownBlock] at e; injection e with e; exact Nat.le_of_eq e)
      obtain ⟨A1, c1, rfl, hn1, hc1m⟩ := own_shape ho1
      obtain ⟨vc, vtc, hRC, hRF⟩ := HR.out
      have hlen : (S.first i).ks.length = i := by show (S.ks.take i).length = i; rw [List.length_take, ← HN.out]; omega
      have hC0 : C < wr.heap.size := hRC.head.lt
      have kC := hRC.c0
      have hrowC := hRC.row
      obtain ⟨o, ho⟩ : ∃ o : Obj, o = .cells #[.int .i64 (d : Int), .slice A1 n c1] 50 := ⟨_, rfl⟩
      have hyo : Below wr.heap.size wr (y1.alloc o) := hy1.alloc hy1.size o
      obtain ⟨v2, y2, hrun2, ho2, hg2, hbl2⟩ := run_append_any (P := Tryd.prog) (y1.alloc o) 0 45 45 50 i0 _ 2 32 Tryd.underlying45 HI0.out HZZ.out HZ3.out HZ4.out rfl (by decide) vc _ _ ((own_later hrowC hy1).alloc o) (y1.heap.size + 1) (some ⟨y1.heap.size, 0, none⟩) 1 1 [.int .i64 (d : Int), .slice A1 n c1] (by rw [ho]; exact Reads.lump y1 [.int .i64 (d : Int), .slice A1 n c1] 50 (y1.heap.size + 1) 2 (by omega) rfl) (by intro u hu; simp at hu; rcases hu with rfl | rfl <;> rfl) (by rw [hlen]; unfold maxLen; omega) (by rw [hlen]; omega) (Nat.zero_le _)
      obtain ⟨A2, c2, rfl, _, _⟩ := own_shape ho2
      rw [hlen] at ho2 hrun2 hbl2
      obtain ⟨q1, q2, q3⟩ := radd_gen (w := wr) (wm := y1) (w5 := y2) hRC HNX.out hy1 ho1 hfresh (by rw [hlen]; exact ho2) hg2 hbl2
      have hj := Ext.first_join HDK.out
      rw [← HNS.out] at hj
      rw [hj] at q1 q3
      have hsz2 := hg2.size
      have hCv : vc.ownBlock ≠ some C := kind_blk_ne hrowC hRC.head (by decide)
      have hB2 : Blk y2 C 47 #[vc] := hRC.head.of_block ((hg2.block C (by have := hyo.size; omega) (fun e => hCv e.symm)).trans (hyo.block C hC0))
      have f2 := hB2.frozen 0
      have kC2 : y2.cell? ⟨C, 0, none⟩ = some vc := hB2.cell 0
      have HFR : Hid (∃ vc vtc, RefE (y2.setCell ⟨C, 0, none⟩ (.slice A2 (i + 1) c2)) C vc vtc (S.first (i + 1)) ∧ ∀ y, RFootE C vc vtc (S.first (i + 1)) y → w.heap.size ≤ y) := hide ⟨_, _, q1, fun y hy => by
        rcases q3 y hy with h | ⟨h, _⟩
        · exact hRF y h
        · exact Nat.le_trans HL.out.size h⟩
      have HFL : Hid (Below w.heap.size w (y2.setCell ⟨C, 0, none⟩ (.slice A2 (i + 1) c2))) := hide (HL.out.trans (q2.below_ HL.out.size hRF))
      have hadb : ∀ k, (ad.add k).block < wr.heap.size := fun k => by
        have h1 : (ad.add k).block = ad.block := by unfold Addr.add; split <;> rfl
        rw [h1]
        exact (World.ownsRow.lt HE.out.row ad.block (by rw [hvm]; rfl)).2
      have hr0 : r < wr.heap.size := HE.out.head.lt
      have KA : ∀ W, Below wr.heap.size wr W → W.cell? ⟨r, 0, none⟩ = some (.slice (some ad) N cm) ∧ W.cell? ⟨C, 0, none⟩ = some vc ∧ W.cell? (ad.add (i * 2)) = some (.int .i64 (d : Int)) ∧ W.cell? ⟨(ad.add (i * 2)).block, (ad.add (i * 2)).off + 1, none⟩ = some (.slice Ab n cb) := fun W h => ⟨(h.cell hr0).trans k0, (h.cell hC0).trans kC, (h.cell (hadb _)).trans hc0, (h.cell (p := ⟨(ad.add (i * 2)).block, (ad.add (i * 2)).off + 1, none⟩) (hadb _)).trans hc1⟩
      obtain ⟨ka1, ka2, ka3, ka4⟩ := KA (wr.alloc (.cells #[] 4)) ((Below.refl _ wr).alloc (Nat.le_refl _) _)
      obtain ⟨kb1, kb2, kb3, kb4⟩ := KA y1 hy1
      have ty2 : Turn (RFootE C vc vtc (S.first i)) wr y2 := (Turn.of_below hyo).grown hg2 (fun g e => .inl (.inr (.inl e)))
      have hnF : ∀ p : Addr, p.block < w.heap.size → ¬ RFootE C vc vtc (S.first i) p.block := fun p hp hy => absurd (hRF _ hy) (by omega)
      have hlw := HL.out.size
      have hrw : r < w.heap.size := HH.out.head.lt
      have hadw : ∀ k, (ad.add k).block < w.heap.size := fun k => by
        have h1 : (ad.add k).block = ad.block := by unfold Addr.add; split <;> rfl
        rw [h1]
        exact (World.ownsRow.lt HH.out.row ad.block (by rw [hvm]; rfl)).2
      have KD : ∀ W, Turn (RFootE C vc vtc (S.first i)) wr W → W.cell? ⟨r, 0, none⟩ = some (.slice (some ad) N cm) ∧ W.cell? (ad.add (i * 2)) = some (.int .i64 (d : Int)) ∧ W.cell? ⟨(ad.add (i * 2)).block, (ad.add (i * 2)).off + 1, none⟩ = some (.slice Ab n cb) := fun W h => ⟨(h.cell (p := ⟨r, 0, none⟩) hr0 (hnF ⟨r, 0, none⟩ hrw)).trans k0, (h.cell (hadb _) (hnF _ (hadw _))).trans hc0, (h.cell (p := ⟨(ad.add (i * 2)).block, (ad.add (i * 2)).off + 1, none⟩) (hadb _) (hnF ⟨(ad.add (i * 2)).block, (ad.add (i * 2)).off + 1, none⟩ (hadw (i * 2)))).trans hc1⟩
      have kd2 := KD y2 ty2
      have kd3 := KD _ q2
      rw [ho] at hrun2 hyo
      obtain ⟨kc1, kc2, kc3, kc4⟩ := KA (y1.alloc (.cells #[.int .i64 (d : Int), .slice A1 n c1] 50)) hyo
      have hq1 : (Builtin.append_ #[48, 48] 48 #[.slice (some ⟨wr.heap.size, 0, none⟩) 0 0, .slice Ab n cb]).run Tryd.prog (wr.alloc (.cells #[] 4)).drew = .ok (.slice A1 n c1) y1 := hrun1
      have hq2 := hrun2
      clear hr ha hs0 hrun1 hrun2 ho1 hg1 hbl1 hfresh hRC hRF hlen hrowC ho hyo ho2 hg2 hbl2 q1 q2 q3 hj hCv hB2 hadb hadw hnF hrw KA KD ty2 HR hrow hdm hvm hvb hn hsz2
      go_wp2_with fail
      have h0i : (0 : Int) ≤ (i : Int) := Int.natCast_nonneg i
      have ka0 := And.intro k0 (And.intro hc0 hc1)
      have ka9 := And.intro ka1 (And.intro ka3 ka4)
      have kb9 := And.intro kb1 (And.intro kb3 kb4)
      have kc9 := And.intro kc1 (And.intro kc3 kc4)
      refine wp_region_noPanic ?_
      refine wp_region_held_drew (S := (fun W => W.cell? ⟨r, 0, none⟩ = some (.slice (some ad) N cm) ∧ W.cell? (ad.add (i * 2)) = some (.int .i64 (d : Int)) ∧ W.cell? ⟨(ad.add (i * 2)).block, (ad.add (i * 2)).off + 1, none⟩ = some (.slice Ab n cb))) (by kernel_rfl) ?_ (fun hHeld => ?_)
      · exact ka0
      refine heldTake (i := 0) (v := ?_) rfl (by kernel_rfl) (by kernel_rfl) (by kernel_rfl) (fun _ _ _ h => h) (Or.inl ⟨by rfl, ?_⟩) (by assumption) ?_
      rotate_left
      · intro w hSw; (try dsimp only at hSw); go_simp <;> (with_reducible rfl)
      try simp only [Act.put, List.setIfInBounds_toArray, List.set_cons_zero, List.set_cons_succ]
      refine heldTake (i := 1) (v := ?_) rfl (by kernel_rfl) (by kernel_rfl) (by kernel_rfl) (fun _ _ _ h => h) (Or.inl ⟨by rfl, ?_⟩) (by assumption) ?_
      rotate_left
      · intro w hSw; (try dsimp only at hSw); go_simp <;> (with_reducible rfl)
      try simp only [Act.put, List.setIfInBounds_toArray, List.set_cons_zero, List.set_cons_succ]
      refine heldTake (i := 2) (v := ?_) rfl (by kernel_rfl) (by kernel_rfl) (by kernel_rfl) (fun _ _ _ h => h) (Or.inl ⟨by rfl, ?_⟩) (by assumption) ?_
      rotate_left
      · intro w hSw; (try dsimp only at hSw); go_simp <;> (with_reducible rfl)
      try simp only [Act.put, List.setIfInBounds_toArray, List.set_cons_zero, List.set_cons_succ]
      refine heldTake (i := 3) (v := ?_) rfl (by kernel_rfl) (by kernel_rfl) (by kernel_rfl) (fun _ _ _ h => h) (Or.inl ⟨by rfl, ?_⟩) (by assumption) ?_
      rotate_left
      · intro w hSw; (try dsimp only at hSw); go_simp <;> (with_reducible rfl)
      try simp only [Act.put, List.setIfInBounds_toArray, List.set_cons_zero, List.set_cons_succ]
      refine heldTake (i := 5) (v := ?_) rfl (by kernel_rfl) (by kernel_rfl) (by kernel_rfl) (fun _ _ _ h => h) (Or.inl ⟨by rfl, ?_⟩) (by assumption) ?_
      rotate_left
      · intro w hSw; (try dsimp only at hSw); go_simp <;> (with_reducible rfl)
      try simp only [Act.put, List.setIfInBounds_toArray, List.set_cons_zero, List.set_cons_succ]
      refine heldTake (i := 6) (v := ?_) rfl (by kernel_rfl) (by kernel_rfl) (by kernel_rfl) (fun _ _ _ h => h) (Or.inl ⟨by rfl, ?_⟩) (by assumption) ?_
      rotate_left
      · intro w hSw; (try dsimp only at hSw); go_simp <;> (with_reducible rfl)
      try simp only [Act.put, List.setIfInBounds_toArray, List.set_cons_zero, List.set_cons_succ]
      refine heldTake (i := 7) (v := ?_) rfl (by kernel_rfl) (by kernel_rfl) (by kernel_rfl) (fun _ _ _ h => h) (Or.inl ⟨by rfl, ?_⟩) (by assumption) ?_
      rotate_left
      · intro w hSw; (try dsimp only at hSw); go_simp <;> (with_reducible rfl)
      try simp only [Act.put, List.setIfInBounds_toArray, List.set_cons_zero, List.set_cons_succ]
      refine heldTake (i := 8) (v := ?_) rfl (by kernel_rfl) (by kernel_rfl) (by kernel_rfl) (fun _ _ _ h => h) (Or.inl ⟨by rfl, ?_⟩) (by assumption) ?_
      rotate_left
      · intro w hSw; (try dsimp only at hSw); go_simp <;> (with_reducible rfl)
      try simp only [Act.put, List.setIfInBounds_toArray, List.set_cons_zero, List.set_cons_succ]
      refine heldTake (i := 9) (v := ?_) rfl (by kernel_rfl) (by kernel_rfl) (by kernel_rfl) (fun _ _ _ h => h) (Or.inl ⟨by rfl, ?_⟩) (by assumption) ?_
      rotate_left
      · intro w hSw; (try dsimp only at hSw); go_simp <;> (with_reducible rfl)
      try simp only [Act.put, List.setIfInBounds_toArray, List.set_cons_zero, List.set_cons_succ]
      refine heldTake (i := 10) (v := ?_) rfl (by kernel_rfl) (by kernel_rfl) (by kernel_rfl) (fun _ _ _ h => h) (Or.inl ⟨by rfl, ?_⟩) (by assumption) ?_
      rotate_left
      · intro w hSw; (try dsimp only at hSw); go_simp <;> (with_reducible rfl)
      try simp only [Act.put, List.setIfInBounds_toArray, List.set_cons_zero, List.set_cons_succ]
      refine heldTake (i := 11) (v := ?_) rfl (by kernel_rfl) (by kernel_rfl) (by kernel_rfl) (fun _ _ _ h => h) (Or.inl ⟨by rfl, ?_⟩) (by assumption) ?_
      rotate_left
      · intro w hSw; (try dsimp only at hSw); go_simp <;> (with_reducible rfl)
      try simp only [Act.put, List.setIfInBounds_toArray, List.set_cons_zero, List.set_cons_succ]
      refine heldTake (i := 12) (v := ?_) rfl (by kernel_rfl) (by kernel_rfl) (by kernel_rfl) (fun _ _ _ h => h) (Or.inl ⟨by rfl, ?_⟩) (by assumption) ?_
      rotate_left
      · intro w hSw; (try dsimp only at hSw); go_simp <;> (with_reducible rfl)
      try simp only [Act.put, List.setIfInBounds_toArray, List.set_cons_zero, List.set_cons_succ]
      refine heldTake (i := 14) (v := ?_) rfl (by kernel_rfl) (by kernel_rfl) (by kernel_rfl) (fun _ _ _ h => h) (Or.inl ⟨by rfl, ?_⟩) (by assumption) ?_
      rotate_left
      · intro w hSw; (try dsimp only at hSw); go_simp <;> (with_reducible rfl)
      try simp only [Act.put, List.setIfInBounds_toArray, List.set_cons_zero, List.set_cons_succ]
      refine heldTake (i := 15) (v := ?_) rfl (by kernel_rfl) (by kernel_rfl) (by kernel_rfl) (fun _ _ _ h => h) (Or.inl ⟨by rfl, ?_⟩) (by assumption) ?_
      rotate_left
      · intro w hSw; (try dsimp only at hSw); go_simp <;> (with_reducible rfl)
      try simp only [Act.put, List.setIfInBounds_toArray, List.set_cons_zero, List.set_cons_succ]
      refine heldTake (i := 16) (v := ?_) rfl (by kernel_rfl) (by kernel_rfl) (by kernel_rfl) (fun _ _ _ h => h) (Or.inl ⟨by rfl, ?_⟩) (by assumption) ?_
      rotate_left
      · intro w hSw; (try dsimp only at hSw); go_simp <;> (with_reducible rfl)
      try simp only [Act.put, List.setIfInBounds_toArray, List.set_cons_zero, List.set_cons_succ]
      refine heldTake (i := 17) (v := ?_) rfl (by kernel_rfl) (by kernel_rfl) (by kernel_rfl) (fun _ _ _ h => h) (Or.inl ⟨by rfl, ?_⟩) (by assumption) ?_
      rotate_left
      · intro w hSw; (try dsimp only at hSw); go_simp <;> (with_reducible rfl)
      try simp only [Act.put, List.setIfInBounds_toArray, List.set_cons_zero, List.set_cons_succ]
      refine heldTake (i := 18) (v := ?_) rfl (by kernel_rfl) (by kernel_rfl) (by kernel_rfl) (fun _ _ _ h => h) (Or.inl ⟨by rfl, ?_⟩) (by assumption) ?_
      rotate_left
      · intro w hSw; (try dsimp only at hSw); go_simp <;> (with_reducible rfl)
      try simp only [Act.put, List.setIfInBounds_toArray, List.set_cons_zero, List.set_cons_succ]
      refine heldTake (i := 19) (v := ?_) rfl (by kernel_rfl) (by kernel_rfl) (by kernel_rfl) (fun _ _ _ h => h) (Or.inl ⟨by rfl, ?_⟩) (by assumption) ?_
      rotate_left
      · intro w hSw; (try dsimp only at hSw); go_simp <;> (with_reducible rfl)
      try simp only [Act.put, List.setIfInBounds_toArray, List.set_cons_zero, List.set_cons_succ]
      refine heldTake (i := 20) (v := ?_) rfl (by kernel_rfl) (by kernel_rfl) (by kernel_rfl) (fun _ _ _ h => h) (Or.inl ⟨by rfl, ?_⟩) (by assumption) ?_
      rotate_left
      · intro w hSw; (try dsimp only at hSw); go_simp <;> (with_reducible rfl)
      try simp only [Act.put, List.setIfInBounds_toArray, List.set_cons_zero, List.set_cons_succ]
      refine heldTake (i := 21) (v := ?_) rfl (by kernel_rfl) (by kernel_rfl) (by kernel_rfl) (fun _ _ _ h => h) (Or.inl ⟨by rfl, ?_⟩) (by assumption) ?_
      rotate_left
      · intro w hSw; (try dsimp only at hSw); go_simp <;> (with_reducible rfl)
      try simp only [Act.put, List.setIfInBounds_toArray, List.set_cons_zero, List.set_cons_succ]
      refine wpAnyH_ready (rs := [4, 13]) (by kernel_rfl) (by simp) ?_
      refine heldCons (i := 4) rfl (fun K hK => ?_) ?_
      · go_simp
        refine hK.out _ _ ?_ (fun hHeld => ?_)
        · exact ka0
        clear hK K
        try simp only [Act.put, List.setIfInBounds_toArray, List.set_cons_zero, List.set_cons_succ]
        refine wpAnyH_ready (rs := [13]) (by kernel_rfl) (by simp) ?_
        refine heldCons (i := 13) rfl (fun K hK => ?_) ?_
        · go_simp
          refine hK.out _ _ ?_ (fun hHeld => ?_)
          · exact ka9
          clear hK K
          try simp only [Act.put, List.setIfInBounds_toArray, List.set_cons_zero, List.set_cons_succ]
          refine wpAnyH_ready (rs := [22]) (by kernel_rfl) (by simp) ?_
          refine heldCons (i := 22) rfl (fun K hK => ?_) ?_
          · refine step_known rfl (.tmp 28) (.tmp 36) 48 rfl _ _ rfl rfl (.slice A1 n c1) y1 hq1 ?_
            refine hK.out _ _ ?_ (fun hHeld => ?_)
            · exact kb9
            clear hK K
            try simp only [Act.put, List.setIfInBounds_toArray, List.set_cons_zero, List.set_cons_succ]
            refine heldTake (i := 23) (v := ?_) rfl (by kernel_rfl) (by kernel_rfl) (by kernel_rfl) (fun _ _ _ h => h) (Or.inl ⟨by rfl, ?_⟩) (by assumption) ?_
            rotate_left
            · intro w hSw; (try dsimp only at hSw); go_simp <;> (with_reducible rfl)
            try simp only [Act.put, List.setIfInBounds_toArray, List.set_cons_zero, List.set_cons_succ]
            refine wpAnyH_ready (rs := [24]) (by kernel_rfl) (by simp) ?_
            refine heldCons (i := 24) rfl (fun K hK => ?_) ?_
            · go_simp
              refine hK.out _ _ ?_ (fun hHeld => ?_)
              · exact kc9
              clear hK K
              try simp only [Act.put, List.setIfInBounds_toArray, List.set_cons_zero, List.set_cons_succ]
              refine wpAnyH_ready (rs := [25]) (by kernel_rfl) (by simp) ?_
              refine heldCons (i := 25) rfl (fun K hK => ?_) ?_
              · refine step_known rfl (.tmp 19) (.tmp 39) 45 rfl _ _ rfl rfl (.slice A2 (i + 1) c2) y2 hq2 ?_
                refine hK.out _ _ ?_ (fun hHeld => ?_)
                · exact kd2
                clear hK K
                try simp only [Act.put, List.setIfInBounds_toArray, List.set_cons_zero, List.set_cons_succ]
                refine heldTake (i := 26) (v := ?_) rfl (by kernel_rfl) (by kernel_rfl) (by kernel_rfl) (fun _ _ _ h => h) (Or.inl ⟨by rfl, ?_⟩) (by assumption) ?_
                rotate_left
                · intro w hSw; (try dsimp only at hSw); go_simp <;> (with_reducible rfl)
                try simp only [Act.put, List.setIfInBounds_toArray, List.set_cons_zero, List.set_cons_succ]
                refine heldTake (i := 27) (v := ?_) rfl (by kernel_rfl) (by kernel_rfl) (by kernel_rfl) (fun _ _ _ h => h) (Or.inl ⟨by rfl, ?_⟩) (by assumption) ?_
                rotate_left
                · intro w hSw; (try dsimp only at hSw); go_simp <;> (with_reducible rfl)
                try simp only [Act.put, List.setIfInBounds_toArray, List.set_cons_zero, List.set_cons_succ]
                refine wpAnyH_ready (rs := [28]) (by kernel_rfl) (by simp) ?_
                refine heldCons (i := 28) rfl (fun K hK => ?_) ?_
                · go_simp
                  refine hK.out _ _ ?_ (fun hHeld => ?_)
                  · exact kd3
                  clear hK K
                  try simp only [Act.put, List.setIfInBounds_toArray, List.set_cons_zero, List.set_cons_succ]
                  refine wpAnyH_done (by kernel_rfl) ?_ _
                  refine NoPanic.normal ?_
                  clear hq1 hq2
                  go_wp2
                  go_roundw
                  case rel => exact ⟨i + 1, by omega, by go_num, HFR, HFL⟩
                  case measure => simp [intOf]; omega
                exact AllReadyH.nil
              exact AllReadyH.nil
            exact AllReadyH.nil
          exact AllReadyH.nil
        exact AllReadyH.nil
      refine heldCons (i := 13) rfl (fun K hK => ?_) ?_
      · go_simp
        refine hK.out _ _ ?_ (fun hHeld => ?_)
        · exact ka9
        clear hK K
        try simp only [Act.put, List.setIfInBounds_toArray, List.set_cons_zero, List.set_cons_succ]
        refine wpAnyH_ready (rs := [4, 22]) (by kernel_rfl) (by simp) ?_
        refine heldCons (i := 4) rfl (fun K hK => ?_) ?_
        · go_simp
          refine hK.out _ _ ?_ (fun hHeld => ?_)
          · exact ka9
          clear hK K
          try simp only [Act.put, List.setIfInBounds_toArray, List.set_cons_zero, List.set_cons_succ]
          refine wpAnyH_ready (rs := [22]) (by kernel_rfl) (by simp) ?_
          refine heldCons (i := 22) rfl (fun K hK => ?_) ?_
          · refine step_known rfl (.tmp 28) (.tmp 36) 48 rfl _ _ rfl rfl (.slice A1 n c1) y1 hq1 ?_
            refine hK.out _ _ ?_ (fun hHeld => ?_)
            · exact kb9
            clear hK K
            try simp only [Act.put, List.setIfInBounds_toArray, List.set_cons_zero, List.set_cons_succ]
            refine heldTake (i := 23) (v := ?_) rfl (by kernel_rfl) (by kernel_rfl) (by kernel_rfl) (fun _ _ _ h => h) (Or.inl ⟨by rfl, ?_⟩) (by assumption) ?_
            rotate_left
            · intro w hSw; (try dsimp only at hSw); go_simp <;> (with_reducible rfl)
            try simp only [Act.put, List.setIfInBounds_toArray, List.set_cons_zero, List.set_cons_succ]
            refine wpAnyH_ready (rs := [24]) (by kernel_rfl) (by simp) ?_
            refine heldCons (i := 24) rfl (fun K hK => ?_) ?_
            · go_simp
              refine hK.out _ _ ?_ (fun hHeld => ?_)
              · exact kc9
              clear hK K
              try simp only [Act.put, List.setIfInBounds_toArray, List.set_cons_zero, List.set_cons_succ]
              refine wpAnyH_ready (rs := [25]) (by kernel_rfl) (by simp) ?_
              refine heldCons (i := 25) rfl (fun K hK => ?_) ?_
              · refine step_known rfl (.tmp 19) (.tmp 39) 45 rfl _ _ rfl rfl (.slice A2 (i + 1) c2) y2 hq2 ?_
                refine hK.out _ _ ?_ (fun hHeld => ?_)
                · exact kd2
                clear hK K
                try simp only [Act.put, List.setIfInBounds_toArray, List.set_cons_zero, List.set_cons_succ]
                refine heldTake (i := 26) (v := ?_) rfl (by kernel_rfl) (by kernel_rfl) (by kernel_rfl) (fun _ _ _ h => h) (Or.inl ⟨by rfl, ?_⟩) (by assumption) ?_
                rotate_left
                · intro w hSw; (try dsimp only at hSw); go_simp <;> (with_reducible rfl)
                try simp only [Act.put, List.setIfInBounds_toArray, List.set_cons_zero, List.set_cons_succ]
                refine heldTake (i := 27) (v := ?_) rfl (by kernel_rfl) (by kernel_rfl) (by kernel_rfl) (fun _ _ _ h => h) (Or.inl ⟨by rfl, ?_⟩) (by assumption) ?_
                rotate_left
                · intro w hSw; (try dsimp only at hSw); go_simp <;> (with_reducible rfl)
                try simp only [Act.put, List.setIfInBounds_toArray, List.set_cons_zero, List.set_cons_succ]
                refine wpAnyH_ready (rs := [28]) (by kernel_rfl) (by simp) ?_
                refine heldCons (i := 28) rfl (fun K hK => ?_) ?_
                · go_simp
                  refine hK.out _ _ ?_ (fun hHeld => ?_)
                  · exact kd3
                  clear hK K
                  try simp only [Act.put, List.setIfInBounds_toArray, List.set_cons_zero, List.set_cons_succ]
                  refine wpAnyH_done (by kernel_rfl) ?_ _
                  refine NoPanic.normal ?_
                  clear hq1 hq2
                  go_wp2
                  go_roundw
                  case rel => exact ⟨i + 1, by omega, by go_num, HFR, HFL⟩
                  case measure => simp [intOf]; omega
                exact AllReadyH.nil
              exact AllReadyH.nil
            exact AllReadyH.nil
          exact AllReadyH.nil
        refine heldCons (i := 22) rfl (fun K hK => ?_) ?_
        · refine step_known rfl (.tmp 28) (.tmp 36) 48 rfl _ _ rfl rfl (.slice A1 n c1) y1 hq1 ?_
          refine hK.out _ _ ?_ (fun hHeld => ?_)
          · exact kb9
          clear hK K
          try simp only [Act.put, List.setIfInBounds_toArray, List.set_cons_zero, List.set_cons_succ]
          refine heldTake (i := 23) (v := ?_) rfl (by kernel_rfl) (by kernel_rfl) (by kernel_rfl) (fun _ _ _ h => h) (Or.inl ⟨by rfl, ?_⟩) (by assumption) ?_
          rotate_left
          · intro w hSw; (try dsimp only at hSw); go_simp <;> (with_reducible rfl)
          try simp only [Act.put, List.setIfInBounds_toArray, List.set_cons_zero, List.set_cons_succ]
          refine wpAnyH_ready (rs := [4, 24]) (by kernel_rfl) (by simp) ?_
          refine heldCons (i := 4) rfl (fun K hK => ?_) ?_
          · go_simp
            refine hK.out _ _ ?_ (fun hHeld => ?_)
            · exact kb9
            clear hK K
            try simp only [Act.put, List.setIfInBounds_toArray, List.set_cons_zero, List.set_cons_succ]
            refine wpAnyH_ready (rs := [24]) (by kernel_rfl) (by simp) ?_
            refine heldCons (i := 24) rfl (fun K hK => ?_) ?_
            · go_simp
              refine hK.out _ _ ?_ (fun hHeld => ?_)
              · exact kc9
              clear hK K
              try simp only [Act.put, List.setIfInBounds_toArray, List.set_cons_zero, List.set_cons_succ]
              refine wpAnyH_ready (rs := [25]) (by kernel_rfl) (by simp) ?_
              refine heldCons (i := 25) rfl (fun K hK => ?_) ?_
              · refine step_known rfl (.tmp 19) (.tmp 39) 45 rfl _ _ rfl rfl (.slice A2 (i + 1) c2) y2 hq2 ?_
                refine hK.out _ _ ?_ (fun hHeld => ?_)
                · exact kd2
                clear hK K
                try simp only [Act.put, List.setIfInBounds_toArray, List.set_cons_zero, List.set_cons_succ]
                refine heldTake (i := 26) (v := ?_) rfl (by kernel_rfl) (by kernel_rfl) (by kernel_rfl) (fun _ _ _ h => h) (Or.inl ⟨by rfl, ?_⟩) (by assumption) ?_
                rotate_left
                · intro w hSw; (try dsimp only at hSw); go_simp <;> (with_reducible rfl)
                try simp only [Act.put, List.setIfInBounds_toArray, List.set_cons_zero, List.set_cons_succ]
                refine heldTake (i := 27) (v := ?_) rfl (by kernel_rfl) (by kernel_rfl) (by kernel_rfl) (fun _ _ _ h => h) (Or.inl ⟨by rfl, ?_⟩) (by assumption) ?_
                rotate_left
                · intro w hSw; (try dsimp only at hSw); go_simp <;> (with_reducible rfl)
                try simp only [Act.put, List.setIfInBounds_toArray, List.set_cons_zero, List.set_cons_succ]
                refine wpAnyH_ready (rs := [28]) (by kernel_rfl) (by simp) ?_
                refine heldCons (i := 28) rfl (fun K hK => ?_) ?_
                · go_simp
                  refine hK.out _ _ ?_ (fun hHeld => ?_)
                  · exact kd3
                  clear hK K
                  try simp only [Act.put, List.setIfInBounds_toArray, List.set_cons_zero, List.set_cons_succ]
                  refine wpAnyH_done (by kernel_rfl) ?_ _
                  refine NoPanic.normal ?_
                  clear hq1 hq2
                  go_wp2
                  go_roundw
                  case rel => exact ⟨i + 1, by omega, by go_num, HFR, HFL⟩
                  case measure => simp [intOf]; omega
                exact AllReadyH.nil
              exact AllReadyH.nil
            exact AllReadyH.nil
          refine heldCons (i := 24) rfl (fun K hK => ?_) ?_
          · go_simp
            refine hK.out _ _ ?_ (fun hHeld => ?_)
            · exact kc9
            clear hK K
            try simp only [Act.put, List.setIfInBounds_toArray, List.set_cons_zero, List.set_cons_succ]
            refine wpAnyH_ready (rs := [4]) (by kernel_rfl) (by simp) ?_
            refine heldCons (i := 4) rfl (fun K hK => ?_) ?_
            · go_simp
              refine hK.out _ _ ?_ (fun hHeld => ?_)
              · exact kc9
              clear hK K
              try simp only [Act.put, List.setIfInBounds_toArray, List.set_cons_zero, List.set_cons_succ]
              refine wpAnyH_ready (rs := [25]) (by kernel_rfl) (by simp) ?_
              refine heldCons (i := 25) rfl (fun K hK => ?_) ?_
              · refine step_known rfl (.tmp 19) (.tmp 39) 45 rfl _ _ rfl rfl (.slice A2 (i + 1) c2) y2 hq2 ?_
                refine hK.out _ _ ?_ (fun hHeld => ?_)
                · exact kd2
                clear hK K
                try simp only [Act.put, List.setIfInBounds_toArray, List.set_cons_zero, List.set_cons_succ]
                refine heldTake (i := 26) (v := ?_) rfl (by kernel_rfl) (by kernel_rfl) (by kernel_rfl) (fun _ _ _ h => h) (Or.inl ⟨by rfl, ?_⟩) (by assumption) ?_
                rotate_left
                · intro w hSw; (try dsimp only at hSw); go_simp <;> (with_reducible rfl)
                try simp only [Act.put, List.setIfInBounds_toArray, List.set_cons_zero, List.set_cons_succ]
                refine heldTake (i := 27) (v := ?_) rfl (by kernel_rfl) (by kernel_rfl) (by kernel_rfl) (fun _ _ _ h => h) (Or.inl ⟨by rfl, ?_⟩) (by assumption) ?_
                rotate_left
                · intro w hSw; (try dsimp only at hSw); go_simp <;> (with_reducible rfl)
                try simp only [Act.put, List.setIfInBounds_toArray, List.set_cons_zero, List.set_cons_succ]
                refine wpAnyH_ready (rs := [28]) (by kernel_rfl) (by simp) ?_
                refine heldCons (i := 28) rfl (fun K hK => ?_) ?_
                · go_simp
                  refine hK.out _ _ ?_ (fun hHeld => ?_)
                  · exact kd3
                  clear hK K
                  try simp only [Act.put, List.setIfInBounds_toArray, List.set_cons_zero, List.set_cons_succ]
                  refine wpAnyH_done (by kernel_rfl) ?_ _
                  refine NoPanic.normal ?_
                  clear hq1 hq2
                  go_wp2
                  go_roundw
                  case rel => exact ⟨i + 1, by omega, by go_num, HFR, HFL⟩
                  case measure => simp [intOf]; omega
                exact AllReadyH.nil
              exact AllReadyH.nil
            exact AllReadyH.nil
          exact AllReadyH.nil
        exact AllReadyH.nil
      exact AllReadyH.nil
    · have hii : ¬ ((i : Int) < (N : Int)) := by omega
      have hiN2 : i = S.ks.length := by have := HN.out; omega
      have hR := HR.out
      rw [hiN2, Ext.first_all] at hR
      have HRF := hide hR
      clear hR hiN2
      go_wp2_with fail
      go_ret
      obtain ⟨vc, vtc, q1, q2⟩ := HRF.out
      rw [HC.out] at q1 q2
      exact ⟨by rw [← HC.out]; rfl, vc, vtc, q1, q2, HL.out⟩
/-- The clone lies in blocks of its own. -/
theorem rOnE_clone {F : Nat → Prop} (h : RefOnE w r F S) :
    Calls Tryd.prog 7 #[.pointer (some ⟨r, 0, none⟩)] w fun e w' => e = .returned (.pointer (some ⟨w.heap.size, 0, none⟩)) ∧ RefOnE w' w.heap.size (fun y => w.heap.size ≤ y ∧ y < w'.heap.size) S ∧ Below w.heap.size w w' := by
  obtain ⟨h1, hok, x, q, hin, hfoot⟩ := h
  have hw : 0 < w.heap.size := by have := hin.head.lt; omega
  exact (refClone_any hin hok hw).mono fun e w' ⟨k1, x', q', k2, k3, k4⟩ => ⟨k1, ⟨fun y hy => by omega, hok, x', q', k2, fun y hy => ⟨k3 y hy, k2.foot_lt y hy⟩⟩, k4⟩
end
#print axioms rOnE_clone
end Go.Proofs.YtmaiikmgpeafkabDoor
