/- What record's right and read do. -/
import Derived.Test.YtmjdndhpnckeeaaRecB
import Derived.Test.YtmjdndhpnckeeaaStepK
namespace Go.Proofs.Ytmjdndhpnckeeaa
open Go.RowKit

theorem right_high {t : Tg} (h : 40 < t.parts) : rightT t = false := by
  rw [Bool.eq_false_iff]
  intro hr
  have := (right_iff t).1 hr
  omega
theorem right_part {t : Tg} (h : t.parts ≤ t.part) : rightT t = false := by
  rw [Bool.eq_false_iff]
  intro hr
  have := (right_iff t).1 hr
  omega
theorem right_len {t : Tg} (h1 : t.parts ≤ 40) (h2 : t.part < t.parts) : rightT t = (decide (leastT t ≤ t.len) && decide (t.len ≤ 53)) := by
  rw [rightT, decide_eq_true h1, decide_eq_true h2]
  rfl
set_option maxRecDepth 100000 in
set_option maxHeartbeats 2000000 in
theorem recRight_any (t : Tg) (ht : t.Ok) (w : World) :
    Calls Try.prog 80 #[tagV t] w fun e w' => e = .returned (.bool (rightT t)) ∧ Below w.heap.size w w' := by
  cases d1 : decide ((40 : Int) < t.parts) with
  | true =>
    have H := hide (right_high (of_decide_eq_true d1))
    go_enter Try.func80, Try.ntmps80
    go_wp2_with (first
      | (refine wpList_box_blk rfl 105 _ rfl (tagV t) rfl ?_; intro w1 hb1q hl1 hs1; clear hs1; have hb1 : Blk w1 w.heap.size 105 (tagC t).toArray := hb1q; clear hb1q; have y3 := tag_c3 hb1; clear hb1))
    go_ret
    exact ⟨ret_b H.out.symm, hl1⟩
  | false =>
    cases d2 : decide (t.parts ≤ t.part) with
    | true =>
      have H := hide (right_part (of_decide_eq_true d2))
      go_enter Try.func80, Try.ntmps80
      go_wp2_with (first
        | (refine wpList_box_blk rfl 105 _ rfl (tagV t) rfl ?_; intro w1 hb1q hl1 hs1; clear hs1; have hb1 : Blk w1 w.heap.size 105 (tagC t).toArray := hb1q; clear hb1q; have y3 := tag_c3 hb1; have y2 := tag_c2 hb1; clear hb1))
      go_ret
      exact ⟨ret_b H.out.symm, hl1⟩
    | false =>
      have H := hide (right_len (t := t) (by have := of_decide_eq_false d1; omega) (by have := of_decide_eq_false d2; omega))
      have HK := hide (least_any t ht)
      obtain ⟨m, hm⟩ : ∃ m, m = leastT t := ⟨_, rfl⟩
      rw [← hm] at H HK
      clear hm ht
      go_enter Try.func80, Try.ntmps80
      cases d3 : decide (m ≤ t.len) with
      | false =>
        rw [d3] at H
        go_wp2_with (first
          | (refine wpList_box_blk rfl 105 _ rfl (tagV t) rfl ?_; intro w1 hb1q hl1 hs1; clear hs1; have hb1 : Blk w1 w.heap.size 105 (tagC t).toArray := hb1q; clear hb1q; have y3 := tag_c3 hb1; have y2 := tag_c2 hb1))
        have hx := hb1.lt
        have HB := hide hb1
        have HF : Hid (∀ W', Below w1.heap.size w1 W' → (W'.cell? ⟨w.heap.size, 0, none⟩ = some (.int .i64 t.gen) ∧ W'.cell? ⟨w.heap.size, 1, none⟩ = some (.int .i64 t.nr) ∧ W'.cell? ⟨w.heap.size, 2, none⟩ = some (.int .i64 t.part) ∧ W'.cell? ⟨w.heap.size, 3, none⟩ = some (.int .i64 t.parts) ∧ W'.cell? ⟨w.heap.size, 4, none⟩ = some (.int .i64 t.len) ∧ Below w1.heap.size w1 W')) := fun W' hb => ⟨tag_c0 (HB.out.below hb hx), tag_c1 (HB.out.below hb hx), tag_c2 (HB.out.below hb hx), tag_c3 (HB.out.below hb hx), tag_c4 (HB.out.below hb hx), hb⟩
        clear hb1 y3 y2
        refine wp_region_held_drew (S := (fun W => W.cell? ⟨w.heap.size, 0, none⟩ = some (.int .i64 t.gen) ∧ W.cell? ⟨w.heap.size, 1, none⟩ = some (.int .i64 t.nr) ∧ W.cell? ⟨w.heap.size, 2, none⟩ = some (.int .i64 t.part) ∧ W.cell? ⟨w.heap.size, 3, none⟩ = some (.int .i64 t.parts) ∧ W.cell? ⟨w.heap.size, 4, none⟩ = some (.int .i64 t.len) ∧ Below w1.heap.size w1 W)) (by kernel_rfl) ?_ (fun hHeld => ?_)
        · exact HF.out _ ((Below.refl _ _).drew)
        refine heldTake (i := 0) (v := ?_) rfl (by kernel_rfl) (by kernel_rfl) (by kernel_rfl) (fun _ _ _ h => h) (Or.inl ⟨by rfl, ?_⟩) (by assumption) ?_
        rotate_left
        · intro w hSw; (try dsimp only at hSw); go_simp <;> (with_reducible rfl)
        try simp only [Act.put, List.setIfInBounds_toArray, List.set_cons_zero, List.set_cons_succ]
        refine heldTake (i := 1) (v := ?_) rfl (by kernel_rfl) (by kernel_rfl) (by kernel_rfl) (fun _ _ _ h => h) (Or.inl ⟨by rfl, ?_⟩) (by assumption) ?_
        rotate_left
        · intro w hSw; (try dsimp only at hSw); go_simp <;> (with_reducible rfl)
        try simp only [Act.put, List.setIfInBounds_toArray, List.set_cons_zero, List.set_cons_succ]
        refine heldTake (i := 2) (v := tagV t) rfl (by kernel_rfl) (by kernel_rfl) (by kernel_rfl) (fun _ _ _ h => h) (Or.inl ⟨by rfl, fun W hW => ?_⟩) (by assumption) ?_
        · dsimp only at hW
          go_split_ands
          go_simp
          rfl
        try simp only [Act.put, List.setIfInBounds_toArray, List.set_cons_zero, List.set_cons_succ]
        refine wpAnyH_ready (rs := [3]) (by kernel_rfl) (by simp) ?_
        refine heldCons (i := 3) rfl (fun Kq hKq => ?_) AllReadyH.nil
        go_simp
        go_at_call 100
        refine (HK.out _).mono ?_
        rintro _ w2 ⟨rfl, hlr⟩
        have hlq : Below w1.heap.size w1 w2 := Below.trans (Below.drew (Below.refl _ _)) hlr
        clear hlr
        first | (refine hKq.out _ _ (HF.out _ hlq) (fun hHeld => ?_)) | (go_wp2_with fail; refine hKq.out _ _ (HF.out _ hlq) (fun hHeld => ?_))
        clear hKq Kq
        try simp only [Act.put, List.setIfInBounds_toArray, List.set_cons_zero, List.set_cons_succ]
        refine heldTake (i := 4) (v := ?_) rfl (by kernel_rfl) (by kernel_rfl) (by kernel_rfl) (fun _ _ _ h => h) (Or.inl ⟨by rfl, ?_⟩) (by assumption) ?_
        rotate_left
        · intro w hSw; (try dsimp only at hSw); go_simp <;> (with_reducible rfl)
        try simp only [Act.put, List.setIfInBounds_toArray, List.set_cons_zero, List.set_cons_succ]
        refine heldTake (i := 5) (v := ?_) rfl (by kernel_rfl) (by kernel_rfl) (by kernel_rfl) (fun _ _ _ h => h) (Or.inl ⟨by rfl, ?_⟩) (by assumption) ?_
        rotate_left
        · intro w hSw; (try dsimp only at hSw); go_simp <;> (with_reducible rfl)
        try simp only [Act.put, List.setIfInBounds_toArray, List.set_cons_zero, List.set_cons_succ]
        refine heldTake (i := 6) (v := undef) rfl (by kernel_rfl) (by kernel_rfl) (by kernel_rfl) (fun _ _ _ h => h) (Or.inr ⟨by rfl, rfl⟩) (by assumption) ?_
        try simp only [Act.put, List.setIfInBounds_toArray, List.set_cons_zero, List.set_cons_succ]
        refine heldTake (i := 7) (v := undef) rfl (by kernel_rfl) (by kernel_rfl) (by kernel_rfl) (fun _ _ _ h => h) (Or.inr ⟨by rfl, rfl⟩) (by assumption) ?_
        try simp only [Act.put, List.setIfInBounds_toArray, List.set_cons_zero, List.set_cons_succ]
        refine heldTake (i := 8) (v := undef) rfl (by kernel_rfl) (by kernel_rfl) (by kernel_rfl) (fun _ _ _ h => h) (Or.inr ⟨by rfl, rfl⟩) (by assumption) ?_
        try simp only [Act.put, List.setIfInBounds_toArray, List.set_cons_zero, List.set_cons_succ]
        refine heldTake (i := 9) (v := ?_) rfl (by kernel_rfl) (by kernel_rfl) (by kernel_rfl) (fun _ _ _ h => h) (Or.inl ⟨by rfl, ?_⟩) (by assumption) ?_
        rotate_left
        · intro w hSw; (try dsimp only at hSw); go_simp <;> (with_reducible rfl)
        try simp only [Act.put, List.setIfInBounds_toArray, List.set_cons_zero, List.set_cons_succ]
        refine heldTake (i := 10) (v := ?_) rfl (by kernel_rfl) (by kernel_rfl) (by kernel_rfl) (fun _ _ _ h => h) (Or.inl ⟨by rfl, ?_⟩) (by assumption) ?_
        rotate_left
        · intro w hSw; (try dsimp only at hSw); go_simp <;> (with_reducible rfl)
        try simp only [Act.put, List.setIfInBounds_toArray, List.set_cons_zero, List.set_cons_succ]
        refine wpAnyH_done (by kernel_rfl) ?_ _
        go_wp2
        go_ret
        exact ⟨ret_b (by rw [H.out]; rfl), hl1.trans (hlq.mono hl1.size)⟩
      | true =>
        rw [d3, Bool.true_and] at H
        go_wp2_with (first
          | (refine wpList_box_blk rfl 105 _ rfl (tagV t) rfl ?_; intro w1 hb1q hl1 hs1; clear hs1; have hb1 : Blk w1 w.heap.size 105 (tagC t).toArray := hb1q; clear hb1q; have y3 := tag_c3 hb1; have y2 := tag_c2 hb1))
        have hx := hb1.lt
        have HB := hide hb1
        have y0 := tag_c0 hb1.drew
        have y1 := tag_c1 hb1.drew
        have y2 := tag_c2 hb1.drew
        have y3 := tag_c3 hb1.drew
        have y4 := tag_c4 hb1.drew
        clear hb1
        go_region_with (go_at_call 100; refine (HK.out _).mono ?_; rintro _ w2 ⟨rfl, hlr⟩; have hlq : Below w1.heap.size w1 w2 := Below.trans (Below.drew (Below.refl _ _)) hlr; have hb2 := HB.out.below hlq hx; have z4 := tag_c4 hb2; clear hb2 hlr)
        all_goals
          go_wp2
          go_ret
          exact ⟨ret_b H.out.symm, hl1.trans (hlq.mono hl1.size)⟩
#print axioms recRight_any
theorem getV_four {xs : List UInt8} (h : 4 ≤ xs.length) : getV xs 4 = num (xs.take 4) ∧ getO xs 4 = true := by
  have ho : getO xs 4 = true := by simp [getO]; omega
  exact ⟨getV_yes ho, ho⟩
theorem byte_at {s : List UInt8} {k : Nat} (h : k < s.length) : (B8 s).toArray[k]? = some (.int .u8 (byteAt s k : Nat)) := by
  rw [List.getElem?_toArray, B8_at s h]
  unfold byteAt
  simp [List.getD, h]
theorem built_tag (a b c d e : Int) : Try.prog.built 105 [(0, .int .i64 a), (1, .int .i64 b), (2, .int .i64 c), (3, .int .i64 d), (4, .int .i64 e)] = some (tagC ⟨a, b, c, d, e⟩).toArray := by kernel_rfl
set_option maxRecDepth 100000 in
set_option maxHeartbeats 2000000 in
theorem recRead_any (s : List UInt8) (hs : s.length = 64) (w : World) :
    Calls Try.prog 79 #[.agg (B8 s).toArray] w fun e w' => e = .returned (tagV (readT s)) ∧ Below w.heap.size w w' := by
  obtain ⟨g1, o1⟩ := getV_four (xs := s) (by omega)
  obtain ⟨g2, o2⟩ := getV_four (xs := s.drop 4) (by rw [List.length_drop]; omega)
  have l8 := byteAt_lt s 8
  have l9 := byteAt_lt s 9
  have l10 := byteAt_lt s 10
  have b8 := byte_at (s := s) (k := 8) (by omega)
  have b9 := byte_at (s := s) (k := 9) (by omega)
  have b10 := byte_at (s := s) (k := 10) (by omega)
  have HRT := hide (show tagV (readT s) = .agg (tagC ⟨(num (s.take 4) : Nat), (num ((s.drop 4).take 4) : Nat), (byteAt s 8 : Nat), (byteAt s 9 : Nat), (byteAt s 10 : Nat)⟩).toArray from rfl)
  rw [HRT.out]
  have HG1 := hide (fun (w1 : World) (hb : Blk w1 w.heap.size 51 (B8 s).toArray) => get_any (some ⟨w.heap.size, 0, none⟩) 64 64 s 4 (w.heap.size + 1) w1 (by have h := hb.reads (B := w.heap.size + 1) (off := 0) (n := 64) (by omega) (by omega); rwa [List.drop_zero] at h) (by omega) (by omega))
  have HG2 := hide (fun (w1 : World) (hb : Blk w1 w.heap.size 51 (B8 s).toArray) => get_any (some ⟨w.heap.size, 4, none⟩) 60 60 (s.drop 4) 4 (w.heap.size + 1) w1 (hb.reads (B := w.heap.size + 1) (off := 4) (n := 60) (by omega) (by omega)) (by omega) (by omega))
  rw [g1, o1] at HG1
  rw [g2, o2] at HG2
  generalize num (s.take 4) = v1 at *
  generalize num ((s.drop 4).take 4) = v2 at *
  have H8 := hide b8
  have H9 := hide b9
  have H10 := hide b10
  clear g1 o1 g2 o2 b8 b9 b10 hs
  generalize byteAt s 8 = x8 at *
  generalize byteAt s 9 = x9 at *
  generalize byteAt s 10 = x10 at *
  go_enter Try.func79, Try.ntmps79
  go_wp2_with (first
    | ((with_reducible refine at_slot 1 ?_); refine wpList_box_blk rfl 51 _ rfl (.agg (B8 s).toArray) rfl ?_; intro w1 hb1q hl1 hs1; have hzb := hb1q.lt; clear hs1; have hb1 : Blk w1 w.heap.size 51 (B8 s).toArray := hb1q; clear hb1q)
    | ((with_reducible refine at_slot 2 ?_); refine wpList_alloc_blk rfl 105 rfl _ (tag_nought _) ?_; intro w2 hb2q hl2 hs2; clear hs2; have hb2 : Blk w2 w1.heap.size 105 (tagC Tg.zero).toArray := hb2q; clear hb2q; have hb12 := hb1.below hl2 hzb; have y8 := (hb12.cell 8).trans H8.out; have y9 := (hb12.cell 9).trans H9.out; have y10 := (hb12.cell 10).trans H10.out; have HB1 := hide hb12; have HB2 := hide hb2; have HL2 := hide (hl1.trans (hl2.mono (by omega))); clear hb1 hb2 hl1 hl2 hb12))
  refine (HG1.out _ HB1.out).mono ?_
  rintro _ w' ⟨rfl, rfl⟩
  go_wp2_with fail
  refine (HG2.out _ HB1.out).mono ?_
  rintro _ w' ⟨rfl, rfl⟩
  go_wp2_with (first
    | ((with_reducible refine at_slot 28 ?_); refine wpList_build_is rfl 105 _ rfl _ rfl _ (built_tag _ _ _ _ _) ?_)
    | ((with_reducible refine at_store 2 ?_); refine wpList_store_all rfl 105 (.tmp 2) (.tmp 28) rfl w1.heap.size 105 _ HB2.out rfl (tagC ⟨(v1 : Nat), (v2 : Nat), (x8 : Nat), (x9 : Nat), (x10 : Nat)⟩) rfl tag_info rfl (tagC_one _) ?_; intro w10 hb10 hg10 hs10; clear hs10))
  exact ret_cell rfl w1.heap.size 105 (tagC ⟨(v1 : Nat), (v2 : Nat), (x8 : Nat), (x9 : Nat), (x10 : Nat)⟩) _ hb10 rfl Try.underlying105 rfl tag_info rfl ⟨rfl, HL2.out.grown hg10 (by have := HL2.out.size; omega) (fun g e => by injection e with e; omega)⟩
#print axioms recRead_any
end Go.Proofs.Ytmjdndhpnckeeaa
