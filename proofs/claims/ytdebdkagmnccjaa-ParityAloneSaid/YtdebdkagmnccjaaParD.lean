/- The landed code's Rebuild; all its contracts together: parK. -/
import Derived.Test.YtdebdkagmnccjaaParC
namespace Go.Proofs.Ytdebdkagmnccjaa
open Go.RowKit
theorem step_secs2 {ops : Array Oper} {o : Oper} {ac : Act} {w : World} {K : Act → World → Prop} {Q : Exit → Act → World → Prop} {E : Prop} (hg : o.guard = none) (x y : Operand) (ho : o.op = .buildSlice 22 2 #[(0, x), (1, y)]) (a b : List UInt8) (ha : a.length = 64) (hb : b.length = 64) (hx : ac.eval x = .agg (B8 a).toArray) (hy : ac.eval y = .agg (B8 b).toArray)
    (hK : K (ac.put o.dst (.slice (some ⟨w.heap.size, 0, none⟩) 2 2)) (w.alloc (.cells (B8 (a ++ b)).toArray 24))) : if Region.wanted o (yielded ops ac.tmps) = true then Oper.wp Try.prog o ac w K Q else E := by
  have hw : Region.wanted o (yielded ops ac.tmps) = true := by simp [Region.wanted, hg]
  rw [if_pos hw]
  obtain ⟨i0, hi0, hz0, hz1, hz2⟩ := info_parts psec_parts
  have hrun := run_build_aggs (P := Try.prog) w 22 24 i0 _ 64 Try.underlying22 hi0 (psec_nought _) hz1 (by decide) (by decide) 2 (by decide) (by decide) #[(0, .agg (B8 a).toArray), (1, .agg (B8 b).toArray)] (B8 (a ++ b)).toArray (fun C hC => by rw [B8_append]; exact fill_two 64 _ _ (B8_size ha) (B8_size hb) C hC)
  unfold Oper.wp
  simp [execOp, ho, hx, hy, hrun, Result.andThen]
  exact hK
theorem flat_take : ∀ {L : List (List UInt8)} (k : Nat), Secs L → (L.take k).flatten = L.flatten.take (k * 64)
  | [], k, _ => by simp
  | s :: L, 0, _ => by simp
  | s :: L, k + 1, h => by
    have hs := h.head
    rw [List.take_succ_cons, List.flatten_cons, List.flatten_cons, flat_take k h.tail, Nat.add_mul, Nat.one_mul, Nat.add_comm, List.take_append, List.take_of_length_le (show s.length ≤ 64 + k * 64 by omega), hs, Nat.add_sub_cancel_left]
theorem flat_drop : ∀ {L : List (List UInt8)} (k : Nat), Secs L → (L.drop k).flatten = L.flatten.drop (k * 64)
  | [], k, _ => by simp
  | s :: L, 0, _ => by simp
  | s :: L, k + 1, h => by
    have hs := h.head
    rw [List.drop_succ_cons, List.flatten_cons, flat_drop k h.tail, Nat.add_mul, Nat.one_mul, Nat.add_comm, List.drop_append, List.drop_of_length_le (show s.length ≤ 64 + k * 64 by omega), hs, Nat.add_sub_cancel_left, List.nil_append]
set_option maxRecDepth 100000 in
set_option maxHeartbeats 8000000 in
theorem prebuild_any (w : World) (A : Option Addr) (n c : Nat) (L : List (List UInt8)) (i : Int) (hL : Secs L) (hn : L.length = n) (hr : Reads w w.heap.size 64 A n (B8 L.flatten)) (hc : n ≤ c) (_hc2 : c ≤ 9223372036854775807) (h5 : n ≤ 1000000) (hi1 : -9223372036854775808 ≤ i) (hi2 : i ≤ 9223372036854775807) :
    Calls Try.prog 9 #[.slice A n c, .int .i64 i] w fun e w' => e = .returned (.tuple #[.agg (B8 (rebS L i)).toArray, .int .i64 (rebE L.length i : Int)]) ∧ Below w.heap.size w w' := by
  rw [hn]
  have HN := hide hn
  by_cases hin : 0 ≤ i ∧ i < n
  · obtain ⟨q, rfl⟩ : ∃ q : Nat, i = (q : Int) := ⟨i.toNat, by omega⟩
    have hqn : q < n := by omega
    have HE := hide (show rebE n (q : Int) = 0 from if_pos ⟨by omega, by omega⟩)
    have HS := hide (show rebS L (q : Int) = rebOf L q from by
      unfold rebS
      rw [if_pos ⟨by omega, by omega⟩, Int.toNat_natCast])
    rw [HE.out, HS.out]
    have hlx := par_length (hL.take q)
    have hly := par_length (hL.drop (q + 1))
    have HRB := hide (show rebOf L q = xorL (parOf (L.take q)) (parOf (L.drop (q + 1))) from par_append (hL.take q) (hL.drop _))
    have h1r : Reads w w.heap.size 64 A q (B8 (L.take q).flatten) := by
      rw [flat_take q hL, ← B8_take]
      exact hr.head (by omega)
    have h2r : Reads w w.heap.size 64 (if c = q + 1 then A else A.map (·.add ((q + 1) * 64))) (n - (q + 1)) (B8 (L.drop (q + 1)).flatten) := by
      rw [flat_drop (q + 1) hL, ← B8_drop]
      exact hr.cut (by omega) hc
    have hlq : (L.take q).length = q := by rw [List.length_take]; omega
    have hld : (L.drop (q + 1)).length = n - (q + 1) := by rw [List.length_drop]; omega
    have HR1 := hide h1r
    have HR2 := hide h2r
    obtain ⟨x, hx⟩ : ∃ x, x = parOf (L.take q) := ⟨_, rfl⟩
    obtain ⟨y, hy⟩ : ∃ y, y = parOf (L.drop (q + 1)) := ⟨_, rfl⟩
    have HT1 := hide (fun W cc hr => (hx ▸ together_any W A q cc (L.take q) (hL.take q) hlq hr (by omega)))
    have HT2 := hide (fun W A' m cc (hm : n - (q + 1) = m) hr => (hy ▸ together_any W A' m cc (L.drop (q + 1)) (hL.drop (q + 1)) (hld.trans hm) hr (by omega)))
    rw [← hx] at hlx
    rw [← hy] at hly
    rw [← hx, ← hy] at HRB
    have LX := hide hlx
    have LY := hide hly
    have HXI := hid_info (xorL_length hlx hly)
    have HXZ := hide (show 0 + (B8 (xorL x y)).length ≤ (B8 zeroL).toArray.size by rw [List.size_toArray, B8_length, B8_length, xorL_length hlx hly, zeroL_length]; decide)
    have HXY := hid_zero (xorL_length hlx hly)
    have HT3 := hide (fun w => together_two w 24 x y hlx hly)
    rw [HRB.out]
    clear hlq hld hx hy h1r h2r hr hL hn HRB HE HS hlx hly HN

    have ge1 : ¬ (n : Int) ≤ (q : Int) := by omega
    have hq1 : IntKind.i64.wrap ((q : Int) + 1) = (q : Int) + 1 := IntWalk.i64_in _ (by omega)
    have hqc : q ≤ c := by omega
    have hqn1 : q + 1 ≤ n := by omega
    have hqn2 : (q : Int) + 1 ≤ (n : Int) := by omega
    have hqc1 : q + 1 ≤ c := by omega
    have hqp : (0 : Int) ≤ (q : Int) + 1 := by omega
    have hqt : ((q : Int) + 1).toNat = q + 1 := by omega
    clear hin hi1 hi2
    go_enter Try.func9, Try.ntmps9
    go_wp2_with (first
      | ((with_reducible refine at_slot 4 ?_); refine wpList_alloc_blk rfl 24 rfl _ (psec_nought _) ?_; intro w1 hb1q hl1 hs1; have HC1 : Hid (Blk w1 w.heap.size 24 (B8 zeroL).toArray) := hide hb1q; have HL1 := hide hl1; clear hb1q hl1 hs1))

    refine wp_region_held_drew (S := (fun W => Below w.heap.size w W)) (by kernel_rfl) ?_ (fun hHeld => ?_)
    · exact HL1.out.drew
    refine heldTake (i := 0) (v := ?_) rfl (by kernel_rfl) (by kernel_rfl) (by kernel_rfl) (fun _ _ _ h => h) (Or.inl ⟨by rfl, ?_⟩) (by assumption) ?_
    rotate_left
    · intro w hSw; (try dsimp only at hSw); go_simp <;> (with_reducible rfl)
    try simp only [Act.put, List.setIfInBounds_toArray, List.set_cons_zero, List.set_cons_succ]
    refine heldTake (i := 1) (v := ?_) rfl (by kernel_rfl) (by kernel_rfl) (by kernel_rfl) (fun _ _ _ h => h) (Or.inl ⟨by rfl, ?_⟩) (by assumption) ?_
    rotate_left
    · intro w hSw; (try dsimp only at hSw); go_simp <;> (with_reducible rfl)
    try simp only [Act.put, List.setIfInBounds_toArray, List.set_cons_zero, List.set_cons_succ]
    refine heldTake (i := 2) (v := ?_) rfl (by kernel_rfl) (by kernel_rfl) (by kernel_rfl) (fun _ _ _ h => h) (Or.inl ⟨by rfl, ?_⟩) (by assumption) ?_
    rotate_left
    · intro w hSw; (try dsimp only at hSw); go_simp <;> (with_reducible rfl)
    try simp only [Act.put, List.setIfInBounds_toArray, List.set_cons_zero, List.set_cons_succ]
    refine heldTake (i := 4) (v := ?_) rfl (by kernel_rfl) (by kernel_rfl) (by kernel_rfl) (fun _ _ _ h => h) (Or.inl ⟨by rfl, ?_⟩) (by assumption) ?_
    rotate_left
    · intro w hSw; (try dsimp only at hSw); go_simp <;> (with_reducible rfl)
    try simp only [Act.put, List.setIfInBounds_toArray, List.set_cons_zero, List.set_cons_succ]
    refine heldTake (i := 5) (v := ?_) rfl (by kernel_rfl) (by kernel_rfl) (by kernel_rfl) (fun _ _ _ h => h) (Or.inl ⟨by rfl, ?_⟩) (by assumption) ?_
    rotate_left
    · intro w hSw; (try dsimp only at hSw); go_simp <;> (with_reducible rfl)
    try simp only [Act.put, List.setIfInBounds_toArray, List.set_cons_zero, List.set_cons_succ]
    refine heldTake (i := 6) (v := ?_) rfl (by kernel_rfl) (by kernel_rfl) (by kernel_rfl) (fun _ _ _ h => h) (Or.inl ⟨by rfl, ?_⟩) (by assumption) ?_
    rotate_left
    · intro w hSw; (try dsimp only at hSw); go_simp <;> (with_reducible rfl)
    try simp only [Act.put, List.setIfInBounds_toArray, List.set_cons_zero, List.set_cons_succ]
    refine heldTake (i := 7) (v := ?_) rfl (by kernel_rfl) (by kernel_rfl) (by kernel_rfl) (fun _ _ _ h => h) (Or.inl ⟨by rfl, ?_⟩) (by assumption) ?_
    rotate_left
    · intro w hSw; (try dsimp only at hSw); go_simp <;> (with_reducible rfl)
    try simp only [Act.put, List.setIfInBounds_toArray, List.set_cons_zero, List.set_cons_succ]
    have HLd := hide (HL1.out.drew)
    refine wpAnyH_ready (rs := [3]) (by kernel_rfl) (by simp) ?_
    refine heldCons (i := 3) rfl (fun Kq hKq => ?_) AllReadyH.nil
    go_simp
    go_at_call 18
    refine (HT1.out _ _ (HR1.out.later HLd.out)).mono ?_
    rintro _ w2 ⟨rfl, hl2⟩
    have HK2 : Hid (Below w1.heap.size w1 w2) := hide (((Below.refl w1.heap.size w1).drew).trans hl2)
    have HW2 := hide (HL1.out.trans (HK2.out.mono HL1.out.size))
    clear hl2
    first | (refine hKq.out _ _ HW2.out (fun hHeld => ?_)) | (go_wp2_with fail; refine hKq.out _ _ HW2.out (fun hHeld => ?_))
    clear hKq Kq
    try simp only [Act.put, List.setIfInBounds_toArray, List.set_cons_zero, List.set_cons_succ]
    refine wpAnyH_ready (rs := [8]) (by kernel_rfl) (by simp) ?_
    refine heldCons (i := 8) rfl (fun Kq hKq => ?_) AllReadyH.nil
    go_simp
    go_at_call 18
    refine (HT2.out _ _ _ _ rfl (HR2.out.later HW2.out)).mono ?_
    rintro _ w3 ⟨rfl, hl3⟩
    have HK3 := hide (HK2.out.trans (hl3.mono HK2.out.size))
    have HW3 := hide (HL1.out.trans (HK3.out.mono HL1.out.size))
    clear hl3
    first | (refine hKq.out _ _ HW3.out (fun hHeld => ?_)) | (go_wp2_with fail; refine hKq.out _ _ HW3.out (fun hHeld => ?_))
    clear hKq Kq
    try simp only [Act.put, List.setIfInBounds_toArray, List.set_cons_zero, List.set_cons_succ]
    refine wpAnyH_ready (rs := [9]) (by kernel_rfl) (by simp) ?_
    refine heldCons (i := 9) rfl (fun Kq hKq => ?_) AllReadyH.nil
    refine step_secs2 rfl (.tmp 18) (.tmp 23) rfl x y LX.out LY.out rfl rfl ?_
    refine hKq.out _ _ (HW3.out.trans (((Below.refl _ w3).alloc (Nat.le_refl _) _).mono HW3.out.size)) (fun hHeld => ?_)
    clear hKq Kq
    try simp only [Act.put, List.setIfInBounds_toArray, List.set_cons_zero, List.set_cons_succ]
    refine wpAnyH_ready (rs := [10]) (by kernel_rfl) (by simp) ?_
    refine heldCons (i := 10) rfl (fun Kq hKq => ?_) AllReadyH.nil
    go_simp
    go_at_call 18
    refine (HT3.out w3).mono ?_
    rintro _ w4 ⟨rfl, hl4⟩
    have HK4 := hide (HK3.out.trans (hl4.mono HK3.out.size))
    have HW4 := hide (HL1.out.trans (HK4.out.mono HL1.out.size))
    clear hl4
    first | (refine hKq.out _ _ HW4.out (fun hHeld => ?_)) | (go_wp2_with fail; refine hKq.out _ _ HW4.out (fun hHeld => ?_))
    clear hKq Kq
    try simp only [Act.put, List.setIfInBounds_toArray, List.set_cons_zero, List.set_cons_succ]
    refine wpAnyH_ready (rs := [11]) (by kernel_rfl) (by simp) ?_
    refine heldCons (i := 11) rfl (fun Kq hKq => ?_) AllReadyH.nil
    refine step_store_blk rfl 24 (.tmp 4) (.tmp 25) rfl w.heap.size 0 24 _ (HC1.out.below HK4.out HC1.out.lt) rfl (B8 (xorL x y)) rfl HXI.out HXZ.out (B8_one _) ?_
    intro w7 hb7q hg7 hs7
    have hb7 : Blk w7 w.heap.size 24 (B8 (xorL x y)).toArray := by
      rw [List.take_zero, List.nil_append, List.drop_of_length_le (by rw [Array.length_toList, ← HXY.out]; omega), List.append_nil] at hb7q
      exact hb7q
    have hq7 : Below w.heap.size w w7 := (HL1.out.trans (HK4.out.mono HL1.out.size)).grown hg7 (Nat.le_trans HL1.out.size HK4.out.size) (fun g e => by injection e with e; omega)
    refine hKq.out _ _ hq7 (fun hHeld => ?_)
    clear hKq Kq
    try simp only [Act.put]
    refine heldTake (i := 12) (v := ?_) rfl (by kernel_rfl) (by kernel_rfl) (by kernel_rfl) (fun _ _ _ h => h) (Or.inl ⟨by rfl, ?_⟩) (by assumption) ?_
    rotate_left
    · intro w hSw; (try dsimp only at hSw); go_simp <;> (with_reducible rfl)
    try simp only [Act.put, List.setIfInBounds_toArray, List.set_cons_zero, List.set_cons_succ]
    refine wpAnyH_done (by kernel_rfl) ?_ _
    go_wp2_with fail
    all_goals refine ret_cell_tmp rfl w.heap.size 24 (B8 (xorL x y)) _ hb7 rfl Try.underlying24 rfl HXI.out (.int .i64 0) rfl rfl ⟨rfl, hq7⟩

  · have HE := hide (show rebE n i = 3 from if_neg hin)
    have HS := hide (show rebS L i = zeroL from if_neg (by rw [HN.out]; exact hin))
    rw [HE.out, HS.out]
    by_cases h0 : i < 0
    · clear hin
      go_enter Try.func9, Try.ntmps9
      go_wp2_with (first
        | ((with_reducible refine at_slot 4 ?_); refine wpList_alloc_blk rfl 24 rfl _ (psec_nought _) ?_; intro w1 hb1q hl1 hs1; have HC1 : Hid (Blk w1 w.heap.size 24 (B8 zeroL).toArray) := hide hb1q; have HL1 := hide hl1; clear hb1q hl1 hs1)
        | ((with_reducible refine at_slot 14 ?_); refine wpList_build_is rfl 24 #[] rfl [] (by simp) _ psec_built ?_)
        | ((with_reducible refine at_store 4 ?_); refine wpList_store_all rfl 24 (.tmp 4) (.tmp 14) rfl w.heap.size 24 _ HC1.out rfl (B8 zeroL) rfl psec_info rfl (B8_one _) ?_; intro w6 hb6 hg6 hs6; clear hs6))
      refine ret_cell_tmp rfl w.heap.size 24 (B8 zeroL) _ hb6 rfl Try.underlying24 rfl psec_info (.int .i64 3) rfl rfl ⟨rfl, ?_⟩
      exact HL1.out.grown hg6 HL1.out.size (fun g e => by injection e with e; omega)
    · have h1 : (n : Int) ≤ i := by omega
      clear hin
      go_enter Try.func9, Try.ntmps9
      go_wp2_with (first
        | ((with_reducible refine at_slot 4 ?_); refine wpList_alloc_blk rfl 24 rfl _ (psec_nought _) ?_; intro w1 hb1q hl1 hs1; have HC1 : Hid (Blk w1 w.heap.size 24 (B8 zeroL).toArray) := hide hb1q; have HL1 := hide hl1; clear hb1q hl1 hs1)
        | ((with_reducible refine at_slot 14 ?_); refine wpList_build_is rfl 24 #[] rfl [] (by simp) _ psec_built ?_)
        | ((with_reducible refine at_store 4 ?_); refine wpList_store_all rfl 24 (.tmp 4) (.tmp 14) rfl w.heap.size 24 _ HC1.out rfl (B8 zeroL) rfl psec_info rfl (B8_one _) ?_; intro w6 hb6 hg6 hs6; clear hs6))
      refine ret_cell_tmp rfl w.heap.size 24 (B8 zeroL) _ hb6 rfl Try.underlying24 rfl psec_info (.int .i64 3) rfl rfl ⟨rfl, ?_⟩
      exact HL1.out.grown hg6 HL1.out.size (fun g e => by injection e with e; omega)
#print axioms prebuild_any
/-- What the landed code's own calls tell. -/
theorem parK : ParK where
  xor_any := pxor_any
  plug_any := pplug_any
  build_any w A n c L hL hn hr _ _ h5 := pbuild_any w A n c L hL hn hr (by omega)
  rebuild_any w A n c L i hL hn hr hc hc2 h5 h3 h4 := prebuild_any w A n c L i hL hn hr hc hc2 (by omega) h3 h4
  check_any w A n c L hL hn hr _ _ h5 := pcheck_any w A n c L hL hn hr (by omega)
#print axioms parK
end Go.Proofs.Ytdebdkagmnccjaa
