/- What Open, Clear and Put of a table do. -/
import Derived.Test.YtgoglgghnjgcdaaUsgE
namespace Go.Proofs.Ytgoglgghnjgcdaa
open Go.RowKit Go.Maps

theorem tally_built (n : Int) : Try.prog.built 63 [(0, .int .i64 n)] = some #[.int .i64 n, .int .i64 0] := by kernel_rfl
section
variable {S : Us} {w : World} {t x y z : Nat}
theorem Few.opened (h : Few S) {g n : Int} (h0 : S.openE g n = 0) (hg : g < 9223372036854775808) (hf : S.G.length < 999999) : Few (S.opened g n) := ⟨h.ok.opened h0 hg, by rw [Us.opened_len]; omega, h.ls⟩
theorem Few.put (h : Few S) {g s b : Int} (h0 : S.putE g s b = 0) (hb : b < 9223372036854775808) (hf : S.L.length < 999999) : Few (S.put g s b) := ⟨h.ok.put h0 hb, h.gs, by have := S.put_len g s b; omega⟩
theorem Few.killed (h : Few S) (g s : Int) : Few (S.killed g s) := ⟨h.ok.killed g s, h.gs, by have := S.killed_len g s; have := h.ls; omega⟩
theorem Few.freed (h : Few S) (b : Int) : Few (S.freed b) := ⟨h.ok.freed b, h.gs, by have : (S.freed b).L.length ≤ S.L.length := List.length_filter_le _ _; have := h.ls; omega⟩
theorem Few.dropped (h : Few S) (g : Int) : Few (S.dropped g) := ⟨h.ok.dropped g, by have := (S.dropped_len g).2; have := h.gs; omega, by have := (S.dropped_len g).1; have := h.ls; omega⟩
set_option maxRecDepth 100000 in
theorem open_any (m : UsIn w t x y z S) (hok : Few S) (g n : Int) (hg : okI64 g) :
    Calls Try.prog 16 #[.pointer (some ⟨t, 0, none⟩), .int .i64 g, .int .i64 n] w fun e w' => e = .returned (.int .i64 (S.openE g n)) ∧ UsIn w' t x y z (S.open' g n) ∧ Turn (UFoot t x y z) w w' := by
  by_cases hb : g < 0 ∨ n < 1 ∨ 4096 < n
  · have e1 : S.openE g n = 1 := by unfold Us.openE; rw [if_pos hb]
    have e2 : S.open' g n = S := by unfold Us.open'; rw [e1]; rfl
    rw [e1, e2]
    have HU := hide m
    clear m hok hg e1 e2
    go_enter Try.func16, Try.ntmps16
    go_wp2
    all_goals first
      | (exfalso; omega)
      | (go_ret; exact ⟨rfl, HU.out, Turn.refl _ _⟩)
  · have HH := hide (has_any m hok.ok g hg)
    cases hh : S.has g with
    | true =>
      have e1 : S.openE g n = 9 := by unfold Us.openE; rw [if_neg hb, hh]; rfl
      have e2 : S.open' g n = S := by unfold Us.open'; rw [e1]; rfl
      rw [e1, e2]
      rw [hh] at HH
      have HU : Hid (UsM w t x y z (gF S) (bF S) (pF S)) := hide m
      clear m hok hg e1 e2 hh
      go_enter Try.func16, Try.ntmps16
      go_wp2_with (first
        | (go_at_call 43; refine HH.out.mono ?_; rintro _ w1 ⟨rfl, hl1⟩))
      go_ret
      exact ⟨rfl, HU.out.later hl1, Turn.of_below hl1⟩
    | false =>
      have e1 : S.openE g n = 0 := by unfold Us.openE; rw [if_neg hb, hh]; rfl
      have e2 : S.open' g n = S.opened g n := by unfold Us.open'; rw [e1]; rfl
      rw [e1, e2]
      have HO := hide (gF_opened (n := n) hh hok.ok)
      rw [hh] at HH
      have HU : Hid (UsM w t x y z (gF S) (bF S) (pF S)) := hide m
      have HOK := hide hok
      have HG := hide hg
      have hlt := HU.out.head.lt
      clear m hok hg e1 e2 hh
      go_enter Try.func16, Try.ntmps16
      go_wp2_with (first
        | (go_at_call 43; refine HH.out.mono ?_; rintro _ w1 ⟨rfl, hl1⟩; have HU1 := hide (HU.out.later hl1); have c0 := HU1.out.c0)
        | (refine wpList_build_is rfl 63 _ rfl _ rfl _ (tally_built n) ?_)
        | (refine wpList_put rfl (.tmp 23) (.tmp 24) (.tmp 26) 52 63 rfl Try.underlying52 x (gF S) rfl HU1.out.gm g HG.out (.agg #[.int .i64 n, .int .i64 0]) rfl rfl (S.G.map Gr.id) HOK.out.ok.ids (gF_mem S) (by have := HOK.out.gs; rw [List.length_map]; omega) ?_; intro w2 hm2 hg2))
      go_ret
      exact ⟨rfl, (HU1.out.setG hm2 hg2).congr HO.out (fun _ => rfl) (fun _ => rfl), (Turn.of_below hl1).grown hg2 (fun g e => by injection e with e; subst e; exact .inl (.inr (.inl rfl)))⟩
set_option maxRecDepth 100000 in
theorem clear_any (m : UsIn w t x y z S) (hok : Few S) (g s : Int) (hg : okI64 g) (hs : okI64 s) :
    Calls Try.prog 17 #[.pointer (some ⟨t, 0, none⟩), .int .i64 g, .int .i64 s] w fun e w' => e = .returned (.int .i64 (S.clearE g s)) ∧ UsIn w' t x y z (S.clear' g s) ∧ Turn (UFoot t x y z) w w' := by
  have HE := hide (fun (w' : World) (hb : Below w.heap.size w w') => missing_any (S := S) (UsM.later m hb) hok.ok g s hg)
  have HU : Hid (UsM w t x y z (gF S) (bF S) (pF S)) := hide m
  have HOK := hide hok
  have hlt := HU.out.head.lt
  have HP : Hid (okPl (g, s)) := hide ⟨hg, hs⟩
  by_cases he : S.inE g s = 0
  · rw [he] at HE
    cases ha : S.at_ g s with
    | none =>
      have e1 : S.clearE g s = 9 := by unfold Us.clearE; rw [if_pos he, ha]; rfl
      have e2 : S.clear' g s = S := by unfold Us.clear'; rw [e1]; rfl
      rw [e1, e2]
      have HL := hide (fun (w' : World) (hm : MapIs placeKey w' y (bF S)) => hm.look (C := placeKey) Try.underlying53 (Try.zeroValue3 w') HP.out true)
      rw [if_pos rfl, (look_b S g s).1, (look_b S g s).2, ha] at HL
      obtain ⟨LV, hLV⟩ : ∃ LV : Value, LV = .tuple #[.int .i64 0, .bool false] := ⟨_, rfl⟩
      have HL : Hid (∀ w', MapIs placeKey w' y (bF S) → (Instr.lookup 53 (.map (some y)) (encPl (g, s)) true).run Try.prog w' = .ok LV w') := hide (by rw [hLV]; exact HL.out)
      have HLV := hide hLV
      clear hLV
      clear m hok hg hs e1 e2 ha he
      go_enter Try.func17, Try.ntmps17
      go_wp2_with (first
        | (refine wpList_alloc_blk rfl 66 rfl _ (Try.zeroValue66 _) ?_; intro w1 hb1 hl1 hs1; clear hs1)
        | (refine wpList_build_is rfl 66 _ rfl _ rfl _ (place_built g s) ?_)
        | (refine wpList_store_all rfl 66 (.tmp 7) (.tmp 13) rfl w.heap.size 66 _ hb1 rfl [.int .i64 g, .int .i64 s] rfl place_info rfl (two_one _ _) ?_; intro w2 hb2q hg2 hs2; clear hs2; have hb2 : Blk w2 w.heap.size 66 ([.int .i64 g, .int .i64 s] : List Value).toArray := hb2q; clear hb2q; have hl2 : Below w.heap.size w w2 := hl1.grown hg2 hl1.size (fun g e => (by injection e with e; omega)))
        | (refine wpList_load_blk rfl 66 (.tmp 7) rfl w.heap.size 0 66 _ hb2 rfl [.int .i64 g, .int .i64 s] _ (fun j v hj => (by rw [Nat.zero_add]; simpa using hj)) Try.underlying66 rfl place_info ?_)
        | (go_at_call 44; refine (HE.out w2 hl2).mono ?_; rintro _ w3 ⟨rfl, hl3q⟩; have hl3 : Below w.heap.size w w3 := hl2.trans (hl3q.mono hl2.size); have HB3 : Hid (Blk w3 w.heap.size 66 ([.int .i64 g, .int .i64 s] : List Value).toArray) := hb2.below hl3q hb2.lt; clear hb2 hl3q))
      have HU3 : Hid (UsM w3 t x y z (gF S) (bF S) (pF S)) := hide (HU.out.later hl3)
      have c1 : w3.cell? ⟨t, 1, none⟩ = some (.map (some y)) := HU3.out.c1
      have HC3 := hide (fun (q : Nat) (j : Nat) (v : Value) (hj : ([.int .i64 g, .int .i64 s] : List Value)[j]? = some v) => (blk_at (HB3.out.drewN q) j v hj))
      refine wp_region_quiet_lit (by kernel_rfl) (by kernel_rfl) ?_
      iterate 4 (go_big_quiet_step (fail))
      refine quiet_load_at rfl 66 (.tmp 7) rfl ⟨w.heap.size, 0, none⟩ rfl [.int .i64 g, .int .i64 s] _ (by rintro w4 ⟨q, rfl⟩; exact HC3.out q) Try.underlying66 rfl place_info ?_
      refine quiet_look rfl 53 (.tmp 24) (.tmp 25) true rfl (.map (some y)) (encPl (g, s)) rfl rfl LV (by rintro w4 ⟨q, rfl⟩; exact HL.out _ (HU3.out.bm.drewN q)) ?_
      simp only [Act.put, List.setIfInBounds_toArray, List.set_cons_succ, List.set_cons_zero]
      rw [HLV.out]
      iterate 5 (go_big_quiet_step (fail))
      refine wpQuiet_nil ?_
      rintro w4q ⟨nq, rfl⟩
      have hl4 : Below w.heap.size w (w3.drewN nq) := hl3.trans ⟨rfl, rfl, rfl, Nat.le_refl _, fun _ _ => rfl⟩
      have HU4 : Hid (UsM (w3.drewN nq) t x y z (gF S) (bF S) (pF S)) := hide (HU.out.later hl4)
      have HB4 := hide (HB3.out.drewN nq)
      obtain ⟨w4, hw4⟩ : ∃ w4, w4 = w3.drewN nq := ⟨_, rfl⟩
      rw [← hw4] at hl4 HU4 HB4 ⊢
      clear hw4 HU3 HC3 HB3 hl3 c1
      go_wp2
      go_ret
      exact ⟨rfl, HU4.out, Turn.of_below hl4⟩
    | some b =>
      have e1 : S.clearE g s = 0 := by unfold Us.clearE; rw [if_pos he, ha]; rfl
      have e2 : S.clear' g s = S.killed g s := by unfold Us.clear'; rw [e1]; rfl
      rw [e1, e2]
      have HL := hide (fun (w' : World) (hm : MapIs placeKey w' y (bF S)) => hm.look (C := placeKey) Try.underlying53 (Try.zeroValue3 w') HP.out true)
      rw [if_pos rfl, (look_b S g s).1, (look_b S g s).2, ha] at HL
      obtain ⟨LV, hLV⟩ : ∃ LV : Value, LV = .tuple #[.int .i64 b, .bool true] := ⟨_, rfl⟩
      have HL : Hid (∀ w', MapIs placeKey w' y (bF S) → (Instr.lookup 53 (.map (some y)) (encPl (g, s)) true).run Try.prog w' = .ok LV w') := hide (by rw [hLV]; exact HL.out)
      have HLV := hide hLV
      clear hLV
      have HA := hide ha
      clear m hok hg hs e1 e2 ha he
      go_enter Try.func17, Try.ntmps17
      go_wp2_with (first
        | (refine wpList_alloc_blk rfl 66 rfl _ (Try.zeroValue66 _) ?_; intro w1 hb1 hl1 hs1; clear hs1)
        | (refine wpList_build_is rfl 66 _ rfl _ rfl _ (place_built g s) ?_)
        | (refine wpList_store_all rfl 66 (.tmp 7) (.tmp 13) rfl w.heap.size 66 _ hb1 rfl [.int .i64 g, .int .i64 s] rfl place_info rfl (two_one _ _) ?_; intro w2 hb2q hg2 hs2; clear hs2; have hb2 : Blk w2 w.heap.size 66 ([.int .i64 g, .int .i64 s] : List Value).toArray := hb2q; clear hb2q; have hl2 : Below w.heap.size w w2 := hl1.grown hg2 hl1.size (fun g e => (by injection e with e; omega)))
        | (refine wpList_load_blk rfl 66 (.tmp 7) rfl w.heap.size 0 66 _ hb2 rfl [.int .i64 g, .int .i64 s] _ (fun j v hj => (by rw [Nat.zero_add]; simpa using hj)) Try.underlying66 rfl place_info ?_)
        | (go_at_call 44; refine (HE.out w2 hl2).mono ?_; rintro _ w3 ⟨rfl, hl3q⟩; have hl3 : Below w.heap.size w w3 := hl2.trans (hl3q.mono hl2.size); have HB3 : Hid (Blk w3 w.heap.size 66 ([.int .i64 g, .int .i64 s] : List Value).toArray) := hb2.below hl3q hb2.lt; clear hb2 hl3q))
      have HU3 : Hid (UsM w3 t x y z (gF S) (bF S) (pF S)) := hide (HU.out.later hl3)
      have c1 : w3.cell? ⟨t, 1, none⟩ = some (.map (some y)) := HU3.out.c1
      have HC3 := hide (fun (q : Nat) (j : Nat) (v : Value) (hj : ([.int .i64 g, .int .i64 s] : List Value)[j]? = some v) => (blk_at (HB3.out.drewN q) j v hj))
      refine wp_region_quiet_lit (by kernel_rfl) (by kernel_rfl) ?_
      iterate 4 (go_big_quiet_step (fail))
      refine quiet_load_at rfl 66 (.tmp 7) rfl ⟨w.heap.size, 0, none⟩ rfl [.int .i64 g, .int .i64 s] _ (by rintro w4 ⟨q, rfl⟩; exact HC3.out q) Try.underlying66 rfl place_info ?_
      refine quiet_look rfl 53 (.tmp 24) (.tmp 25) true rfl (.map (some y)) (encPl (g, s)) rfl rfl LV (by rintro w4 ⟨q, rfl⟩; exact HL.out _ (HU3.out.bm.drewN q)) ?_
      simp only [Act.put, List.setIfInBounds_toArray, List.set_cons_succ, List.set_cons_zero]
      rw [HLV.out]
      iterate 5 (go_big_quiet_step (fail))
      refine wpQuiet_nil ?_
      rintro w4q ⟨nq, rfl⟩
      have hl4 : Below w.heap.size w (w3.drewN nq) := hl3.trans ⟨rfl, rfl, rfl, Nat.le_refl _, fun _ _ => rfl⟩
      have HU4 : Hid (UsM (w3.drewN nq) t x y z (gF S) (bF S) (pF S)) := hide (HU.out.later hl4)
      have HB4 := hide (HB3.out.drewN nq)
      obtain ⟨w4, hw4⟩ : ∃ w4, w4 = w3.drewN nq := ⟨_, rfl⟩
      rw [← hw4] at hl4 HU4 HB4 ⊢
      clear hw4 HU3 HC3 HB3 hl3 c1
      go_wp2_with (first
        | (refine wpList_load_blk rfl 66 (.tmp 7) rfl w.heap.size 0 66 _ HB4.out rfl [.int .i64 g, .int .i64 s] _ (fun j v hj => (by rw [Nat.zero_add]; simpa using hj)) Try.underlying66 rfl place_info ?_)
        | (go_at_call 45; refine (kill_any HU4.out HOK.out HA.out).mono ?_; rintro _ w5 ⟨rfl, hm5, ht5⟩))
      go_ret
      exact ⟨rfl, hm5, (Turn.of_below hl4).trans ht5⟩
  · have e1 : S.clearE g s = S.inE g s := by unfold Us.clearE; rw [if_neg he]
    have e2 : S.clear' g s = S := by unfold Us.clear'; rw [e1, if_neg he]
    rw [e1, e2]
    clear m hok hg hs e1 e2
    have he0 : ((S.inE g s) != 0) = true := by simpa using he
    generalize S.inE g s = v at HE he0 ⊢
    go_enter Try.func17, Try.ntmps17
    go_wp2_with (first
      | (refine wpList_alloc_blk rfl 66 rfl _ (Try.zeroValue66 _) ?_; intro w1 hb1 hl1 hs1; clear hs1)
      | (refine wpList_build_is rfl 66 _ rfl _ rfl _ (place_built g s) ?_)
      | (refine wpList_store_all rfl 66 (.tmp 7) (.tmp 13) rfl w.heap.size 66 _ hb1 rfl [.int .i64 g, .int .i64 s] rfl place_info rfl (two_one _ _) ?_; intro w2 hb2q hg2 hs2; clear hs2; have hb2 : Blk w2 w.heap.size 66 ([.int .i64 g, .int .i64 s] : List Value).toArray := hb2q; clear hb2q; have hl2 : Below w.heap.size w w2 := hl1.grown hg2 hl1.size (fun g e => (by injection e with e; omega)))
      | (refine wpList_load_blk rfl 66 (.tmp 7) rfl w.heap.size 0 66 _ hb2 rfl [.int .i64 g, .int .i64 s] _ (fun j v hj => (by rw [Nat.zero_add]; simpa using hj)) Try.underlying66 rfl place_info ?_)
      | (go_at_call 44; refine (HE.out w2 hl2).mono ?_; rintro _ w3 ⟨rfl, hl3q⟩; have hl3 : Below w.heap.size w w3 := hl2.trans (hl3q.mono hl2.size); have HB3 : Hid (Blk w3 w.heap.size 66 ([.int .i64 g, .int .i64 s] : List Value).toArray) := hb2.below hl3q hb2.lt; clear hb2 hl3q))
    go_ret
    exact ⟨rfl, HU.out.later hl3, Turn.of_below hl3⟩
set_option maxRecDepth 100000 in
set_option maxHeartbeats 1000000 in
theorem put_any (m : UsIn w t x y z S) (hok : Few S) (g s b : Int) (hg : okI64 g) (hs : okI64 s) (hb : okI64 b) :
    Calls Try.prog 18 #[.pointer (some ⟨t, 0, none⟩), .int .i64 g, .int .i64 s, .int .i64 b] w fun e w' => e = .returned (.int .i64 (S.putE g s b)) ∧ UsIn w' t x y z (S.put' g s b) ∧ Turn (UFoot t x y z) w w' := by
  have HE := hide (fun (w' : World) (hb : Below w.heap.size w w') => missing_any (S := S) (UsM.later m hb) hok.ok g s hg)
  have HU : Hid (UsM w t x y z (gF S) (bF S) (pF S)) := hide m
  have HOK := hide hok
  have hlt := HU.out.head.lt
  have HP : Hid (okPl (g, s)) := hide ⟨hg, hs⟩
  have HB := hide hb
  have HG := hide hg
  by_cases he : S.inE g s = 0
  · rw [he] at HE
    by_cases hb0 : b < 0
    · have e1 : S.putE g s b = 1 := by unfold Us.putE; rw [if_pos he, if_pos hb0]
      have e2 : S.put' g s b = S := by unfold Us.put'; rw [e1]; rfl
      rw [e1, e2]
      clear m hok hg hs hb e1 e2 he
      go_enter Try.func18, Try.ntmps18
      go_wp2_with (first
        | (refine wpList_alloc_blk rfl 66 rfl _ (Try.zeroValue66 _) ?_; intro w1 hb1 hl1 hs1; clear hs1)
        | (refine wpList_build_is rfl 66 _ rfl _ rfl _ (place_built g s) ?_)
        | (refine wpList_store_all rfl 66 (.tmp 9) (.tmp 17) rfl w.heap.size 66 _ hb1 rfl [.int .i64 g, .int .i64 s] rfl place_info rfl (two_one _ _) ?_; intro w2 hb2q hg2 hs2; clear hs2; have hb2 : Blk w2 w.heap.size 66 ([.int .i64 g, .int .i64 s] : List Value).toArray := hb2q; clear hb2q; have hl2 : Below w.heap.size w w2 := hl1.grown hg2 hl1.size (fun g e => (by injection e with e; omega)))
        | (refine wpList_load_blk rfl 66 (.tmp 9) rfl w.heap.size 0 66 _ hb2 rfl [.int .i64 g, .int .i64 s] _ (fun j v hj => (by rw [Nat.zero_add]; simpa using hj)) Try.underlying66 rfl place_info ?_)
        | (go_at_call 44; refine (HE.out w2 hl2).mono ?_; rintro _ w3 ⟨rfl, hl3q⟩; have hl3 : Below w.heap.size w w3 := hl2.trans (hl3q.mono hl2.size); have HB3 : Hid (Blk w3 w.heap.size 66 ([.int .i64 g, .int .i64 s] : List Value).toArray) := hb2.below hl3q hb2.lt; clear hb2 hl3q))
      go_ret
      exact ⟨rfl, HU.out.later hl3, Turn.of_below hl3⟩
    cases ha : S.at_ g s with
    | some bb =>
      have e1 : S.putE g s b = 9 := by unfold Us.putE; rw [if_pos he, if_neg hb0, ha]; rfl
      have e2 : S.put' g s b = S := by unfold Us.put'; rw [e1]; rfl
      rw [e1, e2]
      have HL := hide (fun (w' : World) (hm : MapIs placeKey w' y (bF S)) => hm.look (C := placeKey) Try.underlying53 (Try.zeroValue3 w') HP.out true)
      rw [if_pos rfl, (look_b S g s).1, (look_b S g s).2, ha] at HL
      obtain ⟨LV, hLV⟩ : ∃ LV : Value, LV = .tuple #[.int .i64 bb, .bool true] := ⟨_, rfl⟩
      have HL : Hid (∀ w', MapIs placeKey w' y (bF S) → (Instr.lookup 53 (.map (some y)) (encPl (g, s)) true).run Try.prog w' = .ok LV w') := hide (by rw [hLV]; exact HL.out)
      have HLV := hide hLV
      clear hLV
      clear m hok hg hs hb e1 e2 ha he
      go_enter Try.func18, Try.ntmps18
      go_wp2_with (first
        | (refine wpList_alloc_blk rfl 66 rfl _ (Try.zeroValue66 _) ?_; intro w1 hb1 hl1 hs1; clear hs1)
        | (refine wpList_build_is rfl 66 _ rfl _ rfl _ (place_built g s) ?_)
        | (refine wpList_store_all rfl 66 (.tmp 9) (.tmp 17) rfl w.heap.size 66 _ hb1 rfl [.int .i64 g, .int .i64 s] rfl place_info rfl (two_one _ _) ?_; intro w2 hb2q hg2 hs2; clear hs2; have hb2 : Blk w2 w.heap.size 66 ([.int .i64 g, .int .i64 s] : List Value).toArray := hb2q; clear hb2q; have hl2 : Below w.heap.size w w2 := hl1.grown hg2 hl1.size (fun g e => (by injection e with e; omega)))
        | (refine wpList_load_blk rfl 66 (.tmp 9) rfl w.heap.size 0 66 _ hb2 rfl [.int .i64 g, .int .i64 s] _ (fun j v hj => (by rw [Nat.zero_add]; simpa using hj)) Try.underlying66 rfl place_info ?_)
        | (go_at_call 44; refine (HE.out w2 hl2).mono ?_; rintro _ w3 ⟨rfl, hl3q⟩; have hl3 : Below w.heap.size w w3 := hl2.trans (hl3q.mono hl2.size); have HB3 : Hid (Blk w3 w.heap.size 66 ([.int .i64 g, .int .i64 s] : List Value).toArray) := hb2.below hl3q hb2.lt; clear hb2 hl3q))
      have HU3 : Hid (UsM w3 t x y z (gF S) (bF S) (pF S)) := hide (HU.out.later hl3)
      have c1 : w3.cell? ⟨t, 1, none⟩ = some (.map (some y)) := HU3.out.c1
      have HC3 := hide (fun (q : Nat) (j : Nat) (v : Value) (hj : ([.int .i64 g, .int .i64 s] : List Value)[j]? = some v) => (blk_at (HB3.out.drewN q) j v hj))
      refine wp_region_quiet_lit (by kernel_rfl) (by kernel_rfl) ?_
      iterate 4 (go_big_quiet_step (fail))
      refine quiet_load_at rfl 66 (.tmp 9) rfl ⟨w.heap.size, 0, none⟩ rfl [.int .i64 g, .int .i64 s] _ (by rintro w4 ⟨q, rfl⟩; exact HC3.out q) Try.underlying66 rfl place_info ?_
      refine quiet_look rfl 53 (.tmp 30) (.tmp 31) true rfl (.map (some y)) (encPl (g, s)) rfl rfl LV (by rintro w4 ⟨q, rfl⟩; exact HL.out _ (HU3.out.bm.drewN q)) ?_
      simp only [Act.put, List.setIfInBounds_toArray, List.set_cons_succ, List.set_cons_zero]
      rw [HLV.out]
      iterate 5 (go_big_quiet_step (fail))
      refine wpQuiet_nil ?_
      rintro w4q ⟨nq, rfl⟩
      have hl4 : Below w.heap.size w (w3.drewN nq) := hl3.trans ⟨rfl, rfl, rfl, Nat.le_refl _, fun _ _ => rfl⟩
      have HU4 : Hid (UsM (w3.drewN nq) t x y z (gF S) (bF S) (pF S)) := hide (HU.out.later hl4)
      have HB4 := hide (HB3.out.drewN nq)
      obtain ⟨w4, hw4⟩ : ∃ w4, w4 = w3.drewN nq := ⟨_, rfl⟩
      rw [← hw4] at hl4 HU4 HB4 ⊢
      clear hw4 HU3 HC3 HB3 hl3 c1
      go_wp2
      go_ret
      exact ⟨rfl, HU4.out, Turn.of_below hl4⟩
    | none =>
      have e1 : S.putE g s b = 0 := by unfold Us.putE; rw [if_pos he, if_neg hb0, ha]; rfl
      have e2 : S.put' g s b = S.put g s b := by unfold Us.put'; rw [e1]; rfl
      have hh := (Us.putE_zero e1).1
      have HGF := hide (gF_put (s := s) (b := b) hh)
      have HBF := hide (bF_put (b := b) hok.ok ha)
      have HPF := hide (pF_put S g s b)
      have HGY : Hid (gF (S.freed b) g = some (.agg #[.int .i64 (S.slots g), .int .i64 (((S.freed b).cnt g : Nat) : Int)])) := hide (gF_yes (S := S.freed b) hh)
      have HFR := hide (hok.freed b)
      have hcl := (S.freed b).cnt_le g
      have hfl := HFR.out.ls
      have hk1 : -9223372036854775808 ≤ (((S.freed b).cnt g : Nat) : Int) + 1 := by omega
      have hk2 : (((S.freed b).cnt g : Nat) : Int) + 1 ≤ 9223372036854775807 := by omega
      have HK := hide (And.intro hk1 hk2)
      have hwy : w.heap.size ≠ y := by have := HU.out.bm.lt; omega
      have hwF : ¬ UFoot t x y z w.heap.size := fun h => by have := HU.out.foot_lt _ h; omega
      rw [e1, e2]
      have HL := hide (fun (w' : World) (hm : MapIs placeKey w' y (bF S)) => hm.look (C := placeKey) Try.underlying53 (Try.zeroValue3 w') HP.out true)
      rw [if_pos rfl, (look_b S g s).1, (look_b S g s).2, ha] at HL
      obtain ⟨LV, hLV⟩ : ∃ LV : Value, LV = .tuple #[.int .i64 0, .bool false] := ⟨_, rfl⟩
      have HL : Hid (∀ w', MapIs placeKey w' y (bF S) → (Instr.lookup 53 (.map (some y)) (encPl (g, s)) true).run Try.prog w' = .ok LV w') := hide (by rw [hLV]; exact HL.out)
      have HLV := hide hLV
      clear hLV
      have hokF := hok
      clear m hok hg hs hb e1 e2 ha he hh hcl hfl hk1 hk2
      cases hf : S.fnd b with
      | none =>
        have HF := hide hf
        have HFE := hide (Us.freed_none hf)
        clear hf hokF
        go_enter Try.func18, Try.ntmps18
        go_wp2_with (first
          | (refine wpList_alloc_blk rfl 66 rfl _ (Try.zeroValue66 _) ?_; intro w1 hb1 hl1 hs1; clear hs1)
          | (refine wpList_build_is rfl 66 _ rfl _ rfl _ (place_built g s) ?_)
          | (refine wpList_store_all rfl 66 (.tmp 9) (.tmp 17) rfl w.heap.size 66 _ hb1 rfl [.int .i64 g, .int .i64 s] rfl place_info rfl (two_one _ _) ?_; intro w2 hb2q hg2 hs2; clear hs2; have hb2 : Blk w2 w.heap.size 66 ([.int .i64 g, .int .i64 s] : List Value).toArray := hb2q; clear hb2q; have hl2 : Below w.heap.size w w2 := hl1.grown hg2 hl1.size (fun g e => (by injection e with e; omega)))
          | (refine wpList_load_blk rfl 66 (.tmp 9) rfl w.heap.size 0 66 _ hb2 rfl [.int .i64 g, .int .i64 s] _ (fun j v hj => (by rw [Nat.zero_add]; simpa using hj)) Try.underlying66 rfl place_info ?_)
          | (go_at_call 44; refine (HE.out w2 hl2).mono ?_; rintro _ w3 ⟨rfl, hl3q⟩; have hl3 : Below w.heap.size w w3 := hl2.trans (hl3q.mono hl2.size); have HB3 : Hid (Blk w3 w.heap.size 66 ([.int .i64 g, .int .i64 s] : List Value).toArray) := hb2.below hl3q hb2.lt; clear hb2 hl3q))
        have HU3 : Hid (UsM w3 t x y z (gF S) (bF S) (pF S)) := hide (HU.out.later hl3)
        have c1 : w3.cell? ⟨t, 1, none⟩ = some (.map (some y)) := HU3.out.c1
        have HC3 := hide (fun (q : Nat) (j : Nat) (v : Value) (hj : ([.int .i64 g, .int .i64 s] : List Value)[j]? = some v) => (blk_at (HB3.out.drewN q) j v hj))
        refine wp_region_quiet_lit (by kernel_rfl) (by kernel_rfl) ?_
        iterate 4 (go_big_quiet_step (fail))
        refine quiet_load_at rfl 66 (.tmp 9) rfl ⟨w.heap.size, 0, none⟩ rfl [.int .i64 g, .int .i64 s] _ (by rintro w4 ⟨q, rfl⟩; exact HC3.out q) Try.underlying66 rfl place_info ?_
        refine quiet_look rfl 53 (.tmp 30) (.tmp 31) true rfl (.map (some y)) (encPl (g, s)) rfl rfl LV (by rintro w4 ⟨q, rfl⟩; exact HL.out _ (HU3.out.bm.drewN q)) ?_
        simp only [Act.put, List.setIfInBounds_toArray, List.set_cons_succ, List.set_cons_zero]
        rw [HLV.out]
        iterate 5 (go_big_quiet_step (fail))
        refine wpQuiet_nil ?_
        rintro w4q ⟨nq, rfl⟩
        have hl4 : Below w.heap.size w (w3.drewN nq) := hl3.trans ⟨rfl, rfl, rfl, Nat.le_refl _, fun _ _ => rfl⟩
        have HU4 : Hid (UsM (w3.drewN nq) t x y z (gF S) (bF S) (pF S)) := hide (HU.out.later hl4)
        have HB4 := hide (HB3.out.drewN nq)
        obtain ⟨w4, hw4⟩ : ∃ w4, w4 = w3.drewN nq := ⟨_, rfl⟩
        rw [← hw4] at hl4 HU4 HB4 ⊢
        clear hw4 HU3 HC3 HB3 hl3 c1
        have c2 := HU4.out.c2
        go_wp2_with (first
          | (refine wpList_look rfl (.tmp 40) (.tmp 41) 54 66 true rfl Try.underlying54 _ (Try.zeroValue66 _) z (pF S) rfl HU4.out.pm b rfl HB.out (.tuple #[.agg #[.int .i64 0, .int .i64 0], .bool false]) (by rw [(look_p S b).1, (look_p S b).2, HF.out]; rfl) ?_)
          | (refine wpList_alloc_blk rfl 66 rfl _ (Try.zeroValue66 _) ?_; intro w5 hb5 hl5 hs5; clear hs5)
          | (refine wpList_store_all rfl 66 (.tmp 13) (.tmp 43) rfl w4.heap.size 66 _ hb5 rfl [.int .i64 0, .int .i64 0] rfl place_info rfl (two_one _ _) ?_; intro w6 hb6q hg6 hs6; clear hs6; have hb6 : Blk w6 w4.heap.size 66 ([.int .i64 0, .int .i64 0] : List Value).toArray := hb6q; clear hb6q; have hl6 : Below w4.heap.size w4 w6 := hl5.grown hg6 hl5.size (fun g e => (by injection e with e; omega)); have HU6 : Hid (UsIn w6 t x y z S) := hide (HU4.out.later hl6)))
        have HUf : Hid (UsM w6 t x y z (gF (S.freed b)) (bF (S.freed b)) (pF (S.freed b))) := hide (by rw [HFE.out]; exact HU6.out)
        have HBf := hide (HB4.out.below hl6 HB4.out.lt)
        have htf : Turn (UFoot t x y z) w w6 := Turn.of_below (hl4.trans (hl6.mono hl4.size))
        clear hb5 hl5 hg6 hb6 HU6 HFE HB4 hl4 hl6 c2 HU4
        have c1 : w6.drew.cell? ⟨t, 1, none⟩ = some (.map (some y)) := HUf.out.c1
        have HCf := hide (fun (j : Nat) (v : Value) (hj : ([.int .i64 g, .int .i64 s] : List Value)[j]? = some v) => (blk_at HBf.out.drew j v hj))
        refine wp_region_still_tail 6 (by kernel_rfl) (by kernel_rfl) ?_
        change wpStill _ _ w6.drew _ _ _
        simp only [List.take_succ_cons, List.take_zero, List.drop_succ_cons, List.drop_zero]
        iterate 4 still_step
        refine still_load_at rfl 66 (.tmp 9) rfl ⟨w.heap.size, 0, none⟩ rfl [.int .i64 g, .int .i64 s] _ HCf.out Try.underlying66 rfl place_info ?_
        still_step
        refine wpStill_nil ?_
        change wpList _ _ _ _ _ w6.drew
        go_wp2_with (first
          | (refine wpList_put (C := placeKey) rfl (.tmp 52) (.tmp 53) (.tmp 54) 53 3 rfl Try.underlying53 y (bF (S.freed b)) rfl HUf.out.drew.bm (g, s) HP.out (.int .i64 b) rfl rfl ((S.freed b).L.map fun e => (e.g, e.s)) (bF_nodup HFR.out.ok) (bF_mem HFR.out.ok) (by have := HFR.out.ls; rw [List.length_map]; omega) ?_; intro w7 hm7 hg7))
        have HU7 := hide (HUf.out.drew.setB hm7 hg7)
        have HB7 := hide (HBf.out.drew.grown hg7 (fun e => hwy (by injection e)))
        have ht7 := (htf.drew).grown hg7 (fun g e => (by injection e with e; subst e; exact .inl (.inr (.inr (.inl rfl)))))
        have c2 : w7.drew.cell? ⟨t, 2, none⟩ = some (.map (some z)) := HU7.out.c2
        have HC7 := hide (fun (j : Nat) (v : Value) (hj : ([.int .i64 g, .int .i64 s] : List Value)[j]? = some v) => (blk_at HB7.out.drew j v hj))
        clear hm7 hg7 c1
        refine wp_region_still_tail 6 (by kernel_rfl) (by kernel_rfl) ?_
        change wpStill _ _ w7.drew _ _ _
        simp only [List.take_succ_cons, List.take_zero, List.drop_succ_cons, List.drop_zero]
        iterate 5 still_step
        refine still_load_at rfl 66 (.tmp 9) rfl ⟨w.heap.size, 0, none⟩ rfl [.int .i64 g, .int .i64 s] _ HC7.out Try.underlying66 rfl place_info ?_
        refine wpStill_nil ?_
        change wpList _ _ _ _ _ w7.drew
        go_wp2_with (first
          | (refine wpList_put (C := intKey) rfl (.tmp 58) (.tmp 59) (.tmp 60) 54 66 rfl Try.underlying54 z (pF (S.freed b)) rfl HU7.out.drew.pm b HB.out (encPl (g, s)) rfl rfl ((S.freed b).L.map Lv.b) (pF_nodup HFR.out.ok) (pF_mem HFR.out.ok) (by have := HFR.out.ls; rw [List.length_map]; omega) ?_; intro w8 hm8 hg8; have HU8 := hide (HU7.out.drew.setP hm8 hg8); have ht8 := (ht7.drew).grown hg8 (fun g e => (by injection e with e; subst e; exact .inl (.inr (.inr (.inr rfl))))))
          | (go_at_call 46; refine (tally_any HU8.out g (S.slots g) (((S.freed b).cnt g : Nat) : Int) 1 HG.out HGY.out HK.out.1 HK.out.2 (S.G.map Gr.id) HOK.out.ok.ids (gF_mem (S.freed b)) (by have := HOK.out.gs; rw [List.length_map]; omega)).mono ?_; rintro _ w9 ⟨rfl, hm9, ht9⟩))
        go_ret
        exact ⟨rfl, hm9.congr HGF.out HBF.out HPF.out, ht8.trans ht9⟩
      | some p =>
        obtain ⟨g1, s1⟩ := p
        have HF := hide hf
        have HFE := hide (Us.freed_killed hokF.ok hf)
        have HA1 := hide ((Us.at_fnd hokF.ok).2 hf)
        clear hf hokF
        go_enter Try.func18, Try.ntmps18
        go_wp2_with (first
          | (refine wpList_alloc_blk rfl 66 rfl _ (Try.zeroValue66 _) ?_; intro w1 hb1 hl1 hs1; clear hs1)
          | (refine wpList_build_is rfl 66 _ rfl _ rfl _ (place_built g s) ?_)
          | (refine wpList_store_all rfl 66 (.tmp 9) (.tmp 17) rfl w.heap.size 66 _ hb1 rfl [.int .i64 g, .int .i64 s] rfl place_info rfl (two_one _ _) ?_; intro w2 hb2q hg2 hs2; clear hs2; have hb2 : Blk w2 w.heap.size 66 ([.int .i64 g, .int .i64 s] : List Value).toArray := hb2q; clear hb2q; have hl2 : Below w.heap.size w w2 := hl1.grown hg2 hl1.size (fun g e => (by injection e with e; omega)))
          | (refine wpList_load_blk rfl 66 (.tmp 9) rfl w.heap.size 0 66 _ hb2 rfl [.int .i64 g, .int .i64 s] _ (fun j v hj => (by rw [Nat.zero_add]; simpa using hj)) Try.underlying66 rfl place_info ?_)
          | (go_at_call 44; refine (HE.out w2 hl2).mono ?_; rintro _ w3 ⟨rfl, hl3q⟩; have hl3 : Below w.heap.size w w3 := hl2.trans (hl3q.mono hl2.size); have HB3 : Hid (Blk w3 w.heap.size 66 ([.int .i64 g, .int .i64 s] : List Value).toArray) := hb2.below hl3q hb2.lt; clear hb2 hl3q))
        have HU3 : Hid (UsM w3 t x y z (gF S) (bF S) (pF S)) := hide (HU.out.later hl3)
        have c1 : w3.cell? ⟨t, 1, none⟩ = some (.map (some y)) := HU3.out.c1
        have HC3 := hide (fun (q : Nat) (j : Nat) (v : Value) (hj : ([.int .i64 g, .int .i64 s] : List Value)[j]? = some v) => (blk_at (HB3.out.drewN q) j v hj))
        refine wp_region_quiet_lit (by kernel_rfl) (by kernel_rfl) ?_
        iterate 4 (go_big_quiet_step (fail))
        refine quiet_load_at rfl 66 (.tmp 9) rfl ⟨w.heap.size, 0, none⟩ rfl [.int .i64 g, .int .i64 s] _ (by rintro w4 ⟨q, rfl⟩; exact HC3.out q) Try.underlying66 rfl place_info ?_
        refine quiet_look rfl 53 (.tmp 30) (.tmp 31) true rfl (.map (some y)) (encPl (g, s)) rfl rfl LV (by rintro w4 ⟨q, rfl⟩; exact HL.out _ (HU3.out.bm.drewN q)) ?_
        simp only [Act.put, List.setIfInBounds_toArray, List.set_cons_succ, List.set_cons_zero]
        rw [HLV.out]
        iterate 5 (go_big_quiet_step (fail))
        refine wpQuiet_nil ?_
        rintro w4q ⟨nq, rfl⟩
        have hl4 : Below w.heap.size w (w3.drewN nq) := hl3.trans ⟨rfl, rfl, rfl, Nat.le_refl _, fun _ _ => rfl⟩
        have HU4 : Hid (UsM (w3.drewN nq) t x y z (gF S) (bF S) (pF S)) := hide (HU.out.later hl4)
        have HB4 := hide (HB3.out.drewN nq)
        obtain ⟨w4, hw4⟩ : ∃ w4, w4 = w3.drewN nq := ⟨_, rfl⟩
        rw [← hw4] at hl4 HU4 HB4 ⊢
        clear hw4 HU3 HC3 HB3 hl3 c1
        have c2 := HU4.out.c2
        go_wp2_with (first
          | (refine wpList_look rfl (.tmp 40) (.tmp 41) 54 66 true rfl Try.underlying54 _ (Try.zeroValue66 _) z (pF S) rfl HU4.out.pm b rfl HB.out (.tuple #[.agg #[.int .i64 g1, .int .i64 s1], .bool true]) (by rw [(look_p S b).1, (look_p S b).2, HF.out]; rfl) ?_)
          | (refine wpList_alloc_blk rfl 66 rfl _ (Try.zeroValue66 _) ?_; intro w5 hb5 hl5 hs5; clear hs5)
          | (refine wpList_store_all rfl 66 (.tmp 13) (.tmp 43) rfl w4.heap.size 66 _ hb5 rfl [.int .i64 g1, .int .i64 s1] rfl place_info rfl (two_one _ _) ?_; intro w6 hb6q hg6 hs6; clear hs6; have hb6 : Blk w6 w4.heap.size 66 ([.int .i64 g1, .int .i64 s1] : List Value).toArray := hb6q; clear hb6q; have hl6 : Below w4.heap.size w4 w6 := hl5.grown hg6 hl5.size (fun g e => (by injection e with e; omega)); have HU6 : Hid (UsIn w6 t x y z S) := hide (HU4.out.later hl6))
          | (refine wpList_load_blk rfl 66 (.tmp 13) rfl w4.heap.size 0 66 _ hb6 rfl [.int .i64 g1, .int .i64 s1] _ (fun j v hj => (by rw [Nat.zero_add]; simpa using hj)) Try.underlying66 rfl place_info ?_)
          | (go_at_call 45; refine (kill_any HU6.out HOK.out HA1.out).mono ?_; rintro _ wf ⟨rfl, hmf, htf0⟩))
        have HUf : Hid (UsM wf t x y z (gF (S.freed b)) (bF (S.freed b)) (pF (S.freed b))) := hide (by rw [HFE.out]; exact hmf)
        have HBf := hide ((HB4.out.below hl6 HB4.out.lt).of_block (htf0.block _ (Nat.lt_of_lt_of_le HB4.out.lt hl6.size) hwF))
        have htf : Turn (UFoot t x y z) w wf := (Turn.of_below (hl4.trans (hl6.mono hl4.size))).trans htf0
        clear hb5 hl5 hg6 hb6 HU6 HFE HB4 hl4 hl6 c2 HU4 hmf htf0 HA1
        have c1 : wf.drew.cell? ⟨t, 1, none⟩ = some (.map (some y)) := HUf.out.c1
        have HCf := hide (fun (j : Nat) (v : Value) (hj : ([.int .i64 g, .int .i64 s] : List Value)[j]? = some v) => (blk_at HBf.out.drew j v hj))
        refine wp_region_still_tail 6 (by kernel_rfl) (by kernel_rfl) ?_
        change wpStill _ _ wf.drew _ _ _
        simp only [List.take_succ_cons, List.take_zero, List.drop_succ_cons, List.drop_zero]
        iterate 4 still_step
        refine still_load_at rfl 66 (.tmp 9) rfl ⟨w.heap.size, 0, none⟩ rfl [.int .i64 g, .int .i64 s] _ HCf.out Try.underlying66 rfl place_info ?_
        still_step
        refine wpStill_nil ?_
        change wpList _ _ _ _ _ wf.drew
        go_wp2_with (first
          | (refine wpList_put (C := placeKey) rfl (.tmp 52) (.tmp 53) (.tmp 54) 53 3 rfl Try.underlying53 y (bF (S.freed b)) rfl HUf.out.drew.bm (g, s) HP.out (.int .i64 b) rfl rfl ((S.freed b).L.map fun e => (e.g, e.s)) (bF_nodup HFR.out.ok) (bF_mem HFR.out.ok) (by have := HFR.out.ls; rw [List.length_map]; omega) ?_; intro w7 hm7 hg7))
        have HU7 := hide (HUf.out.drew.setB hm7 hg7)
        have HB7 := hide (HBf.out.drew.grown hg7 (fun e => hwy (by injection e)))
        have ht7 := (htf.drew).grown hg7 (fun g e => (by injection e with e; subst e; exact .inl (.inr (.inr (.inl rfl)))))
        have c2 : w7.drew.cell? ⟨t, 2, none⟩ = some (.map (some z)) := HU7.out.c2
        have HC7 := hide (fun (j : Nat) (v : Value) (hj : ([.int .i64 g, .int .i64 s] : List Value)[j]? = some v) => (blk_at HB7.out.drew j v hj))
        clear hm7 hg7 c1
        refine wp_region_still_tail 6 (by kernel_rfl) (by kernel_rfl) ?_
        change wpStill _ _ w7.drew _ _ _
        simp only [List.take_succ_cons, List.take_zero, List.drop_succ_cons, List.drop_zero]
        iterate 5 still_step
        refine still_load_at rfl 66 (.tmp 9) rfl ⟨w.heap.size, 0, none⟩ rfl [.int .i64 g, .int .i64 s] _ HC7.out Try.underlying66 rfl place_info ?_
        refine wpStill_nil ?_
        change wpList _ _ _ _ _ w7.drew
        go_wp2_with (first
          | (refine wpList_put (C := intKey) rfl (.tmp 58) (.tmp 59) (.tmp 60) 54 66 rfl Try.underlying54 z (pF (S.freed b)) rfl HU7.out.drew.pm b HB.out (encPl (g, s)) rfl rfl ((S.freed b).L.map Lv.b) (pF_nodup HFR.out.ok) (pF_mem HFR.out.ok) (by have := HFR.out.ls; rw [List.length_map]; omega) ?_; intro w8 hm8 hg8; have HU8 := hide (HU7.out.drew.setP hm8 hg8); have ht8 := (ht7.drew).grown hg8 (fun g e => (by injection e with e; subst e; exact .inl (.inr (.inr (.inr rfl))))))
          | (go_at_call 46; refine (tally_any HU8.out g (S.slots g) (((S.freed b).cnt g : Nat) : Int) 1 HG.out HGY.out HK.out.1 HK.out.2 (S.G.map Gr.id) HOK.out.ok.ids (gF_mem (S.freed b)) (by have := HOK.out.gs; rw [List.length_map]; omega)).mono ?_; rintro _ w9 ⟨rfl, hm9, ht9⟩))
        go_ret
        exact ⟨rfl, hm9.congr HGF.out HBF.out HPF.out, ht8.trans ht9⟩
  · have e1 : S.putE g s b = S.inE g s := by unfold Us.putE; rw [if_neg he]
    have e2 : S.put' g s b = S := by unfold Us.put'; rw [e1, if_neg he]
    rw [e1, e2]
    clear m hok hg hs hb e1 e2
    have he0 : ((S.inE g s) != 0) = true := by simpa using he
    generalize S.inE g s = v at HE he0 ⊢
    go_enter Try.func18, Try.ntmps18
    go_wp2_with (first
      | (refine wpList_alloc_blk rfl 66 rfl _ (Try.zeroValue66 _) ?_; intro w1 hb1 hl1 hs1; clear hs1)
      | (refine wpList_build_is rfl 66 _ rfl _ rfl _ (place_built g s) ?_)
      | (refine wpList_store_all rfl 66 (.tmp 9) (.tmp 17) rfl w.heap.size 66 _ hb1 rfl [.int .i64 g, .int .i64 s] rfl place_info rfl (two_one _ _) ?_; intro w2 hb2q hg2 hs2; clear hs2; have hb2 : Blk w2 w.heap.size 66 ([.int .i64 g, .int .i64 s] : List Value).toArray := hb2q; clear hb2q; have hl2 : Below w.heap.size w w2 := hl1.grown hg2 hl1.size (fun g e => (by injection e with e; omega)))
      | (refine wpList_load_blk rfl 66 (.tmp 9) rfl w.heap.size 0 66 _ hb2 rfl [.int .i64 g, .int .i64 s] _ (fun j v hj => (by rw [Nat.zero_add]; simpa using hj)) Try.underlying66 rfl place_info ?_)
      | (go_at_call 44; refine (HE.out w2 hl2).mono ?_; rintro _ w3 ⟨rfl, hl3q⟩; have hl3 : Below w.heap.size w w3 := hl2.trans (hl3q.mono hl2.size); have HB3 : Hid (Blk w3 w.heap.size 66 ([.int .i64 g, .int .i64 s] : List Value).toArray) := hb2.below hl3q hb2.lt; clear hb2 hl3q))
    go_ret
    exact ⟨rfl, HU.out.later hl3, Turn.of_below hl3⟩
end
#print axioms put_any
end Go.Proofs.Ytgoglgghnjgcdaa
