/- What record.TagOf does. -/
import Derived.Test.YtmjdndhpnckeeaaRecC
namespace Go.Proofs.Ytmjdndhpnckeeaa
open Go.RowKit

theorem exec_neq_bytes {P : Program} {S : World → Prop} {ops : Array Oper} {o : Oper} {a : Act} (hw : Region.wanted o (yielded ops a.tmps) = true) (t e tr : TypeId) (p q : Operand) (ho : o.op = .binOp .neq t p q tr)
    (n : Nat) (i : TypeInfo) (ht : P.underlying t = some (.array n e)) (he : P.underlying e = some (.int .u8)) (hi : P.info? e = some i) (hc : P.cellsOf e = 1) (hm : P.eqGuardType P.depth t = false) (x y : List UInt8) (hx : x.length = n) (hy : y.length = n)
    (hp : a.eval p = .agg (B8 x).toArray) (hq : a.eval q = .agg (B8 y).toArray) (r : Bool) (hr : (!decide (x = y)) = r) : YieldsIf P ops S o (.bool r) a :=
  .inl ⟨hw, fun w _ => by
    unfold execOp
    simp only [ho, hp, hq, Sem.run_bind, run_eqGuard_agg w .neq t p q _ _ hm, Result.andThen_ok, run_neq_bytes w t e n i ht he hi hc x y hx hy, Sem.run_pure, hr]⟩
theorem u8_info8 : Try.prog.info? 5 = some ((Try.prog.info? 5).getD default) := by kernel_rfl
theorem range_blk {w : World} {g : Nat} {T : TypeId} {l : List Value} (h : Blk w g T l.toArray) : w.rangeAt g 0 l := fun j v hj => by rw [Nat.zero_add, h.cell j]; simpa using hj
theorem built_tag0 : Try.prog.built 105 [] = some (tagC Tg.zero).toArray := by kernel_rfl
theorem tagT_no {s : List UInt8} (h : partB s = false) : tagT s = Tg.zero := by rw [tagT, h]; rfl
theorem tagT_yes {s : List UInt8} (h : partB s = true) : tagT s = readT s := by rw [tagT, if_pos h]
theorem partB_eq {s : List UInt8} (h : rightT (readT s) = true) : partB s = decide (secT (readT s) (contT s (readT s)) = s) := by rw [partB, h, Bool.true_and]

set_option maxRecDepth 100000 in
set_option maxHeartbeats 4000000 in
theorem tagOf_any (s : List UInt8) (hs : s.length = 64) (w : World) :
    Calls Try.prog 63 #[.agg (B8 s).toArray] w fun e w' => e = .returned (.tuple #[tagV (tagT s), .bool (partB s)]) ∧ Below w.heap.size w w' := by
  obtain ⟨t, ht⟩ : ∃ t, t = readT s := ⟨_, rfl⟩
  obtain ⟨US, hUS⟩ : ∃ U, U = B8 s := ⟨_, rfl⟩
  have HIU := hide (show (Try.prog.info? 51).map (·.size) = some US.length by rw [hUS, B8_length, hs]; kernel_rfl)
  have HUN : Hid (Try.prog.underlying 51 = some (.array 64 5)) := Try.underlying51
  have HTO : Hid t.Ok := by rw [ht]; exact readT_ok s
  have HRd := hide (recRead_any s hs)
  rw [← ht, ← hUS] at HRd
  have HRi := hide (recRight_any t HTO.out)
  have HUS := hide hUS
  have HS := hide hs
  have HTE := hide ht
  rw [← hUS]
  clear hs hUS ht
  cases hr : rightT t with
  | false =>
    rw [hr] at HRi
    have HP := hide (show partB s = false by rw [partB, ← HTE.out, hr]; rfl)
    have HT0 := hide (tagT_no HP.out)
    rw [HP.out, HT0.out]
    clear hr
    go_enter Try.func63, Try.ntmps63
    go_wp2_with (first
      | ((with_reducible refine at_slot 1 ?_); refine wpList_box_blk rfl 51 _ rfl (.agg US.toArray) rfl ?_; intro w1 hb1q hl1 hs1; have hzb := hb1q.lt; clear hs1; have hb1 : Blk w1 w.heap.size 51 US.toArray := hb1q; clear hb1q)
      | ((with_reducible refine at_slot 2 ?_); refine wpList_alloc_blk rfl 105 rfl _ (tag_nought _) ?_; intro w2 hb2q hl2 hs2; clear hs2; have hb2 : Blk w2 w1.heap.size 105 (tagC Tg.zero).toArray := hb2q; clear hb2q; have HB1 := hide (hb1.below hl2 hzb); have HB2 := hide hb2; have HL2 := hide (hl1.trans (hl2.mono (by omega))); clear hb1 hb2 hl1 hl2)
      | ((with_reducible refine at_slot 5 ?_); refine wpList_load_blk rfl 51 (.tmp 1) rfl w.heap.size 0 51 _ HB1.out rfl US _ (fun j v hj => by rw [Nat.zero_add]; simpa using hj) Try.underlying51 rfl HIU.out ?_))
    refine (HRd.out w2).mono ?_
    rintro _ w3 ⟨rfl, hl3⟩
    have hz2 := HB2.out.lt
    have hz3 := hl3.size
    have HB1' := hide (HB1.out.below hl3 HB1.out.lt)
    have HB2' := hide (HB2.out.below hl3 HB2.out.lt)
    have HL3 := hide (HL2.out.trans (hl3.mono HL2.out.size))
    clear HB1 HB2 HL2 hl3
    go_wp2_with (first
      | ((with_reducible refine at_slot 4 ?_); refine wpList_alloc_blk rfl 105 rfl _ (tag_nought _) ?_; intro w4 hb4q hl4 hs4; clear hs4; have hb4 : Blk w4 w3.heap.size 105 (tagC Tg.zero).toArray := hb4q; clear hb4q)
      | ((with_reducible refine at_store 4 ?_); refine wpList_store_all rfl 105 (.tmp 4) (.tmp 6) rfl w3.heap.size 105 _ hb4 rfl (tagC t) rfl tag_info rfl (tagC_one _) ?_; intro w5 hb5 hg5 hs5; clear hs5))
    have hl35 : Below w3.heap.size w3 w5 := hl4.grown hg5 hl4.size (fun g e => by injection e with e; omega)
    have hz5 := hb5.lt
    have HB1 := hide (HB1'.out.below hl35 (by omega))
    have HB2 := hide (HB2'.out.below hl35 (by omega))
    have HT5 := hide hb5
    have HL5 := hide (HL3.out.trans (hl35.mono HL3.out.size))
    have hx1 : w.heap.size < w5.heap.size := HB1.out.lt
    have hx2 : w1.heap.size < w5.heap.size := HB2.out.lt
    have HF : Hid (∀ W', Below w5.heap.size w5 W' → (W'.cell? ⟨w3.heap.size, 0, none⟩ = some (.int .i64 t.gen) ∧ W'.cell? ⟨w3.heap.size, 1, none⟩ = some (.int .i64 t.nr) ∧ W'.cell? ⟨w3.heap.size, 2, none⟩ = some (.int .i64 t.part) ∧ W'.cell? ⟨w3.heap.size, 3, none⟩ = some (.int .i64 t.parts) ∧ W'.cell? ⟨w3.heap.size, 4, none⟩ = some (.int .i64 t.len) ∧ W'.rangeAt w.heap.size 0 US ∧ Below w5.heap.size w5 W')) := fun W' hb => ⟨tag_c0 (HT5.out.below hb hz5), tag_c1 (HT5.out.below hb hz5), tag_c2 (HT5.out.below hb hz5), tag_c3 (HT5.out.below hb hz5), tag_c4 (HT5.out.below hb hz5), range_blk (HB1.out.below hb hx1), hb⟩
    clear hb4 hl4 hb5 hg5 hl35 HB1' HB2' HL3
    refine wp_region_held_drew (S := (fun W => W.cell? ⟨w3.heap.size, 0, none⟩ = some (.int .i64 t.gen) ∧ W.cell? ⟨w3.heap.size, 1, none⟩ = some (.int .i64 t.nr) ∧ W.cell? ⟨w3.heap.size, 2, none⟩ = some (.int .i64 t.part) ∧ W.cell? ⟨w3.heap.size, 3, none⟩ = some (.int .i64 t.parts) ∧ W.cell? ⟨w3.heap.size, 4, none⟩ = some (.int .i64 t.len) ∧ W.rangeAt w.heap.size 0 US ∧ Below w5.heap.size w5 W)) (by kernel_rfl) ?_ (fun hHeld => ?_)
    · exact HF.out _ ((Below.refl _ _).drew)
    refine heldTake (i := 0) (v := tagV t) rfl (by kernel_rfl) (by kernel_rfl) (by kernel_rfl) (fun _ _ _ h => h) (Or.inl ⟨by rfl, fun W hW => ?_⟩) (by assumption) ?_
    · dsimp only at hW
      go_split_ands
      go_simp
      rfl
    try simp only [Act.put, List.setIfInBounds_toArray, List.set_cons_zero, List.set_cons_succ]
    refine wpAnyH_ready (rs := [1]) (by kernel_rfl) (by simp) ?_
    refine heldCons (i := 1) rfl (fun Kq hKq => ?_) AllReadyH.nil
    go_simp
    go_at_call 80
    refine (HRi.out _).mono ?_
    rintro _ w6 ⟨rfl, hl6⟩
    have hq6 : Below w5.heap.size w5 w6 := Below.trans (Below.drew (Below.refl _ _)) hl6
    clear hl6
    first | (refine hKq.out _ _ (HF.out _ hq6) (fun hHeld => ?_)) | (go_wp2_with fail; refine hKq.out _ _ (HF.out _ hq6) (fun hHeld => ?_))
    clear hKq Kq
    try simp only [Act.put, List.setIfInBounds_toArray, List.set_cons_zero, List.set_cons_succ]
    refine heldTake (i := 2) (v := ?_) rfl (by kernel_rfl) (by kernel_rfl) (by kernel_rfl) (fun _ _ _ h => h) (Or.inl ⟨by rfl, ?_⟩) (by assumption) ?_
    rotate_left
    · intro w hSw; (try dsimp only at hSw); go_simp <;> (with_reducible rfl)
    try simp only [Act.put, List.setIfInBounds_toArray, List.set_cons_zero, List.set_cons_succ]
    refine heldTake (i := 3) (v := ?_) rfl (by kernel_rfl) (by kernel_rfl) (by kernel_rfl) (fun _ _ _ h => h) (Or.inl ⟨by rfl, ?_⟩) (by assumption) ?_
    rotate_left
    · intro w hSw; (try dsimp only at hSw); go_simp <;> (with_reducible rfl)
    try simp only [Act.put, List.setIfInBounds_toArray, List.set_cons_zero, List.set_cons_succ]
    refine heldTake (i := 4) (v := undef) rfl (by kernel_rfl) (by kernel_rfl) (by kernel_rfl) (fun _ _ _ h => h) (Or.inr ⟨by rfl, rfl⟩) (by assumption) ?_
    try simp only [Act.put, List.setIfInBounds_toArray, List.set_cons_zero, List.set_cons_succ]
    refine heldTake (i := 5) (v := undef) rfl (by kernel_rfl) (by kernel_rfl) (by kernel_rfl) (fun _ _ _ h => h) (Or.inr ⟨by rfl, rfl⟩) (by assumption) ?_
    try simp only [Act.put, List.setIfInBounds_toArray, List.set_cons_zero, List.set_cons_succ]
    refine heldTake (i := 6) (v := undef) rfl (by kernel_rfl) (by kernel_rfl) (by kernel_rfl) (fun _ _ _ h => h) (Or.inr ⟨by rfl, rfl⟩) (by assumption) ?_
    try simp only [Act.put, List.setIfInBounds_toArray, List.set_cons_zero, List.set_cons_succ]
    refine heldTake (i := 7) (v := undef) rfl (by kernel_rfl) (by kernel_rfl) (by kernel_rfl) (fun _ _ _ h => h) (Or.inr ⟨by rfl, rfl⟩) (by assumption) ?_
    try simp only [Act.put, List.setIfInBounds_toArray, List.set_cons_zero, List.set_cons_succ]
    refine heldTake (i := 8) (v := undef) rfl (by kernel_rfl) (by kernel_rfl) (by kernel_rfl) (fun _ _ _ h => h) (Or.inr ⟨by rfl, rfl⟩) (by assumption) ?_
    try simp only [Act.put, List.setIfInBounds_toArray, List.set_cons_zero, List.set_cons_succ]
    refine heldTake (i := 9) (v := undef) rfl (by kernel_rfl) (by kernel_rfl) (by kernel_rfl) (fun _ _ _ h => h) (Or.inr ⟨by rfl, rfl⟩) (by assumption) ?_
    try simp only [Act.put, List.setIfInBounds_toArray, List.set_cons_zero, List.set_cons_succ]
    refine heldTake (i := 10) (v := undef) rfl (by kernel_rfl) (by kernel_rfl) (by kernel_rfl) (fun _ _ _ h => h) (Or.inr ⟨by rfl, rfl⟩) (by assumption) ?_
    try simp only [Act.put, List.setIfInBounds_toArray, List.set_cons_zero, List.set_cons_succ]
    refine heldTake (i := 11) (v := ?_) rfl (by kernel_rfl) (by kernel_rfl) (by kernel_rfl) (fun _ _ _ h => h) (Or.inl ⟨by rfl, ?_⟩) (by assumption) ?_
    rotate_left
    · intro w hSw; (try dsimp only at hSw); go_simp <;> (with_reducible rfl)
    try simp only [Act.put, List.setIfInBounds_toArray, List.set_cons_zero, List.set_cons_succ]
    refine wpAnyH_done (by kernel_rfl) ?_ _
    have HB26 := hide (HB2.out.below hq6 hx2)
    have HL6 := hide (HL5.out.trans (hq6.mono HL5.out.size))
    go_wp2_with (first
      | ((with_reducible refine at_slot 19 ?_); refine wpList_build_is rfl 105 #[] rfl [] (by simp) (tagC Tg.zero).toArray built_tag0 ?_)
      | ((with_reducible refine at_store 2 ?_); refine wpList_store_all rfl 105 (.tmp 2) (.tmp 19) rfl w1.heap.size 105 _ HB26.out rfl (tagC Tg.zero) rfl tag_info rfl (tagC_one _) ?_; intro w9 hb9 hg9 hs9; clear hs9))
    exact ret_cell_tmp rfl w1.heap.size 105 (tagC Tg.zero) _ hb9 rfl Try.underlying105 rfl tag_info (.bool false) rfl rfl ⟨rfl, HL6.out.grown hg9 HL6.out.size (fun g e => by injection e with e; omega)⟩
  | true =>
    rw [hr] at HRi
    have HTL := hide (show t.len ≤ 53 from ((right_iff t).1 hr).2.2.2)
    have HCo := hide (content_any s t HTO.out HTL.out)
    rw [← HUS.out] at HCo
    have HSe := hide (fun (A : Option Addr) (w1 : World) (hr : Reads w1 w1.heap.size 1 A t.len.toNat (B8 (contT s t))) => recSector_any t HTO.out A t.len.toNat 53 (contT s t) w1.heap.size w1 hr (Nat.le_refl _) (by have := HTL.out; omega))
    have HPE := hide (show partB s = decide (secT t (contT s t) = s) by rw [HTE.out]; exact partB_eq (by rw [← HTE.out]; exact hr))
    obtain ⟨X, hX⟩ : ∃ X, X = secT t (contT s t) := ⟨_, rfl⟩
    have HXL := hide (show X.length = 64 by rw [hX, secT_length])
    rw [← hX] at HSe HPE
    obtain ⟨UX, hUX⟩ : ∃ U, U = B8 X := ⟨_, rfl⟩
    have HUX := hide (show Value.agg UX.toArray = .agg (B8 X).toArray by rw [hUX])
    have HUQ := hide (show Value.agg US.toArray = .agg (B8 s).toArray by rw [HUS.out])
    rw [← hUX] at HSe
    have HRdC := hide (fun (w1 : World) (g : Nat) (hb : Blk w1 g 51 US.toArray) => (show Reads w1 w1.heap.size 1 (some ⟨g, 11, none⟩) t.len.toNat (B8 (contT s t)) by
      rw [HUS.out] at hb
      have h1 := hb.reads (B := w1.heap.size) (off := 11) (n := 53) hb.lt (by rw [HS.out])
      have h2 := h1.head (k := t.len.toNat) (by have := HTL.out; omega)
      rwa [Nat.mul_one, B8_take] at h2))
    clear hr hX hUX
    cases hd : decide (X = s) with
    | false =>
      rw [hd] at HPE
      have HNE := hide (show (!decide (X = s)) = true by rw [hd]; rfl)
      have HT0 := hide (tagT_no HPE.out)
      rw [HPE.out, HT0.out]
      clear hd
      go_enter Try.func63, Try.ntmps63
      go_wp2_with (first
        | ((with_reducible refine at_slot 1 ?_); refine wpList_box_blk rfl 51 _ rfl (.agg US.toArray) rfl ?_; intro w1 hb1q hl1 hs1; have hzb := hb1q.lt; clear hs1; have hb1 : Blk w1 w.heap.size 51 US.toArray := hb1q; clear hb1q)
        | ((with_reducible refine at_slot 2 ?_); refine wpList_alloc_blk rfl 105 rfl _ (tag_nought _) ?_; intro w2 hb2q hl2 hs2; clear hs2; have hb2 : Blk w2 w1.heap.size 105 (tagC Tg.zero).toArray := hb2q; clear hb2q; have HB1 := hide (hb1.below hl2 hzb); have HB2 := hide hb2; have HL2 := hide (hl1.trans (hl2.mono (by omega))); clear hb1 hb2 hl1 hl2)
        | ((with_reducible refine at_slot 5 ?_); refine wpList_load_blk rfl 51 (.tmp 1) rfl w.heap.size 0 51 _ HB1.out rfl US _ (fun j v hj => by rw [Nat.zero_add]; simpa using hj) Try.underlying51 rfl HIU.out ?_))
      refine (HRd.out w2).mono ?_
      rintro _ w3 ⟨rfl, hl3⟩
      have hz2 := HB2.out.lt
      have hz3 := hl3.size
      have HB1' := hide (HB1.out.below hl3 HB1.out.lt)
      have HB2' := hide (HB2.out.below hl3 HB2.out.lt)
      have HL3 := hide (HL2.out.trans (hl3.mono HL2.out.size))
      clear HB1 HB2 HL2 hl3
      go_wp2_with (first
        | ((with_reducible refine at_slot 4 ?_); refine wpList_alloc_blk rfl 105 rfl _ (tag_nought _) ?_; intro w4 hb4q hl4 hs4; clear hs4; have hb4 : Blk w4 w3.heap.size 105 (tagC Tg.zero).toArray := hb4q; clear hb4q)
        | ((with_reducible refine at_store 4 ?_); refine wpList_store_all rfl 105 (.tmp 4) (.tmp 6) rfl w3.heap.size 105 _ hb4 rfl (tagC t) rfl tag_info rfl (tagC_one _) ?_; intro w5 hb5 hg5 hs5; clear hs5))
      have hl35 : Below w3.heap.size w3 w5 := hl4.grown hg5 hl4.size (fun g e => by injection e with e; omega)
      have hz5 := hb5.lt
      have HB1 := hide (HB1'.out.below hl35 (by omega))
      have HB2 := hide (HB2'.out.below hl35 (by omega))
      have HT5 := hide hb5
      have HL5 := hide (HL3.out.trans (hl35.mono HL3.out.size))
      have hx1 : w.heap.size < w5.heap.size := HB1.out.lt
      have hx2 : w1.heap.size < w5.heap.size := HB2.out.lt
      have HF : Hid (∀ W', Below w5.heap.size w5 W' → (W'.cell? ⟨w3.heap.size, 0, none⟩ = some (.int .i64 t.gen) ∧ W'.cell? ⟨w3.heap.size, 1, none⟩ = some (.int .i64 t.nr) ∧ W'.cell? ⟨w3.heap.size, 2, none⟩ = some (.int .i64 t.part) ∧ W'.cell? ⟨w3.heap.size, 3, none⟩ = some (.int .i64 t.parts) ∧ W'.cell? ⟨w3.heap.size, 4, none⟩ = some (.int .i64 t.len) ∧ W'.rangeAt w.heap.size 0 US ∧ Below w5.heap.size w5 W')) := fun W' hb => ⟨tag_c0 (HT5.out.below hb hz5), tag_c1 (HT5.out.below hb hz5), tag_c2 (HT5.out.below hb hz5), tag_c3 (HT5.out.below hb hz5), tag_c4 (HT5.out.below hb hz5), range_blk (HB1.out.below hb hx1), hb⟩
      clear hb4 hl4 hb5 hg5 hl35 HB1' HB2' HL3
      refine wp_region_held_drew (S := (fun W => W.cell? ⟨w3.heap.size, 0, none⟩ = some (.int .i64 t.gen) ∧ W.cell? ⟨w3.heap.size, 1, none⟩ = some (.int .i64 t.nr) ∧ W.cell? ⟨w3.heap.size, 2, none⟩ = some (.int .i64 t.part) ∧ W.cell? ⟨w3.heap.size, 3, none⟩ = some (.int .i64 t.parts) ∧ W.cell? ⟨w3.heap.size, 4, none⟩ = some (.int .i64 t.len) ∧ W.rangeAt w.heap.size 0 US ∧ Below w5.heap.size w5 W)) (by kernel_rfl) ?_ (fun hHeld => ?_)
      · exact HF.out _ ((Below.refl _ _).drew)
      refine heldTake (i := 0) (v := tagV t) rfl (by kernel_rfl) (by kernel_rfl) (by kernel_rfl) (fun _ _ _ h => h) (Or.inl ⟨by rfl, fun W hW => ?_⟩) (by assumption) ?_
      · dsimp only at hW
        go_split_ands
        go_simp
        rfl
      try simp only [Act.put, List.setIfInBounds_toArray, List.set_cons_zero, List.set_cons_succ]
      refine wpAnyH_ready (rs := [1]) (by kernel_rfl) (by simp) ?_
      refine heldCons (i := 1) rfl (fun Kq hKq => ?_) AllReadyH.nil
      go_simp
      go_at_call 80
      refine (HRi.out _).mono ?_
      rintro _ w6 ⟨rfl, hl6⟩
      have hq6 : Below w5.heap.size w5 w6 := Below.trans (Below.drew (Below.refl _ _)) hl6
      clear hl6
      first | (refine hKq.out _ _ (HF.out _ hq6) (fun hHeld => ?_)) | (go_wp2_with fail; refine hKq.out _ _ (HF.out _ hq6) (fun hHeld => ?_))
      clear hKq Kq
      try simp only [Act.put, List.setIfInBounds_toArray, List.set_cons_zero, List.set_cons_succ]
      refine heldTake (i := 2) (v := ?_) rfl (by kernel_rfl) (by kernel_rfl) (by kernel_rfl) (fun _ _ _ h => h) (Or.inl ⟨by rfl, ?_⟩) (by assumption) ?_
      rotate_left
      · intro w hSw; (try dsimp only at hSw); go_simp <;> (with_reducible rfl)
      try simp only [Act.put, List.setIfInBounds_toArray, List.set_cons_zero, List.set_cons_succ]
      refine heldTake (i := 3) (v := ?_) rfl (by kernel_rfl) (by kernel_rfl) (by kernel_rfl) (fun _ _ _ h => h) (Or.inl ⟨by rfl, ?_⟩) (by assumption) ?_
      rotate_left
      · intro w hSw; (try dsimp only at hSw); go_simp <;> (with_reducible rfl)
      try simp only [Act.put, List.setIfInBounds_toArray, List.set_cons_zero, List.set_cons_succ]
      refine heldTake (i := 4) (v := tagV t) rfl (by kernel_rfl) (by kernel_rfl) (by kernel_rfl) (fun _ _ _ h => h) (Or.inl ⟨by rfl, fun W hW => ?_⟩) (by assumption) ?_
      · dsimp only at hW
        go_split_ands
        go_simp
        rfl
      try simp only [Act.put, List.setIfInBounds_toArray, List.set_cons_zero, List.set_cons_succ]
      refine heldTake (i := 5) (v := .agg US.toArray) rfl (by kernel_rfl) (by kernel_rfl) (by kernel_rfl) (fun _ _ _ h => h) (yieldsIf_load_mid (by rfl) _ _ rfl _ _ rfl US _ (fun W hW => hW.2.2.2.2.2.1) HUN.out rfl HIU.out) (by assumption) ?_
      try simp only [Act.put, List.setIfInBounds_toArray, List.set_cons_zero, List.set_cons_succ]
      refine heldTake (i := 6) (v := tagV t) rfl (by kernel_rfl) (by kernel_rfl) (by kernel_rfl) (fun _ _ _ h => h) (Or.inl ⟨by rfl, fun W hW => ?_⟩) (by assumption) ?_
      · dsimp only at hW
        go_split_ands
        go_simp
        rfl
      try simp only [Act.put, List.setIfInBounds_toArray, List.set_cons_zero, List.set_cons_succ]
      refine heldTake (i := 9) (v := .agg US.toArray) rfl (by kernel_rfl) (by kernel_rfl) (by kernel_rfl) (fun _ _ _ h => h) (yieldsIf_load_mid (by rfl) _ _ rfl _ _ rfl US _ (fun W hW => hW.2.2.2.2.2.1) HUN.out rfl HIU.out) (by assumption) ?_
      try simp only [Act.put, List.setIfInBounds_toArray, List.set_cons_zero, List.set_cons_succ]
      refine wpAnyH_ready (rs := [7]) (by kernel_rfl) (by simp) ?_
      refine heldCons (i := 7) rfl (fun Kq hKq => ?_) AllReadyH.nil
      go_simp
      go_at_call 65
      refine (HCo.out _).mono ?_
      rintro _ w7 ⟨rfl, hb7, hl7⟩
      have hq7 : Below w5.heap.size w5 w7 := Below.trans hq6 (hl7.mono hq6.size)
      have HRC := hide (HRdC.out _ _ hb7)
      clear hl7 hb7
      first | (refine hKq.out _ _ (HF.out _ hq7) (fun hHeld => ?_)) | (go_wp2_with fail; refine hKq.out _ _ (HF.out _ hq7) (fun hHeld => ?_))
      clear hKq Kq
      try simp only [Act.put, List.setIfInBounds_toArray, List.set_cons_zero, List.set_cons_succ]
      refine wpAnyH_ready (rs := [8]) (by kernel_rfl) (by simp) ?_
      refine heldCons (i := 8) rfl (fun Kq hKq => ?_) AllReadyH.nil
      go_simp
      go_at_call 53
      refine (HSe.out _ _ HRC.out).mono ?_
      rintro _ w8 ⟨rfl, hl8⟩
      have hq8 : Below w5.heap.size w5 w8 := Below.trans hq7 (hl8.mono hq7.size)
      clear hl8 HRC
      first | (refine hKq.out _ _ (HF.out _ hq8) (fun hHeld => ?_)) | (go_wp2_with fail; refine hKq.out _ _ (HF.out _ hq8) (fun hHeld => ?_))
      clear hKq Kq
      try simp only [Act.put, List.setIfInBounds_toArray, List.set_cons_zero, List.set_cons_succ]
      refine heldTake (i := 10) (v := .bool true) rfl (by kernel_rfl) (by kernel_rfl) (by kernel_rfl) (fun _ _ _ h => h) ?_ (by assumption) ?_
      · refine exec_neq_bytes (by rfl) 51 5 _ (.tmp 15) (.tmp 16) rfl 64 _ Try.underlying51 Try.underlying5 u8_info8 (by kernel_rfl) (by kernel_rfl) X s HXL.out HS.out ?_ ?_ true HNE.out
        · exact HUX.out
        · exact HUQ.out
      try simp only [Act.put, List.setIfInBounds_toArray, List.set_cons_zero, List.set_cons_succ]
      refine heldTake (i := 11) (v := ?_) rfl (by kernel_rfl) (by kernel_rfl) (by kernel_rfl) (fun _ _ _ h => h) (Or.inl ⟨by rfl, ?_⟩) (by assumption) ?_
      rotate_left
      · intro w hSw; (try dsimp only at hSw); go_simp <;> (with_reducible rfl)
      try simp only [Act.put, List.setIfInBounds_toArray, List.set_cons_zero, List.set_cons_succ]
      refine wpAnyH_done (by kernel_rfl) ?_ _
      have HB28 := hide (HB2.out.below hq8 hx2)
      have HL8 := hide (HL5.out.trans (hq8.mono HL5.out.size))
      go_wp2_with (first
        | ((with_reducible refine at_slot 19 ?_); refine wpList_build_is rfl 105 #[] rfl [] (by simp) (tagC Tg.zero).toArray built_tag0 ?_)
        | ((with_reducible refine at_store 2 ?_); refine wpList_store_all rfl 105 (.tmp 2) (.tmp 19) rfl w1.heap.size 105 _ HB28.out rfl (tagC Tg.zero) rfl tag_info rfl (tagC_one _) ?_; intro w9 hb9 hg9 hs9; clear hs9))
      exact ret_cell_tmp rfl w1.heap.size 105 (tagC Tg.zero) _ hb9 rfl Try.underlying105 rfl tag_info (.bool false) rfl rfl ⟨rfl, HL8.out.grown hg9 HL8.out.size (fun g e => by injection e with e; omega)⟩
    | true =>
      rw [hd] at HPE
      have HNE := hide (show (!decide (X = s)) = false by rw [hd]; rfl)
      have HT0 := hide (show tagT s = t by rw [HTE.out]; exact tagT_yes HPE.out)
      rw [HPE.out, HT0.out]
      clear hd
      go_enter Try.func63, Try.ntmps63
      go_wp2_with (first
        | ((with_reducible refine at_slot 1 ?_); refine wpList_box_blk rfl 51 _ rfl (.agg US.toArray) rfl ?_; intro w1 hb1q hl1 hs1; have hzb := hb1q.lt; clear hs1; have hb1 : Blk w1 w.heap.size 51 US.toArray := hb1q; clear hb1q)
        | ((with_reducible refine at_slot 2 ?_); refine wpList_alloc_blk rfl 105 rfl _ (tag_nought _) ?_; intro w2 hb2q hl2 hs2; clear hs2; have hb2 : Blk w2 w1.heap.size 105 (tagC Tg.zero).toArray := hb2q; clear hb2q; have HB1 := hide (hb1.below hl2 hzb); have HB2 := hide hb2; have HL2 := hide (hl1.trans (hl2.mono (by omega))); clear hb1 hb2 hl1 hl2)
        | ((with_reducible refine at_slot 5 ?_); refine wpList_load_blk rfl 51 (.tmp 1) rfl w.heap.size 0 51 _ HB1.out rfl US _ (fun j v hj => by rw [Nat.zero_add]; simpa using hj) Try.underlying51 rfl HIU.out ?_))
      refine (HRd.out w2).mono ?_
      rintro _ w3 ⟨rfl, hl3⟩
      have hz2 := HB2.out.lt
      have hz3 := hl3.size
      have HB1' := hide (HB1.out.below hl3 HB1.out.lt)
      have HB2' := hide (HB2.out.below hl3 HB2.out.lt)
      have HL3 := hide (HL2.out.trans (hl3.mono HL2.out.size))
      clear HB1 HB2 HL2 hl3
      go_wp2_with (first
        | ((with_reducible refine at_slot 4 ?_); refine wpList_alloc_blk rfl 105 rfl _ (tag_nought _) ?_; intro w4 hb4q hl4 hs4; clear hs4; have hb4 : Blk w4 w3.heap.size 105 (tagC Tg.zero).toArray := hb4q; clear hb4q)
        | ((with_reducible refine at_store 4 ?_); refine wpList_store_all rfl 105 (.tmp 4) (.tmp 6) rfl w3.heap.size 105 _ hb4 rfl (tagC t) rfl tag_info rfl (tagC_one _) ?_; intro w5 hb5 hg5 hs5; clear hs5))
      have hl35 : Below w3.heap.size w3 w5 := hl4.grown hg5 hl4.size (fun g e => by injection e with e; omega)
      have hz5 := hb5.lt
      have HB1 := hide (HB1'.out.below hl35 (by omega))
      have HB2 := hide (HB2'.out.below hl35 (by omega))
      have HT5 := hide hb5
      have HL5 := hide (HL3.out.trans (hl35.mono HL3.out.size))
      have hx1 : w.heap.size < w5.heap.size := HB1.out.lt
      have hx2 : w1.heap.size < w5.heap.size := HB2.out.lt
      have HF : Hid (∀ W', Below w5.heap.size w5 W' → (W'.cell? ⟨w3.heap.size, 0, none⟩ = some (.int .i64 t.gen) ∧ W'.cell? ⟨w3.heap.size, 1, none⟩ = some (.int .i64 t.nr) ∧ W'.cell? ⟨w3.heap.size, 2, none⟩ = some (.int .i64 t.part) ∧ W'.cell? ⟨w3.heap.size, 3, none⟩ = some (.int .i64 t.parts) ∧ W'.cell? ⟨w3.heap.size, 4, none⟩ = some (.int .i64 t.len) ∧ W'.rangeAt w.heap.size 0 US ∧ Below w5.heap.size w5 W')) := fun W' hb => ⟨tag_c0 (HT5.out.below hb hz5), tag_c1 (HT5.out.below hb hz5), tag_c2 (HT5.out.below hb hz5), tag_c3 (HT5.out.below hb hz5), tag_c4 (HT5.out.below hb hz5), range_blk (HB1.out.below hb hx1), hb⟩
      clear hb4 hl4 hb5 hg5 hl35 HB1' HB2' HL3
      refine wp_region_held_drew (S := (fun W => W.cell? ⟨w3.heap.size, 0, none⟩ = some (.int .i64 t.gen) ∧ W.cell? ⟨w3.heap.size, 1, none⟩ = some (.int .i64 t.nr) ∧ W.cell? ⟨w3.heap.size, 2, none⟩ = some (.int .i64 t.part) ∧ W.cell? ⟨w3.heap.size, 3, none⟩ = some (.int .i64 t.parts) ∧ W.cell? ⟨w3.heap.size, 4, none⟩ = some (.int .i64 t.len) ∧ W.rangeAt w.heap.size 0 US ∧ Below w5.heap.size w5 W)) (by kernel_rfl) ?_ (fun hHeld => ?_)
      · exact HF.out _ ((Below.refl _ _).drew)
      refine heldTake (i := 0) (v := tagV t) rfl (by kernel_rfl) (by kernel_rfl) (by kernel_rfl) (fun _ _ _ h => h) (Or.inl ⟨by rfl, fun W hW => ?_⟩) (by assumption) ?_
      · dsimp only at hW
        go_split_ands
        go_simp
        rfl
      try simp only [Act.put, List.setIfInBounds_toArray, List.set_cons_zero, List.set_cons_succ]
      refine wpAnyH_ready (rs := [1]) (by kernel_rfl) (by simp) ?_
      refine heldCons (i := 1) rfl (fun Kq hKq => ?_) AllReadyH.nil
      go_simp
      go_at_call 80
      refine (HRi.out _).mono ?_
      rintro _ w6 ⟨rfl, hl6⟩
      have hq6 : Below w5.heap.size w5 w6 := Below.trans (Below.drew (Below.refl _ _)) hl6
      clear hl6
      first | (refine hKq.out _ _ (HF.out _ hq6) (fun hHeld => ?_)) | (go_wp2_with fail; refine hKq.out _ _ (HF.out _ hq6) (fun hHeld => ?_))
      clear hKq Kq
      try simp only [Act.put, List.setIfInBounds_toArray, List.set_cons_zero, List.set_cons_succ]
      refine heldTake (i := 2) (v := ?_) rfl (by kernel_rfl) (by kernel_rfl) (by kernel_rfl) (fun _ _ _ h => h) (Or.inl ⟨by rfl, ?_⟩) (by assumption) ?_
      rotate_left
      · intro w hSw; (try dsimp only at hSw); go_simp <;> (with_reducible rfl)
      try simp only [Act.put, List.setIfInBounds_toArray, List.set_cons_zero, List.set_cons_succ]
      refine heldTake (i := 3) (v := ?_) rfl (by kernel_rfl) (by kernel_rfl) (by kernel_rfl) (fun _ _ _ h => h) (Or.inl ⟨by rfl, ?_⟩) (by assumption) ?_
      rotate_left
      · intro w hSw; (try dsimp only at hSw); go_simp <;> (with_reducible rfl)
      try simp only [Act.put, List.setIfInBounds_toArray, List.set_cons_zero, List.set_cons_succ]
      refine heldTake (i := 4) (v := tagV t) rfl (by kernel_rfl) (by kernel_rfl) (by kernel_rfl) (fun _ _ _ h => h) (Or.inl ⟨by rfl, fun W hW => ?_⟩) (by assumption) ?_
      · dsimp only at hW
        go_split_ands
        go_simp
        rfl
      try simp only [Act.put, List.setIfInBounds_toArray, List.set_cons_zero, List.set_cons_succ]
      refine heldTake (i := 5) (v := .agg US.toArray) rfl (by kernel_rfl) (by kernel_rfl) (by kernel_rfl) (fun _ _ _ h => h) (yieldsIf_load_mid (by rfl) _ _ rfl _ _ rfl US _ (fun W hW => hW.2.2.2.2.2.1) HUN.out rfl HIU.out) (by assumption) ?_
      try simp only [Act.put, List.setIfInBounds_toArray, List.set_cons_zero, List.set_cons_succ]
      refine heldTake (i := 6) (v := tagV t) rfl (by kernel_rfl) (by kernel_rfl) (by kernel_rfl) (fun _ _ _ h => h) (Or.inl ⟨by rfl, fun W hW => ?_⟩) (by assumption) ?_
      · dsimp only at hW
        go_split_ands
        go_simp
        rfl
      try simp only [Act.put, List.setIfInBounds_toArray, List.set_cons_zero, List.set_cons_succ]
      refine heldTake (i := 9) (v := .agg US.toArray) rfl (by kernel_rfl) (by kernel_rfl) (by kernel_rfl) (fun _ _ _ h => h) (yieldsIf_load_mid (by rfl) _ _ rfl _ _ rfl US _ (fun W hW => hW.2.2.2.2.2.1) HUN.out rfl HIU.out) (by assumption) ?_
      try simp only [Act.put, List.setIfInBounds_toArray, List.set_cons_zero, List.set_cons_succ]
      refine wpAnyH_ready (rs := [7]) (by kernel_rfl) (by simp) ?_
      refine heldCons (i := 7) rfl (fun Kq hKq => ?_) AllReadyH.nil
      go_simp
      go_at_call 65
      refine (HCo.out _).mono ?_
      rintro _ w7 ⟨rfl, hb7, hl7⟩
      have hq7 : Below w5.heap.size w5 w7 := Below.trans hq6 (hl7.mono hq6.size)
      have HRC := hide (HRdC.out _ _ hb7)
      clear hl7 hb7
      first | (refine hKq.out _ _ (HF.out _ hq7) (fun hHeld => ?_)) | (go_wp2_with fail; refine hKq.out _ _ (HF.out _ hq7) (fun hHeld => ?_))
      clear hKq Kq
      try simp only [Act.put, List.setIfInBounds_toArray, List.set_cons_zero, List.set_cons_succ]
      refine wpAnyH_ready (rs := [8]) (by kernel_rfl) (by simp) ?_
      refine heldCons (i := 8) rfl (fun Kq hKq => ?_) AllReadyH.nil
      go_simp
      go_at_call 53
      refine (HSe.out _ _ HRC.out).mono ?_
      rintro _ w8 ⟨rfl, hl8⟩
      have hq8 : Below w5.heap.size w5 w8 := Below.trans hq7 (hl8.mono hq7.size)
      clear hl8 HRC
      first | (refine hKq.out _ _ (HF.out _ hq8) (fun hHeld => ?_)) | (go_wp2_with fail; refine hKq.out _ _ (HF.out _ hq8) (fun hHeld => ?_))
      clear hKq Kq
      try simp only [Act.put, List.setIfInBounds_toArray, List.set_cons_zero, List.set_cons_succ]
      refine heldTake (i := 10) (v := .bool false) rfl (by kernel_rfl) (by kernel_rfl) (by kernel_rfl) (fun _ _ _ h => h) ?_ (by assumption) ?_
      · refine exec_neq_bytes (by rfl) 51 5 _ (.tmp 15) (.tmp 16) rfl 64 _ Try.underlying51 Try.underlying5 u8_info8 (by kernel_rfl) (by kernel_rfl) X s HXL.out HS.out ?_ ?_ false HNE.out
        · exact HUX.out
        · exact HUQ.out
      try simp only [Act.put, List.setIfInBounds_toArray, List.set_cons_zero, List.set_cons_succ]
      refine heldTake (i := 11) (v := ?_) rfl (by kernel_rfl) (by kernel_rfl) (by kernel_rfl) (fun _ _ _ h => h) (Or.inl ⟨by rfl, ?_⟩) (by assumption) ?_
      rotate_left
      · intro w hSw; (try dsimp only at hSw); go_simp <;> (with_reducible rfl)
      try simp only [Act.put, List.setIfInBounds_toArray, List.set_cons_zero, List.set_cons_succ]
      refine wpAnyH_done (by kernel_rfl) ?_ _
      have HB28 := hide (HB2.out.below hq8 hx2)
      have HL8 := hide (HL5.out.trans (hq8.mono HL5.out.size))
      have HT8 := hide (HT5.out.below hq8 hz5)
      go_wp2_with (first
        | ((with_reducible refine at_slot 20 ?_); refine wpList_load_blk rfl 105 (.tmp 4) rfl w3.heap.size 0 105 _ HT8.out rfl (tagC t) _ (fun j v hj => by rw [Nat.zero_add]; simpa using hj) Try.underlying105 rfl tag_info ?_)
        | ((with_reducible refine at_store 2 ?_); refine wpList_store_all rfl 105 (.tmp 2) (.tmp 20) rfl w1.heap.size 105 _ HB28.out rfl (tagC t) rfl tag_info rfl (tagC_one _) ?_; intro w9 hb9 hg9 hs9; clear hs9))
      exact ret_cell_tmp rfl w1.heap.size 105 (tagC t) _ hb9 rfl Try.underlying105 rfl tag_info (.bool true) rfl rfl ⟨rfl, HL8.out.grown hg9 HL8.out.size (fun g e => by injection e with e; omega)⟩
#print axioms tagOf_any
end Go.Proofs.Ytmjdndhpnckeeaa
