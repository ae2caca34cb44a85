/- MirrorHomes' walk over the contracts; the document's Home. -/
import Derived.Test.YtgfbndmdndpelaaMirS
import Derived.Test.YtgfbndmdndpelaaPoke
namespace Go.Proofs.Ytgfbndmdndpelaa
open Go.RowKit
theorem ext_info : (Try.prog.info? 47).map (·.size) = some 2 := by kernel_rfl
theorem homeV_is (ed ea slot : Int) : ∃ x y : Int, ∃ z : Bool, homeV ed ea slot = .tuple #[.agg #[.int .i64 x, .int .i64 y], .bool z] := by
  unfold homeV
  split
  · exact ⟨_, _, _, rfl⟩
  · exact ⟨_, _, _, rfl⟩
theorem homeV_in {ed ea slot : Int} (h0 : 0 ≤ slot) (h8 : slot < 8) : homeV ed ea slot = .tuple #[.agg #[.int .i64 ed, .int .i64 (ea + slot)], .bool true] := by
  unfold homeV
  rw [if_pos ⟨h0, h8⟩]
theorem homeV_out {ed ea slot : Int} (h : ¬ (0 ≤ slot ∧ slot < 8)) : homeV ed ea slot = .tuple #[.agg #[.int .i64 0, .int .i64 0], .bool false] := by
  unfold homeV
  rw [if_neg h]
set_option maxRecDepth 100000 in
set_option maxHeartbeats 4000000 in
theorem refHome_any (w : World) (ed ea slot : Int) (h1 : -9223372036854775808 ≤ ea) (h2 : ea + 8 ≤ 9223372036854775807) :
    Calls Try.prog 20 #[.agg #[.int .i64 ed, .int .i64 ea], .int .i64 slot] w fun e w' => e = .returned (homeV ed ea slot) ∧ Below w.heap.size w w' := by
  have HEA := hide (And.intro h1 h2)
  clear h1 h2
  go_enter Try.func20, Try.ntmps20
  go_wp2_with (first
    | ((with_reducible refine at_slot 2 ?_); refine wpList_box_blk rfl 47 _ rfl (.agg #[.int .i64 ed, .int .i64 ea]) rfl ?_; intro w1 hbq hl1 hs1; have HB1 : Hid (Blk w1 w.heap.size 47 [.int .i64 ed, .int .i64 ea].toArray) := hide hbq; have HL1 := hide hl1; clear hbq hl1 hs1)
    | ((with_reducible refine at_slot 4 ?_); refine wpList_alloc_blk rfl 33 rfl _ (mplace_zero _) ?_; intro w2 hbq hl2 hs2; have HP2 : Hid (Blk w2 w1.heap.size 33 (plL 0 0).toArray) := hide hbq; have HB2 := hide (HB1.out.below hl2 HB1.out.lt); have HL2 := hide (HL1.out.trans (hl2.mono HL1.out.size)); clear hbq hl2 hs2))
  have c0 : w2.cell? ⟨w.heap.size, 0, none⟩ = some (.int .i64 ed) := HB2.out.cell 0
  have c1 : w2.cell? ⟨w.heap.size, 1, none⟩ = some (.int .i64 ea) := HB2.out.cell 1
  have hz1 := HL1.out.size
  go_loopw [6] (fun s6 wr => ∃ i : Nat, s6 = .int .i64 (i : Int) ∧ i ≤ 8 ∧ wr = w2 ∧ Hid (¬ (0 ≤ slot ∧ slot < (i : Int)))) (fun s6 _ => 8 - (intOf s6).toNat)
  case atStart => exact ⟨0, rfl, by decide, rfl, hide (by omega)⟩
  case round =>
    obtain ⟨i, rfl, hi, hwr, hno⟩ := hrel
    subst hwr
    by_cases hi8 : i < 8
    · have hiw : (i : Int) < 8 := by omega
      by_cases he : (i : Int) = slot
      · subst he
        have HV := hide (homeV_in (ed := ed) (ea := ea) (slot := (i : Int)) (by omega) hiw)
        have hb1 := HEA.out.1
        have hb2 := HEA.out.2
        have hw1 : IntKind.i64.wrap (ea + (i : Int)) = ea + (i : Int) := IntWalk.i64_in _ (by omega)
        clear hno hb1 hb2
        go_wp2_with ((with_reducible refine at_store 4 ?_); refine wpList_store_all rfl 33 (.tmp 4) (.tmp 20) rfl w1.heap.size 33 _ HP2.out rfl (plL ed (ea + (i : Int))) rfl mplace_info rfl (mplace_one _ _) ?_; intro w3 hb3 hg3 hs3; clear hs3)
        refine ret_cell_tmp rfl w1.heap.size 33 (plL ed (ea + (i : Int))) _ hb3 rfl Try.underlying33 rfl mplace_info (.bool true) rfl rfl ⟨by rw [HV.out], ?_⟩
        exact HL2.out.grown hg3 HL2.out.size (fun g e => by injection e with e; omega)
      · have hne : ¬ ((i : Int) = slot) := he
        have hno2 : Hid (¬ (0 ≤ slot ∧ slot < ((i + 1 : Nat) : Int))) := hide (fun h => by have := hno.out; omega)
        go_wp2_with fail
        go_roundw
        case rel => exact ⟨i + 1, by simp, by omega, by first | rfl | trivial, hno2⟩
        case measure => simp [intOf]; omega
    · obtain rfl : i = 8 := by omega
      have HV := hide (homeV_out (ed := ed) (ea := ea) (slot := slot) hno.out)
      clear hno
      go_wp2_with (first
        | ((with_reducible refine at_slot 21 ?_); refine wpList_build_is rfl 33 #[] rfl [] (by simp) _ mplace_built ?_)
        | ((with_reducible refine at_store 4 ?_); refine wpList_store_all rfl 33 (.tmp 4) (.tmp 21) rfl w1.heap.size 33 _ HP2.out rfl (plL 0 0) rfl mplace_info rfl (mplace_one _ _) ?_; intro w3 hb3 hg3 hs3; clear hs3))
      refine ret_cell_tmp rfl w1.heap.size 33 (plL 0 0) _ hb3 rfl Try.underlying33 rfl mplace_info (.bool false) rfl rfl ⟨by rw [HV.out], ?_⟩
      exact HL2.out.grown hg3 HL2.out.size (fun g e => by injection e with e; omega)
#print axioms refHome_any
theorem mask20 (v : Int) : ∃ N : Nat, bits .and .i64 v 1048575 = (N : Int) ∧ N < 1048576 := by
  have h := i64_mask v 20 (by decide)
  have h2 : bits .and .i64 v 1048575 = v % 1048576 := h
  exact ⟨(v % 1048576).toNat, by rw [h2]; omega, by omega⟩
set_option maxRecDepth 100000 in
set_option maxHeartbeats 4000000 in
theorem mirrorHomes_walk (K : MirK) (d a s : Int) (hs1 : -9223372036854775808 ≤ s) (hs2 : s ≤ 9223372036854775807) (w : World) :
    Calls Try.prog 4 #[.agg #[.int .i64 d, .int .i64 a], .int .i64 s] w fun e w' => e = .returned (.bool true) ∧ Below w.heap.size w w' := by
  obtain ⟨m, hm, hm2⟩ := mask20 a
  obtain ⟨x, y, z, hv⟩ := homeV_is d (m : Int) s
  have HK := hide (fun w => hv ▸ K.home_any w d (m : Int) s (by omega) (by omega) hs1 hs2)
  have HR := hide (fun w => hv ▸ refHome_any w d (m : Int) s (by omega) (by omega))
  have HSH := hide (fun w => shown12_any K w)
  clear hv hs1 hs2 hm2
  go_enter Try.func4, Try.ntmps4
  go_wp2_with (first
    | ((with_reducible refine at_slot 2 ?_); refine wpList_box_blk rfl 47 _ rfl (.agg #[.int .i64 d, .int .i64 a]) rfl ?_; intro w1 hbq hl1 hs1; have HB1 : Hid (Blk w1 w.heap.size 47 [.int .i64 d, .int .i64 a].toArray) := hide hbq; have HL1 := hide hl1; clear hbq hl1 hs1)
    | (go_at_call 9; refine (HSH.out w1).mono ?_; rintro _ w2 ⟨rfl, hl2⟩; have HB2 := hide (HB1.out.below hl2 HB1.out.lt); have HL2 := hide (HL1.out.trans (hl2.mono HL1.out.size)); have c1 : w2.cell? ⟨w.heap.size, 1, none⟩ = some (.int .i64 a) := HB2.out.cell 1; clear hl2)
    | ((with_reducible refine at_store 14 ?_); refine wpList_poke rfl 3 (.tmp 14) (.tmp 13) rfl w.heap.size 1 47 _ HB2.out rfl (.int .i64 (m : Int)) rfl rfl (by kernel_rfl) (by show 1 < 2; decide) ?_; intro w3 hbq hg3 hs3; have HB3 : Hid (Blk w3 w.heap.size 47 [.int .i64 d, .int .i64 (m : Int)].toArray) := hide hbq; have HL3 := hide (HL2.out.grown hg3 HL2.out.size (fun g e => by injection e with e; omega)); clear hbq hg3 hs3)
    | ((with_reducible refine at_slot 16 ?_); refine wpList_load_blk rfl 47 (.tmp 2) rfl w.heap.size 0 47 _ HB3.out rfl [.int .i64 d, .int .i64 (m : Int)] _ (fun j v hj => by rw [Nat.zero_add]; simpa using hj) Try.underlying47 rfl ext_info ?_)
    | (go_at_call 19; refine (HK.out w3).mono ?_; rintro _ w4 ⟨rfl, hl4⟩; have HB4 := hide (HB3.out.below hl4 HB3.out.lt); have HL4 := hide (HL3.out.trans (hl4.mono HL3.out.size)); clear hl4)
    | ((with_reducible refine at_slot 6 ?_); refine wpList_alloc_blk rfl 33 rfl _ (mplace_zero _) ?_; intro w5 hbq hl5 hs5; clear hs5)
    | ((with_reducible refine at_store 6 ?_); refine wpList_store_all rfl 33 (.tmp 6) (.tmp 19) rfl w4.heap.size 33 _ hbq rfl (plL x y) rfl mplace_info rfl (mplace_one _ _) ?_; intro w6 hbz hg hs; have hz := hbq.lt; have hl46 : Below w4.heap.size w4 w6 := hl5.grown hg (by omega) (fun g e => by injection e with e; omega); have HP6 := hide hbz; have HB6 := hide (HB4.out.below hl46 HB4.out.lt); have HL6 := hide (HL4.out.trans (hl46.mono HL4.out.size)); clear hs hg hbz hz hl46 hbq hl5)
    | ((with_reducible refine at_slot 22 ?_); refine wpList_load_blk rfl 47 (.tmp 2) rfl w.heap.size 0 47 _ HB6.out rfl [.int .i64 d, .int .i64 (m : Int)] _ (fun j v hj => by rw [Nat.zero_add]; simpa using hj) Try.underlying47 rfl ext_info ?_)
    | (go_at_call 20; refine (HR.out w6).mono ?_; rintro _ w7 ⟨rfl, hl7⟩; have HP7 := hide (HP6.out.below hl7 HP6.out.lt); have HL7 := hide (HL6.out.trans (hl7.mono HL6.out.size)); clear hl7)
    | ((with_reducible refine at_slot 8 ?_); refine wpList_alloc_blk rfl 33 rfl _ (mplace_zero _) ?_; intro w8 hbq hl8 hs8; clear hs8)
    | ((with_reducible refine at_store 8 ?_); refine wpList_store_all rfl 33 (.tmp 8) (.tmp 25) rfl w7.heap.size 33 _ hbq rfl (plL x y) rfl mplace_info rfl (mplace_one _ _) ?_; intro w9 hbz hg hs; have hz := hbq.lt; have hl79 : Below w7.heap.size w7 w9 := hl8.grown hg (by omega) (fun g e => by injection e with e; omega); have HQ9 := hide hbz; have HP9 := hide (HP7.out.below hl79 HP7.out.lt); have HL9 := hide (HL7.out.trans (hl79.mono HL7.out.size)); clear hs hg hbz hz hl79 hbq hl8)
    | ((with_reducible refine at_slot 29 ?_); refine when_load rfl 33 (.tmp 6) rfl w4.heap.size 0 33 _ HP9.out rfl (plL x y) _ (fun j v hj => by rw [Nat.zero_add]; simpa using hj) Try.underlying33 rfl mplace_info ?_)
    | ((with_reducible refine at_slot 30 ?_); refine when_load rfl 33 (.tmp 8) rfl w7.heap.size 0 33 _ HQ9.out rfl (plL x y) _ (fun j v hj => by rw [Nat.zero_add]; simpa using hj) Try.underlying33 rfl mplace_info ?_)
    | ((with_reducible refine at_slot 31 ?_); refine when_eqPl rfl (.tmp 29) (.tmp 30) _ rfl x y x y rfl rfl true (by simp) ?_))

  go_ret
  exact ⟨by simp, HL9.out⟩
#print axioms mirrorHomes_walk
end Go.Proofs.Ytgfbndmdndpelaa
