/- What Take of the reference's map does. -/
import Derived.Test.YtmaiikmgpeafkabDoorRefS
namespace Go.Proofs.YtmaiikmgpeafkabDoor
open Go.RowKit

section
variable {w : World} {r : Nat} {vm : Value} {vt : Nat → Value} {S : Ext}
set_option maxRecDepth 100000 in
set_option maxHeartbeats 2000000 in
theorem refTake_any (h : RefE w r vm vt S) (hok : S.Ok) (d : Int) (g1 : -9223372036854775808 ≤ d) (g2 : d < 9223372036854775808) :
    Calls Tryd.prog 24 #[.pointer (some ⟨r, 0, none⟩), .int .i64 d] w fun e w' => ∃ v S', e = .returned v ∧ TakeE S d v S' ∧ RefE w' r vm vt S' ∧ Turn (RFootE r vm vt S) w w' := by
  have HAT : Hid (∀ w1, Below w.heap.size w w1 → Calls Tryd.prog 33 #[.pointer (some ⟨r, 0, none⟩), .int .i64 d] w1 fun e w' => e = .returned (.int .i64 (atE S d)) ∧ w1 = w') := hide (fun w1 hl => refAt_any (h.later hl) hok d g1 g2)
  have HH := hide h
  cases hd : inE S d with
  | false =>
    rw [atE_out hd] at HAT
    have HD := hide hd
    clear h hd
    go_enter Tryd.func24, Tryd.ntmps24
    go_wp2_with (first
      | (refine wpList_alloc_blk rfl 36 rfl _ (Tryd.zeroValue36 _) ?_; intro w1 hb1 hl1 hs1; clear hs1; have HL1 := hide hl1)
      | (go_at_call 33; refine (HAT.out _ HL1.out).mono ?_; rintro _ _ ⟨rfl, rfl⟩)
      | (refine wpList_build_is rfl 36 #[] rfl [] (by simp) _ ext2_built0 ?_)
      | (refine wpList_store_all rfl 36 (.tmp 4) (.tmp 13) rfl w.heap.size 36 _ hb1 rfl [.int .i64 0, .int .i64 0] rfl ext2_info rfl (ext2_one _ _) ?_; intro w2 hb2 hg2 hs2; clear hs2))
    have hlw : Below w.heap.size w w2 := hl1.grown hg2 hl1.size (fun g e => by injection e with e; omega)
    refine ret_cell_tmp rfl w.heap.size 36 [.int .i64 0, .int .i64 0] _ hb2 rfl Tryd.underlying36 rfl ext2_info _ rfl rfl ?_
    exact ⟨_, S, rfl, .inl ⟨HD.out, rfl, rfl⟩, HH.out.later hlw, Turn.of_below hlw⟩
  | true =>
    obtain ⟨m, rfl, hm⟩ := inE_nat hd
    obtain ⟨k, hk, hx⟩ := atE_in hm
    have hkl : k < S.ks.length := (List.getElem?_eq_some_iff.1 hx).1
    have hkk : (k : Int) < (S.ks.length : Int) := by omega
    have hf := hok.few
    rw [hk] at HAT
    have HX := hide hx
    have HM := hide hm
    have hnm := hok.small m hm
    obtain ⟨n, hn⟩ : ∃ n, n = S.n m := ⟨_, rfl⟩
    have HN := hide hn
    rw [← hn] at hnm
    have hk0 : decide ((k : Int) < (0 : Int)) = false := by simp
    clear h hd hm hk hx hn
    go_enter Tryd.func24, Tryd.ntmps24
    go_wp2_with (first
      | (refine wpList_alloc_blk rfl 36 rfl _ (Tryd.zeroValue36 _) ?_; intro w1 hb1 hl1 hs1; clear hs1; have HB1 := hide hb1; have HL1 := hide hl1; clear hb1 hl1)
      | (go_at_call 33; refine (HAT.out _ HL1.out).mono ?_; rintro _ _ ⟨rfl, rfl⟩))
    have HR1 := hide (HH.out.later HL1.out)
    have k0 := HR1.out.c0
    obtain ⟨ad, c, hvm, hlc, hcm, _, hc1⟩ := HR1.out.cell HX.out
    obtain ⟨A, cm, hv, hnc, hcc, hbs⟩ := HR1.out.bools HX.out
    rw [hvm] at k0
    have HV := hide hv
    rw [hv, ← HN.out] at hc1
    rw [← HN.out] at hnc
    have HB := hide hbs
    clear hv hbs hvm
    go_loop [7] (fun j0 => ∃ j : Nat, j ≤ n ∧ j0 = .int .i64 (j : Int) ∧ Hid (∀ i, i < j → S.t m i = true)) (fun j0 => n - (intOf j0).toNat)
    case atStart => exact ⟨0, by omega, rfl, hide (fun i hi => by omega)⟩
    case round =>
      obtain ⟨j, hj, rfl, HNO⟩ := hrel
      by_cases hlt : j < n
      · obtain ⟨g, rfl, hcb, hfz⟩ := HB.out j (by rw [← HN.out]; exact hlt)
        have hjj : (j : Int) < (n : Int) := by omega
        cases ht : S.t m j with
        | true =>
          have HNO2 : Hid (∀ i, i < j + 1 → S.t m i = true) := hide (fun i hi => by
            by_cases hij : i = j
            · subst hij; exact ht
            · exact HNO.out i (by omega))
          rw [ht] at hcb
          clear ht
          go_wp2_with fail
          go_round
          case rel => exact ⟨j + 1, by omega, by go_num, HNO2⟩
          case measure => simp [intOf]; omega
        | false =>
          have HT := hide ht
          rw [ht] at hcb
          obtain ⟨q1, q2⟩ := HR1.out.poke (i := j) HM.out HV.out true
          obtain ⟨w2, hw2⟩ : ∃ w2, w2 = w1.setCell ⟨g, j, none⟩ (.bool true) := ⟨_, rfl⟩
          rw [← hw2] at q1 q2
          have hrow := HR1.out.mem m HM.out
          have hgb := HB1.out.far (p := ⟨g, j, none⟩) (fun e => kind_blk_ne hrow HB1.out (by decide) (by rw [HV.out, e]; rfl)) (.bool true)
          rw [← hw2] at hgb
          have HW2 := hide hw2
          have HB2 := hide hgb
          have HQ1 := hide q1
          have HQ2 := hide q2
          clear ht q1 q2 hw2 hrow hgb
          go_wp2_with (first
            | (go_at_call 42; rw [← HW2.out]; refine (refPlace_any (j : Int) (by omega) (by omega)).mono ?_; rintro _ _ ⟨rfl, rfl⟩)
            | (refine wpList_build_is rfl 36 #[(0, .tmp 49), (1, .tmp 51)] rfl [(0, .int .i64 (m : Int)), (1, .int .i64 (114 + 8 * (j : Int)))] (by simp only [List.map_toArray, List.map_cons, List.map_nil]; rfl) _ (ext2_built _ _) ?_)
            | (refine wpList_store_all rfl 36 (.tmp 4) (.tmp 52) rfl w.heap.size 36 _ HB2.out rfl [.int .i64 (m : Int), .int .i64 (114 + 8 * (j : Int))] rfl ext2_info rfl (ext2_one _ _) ?_; intro w3 hb3 hg3 hs3; clear hs3))
          have hlt3 := HL1.out.size
          refine ret_cell_tmp rfl w.heap.size 36 [.int .i64 (m : Int), .int .i64 (114 + 8 * (j : Int))] _ hb3 rfl Tryd.underlying36 rfl ext2_info _ rfl rfl ?_
          refine ⟨_, _, rfl, .inr (.inr ⟨m, j, rfl, HM.out, by rw [← HN.out]; exact hlt, HT.out, HNO.out, rfl, rfl⟩), HQ1.out.kept fun y hy => hg3.block y (HQ1.out.foot_lt y hy) (fun e => ?_), ((Turn.of_below HL1.out).trans HQ2.out).grown hg3 (fun g e => ?_)⟩
          · injection e with e
            subst e
            exact absurd (HH.out.foot_lt _ hy) (by omega)
          · injection e with e
            exact .inr (by omega)
      · have HA : Hid (∀ i, i < S.n m → S.t m i = true) := hide (fun i hi => HNO.out i (by rw [← HN.out] at hi; omega))
        have hjj : ¬ ((j : Int) < (n : Int)) := by omega
        go_wp2_with (first
          | (refine wpList_build_is rfl 36 #[] rfl [] (by simp) _ ext2_built0 ?_)
          | (refine wpList_store_all rfl 36 (.tmp 4) (.tmp 53) rfl w.heap.size 36 _ HB1.out rfl [.int .i64 0, .int .i64 0] rfl ext2_info rfl (ext2_one _ _) ?_; intro w3 hb3 hg3 hs3; clear hs3))
        have hlw : Below w.heap.size w w3 := HL1.out.grown hg3 HL1.out.size (fun g e => by injection e with e; omega)
        refine ret_cell_tmp rfl w.heap.size 36 [.int .i64 0, .int .i64 0] _ hb3 rfl Tryd.underlying36 rfl ext2_info _ rfl rfl ?_
        exact ⟨_, rfl, S, .inr (.inl ⟨m, rfl, HM.out, HA.out, rfl, rfl⟩), HH.out.later hlw, Turn.of_below hlw⟩
end
#print axioms refTake_any
end Go.Proofs.YtmaiikmgpeafkabDoor
