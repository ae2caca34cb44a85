/- What Has of the reference's map answers. -/
import Derived.Test.YtmaiikmgpeafkabDoorRefU
namespace Go.Proofs.YtmaiikmgpeafkabDoor
open Go.RowKit

section
variable {w : World} {r : Nat} {vm : Value} {vt : Nat → Value} {S : Ext}
set_option maxRecDepth 100000 in
set_option maxHeartbeats 1000000 in
theorem refHas_any (h : RefE w r vm vt S) (hok : S.Ok) (d p : Int) (_h1 : -9223372036854775808 ≤ p) (_h2 : p < 9223372036854775808) (g1 : -9223372036854775808 ≤ d) (g2 : d < 9223372036854775808) :
    Calls Tryd.prog 23 #[.pointer (some ⟨r, 0, none⟩), .agg #[.int .i64 d, .int .i64 p]] w fun e w' => e = .returned (.bool (decide (findE S d p true = 0))) ∧ Below w.heap.size w w' := by
  have HAT : Hid (∀ w1, Below w.heap.size w w1 → Calls Tryd.prog 33 #[.pointer (some ⟨r, 0, none⟩), .int .i64 d] w1 fun e w' => e = .returned (.int .i64 (atE S d)) ∧ w1 = w') := hide (fun w1 hl => refAt_any (h.later hl) hok d g1 g2)
  have HH := hide h
  cases hd : inE S d with
  | false =>
    have HU : Hid (findE S d p true = 8) := hide (findE_out hd)
    rw [atE_out hd] at HAT
    clear h hd
    go_enter Tryd.func23, Tryd.ntmps23
    go_wp2_with (first
      | (refine wpList_box_blk rfl 36 (.tmp 1) rfl (.agg #[.int .i64 d, .int .i64 p]) rfl ?_; intro w1 hb1 hl1 hs1; clear hs1; have e0 : w1.cell? ⟨w.heap.size, 0, none⟩ = some (.int .i64 d) := hb1.cell 0; have HL1 := hide hl1; clear hl1 hb1)
      | (go_at_call 33; refine (HAT.out _ HL1.out).mono ?_; rintro _ _ ⟨rfl, rfl⟩))
    go_ret
    exact ⟨by rw [HU.out]; rfl, HL1.out⟩
  | true =>
    obtain ⟨m, rfl, hm⟩ := inE_nat hd
    obtain ⟨k, hk, hx⟩ := atE_in hm
    have hkl : k < S.ks.length := (List.getElem?_eq_some_iff.1 hx).1
    have hkk : (k : Int) < (S.ks.length : Int) := by omega
    have hf := hok.few
    rw [hk] at HAT
    have HX := hide hx
    have HM := hide hm
    have hnm := hok.small m hm
    obtain ⟨n, hn⟩ : ∃ n, n = S.n m := ⟨_, rfl⟩
    have HN := hide hn
    rw [← hn] at hnm
    have HNM := hide hnm
    have hk0 : decide ((k : Int) < (0 : Int)) = false := by simp
    clear h hd hm hk hx hn hnm
    go_enter Tryd.func23, Tryd.ntmps23
    go_wp2_with (first
      | (refine wpList_box_blk rfl 36 (.tmp 1) rfl (.agg #[.int .i64 (m : Int), .int .i64 p]) rfl ?_; intro w1 hb1 hl1 hs1; clear hs1; have e0 : w1.cell? ⟨w.heap.size, 0, none⟩ = some (.int .i64 (m : Int)) := hb1.cell 0; have e1 : w1.cell? ⟨w.heap.size, 1, none⟩ = some (.int .i64 p) := hb1.cell 1; have HB1 := hide hb1; have HL1 := hide hl1; clear hl1 hb1)
      | (go_at_call 33; refine (HAT.out _ HL1.out).mono ?_; rintro _ _ ⟨rfl, rfl⟩))
    have HR1 := hide (HH.out.later HL1.out)
    clear e0 e1
    go_loopw [6] (fun j0 wx => ∃ j : Nat, j ≤ n ∧ j0 = .int .i64 (j : Int) ∧ Hid (RefE wx r vm vt S) ∧ Hid (Blk wx w.heap.size 36 #[.int .i64 (m : Int), .int .i64 p]) ∧ Hid (Below w.heap.size w wx) ∧ Hid (∀ i, i < j → p ≠ 114 + 8 * (i : Int))) (fun j0 _ => n - (intOf j0).toNat)
    case atStart => exact ⟨0, by omega, rfl, HR1, HB1, HL1, hide (fun i hi => by omega)⟩
    case round =>
      obtain ⟨j, hj, rfl, HR, HX2, HL, HNO⟩ := hrel
      have k0 := HR.out.c0
      have e1 := HX2.out.cell 1
      obtain ⟨ad, c, hvm, hlc, hcm, _, hc1⟩ := HR.out.cell HX.out
      obtain ⟨A, cm, hv, hnc, hcc, hbs⟩ := HR.out.bools HX.out
      rw [hvm] at k0
      rw [hv, ← HN.out] at hc1
      rw [← HN.out] at hnc
      have HB := hide hbs
      clear hv hbs hvm
      have hnm := HNM.out
      by_cases hlt : j < n
      · obtain ⟨g, rfl, hcb, _⟩ := HB.out j (by rw [← HN.out]; exact hlt)
        have hjj : (j : Int) < (n : Int) := by omega
        have HP : Hid (∀ n, Calls Tryd.prog 42 #[.int .i64 (j : Int)] (wr.drewN n) fun e w' => e = .returned (.int .i64 (114 + 8 * (j : Int))) ∧ wr.drewN n = w') := hide (fun n => refPlace_any (j : Int) (by omega) (by omega))
        have HW1 : Hid (wrap64 ((j : Int) + 1) = ((j + 1 : Nat) : Int)) := hide (by unfold wrap64; omega)
        clear hnm
        by_cases hp : p = 114 + 8 * (j : Int)
        · have hbe : (114 + 8 * (j : Int) == p) = true := by rw [beq_iff_eq]; exact hp.symm
          have HA : Hid (decide (findE S (m : Int) p true = 0) = S.t m j) := hide (by
            have ho : oneB (S.n m) p = true := oneB_iff.2 ⟨j, by rw [← HN.out]; exact hlt, hp⟩
            have hi : idxI p = j := by rw [hp, idxI_place]
            cases ht : S.t m j with
            | true => rw [findE_ok HM.out ho (by rw [hi]; exact ht)]; rfl
            | false => rw [findE_not HM.out ho (by rw [hi]; exact ht)]; rfl)
          clear hp
          go_wp2_with fail
          go_quiet (exact quiet_as (HP.out _))
          go_wp2_with fail
          go_ret
          exact ⟨ret_bool HA.out.symm, below_drewN HL.out _⟩
        · have hbe : (114 + 8 * (j : Int) == p) = false := by rw [beq_eq_false_iff_ne]; exact fun e => hp e.symm
          have HNO2 : Hid (∀ i, i < j + 1 → p ≠ 114 + 8 * (i : Int)) := hide (fun i hi e => by
            by_cases hij : i = j
            · subst hij; exact hp e
            · exact HNO.out i (by omega) e)
          clear hp
          go_wp2_with fail
          go_quiet (exact quiet_as (HP.out _))
          have hnm := HNM.out
          go_wp2_with fail
          go_round
          case rel => exact ⟨j + 1, by omega, by go_num, hide (HR.out.drewN _), hide (HX2.out.drewN _), hide (below_drewN HL.out _), HNO2⟩
          case measure => simp [intOf]; omega
      · have HA : Hid (decide (findE S (m : Int) p true = 0) = false) := hide (by
          have ho : oneB (S.n m) p = false := by
            cases ho : oneB (S.n m) p with
            | false => rfl
            | true =>
              obtain ⟨i, hi, e⟩ := oneB_iff.1 ho
              exact absurd e (HNO.out i (by rw [← HN.out] at hi; omega))
          rw [findE_notOne HM.out ho]; rfl)
        have hjj : ¬ ((j : Int) < (n : Int)) := by omega
        clear hnm
        go_wp2_with fail
        go_ret
        exact ⟨ret_bool HA.out.symm, HL.out⟩
end
#print axioms refHas_any
end Go.Proofs.YtmaiikmgpeafkabDoor
