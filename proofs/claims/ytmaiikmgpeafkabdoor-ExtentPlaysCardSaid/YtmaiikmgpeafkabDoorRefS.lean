/- What set, TakeAt and Free of the reference's map do. -/
import Derived.Test.YtmaiikmgpeafkabDoorRefH
namespace Go.Proofs.YtmaiikmgpeafkabDoor
open Go.RowKit

theorem kinds_ne {w : World} {e e' : TypeId} {size size' : Nat} {v v' : Value} {n n' : Nat} {xs xs' : List Value} (h : w.ownsRow 0 e size v n xs) (h' : w.ownsRow 0 e' size' v' n' xs') (hne : e ≠ e') {g : Nat} (hg : v.ownBlock = some g) : v'.ownBlock ≠ some g := by
  intro hg'
  obtain ⟨cs, h1⟩ := own_kind h hg
  obtain ⟨cs', h2⟩ := own_kind h' hg'
  have := h1.symm.trans h2
  simp only [Option.some.injEq, Obj.cells.injEq] at this
  exact hne this.2.1
theorem kind_blk_ne {w : World} {e t : TypeId} {size : Nat} {v : Value} {n : Nat} {xs : List Value} {cs : Array Value} (h : w.ownsRow 0 e size v n xs) {b : Nat} (hb : Blk w b t cs) (hne : e ≠ t) : v.ownBlock ≠ some b := by
  intro hg
  obtain ⟨cs', h1⟩ := own_kind h hg
  have := h1.symm.trans hb
  simp only [Option.some.injEq, Obj.cells.injEq] at this
  exact hne this.2.1
section
variable {w : World} {r : Nat} {vm : Value} {vt : Nat → Value} {S : Ext}
/-- One boolean of a member's row is written over. -/
theorem RefE.poke (h : RefE w r vm vt S) {m g c i : Nat} (hm : m ∈ S.ks) (hv : vt m = .slice (some ⟨g, 0, none⟩) (S.n m) c) (v : Bool) :
    RefE (w.setCell ⟨g, i, none⟩ (.bool v)) r vm vt (S.setT m (put (S.t m) i v)) ∧ Turn (RFootE r vm vt S) w (w.setCell ⟨g, i, none⟩ (.bool v)) := by
  have hrow := h.mem m hm
  have hg : (vt m).ownBlock = some g := by rw [hv]; rfl
  have hfar : ∀ y, y ≠ g → (w.setCell ⟨g, i, none⟩ (.bool v)).heap[y]? = w.heap[y]? := fun y hy => Below.heap_setCell w ⟨g, i, none⟩ (.bool v) y hy
  have hgr : r ≠ g := fun e => kind_blk_ne hrow h.head (by decide) (e ▸ hg)
  have hst : (w.setCell ⟨g, i, none⟩ (.bool v)).ownsRow 0 4 1 (vt m) (S.n m) (BL (S.n m) (put (S.t m) i v)) := by
    rw [hv] at hrow ⊢
    have h2 := (hrow.stored i (.bool v)).1
    rw [BL_set] at h2
    exact h2
  refine ⟨⟨h.head.of_block (hfar r hgr), own_of_block h.row (fun y hy => hfar y (fun e => kinds_ne hrow h.row (by decide) hg (e ▸ hy))), fun d hd => ?_, h.inj⟩, (Turn.refl _ w).set _ (.inl (.inr (.inr ⟨m, hm, hg⟩))) _⟩
  by_cases e : d = m
  · subst e
    show World.ownsRow _ 0 _ 1 (vt d) (S.n d) (BL (S.n d) (upd S.t d (put (S.t d) i v) d))
    rw [upd_self]
    exact hst
  · show World.ownsRow _ 0 _ 1 (vt d) (S.n d) (BL (S.n d) (upd S.t m (put (S.t m) i v) d))
    have hu : upd S.t m (put (S.t m) i v) d = S.t d := by simp [upd, e]
    rw [hu]
    exact own_of_block (h.mem d hd) (fun y hy => hfar y (fun e2 => e (h.inj d hd m hm y hy (e2 ▸ hg))))
theorem RFootE_setT (m : Nat) (t : Nat → Bool) : ∀ y, RFootE r vm vt (S.setT m t) y ↔ RFootE r vm vt S y := fun _ => Iff.rfl
set_option maxRecDepth 100000 in
set_option maxHeartbeats 2000000 in
theorem refSet_any (h : RefE w r vm vt S) (hok : S.Ok) (d p : Int) (v : Bool) (_h1 : -9223372036854775808 ≤ p) (_h2 : p < 9223372036854775808) (g1 : -9223372036854775808 ≤ d) (g2 : d < 9223372036854775808) :
    Calls Tryd.prog 39 #[.pointer (some ⟨r, 0, none⟩), .agg #[.int .i64 d, .int .i64 p], .bool v] w fun e w' => e = .returned (.int .i64 (findE S d p (!v))) ∧ RefE w' r vm vt (S.poke d p v) ∧ Turn (RFootE r vm vt S) w w' := by
  have HAT : Hid (∀ w1, Below w.heap.size w w1 → Calls Tryd.prog 33 #[.pointer (some ⟨r, 0, none⟩), .int .i64 d] w1 fun e w' => e = .returned (.int .i64 (atE S d)) ∧ w1 = w') := hide (fun w1 hl => refAt_any (h.later hl) hok d g1 g2)
  have HH := hide h
  cases hd : inE S d with
  | false =>
    have HU : Hid (findE S d p (!v) = 8) := hide (findE_out hd)
    rw [atE_out hd] at HAT
    clear h hd
    go_enter Tryd.func39, Tryd.ntmps39
    go_wp2_with (first
      | (refine wpList_box_blk rfl 36 (.tmp 1) rfl (.agg #[.int .i64 d, .int .i64 p]) rfl ?_; intro w1 hb1 hl1 hs1; clear hs1; have e0 : w1.cell? ⟨w.heap.size, 0, none⟩ = some (.int .i64 d) := hb1.cell 0; have HL1 := hide hl1; clear hl1 hb1)
      | (go_at_call 33; refine (HAT.out _ HL1.out).mono ?_; rintro _ _ ⟨rfl, rfl⟩))
    go_ret
    refine ⟨by rw [HU.out]; rfl, ?_, Turn.of_below HL1.out⟩
    rw [poke_no (by rw [HU.out]; decide)]
    exact HH.out.later HL1.out
  | true =>
    obtain ⟨m, rfl, hm⟩ := inE_nat hd
    obtain ⟨k, hk, hx⟩ := atE_in hm
    have hkl : k < S.ks.length := (List.getElem?_eq_some_iff.1 hx).1
    have hkk : (k : Int) < (S.ks.length : Int) := by omega
    have hf := hok.few
    rw [hk] at HAT
    have HX := hide hx
    have HM := hide hm
    have hnm := hok.small m hm
    obtain ⟨n, hn⟩ : ∃ n, n = S.n m := ⟨_, rfl⟩
    have HN := hide hn
    rw [← hn] at hnm
    have HNM := hide hnm
    have hk0 : decide ((k : Int) < (0 : Int)) = false := by simp
    clear h hd hm hk hx hn hnm
    go_enter Tryd.func39, Tryd.ntmps39
    go_wp2_with (first
      | (refine wpList_box_blk rfl 36 (.tmp 1) rfl (.agg #[.int .i64 (m : Int), .int .i64 p]) rfl ?_; intro w1 hb1 hl1 hs1; clear hs1; have e0 : w1.cell? ⟨w.heap.size, 0, none⟩ = some (.int .i64 (m : Int)) := hb1.cell 0; have HB1 := hide hb1; have HL1 := hide hl1; clear hl1 hb1)
      | (go_at_call 33; refine (HAT.out _ HL1.out).mono ?_; rintro _ _ ⟨rfl, rfl⟩))
    have HR1 := hide (HH.out.later HL1.out)
    clear e0
    go_loopw [8] (fun j0 wx => ∃ j : Nat, j ≤ n ∧ j0 = .int .i64 (j : Int) ∧ Hid (RefE wx r vm vt S) ∧ Hid (Blk wx w.heap.size 36 #[.int .i64 (m : Int), .int .i64 p]) ∧ Hid (Below w.heap.size w wx) ∧ Hid (∀ i, i < j → p ≠ 114 + 8 * (i : Int))) (fun j0 _ => n - (intOf j0).toNat)
    case atStart => exact ⟨0, by omega, rfl, HR1, HB1, HL1, hide (fun i hi => by omega)⟩
    case round =>
      obtain ⟨j, hj, rfl, HR, HX2, HL, HNO⟩ := hrel
      have k0 := HR.out.c0
      have e1 := HX2.out.cell 1
      obtain ⟨ad, c, hvm, hlc, hcm, _, hc1⟩ := HR.out.cell HX.out
      obtain ⟨A, cm, hv, hnc, hcc, hbs⟩ := HR.out.bools HX.out
      rw [hvm] at k0
      have HV := hide hv
      rw [hv, ← HN.out] at hc1
      rw [← HN.out] at hnc
      have HB := hide hbs
      clear hv hbs hvm
      by_cases hlt : j < n
      · obtain ⟨g, rfl, hcb, hfz⟩ := HB.out j (by rw [← HN.out]; exact hlt)
        have hjj : (j : Int) < (n : Int) := by omega
        have hnm := HNM.out
        have HP : Hid (∀ n, Calls Tryd.prog 42 #[.int .i64 (j : Int)] (wr.drewN n) fun e w' => e = .returned (.int .i64 (114 + 8 * (j : Int))) ∧ wr.drewN n = w') := hide (fun n => refPlace_any (j : Int) (by omega) (by omega))
        clear hnm
        by_cases hp : p = 114 + 8 * (j : Int)
        · have hbe : (114 + 8 * (j : Int) != p) = false := by rw [bne_eq_false_iff_eq]; exact hp.symm
          have HO : Hid (oneB (S.n m) p = true) := hide (oneB_iff.2 ⟨j, by rw [← HN.out]; exact hlt, hp⟩)
          have HI : Hid (idxI p = j) := hide (by rw [hp, idxI_place])
          clear hp
          by_cases htv : S.t m j = v
          · have HT := hide htv
            have HA : Hid (findE S (m : Int) p (!v) = 9) := hide (findE_not HM.out HO.out (by rw [HI.out, htv, Bool.not_not]))
            rw [htv] at hcb
            have hbv : (v == v) = true := beq_self_eq_true v
            clear htv hfz
            go_wp2_with fail
            go_quiet (exact quiet_as (HP.out _))
            go_wp2_with fail
            go_ret
            refine ⟨ret_of HA.out.symm, ?_, Turn.of_below (below_drewN HL.out _)⟩
            rw [poke_no (by rw [HA.out]; decide)]
            exact HR.out.drewN _
          · have hnv : S.t m j = !v := by revert htv; cases S.t m j <;> cases v <;> decide
            have HA : Hid (findE S (m : Int) p (!v) = 0) := hide (findE_ok HM.out HO.out (by rw [HI.out]; exact hnv))
            have HPK : Hid (S.poke (m : Int) p v = S.setT m (put (S.t m) j v)) := hide (by rw [poke_yes HM.out HO.out (by rw [HI.out]; exact hnv), HI.out])
            rw [hnv] at hcb
            have hbv : ((!v) == v) = false := by cases v <;> rfl
            clear htv hnv
            go_wp2_with fail
            go_quiet (exact quiet_as (HP.out _))
            go_wp2_with fail
            go_ret
            obtain ⟨q1, q2⟩ := (HR.out.drewN _).poke (i := j) HM.out HV.out v
            refine ⟨ret_of HA.out.symm, ?_, (Turn.of_below (below_drewN HL.out _)).trans q2⟩
            rw [HPK.out]
            exact q1
        · have hbe : (114 + 8 * (j : Int) != p) = true := by rw [bne_iff_ne]; exact fun e => hp e.symm
          have HNO2 : Hid (∀ i, i < j + 1 → p ≠ 114 + 8 * (i : Int)) := hide (fun i hi e => by
            by_cases hij : i = j
            · subst hij; exact hp e
            · exact HNO.out i (by omega) e)
          clear hp
          go_wp2_with fail
          go_quiet (exact quiet_as (HP.out _))
          have hnm := HNM.out
          go_wp2_with fail
          go_round
          case rel => exact ⟨j + 1, by omega, by go_num, hide (HR.out.drewN _), hide (HX2.out.drewN _), hide (below_drewN HL.out _), HNO2⟩
          case measure => simp [intOf]; omega
      · have HA : Hid (findE S (m : Int) p (!v) = 1) := hide (by
          have ho : oneB (S.n m) p = false := by
            cases ho : oneB (S.n m) p with
            | false => rfl
            | true =>
              obtain ⟨i, hi, e⟩ := oneB_iff.1 ho
              exact absurd e (HNO.out i (by rw [← HN.out] at hi; omega))
          exact findE_notOne HM.out ho)
        have hjj : ¬ ((j : Int) < (n : Int)) := by omega
        go_wp2_with fail
        go_ret
        refine ⟨ret_of HA.out.symm, ?_, Turn.of_below HL.out⟩
        rw [poke_no (by rw [HA.out]; decide)]
        exact HR.out
theorem refTakeAt_any (h : RefE w r vm vt S) (hok : S.Ok) (d p : Int) (h1 : -9223372036854775808 ≤ p) (h2 : p < 9223372036854775808) (g1 : -9223372036854775808 ≤ d) (g2 : d < 9223372036854775808) :
    Calls Tryd.prog 19 #[.pointer (some ⟨r, 0, none⟩), .agg #[.int .i64 d, .int .i64 p]] w fun e w' => e = .returned (.int .i64 (findE S d p false)) ∧ RefE w' r vm vt (S.poke d p true) ∧ Turn (RFootE r vm vt S) w w' := by
  have HS : Hid (∀ w1, Below w.heap.size w w1 → _) := hide (fun w1 (hl : Below w.heap.size w w1) => refSet_any (h.later hl) hok d p true h1 h2 g1 g2)
  go_enter Tryd.func19, Tryd.ntmps19
  go_wp2_with (first
    | (refine wpList_box_blk rfl 36 (.tmp 1) rfl (.agg #[.int .i64 d, .int .i64 p]) rfl ?_; intro w1 hb1 hl1 hs1; clear hs1; have e0 : w1.cell? ⟨w.heap.size, 0, none⟩ = some (.int .i64 d) := hb1.cell 0; have e1 : w1.cell? ⟨w.heap.size, 1, none⟩ = some (.int .i64 p) := hb1.cell 1)
    | fail)
  refine (HS.out _ hl1).mono ?_
  rintro _ w2 ⟨rfl, a1, a2⟩
  go_wp2_with fail
  go_ret
  exact ⟨rfl, a1, (Turn.of_below hl1).trans a2⟩
theorem refFree_any (h : RefE w r vm vt S) (hok : S.Ok) (d p : Int) (h1 : -9223372036854775808 ≤ p) (h2 : p < 9223372036854775808) (g1 : -9223372036854775808 ≤ d) (g2 : d < 9223372036854775808) :
    Calls Tryd.prog 21 #[.pointer (some ⟨r, 0, none⟩), .agg #[.int .i64 d, .int .i64 p]] w fun e w' => e = .returned (.int .i64 (findE S d p true)) ∧ RefE w' r vm vt (S.poke d p false) ∧ Turn (RFootE r vm vt S) w w' := by
  have HS : Hid (∀ w1, Below w.heap.size w w1 → _) := hide (fun w1 (hl : Below w.heap.size w w1) => refSet_any (h.later hl) hok d p false h1 h2 g1 g2)
  go_enter Tryd.func21, Tryd.ntmps21
  go_wp2_with (first
    | (refine wpList_box_blk rfl 36 (.tmp 1) rfl (.agg #[.int .i64 d, .int .i64 p]) rfl ?_; intro w1 hb1 hl1 hs1; clear hs1; have e0 : w1.cell? ⟨w.heap.size, 0, none⟩ = some (.int .i64 d) := hb1.cell 0; have e1 : w1.cell? ⟨w.heap.size, 1, none⟩ = some (.int .i64 p) := hb1.cell 1)
    | fail)
  refine (HS.out _ hl1).mono ?_
  rintro _ w2 ⟨rfl, a1, a2⟩
  go_wp2_with fail
  go_ret
  exact ⟨rfl, a1, (Turn.of_below hl1).trans a2⟩
end
#print axioms refTakeAt_any
end Go.Proofs.YtmaiikmgpeafkabDoor
