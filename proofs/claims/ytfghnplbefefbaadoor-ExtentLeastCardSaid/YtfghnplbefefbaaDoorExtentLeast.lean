/- ExtentLeast holds: for every number that a member's size is made of and every row of numbers of extents that are taken: TakeAt is OK just for those that are free; then Take tells the free ones one by one, from the least on; then there is no room. No condition besides the card's own: math/bits.deBruijn64tab is as its initialiser lays it. -/
import Derived.Test.YtfghnplbefefbaaDoorLaidT
import Derived.Test.YtfghnplbefefbaaDoorCards
import Derived.Test.YtfghnplbefefbaaDoorTie
import Derived.Test.YtfghnplbefefbaaDoorExtL
import Derived.Deep.DeepCutAuto
import Derived.Deep.CutBlock
namespace Go.Proofs.YtfghnplbefefbaaDoor.ExtentLeast
open Go.ChangeShapes Go.WideShapes Go.ChangeAt Go.RowKit
set_option linter.unusedVariables false
def both (t : Nat → Bool) (i : Nat) : Nat → Bool := fun j => t j || decide (j < i)
theorem both_zero (t : Nat → Bool) : both t 0 = t := by funext j; simp [both]
theorem both_next {t : Nat → Bool} {i : Nat} (h : t i = true) : both t i = both t (i + 1) := by
  funext j
  unfold both
  by_cases e : j = i
  · subst e; simp [h]
  · have : decide (j < i) = decide (j < i + 1) := by rw [Bool.eq_iff_iff]; simp; omega
    rw [this]
theorem both_put (t : Nat → Bool) (i : Nat) : put (both t i) i true = both t (i + 1) := by
  funext j
  by_cases e : j = i
  · subst e; rw [put_self]; simp [both]
  · rw [put_ne _ _ e]
    unfold both
    have : decide (j < i) = decide (j < i + 1) := by rw [Bool.eq_iff_iff]; simp; omega
    rw [this]
theorem both_low (t : Nat → Bool) {i j : Nat} (h : j < i) : both t i j = true := by simp [both, h]
theorem both_at {t : Nat → Bool} {i : Nat} (h : t i = false) : both t i i = false := by simp [both, h]
set_option maxRecDepth 100000 in
set_option maxHeartbeats 8000000 in
theorem walk (n : Int) (A1 : Option Addr) (n1 c1 : Nat) (l1 : List Int) (w : World) (hT : Tab w) (_ : -9223372036854775808 ≤ n) (_ : n ≤ 9223372036854775807)
    (hr1 : Reads w w.heap.size 1 A1 n1 (I64 l1)) (_ : ∀ z ∈ l1, -9223372036854775808 ≤ z ∧ z ≤ 9223372036854775807) (hc1 : n1 ≤ c1) (hcc1 : c1 ≤ 9223372036854775807) :
    Calls Tryd.prog 6 #[.int .i64 n, .slice A1 n1 c1] w fun e w' => e = .returned (.bool true) ∧ Below w.heap.size w w' := by
  obtain ⟨i0, hi0, hz0, hz1, hz2⟩ := info_parts bool_info
  obtain ⟨M, N, hmask, hrem, hrem2, hN, hM⟩ := mask6 n
  have hpos := hT.pos
  go_enter Tryd.func6, Tryd.ntmps6
  go_wp2_with fail
  refine (shown6_any w hT).mono ?_
  rintro _ w1 ⟨rfl, hb1⟩
  have hT1 := hT.later hb1
  clear hT
  have hz1' := hb1.size
  go_wp2_with fail
  refine (on_new w1 (by omega)).mono ?_
  rintro _ w2 ⟨rfl, ho2, hl2, hs2⟩
  obtain ⟨b, hb⟩ : ∃ b, b = w1.heap.size + 1 := ⟨_, rfl⟩
  rw [← hb] at ho2 ⊢
  clear hb
  obtain ⟨ha1, ha2⟩ := add_more (S := Ext.none_) (d := 0) (s := (N : Int)) (by omega) (by omega) (by simp [Ext.none_])
  have HA1 := hide ha1
  have HA2 := hide ha2
  have HO2 := hide ho2
  clear hmask hrem hrem2 ha1 ha2 ho2
  go_wp2_with fail
  refine (on_add HO2.out (by decide) 0 (N : Int) (by decide) (by decide)).mono ?_
  rw [show addE Ext.none_ 0 (N : Int) = 0 from HA1.out, show Ext.none_.more 0 (N : Int) = Ext.none_.add 0 (countZ (N : Int)) from HA2.out, One_new]
  rintro _ w3 ⟨rfl, ho, ht⟩
  have hcle := countZ_le (s := (N : Int)) (by omega)
  obtain ⟨q, hq⟩ : ∃ q, q = countZ (N : Int) := ⟨_, rfl⟩
  rw [← hq] at hcle ho
  have HQ := hide hq.symm
  clear hq
  have hF : ∀ y, Grew (fun y => w1.heap.size ≤ y ∧ y < w1.heap.size + 2) w2 w3 y → w.heap.size ≤ y := fun y hy => by rcases hy with hy | hy <;> omega
  have hfl : ∀ y, Grew (fun y => w1.heap.size ≤ y ∧ y < w1.heap.size + 2) w2 w3 y → y < w3.heap.size := fun y hy => by have := ht.size; rcases hy with hy | hy <;> omega
  have hwb : Below w.heap.size w w3 := (hb1.trans (hl2.mono hb1.size)).trans (ht.below_ (by omega) (fun y hy => by omega))
  have htb : Tab w3 := (hT1.later hl2).turned ht (fun h => by omega)
  generalize Grew (fun y => w1.heap.size ≤ y ∧ y < w1.heap.size + 2) w2 w3 = F at ho hF hfl
  have HF := hide hF
  have HFL := hide hfl
  clear hb1 hT1 hl2 ht HO2 HA1 HA2 hs2 hz1' hF hfl
  go_wp2_with fail
  refine (extCount_any (N : Int) (by omega) (by omega)).mono ?_
  rw [HQ.out]
  rintro _ _ ⟨rfl, rfl⟩
  have hmk : (Instr.makeSlice 50 (.int .i64 (q : Int)) (.int .i64 (q : Int))).run Tryd.prog w3 = .ok (.slice (some ⟨w3.heap.size, 0, none⟩) q q) (w3.alloc (.cells (BL q (fun _ => false)).toArray 4)) := run_make_list w3 _ _ i0 _ Tryd.underlying50 hi0 hz0 hz1 rfl q _ (BL_none q) (by rw [hz2]; omega) (by omega)
  obtain ⟨g, hg⟩ : ∃ g, g = w3.heap.size := ⟨_, rfl⟩
  obtain ⟨wa, hwa⟩ : ∃ wa, wa = w3.alloc (.cells (BL q (fun _ => false)).toArray 4) := ⟨_, rfl⟩
  rw [← hwa, ← hg] at hmk
  have hla : Below w3.heap.size w3 wa := by rw [hwa]; exact (Below.refl _ _).alloc (Nat.le_refl _) _
  have hlit := World.ownsRow_lit (base := w.heap.size) (e := 4) (size := 1) w3 (BL q (fun _ => false)).toArray q hwb.size (by unfold maxLen; omega) (by simp [BL_length])
  have HR : Hid (wa.ownsRow w.heap.size 4 1 (.slice (some ⟨g, 0, none⟩) q q) q (BL q (fun _ => false))) := hide (by rw [hwa, hg]; simpa using hlit)
  have HG : Hid (∀ g', (Value.slice (some ⟨g, 0, none⟩) q q).ownBlock = some g' → ¬ F g') := hide (by
    intro g' e h
    simp only [Value.ownBlock] at e
    injection e with e
    have := HFL.out _ h
    omega)
  have HG0 : Hid (¬ F 0) := hide (fun h => by have := HF.out _ h; omega)
  have HGB : Hid (w.heap.size ≤ (⟨g, 0, none⟩ : Addr).block) := hide (by show _ ≤ g; rw [hg]; exact hwb.size)
  have HGF : Hid (¬ F g) := HG.out g rfl
  have HO := hide (ho.later hla)
  have HW := hide (hwb.trans (hla.mono hwb.size))
  have HT := hide (htb.later hla)
  clear ho hla hlit hwb htb hwa hg hz0 hi0 hz1 hz2
  go_upto_block 0 with fail
  clear hmk
  go_cut [9, 10, 11] (fun _ _ _ wr => ∃ t : Nat → Bool, Hid (ExtOn wr b F (One 0 q t) ∧ wr.ownsRow w.heap.size 4 1 (.slice (some ⟨g, 0, none⟩) q q) q (BL q t) ∧ Below w.heap.size w wr ∧ Tab wr))
  case first =>
    go_wp2_with fail
    go_loopw [9] (fun a wr => ∃ (k : Nat) (t : Nat → Bool), k ≤ n1 ∧ k ≤ 300 ∧ a = .int .i64 (k : Int) ∧ Hid (ExtOn wr b F (One 0 q t) ∧ wr.ownsRow w.heap.size 4 1 (.slice (some ⟨g, 0, none⟩) q q) q (BL q t) ∧ Below w.heap.size w wr ∧ Tab wr)) (fun a _ => 300 - (intOf a).toNat)
    case atStart => exact ⟨0, _, Nat.zero_le _, Nat.zero_le _, rfl, hide ⟨HO.out, HR.out, HW.out, HT.out⟩⟩
    case round =>
      clear HO HR HW HT
      obtain ⟨k, t, hk1, hk3, rfl, HREL⟩ := hrel
      by_cases hk : k < n1
      · have hd1 : decide (k < n1) = true := by simpa using hk
        by_cases hlt : k < 300
        · by_cases hq0 : 0 < q
          · obtain ⟨ad, x, rfl, hab, hx, hc⟩ := (hr1.below HREL.out.2.2.1).i64_at hk
            clear hx
            obtain ⟨M2, hmask2, hM2⟩ := mask20 x
            obtain ⟨j, hj⟩ : ∃ j, j = M2 % q := ⟨_, rfl⟩
            have hjq : j < q := by rw [hj]; exact Nat.mod_lt _ hq0
            have hrem : (M2 : Int) % (q : Int) = (j : Int) := by rw [hj]; exact (Int.natCast_emod _ _).symm
            have hrem2 : (M2 : Int).tmod (q : Int) = (j : Int) := by rw [Int.tmod_eq_emod_of_nonneg (by omega)]; exact hrem
            have hqne : ¬ ((q : Int) = 0) := by omega
            have hqp : (0 : Int) < (q : Int) := by omega
            clear hj
            obtain ⟨hho, hhr, hhw, hht⟩ := HREL.out
            have HO := hide hho
            have HR := hide hhr
            have HW := hide hhw
            have HT := hide hht
            clear hho hhr hhw hht HREL
            have ht1 := hide (One_take (d := 0) (t := t) hjq).1
            have ht2 := hide (One_take (d := 0) (t := t) hjq).2
            go_wp2_with (first
              | ((with_reducible refine at_slot 58 ?_); refine when_build rfl 45 #[(1, .tmp 57)] rfl [(1, .int .i64 (114 + 8 * (j : Int)))] (by simp only [List.map_toArray, List.map_cons, List.map_nil]; rfl) _ (ext2_built1 _) ?_)
              | (go_at_call 13; refine (extPlace_any (j : Int) (by omega) (by omega)).mono ?_; rintro _ _ ⟨rfl, rfl⟩))
            refine (on_takeAt HO.out 0 (114 + 8 * (j : Int)) (by omega) (by omega) (by decide) (by decide)).mono ?_
            rw [show findE (One 0 q t) 0 (114 + 8 * (j : Int)) false = _ from ht1.out, show (One 0 q t).poke 0 (114 + 8 * (j : Int)) true = _ from ht2.out]
            rintro _ w5 ⟨rfl, ho5, ht5⟩
            have hr5 := own_turned HR.out ht5 HG.out
            have hcell := (hr5.cellAt j (by omega)).trans (BL_at q t hjq)
            have hf5 := hr5.frozenAt j
            have hw5 := HW.out.trans (ht5.below_ HW.out.size HF.out)
            have hT5 := HT.out.turned ht5 HG0.out
            have hr6 := (hr5.stored j (.bool true)).1
            rw [BL_set] at hr6
            have HF6 := hide (show ExtOn (w5.setCell ⟨g, j, none⟩ (.bool true)) b F (One 0 q (put t j true)) from ho5.grown (grown_set (grown_refl w5 (some g)) ⟨g, j, none⟩ rfl (.bool true)) (fun g' e => by injection e with e; subst e; exact HGF.out))
            have HR6 := hide hr6
            have HW6 := hide (hw5.setCell (p := ⟨g, j, none⟩) HGB.out (.bool true))
            have HT6 : Hid (Tab (w5.setCell ⟨g, j, none⟩ (.bool true))) := hide (hT5.below ((Below.refl 1 w5).setCell (p := ⟨g, j, none⟩) (by have := HGB.out; simp only at this ⊢; omega) (.bool true)) (Nat.one_pos))
            clear hr5 hw5 hT5 hr6 ho5 ht5
            cases htj : t j
            · rw [htj] at hcell
              have HTJ := hide htj
              clear htj
              go_wp2
              go_roundw
              case rel => exact ⟨k + 1, put t j true, by omega, by omega, by go_num, hide ⟨HF6.out, HR6.out, HW6.out, HT6.out⟩⟩
              case measure => simp [intOf]; omega
            · rw [htj] at hcell
              have HTJ := hide htj
              clear htj
              go_wp2
              go_roundw
              case rel => exact ⟨k + 1, put t j true, by omega, by omega, by go_num, hide ⟨HF6.out, HR6.out, HW6.out, HT6.out⟩⟩
              case measure => simp [intOf]; omega
          · have hq00 : ¬ ((0 : Int) < (q : Int)) := by omega
            have hd3 : decide ((k : Int) < 300) = true := by simp; omega
            go_wp2_with fail
            go_meet
            exact ⟨t, HREL⟩
        · have hd3 : decide ((k : Int) < 300) = false := by simp; omega
          go_wp2_with fail
          go_meet
          exact ⟨t, HREL⟩
      · have hd1 : decide (k < n1) = false := by simpa using hk
        go_wp2_with fail
        go_meet
        exact ⟨t, HREL⟩
  case rest =>
    clear HO HR HW HT
    obtain ⟨t, HREL⟩ := hcut
    obtain ⟨hho, hhr, hhw, hht⟩ := HREL.out
    have HO := hide hho
    have HR := hide hhr
    have HW := hide hhw
    have HT := hide hht
    clear hho hhr hhw hht HREL
    go_wp2_with fail
    go_loopw [12] (fun a wr => ∃ (i : Nat), i ≤ q ∧ a = .int .i64 (i : Int) ∧ Hid (ExtOn wr b F (One 0 q (both t i)) ∧ wr.ownsRow w.heap.size 4 1 (.slice (some ⟨g, 0, none⟩) q q) q (BL q t) ∧ Below w.heap.size w wr ∧ Tab wr)) (fun a _ => q - (intOf a).toNat)
    case atStart => exact ⟨0, Nat.zero_le _, rfl, hide ⟨by rw [both_zero]; exact HO.out, HR.out, HW.out, HT.out⟩⟩
    case round =>
      clear HO HR HW HT
      obtain ⟨i, hi, rfl, HREL⟩ := hrel
      obtain ⟨hho, hhr, hhw, hht⟩ := HREL.out
      have HO := hide hho
      have HR := hide hhr
      have HW := hide hhw
      have HT := hide hht
      clear hho hhr hhw hht HREL
      by_cases hiq : i < q
      · have hii : (i : Int) < (q : Int) := by omega
        have hcell := (HR.out.cellAt i (by omega)).trans (BL_at q t hiq)
        cases hti : t i
        · rw [hti] at hcell
          have HTI := hide hti
          clear hti
          go_wp2_with fail
          refine (on_take_yes HO.out HT.out 0 i (One_in _ _ _) (by rw [One_n]; exact hiq) (by rw [One_t]; exact both_at HTI.out) (fun j hj => by rw [One_t]; exact both_low _ hj)).mono ?_
          rw [One_t, One_set, both_put]
          rintro _ w5 ⟨rfl, ho5, ht5⟩
          have hr5 := own_turned HR.out ht5 HG.out
          have hw5 := HW.out.trans (ht5.below_ HW.out.size HF.out)
          have hT5 := HT.out.turned ht5 HG0.out
          have HO5 := hide ho5
          have HR5 := hide hr5
          have HW5 := hide hw5
          have HT5 := hide hT5
          clear hr5 hw5 hT5 ho5 ht5 hcell
          go_wp2_with (first
            | ((with_reducible refine at_slot 13 ?_); refine wpList_alloc_blk rfl 45 rfl _ (Tryd.zeroValue45 _) ?_; intro u hba hla hsa; clear hsa)
            | ((with_reducible refine at_store 13 ?_); refine wpList_store_all rfl 45 (.tmp 13) (.tmp 82) rfl w5.heap.size 45 _ hba rfl [.int .i64 ((0 : Nat) : Int), .int .i64 (114 + 8 * (i : Int))] rfl ext2_info rfl (ext2_one _ _) ?_; intro w6 hbq hg hs; clear hs))
          have hl : Below w5.heap.size w5 w6 := hla.grown hg hla.size (fun g e => by injection e with e; omega)
          have HREL6 := hide (And.intro (HO5.out.later hl) (And.intro (own_later HR5.out hl) (And.intro (HW5.out.trans (hl.mono HW5.out.size)) (HT5.out.later hl))))
          have hx1 : w6.cell? ⟨w5.heap.size, 1, none⟩ = some (.int .i64 (114 + 8 * (i : Int))) := hbq.cell 1
          clear hba hla hbq hg hl
          go_quiet (first | (go_at_call 13; exact quiet_as (extPlace_any (i : Int) (by omega) (by omega))))
          go_wp2
          go_roundw
          case rel => exact ⟨i + 1, by omega, by go_num, hide ⟨HREL6.out.1.drewN _, HREL6.out.2.1, below_drewN HREL6.out.2.2.1 _, HREL6.out.2.2.2⟩⟩
          case measure => simp [intOf]; omega
        · rw [hti] at hcell
          have HTI := hide hti
          clear hti
          go_wp2_with fail
          go_roundw
          case rel => exact ⟨i + 1, by omega, by go_num, hide ⟨by rw [← both_next HTI.out]; exact HO.out, HR.out, HW.out, HT.out⟩⟩
          case measure => simp [intOf]; omega
      · have hii : ¬ ((i : Int) < (q : Int)) := by omega
        obtain rfl : i = q := by omega
        have hall : ∀ j, j < i → both t i j = true := fun j hj => both_low t hj
        have HA := hide hall
        clear hall
        go_wp2_with fail
        refine (on_take_full HO.out HT.out 0 (One_in _ _ _) (fun j hj => by rw [One_t]; rw [One_n] at hj; exact HA.out j hj)).mono ?_
        rintro _ w5 ⟨rfl, ho5, ht5⟩
        have hw5 := HW.out.trans (ht5.below_ HW.out.size HF.out)
        have HO5 := hide ho5
        have HW5 := hide hw5
        clear hw5 ho5 ht5
        have HU : Hid (usedE (One 0 i (both t i)) 0 = i) := hide (by rw [show usedE (One 0 i (both t i)) 0 = _ from usedE_in (m := 0) (One_in _ _ _), One_t, One_n]; exact cnt_all HA.out)
        have HV : Hid (roomE (One 0 i (both t i)) 0 = 0) := hide (by rw [show roomE (One 0 i (both t i)) 0 = _ from roomE_in (m := 0) (One_in _ _ _), One_t, One_n, cnt_all HA.out]; omega)
        go_wp2_with (first
          | ((with_reducible refine at_slot 15 ?_); refine wpList_alloc_blk rfl 45 rfl _ (Tryd.zeroValue45 _) ?_; intro u hba hla hsa; clear hsa)
          | ((with_reducible refine at_store 15 ?_); refine wpList_store_all rfl 45 (.tmp 15) (.tmp 96) rfl w5.heap.size 45 _ hba rfl [.int .i64 0, .int .i64 0] rfl ext2_info rfl (ext2_one _ _) ?_; intro w6 hbq hg hs; clear hs; have hl : Below w5.heap.size w5 w6 := hla.grown hg hla.size (fun g e => by injection e with e; omega); have HO6 := hide (HO5.out.later hl); have HW6 := hide (HW5.out.trans (hl.mono HW5.out.size)))
          | (go_at_call 29; refine (on_used HO6.out 0 (by decide) (by decide)).mono ?_; rw [HU.out]; rintro _ _ ⟨rfl, rfl⟩)
          | (go_at_call 25; refine (on_room HO6.out 0 (by decide) (by decide)).mono ?_; rw [HV.out]; rintro _ _ ⟨rfl, rfl⟩))
        go_ret
        exact ⟨rfl, HW6.out⟩

/-! The row's frame, by program: how the walk above proves the statement. -/
set_option maxRecDepth 100000 in
theorem lifted (os : Os) (started : os.Started) (H : Type) (enc : TypeId × Value → H) :
    ReturnsInHanded {} Tryd.checked os 6 .any (fun w args => (Rows.extentLeastSpec.pre enc Tryd.prog Tryd.f6 Rows.extentLeastRow.domain false w args ∧ laidMetH Tryd.prog tabL w) ∧ sizedMet enc Tryd.prog Tryd.f6 (OpenSpec.ofChange Rows.extentLeastSpec) false w args) (Rows.extentLeastSpec.post enc Tryd.prog Tryd.f6 false true false false) := by
  refine returnsInHanded_of_change_and (C := Tryd.checked) (X := fun w _ => laidMetH Tryd.prog tabL w) (fun _ _ _ hh h => h.of_heap hh) own started (by kernel_rfl) Tryd.func6
    (ChangeSpec.witness_shaped (enc := enc) (C := Tryd.checked) (os := os) (X := fun w _ => laidMetH Tryd.prog tabL w) false (World.doorLaid Tryd.prog 400 os) #[.int .i64 0, .slice none 0 0] 8 rfl (World.shaped_of_RefB (by kernel_rfl) (by kernel_rfl)) (by kernel_rfl) (by kernel_rfl) (by kernel_rfl) (door_met os _)) ?_
  intro W base args ds gs before hval0 hW _ _ hL _
  have hval : ∀ (j : Nat) t v, Tryd.f6.params[j]? = some t → args[j]? = some v → Value.okWide Tryd.prog W .any base t v := hval0
  have hW' := hW
  obtain ⟨p, q, hA0, hV, rfl, hfz, hnd⟩ := hW
  have hA : DataW.TrodAll enc Tryd.prog W 0 (fun _ => true) true Tryd.f6.params.toList args.toList ds p := hA0
  rw [Tryd.params6] at hA hval
  obtain ⟨v0, vs0, d0, ds0, p0, q0, hargs, rfl, rfl, h0, r0⟩ := trodAll_cons hA
  obtain ⟨v1, vs1, d1, ds1, p1, q1, rfl, rfl, rfl, h1, r1⟩ := trodAll_cons r0
  obtain ⟨rfl, rfl, rfl⟩ := trodAll_nil r1
  obtain rfl : args = #[v0, v1] := by cases args; simp_all
  obtain ⟨rfl, rfl⟩ := trodVars_none hV
  obtain ⟨a0, rfl, rfl, rfl, w0⟩ := open_int Tryd.underlying3 (hval 0 3 v0 rfl rfl) h0
  have b0 := bounds_i64 w0
  obtain ⟨A1, n1, c1, rfl⟩ := okWide_slice Tryd.underlying37 (hval 1 37 v1 rfl rfl)
  have k1 := h1
  have lt1 : ∀ x ∈ p1, x.block < W.heap.size := by obtain ⟨m, hm⟩ := k1; exact DataW.trod_lt m _ _ _ hm
  obtain ⟨l1, x1, y1, g1, z1⟩ := arg_ints h1
  clear hA0 hval0
  refine (walk a0 A1 n1 c1 l1 W (of_laid hL) b0.1 b0.2 x1 y1 g1 z1).mono fun e W' ⟨he, bel⟩ => ?_
  subst he
  exact ⟨_, rfl, _, _, _, [], _, [], hW', trodAll_mk1 (shut_bool Tryd.underlying4 _), (trodAll_cons_mk (shut_int Tryd.underlying3 w0) (trodAll_cons_mk (Below.trod laidOut (by kernel_rfl) (of_decide_eq_true (by kernel_rfl)) k1 bel lt1) trodAll_mk0)), rfl, bel.frame _, fun h => by cases h⟩

theorem over : Rows.extentLeastRow.holds Tryd.pinned (OpenSpec.ofChange Rows.extentLeastSpec) :=
  OpenClaim.holds_of_wide 6 Tryd.f6 rfl rfl rfl rfl rfl rfl rfl ⟨rfl, rfl, rfl, rfl, rfl⟩ rfl rfl rfl rfl rfl (by kernel_rfl) Tryd.func6 (by kernel_rfl)
    (of_decide_eq_true (by kernel_rfl)) (by unfold Func.isWrapper; first | (rw [if_pos (by decide +kernel)]; kernel_rfl) | (rw [if_neg (by decide +kernel)]; exact ⟨rfl, rfl⟩))
    (fun os started H enc _ => lifted os started H enc)

/-- The statement: the tied card. -/
theorem proved : Rows.ExtentLeastCardSaid :=
  Claim7.holds_tied_plain_at .later [] [.data] true Rows.extentLeastCard.stood.harness Rows.extentLeastCard.stood.looks
    over (fun _ h => by cases h) (by kernel_rfl) (fun _ h => by cases h) extentLeast_row_tie rfl ⟨rfl, rfl⟩ (by kernel_rfl) rfl
    (fun f fn hf hfn => by
      obtain rfl : f = 6 := Option.some.inj ((show Tryd.prog.funcNamed "braidwork/braidworklaw06.ExtentLeast" = some 6 by kernel_rfl).symm.trans hf) |>.symm
      obtain rfl : fn = Tryd.f6 := (Option.some.inj (Tryd.func6.symm.trans hfn)).symm
      exact ⟨by kernel_rfl, fun j t ht => by
        rw [Tryd.params6] at ht
        have hm : t ∈ [3, 37] := by simpa using Array.mem_of_getElem? ht
        have hall : ([3, 37].all fun u => !Tryd.prog.wantsStandIn u) = true := by kernel_rfl
        exact (show Tryd.prog.wantsStandIn t = false by simpa using List.all_eq_true.1 hall t hm)⟩)
    (by kernel_rfl)
#print axioms proved
end Go.Proofs.YtfghnplbefefbaaDoor.ExtentLeast
