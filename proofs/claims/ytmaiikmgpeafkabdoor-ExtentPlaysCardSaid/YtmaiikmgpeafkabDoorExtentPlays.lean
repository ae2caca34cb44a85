/- ExtentPlays. -/
import Derived.Test.YtmaiikmgpeafkabDoorPlaysE
import Derived.Test.YtmaiikmgpeafkabDoorShown6
import Derived.Test.YtmaiikmgpeafkabDoorArgOp6
import Derived.Test.YtmaiikmgpeafkabDoorLaidT
import Derived.Test.YtmaiikmgpeafkabDoorCards
import Derived.Test.YtmaiikmgpeafkabDoorTie
namespace Go.Proofs.YtmaiikmgpeafkabDoor.ExtentPlays
open Go.ChangeShapes Go.WideShapes Go.ChangeAt Go.RowKit Go.Proofs.YtmaiikmgpeafkabDoor

set_option maxRecDepth 100000 in
set_option maxHeartbeats 16000000 in
theorem walk (A0 : Option Addr) (n0 c0 : Nat) (f : Nat → Op6) (w : World) (hT : Tab w) (x0 : Ops6 w w.heap.size A0 n0 f) (_g0 : n0 ≤ c0) (_z0 : c0 ≤ 9223372036854775807) :
    Calls Tryd.prog 3 #[.slice A0 n0 c0] w fun e w' => e = .returned (.bool true) ∧ Below w.heap.size w w' := by
  have HX := hide x0
  have HT := hide hT
  have hpos := hT.pos
  have HSH := hide (shown6_any w hT)
  clear x0 hT
  go_enter Tryd.func3, Tryd.ntmps3
  go_wp2_with (first
    | (go_at_call 4; refine HSH.out.mono ?_; rintro _ w1 ⟨rfl, hl1⟩; have HL1 := hide hl1; have HNE := hide (on_new w1 (Nat.lt_of_lt_of_le hpos hl1.size)); clear hl1)
    | (go_at_call 5; refine HNE.out.mono ?_; rintro _ w2 ⟨rfl, ho2, hl2, hs2⟩; have HO2 := hide ho2; have HL2 := hide hl2; have HS2 := hide hs2; have HNR := hide (rOnE_new w2 (by omega)); clear ho2 hl2 hs2)
    | (go_at_call 6; refine HNR.out.mono ?_; rintro _ w3 ⟨rfl, ho3, hl3, hs3⟩; have HO3 := hide ho3; have HL3 := hide hl3; clear ho3 hl3 hs3))
  obtain ⟨r, hr⟩ : ∃ r, r = w2.heap.size := ⟨_, rfl⟩
  obtain ⟨b0, hb0⟩ : ∃ b0, b0 = w1.heap.size + 1 := ⟨_, rfl⟩
  have HLW0 := hide ((HL1.out.trans (HL2.out.mono HL1.out.size)).trans (HL3.out.mono (HL1.out.trans (HL2.out.mono HL1.out.size)).size))
  have ht0 := two_new (HT.out.turned (Turn.of_below (F := fun _ => False) HL1.out) (fun e => e)) HO2.out HL2.out HS2.out HO3.out HL3.out
  rw [← hb0, ← hr] at ht0
  rw [← hb0, ← hr]
  have HFG0 : Hid (∀ y, (w1.heap.size ≤ y ∧ y < w1.heap.size + 2) ∨ y = r → w.heap.size ≤ y) := hide (fun y hy => by
    have h1 := HL1.out.size
    have h2 := HL2.out.size
    rcases hy with hy | hy <;> omega)
  have HTW0 := hide ht0
  have HOLD0 : Hid (OldE w3 (.pointer none) (.pointer none) (fun y => w1.heap.size ≤ y ∧ y < w1.heap.size + 2) (fun y => y = r)) := hide (.inl ⟨rfl, rfl⟩)
  clear ht0 hb0 hr HL1 HL2 HL3 HS2 HO2 HO3 HNR HNE HSH hpos
  go_loopw [4, 6, 7, 8, 9, 10] (fun m o z i _ _ wx => ∃ (k b : Nat) (S : Ext) (F G : Nat → Prop), k ≤ n0 ∧ k ≤ 150 ∧ m = .pointer (some ⟨b, 0, none⟩) ∧ i = .int .i64 (k : Int) ∧ Hid (TwoE wx b r F G S) ∧ Hid (S.ks.length ≤ k) ∧ Hid (∀ y, F y ∨ G y → w.heap.size ≤ y) ∧ Hid (Below w.heap.size w wx) ∧ Hid (OldE wx o z F G)) (fun _ _ _ i _ _ _ => n0 - (intOf i).toNat)
  case atStart => exact ⟨0, b0, Ext.none_, _, _, Nat.zero_le _, Nat.zero_le _, rfl, rfl, HTW0, hide (Nat.le_refl _), HFG0, HLW0, HOLD0⟩
  case round =>
    obtain ⟨k, b, S, F, G, hkn, hk150, rfl, rfl, HTW, HLEN, HFG, HLW, HOLD⟩ := hrel
    clear HTW0 HFG0 HLW0 HOLD0
    by_cases hk' : k < n0
    · by_cases hk'' : k < 150
      · obtain ⟨ad, hA, _, hcells⟩ := (HX.out.below HLW.out) (by omega)
        obtain ⟨hc, hfit⟩ := hcells k hk'
        subst hA
        obtain ⟨kk, d, n, hs⟩ : ∃ kk d n, f k = ⟨kk, d, n⟩ := ⟨(f k).k, (f k).d, (f k).n, rfl⟩
        rw [hs] at hc hfit
        have hck : wr.cell? (ad.add (k * 3)) = some (.int .i64 kk) := hc 0 _ rfl
        have HLD : Hid (∀ (j : Nat) v, ([.int .i64 kk, .int .i64 d, .int .i64 n] : List Value)[j]? = some v → wr.cell? ((ad.add (k * 3)).add j) = some v) := hide hc
        have HFIT : Hid ((-9223372036854775808 ≤ d ∧ d < 9223372036854775808) ∧ (-9223372036854775808 ≤ n ∧ n < 9223372036854775808)) := hide hfit
        have hik : (k : Int) < (n0 : Int) := by omega
        have h0k : (0 : Int) ≤ (k : Int) := Int.natCast_nonneg k
        clear hcells hc hfit hs
        by_cases h6 : kk = 6
        · subst h6
          go_wp2_with (first
            | (go_at_call 7; refine (rOnE_clone HTW.out.two).mono ?_; rintro _ w4 ⟨rfl, hr4, hl4⟩; have HR4 := hide hr4; have HL4 := hide hl4; have HPC := hide (on_clone (HTW.out.one.later hl4)); clear hr4 hl4)
            | (go_at_call 8; refine HPC.out.mono ?_; rintro _ w5 ⟨rfl, ho5, hl5⟩; obtain ⟨ht5, hold5⟩ := two_cloned HTW.out HR4.out HL4.out ho5 hl5; have HTW2 := hide ht5; have HOLD2 := hide hold5; have HLW2 := hide ((HLW.out.trans (HL4.out.mono HLW.out.size)).trans (hl5.mono (HLW.out.trans (HL4.out.mono HLW.out.size)).size)); have HFG2 := hide (show ∀ y, (w4.heap.size ≤ y ∧ y < w5.heap.size) ∨ G y → w.heap.size ≤ y from fun y hy => (by rcases hy with hy | hy; (· have h1 := HLW.out.size; have h2 := HL4.out.size; omega); (· exact HFG.out y (.inr hy)))); clear ht5 hold5 ho5 hl5)
            | (go_at_call 10; refine (sameE_any HTW2.out).mono ?_; rintro _ w6 ⟨rfl, hl6⟩; have HTW3 := hide (HTW2.out.later hl6); have HOLD3 := hide (HOLD2.out.later hl6); have HLW3 := hide (HLW2.out.trans (hl6.mono HLW2.out.size)); clear hl6))
          go_roundw
          case rel => exact ⟨k + 1, _, S, _, _, by omega, by omega, rfl, by go_num, HTW3, hide (Nat.le_succ_of_le HLEN.out), HFG2, HLW3, HOLD3⟩
          case measure => simp [intOf]; omega
        · have hk6 : (kk == 6) = false := by simpa using h6
          have hdo := does_any HTW.out (by have h1 := HLEN.out; omega) kk d n HFIT.out.2.1 HFIT.out.2.2 HFIT.out.1.1 HFIT.out.1.2
          unfold DoesE at hdo
          have HDO := hide hdo
          clear hdo h6
          go_wp2_with (first
            | (refine wpList_load_at rfl 29 (.tmp 41) rfl (ad.add (k * 3)) rfl [.int .i64 kk, .int .i64 d, .int .i64 n] _ HLD.out Tryd.underlying29 rfl op6_info ?_)
            | (go_at_call 9; refine HDO.out.mono ?_; rintro _ w4 ⟨rfl, S2, F2, G2, ht4, hln, hF4, hG4, hu4⟩; have HTW2 := hide ht4; have HOLD2 := hide (HOLD.out.turned hu4 hF4 hG4 HTW.out.no0); have HLW2 := hide (HLW.out.trans (hu4.below_ HLW.out.size (fun y hy => HFG.out y hy))); have HFG2 := hide (show ∀ y, F2 y ∨ G2 y → w.heap.size ≤ y from fun y hy => (by have h1 := HLW.out.size; rcases hy with hy | hy; (· rcases hF4 y hy with e | e; (· exact HFG.out y (.inl e)); (· omega)); (· rcases hG4 y hy with e | e; (· exact HFG.out y (.inr e)); (· omega)))); have HLEN2 := hide (Nat.le_trans hln (Nat.succ_le_succ HLEN.out)); clear ht4 hln hF4 hG4 hu4)
            | (go_at_call 10; refine (sameE_any HTW2.out).mono ?_; rintro _ w6 ⟨rfl, hl6⟩; have HTW3 := hide (HTW2.out.later hl6); have HOLD3 := hide (HOLD2.out.later hl6); have HLW3 := hide (HLW2.out.trans (hl6.mono HLW2.out.size)); clear hl6))
          go_roundw
          case rel => exact ⟨k + 1, _, S2, _, _, by omega, by omega, rfl, by go_num, HTW3, HLEN2, HFG2, HLW3, HOLD3⟩
          case measure => simp [intOf]; omega
      · obtain rfl : k = 150 := by omega
        have hik : (150 : Int) < (n0 : Int) := by omega
        rcases HOLD.out with ⟨rfl, rfl⟩ | ⟨bo, ro, Fo, Go, So, rfl, rfl, hto, _⟩
        · clear HOLD
          go_wp2_with fail
          go_ret
          exact ⟨rfl, HLW.out⟩
        · have HTO := hide hto
          clear HOLD hto
          go_wp2_with (first
            | (go_at_call 10; refine (sameE_any HTO.out).mono ?_; rintro _ w4 ⟨rfl, hl4⟩; have HL4 := hide (HLW.out.trans (hl4.mono HLW.out.size)); clear hl4))
          go_ret
          exact ⟨rfl, HL4.out⟩
    · obtain rfl : k = n0 := by omega
      rcases HOLD.out with ⟨rfl, rfl⟩ | ⟨bo, ro, Fo, Go, So, rfl, rfl, hto, _⟩
      · clear HOLD
        go_wp2_with fail
        go_ret
        exact ⟨rfl, HLW.out⟩
      · have HTO := hide hto
        clear HOLD hto
        go_wp2_with (first
          | (go_at_call 10; refine (sameE_any HTO.out).mono ?_; rintro _ w4 ⟨rfl, hl4⟩; have HL4 := hide (HLW.out.trans (hl4.mono HLW.out.size)); clear hl4))
        go_ret
        exact ⟨rfl, HL4.out⟩
/-! The row's frame, by program: how the walk above proves the statement. -/
set_option maxRecDepth 100000 in
theorem lifted (os : Os) (started : os.Started) (H : Type) (enc : TypeId × Value → H) :
    ReturnsInHanded {} Tryd.checked os 3 .any (fun w args => (Rows.extentPlaysSpec.pre enc Tryd.prog Tryd.f3 Rows.extentPlaysRow.domain false w args ∧ laidMetH Tryd.prog tabL w) ∧ sizedMet enc Tryd.prog Tryd.f3 (OpenSpec.ofChange Rows.extentPlaysSpec) false w args) (Rows.extentPlaysSpec.post enc Tryd.prog Tryd.f3 false true false false) := by
  refine returnsInHanded_of_change_and (C := Tryd.checked) (X := fun w _ => laidMetH Tryd.prog tabL w) (fun _ _ _ hh h => h.of_heap hh) own started (by kernel_rfl) Tryd.func3
    (ChangeSpec.witness_shaped (enc := enc) (C := Tryd.checked) (os := os) (X := fun w _ => laidMetH Tryd.prog tabL w) false (World.doorLaid Tryd.prog 400 os) #[.slice none 0 0] 8 rfl (World.shaped_of_RefB (by kernel_rfl) (by kernel_rfl)) (by kernel_rfl) (by kernel_rfl) (by kernel_rfl) (door_met os _)) ?_
  intro W base args ds gs before hval0 hW _ _ hL _
  have hval : ∀ (j : Nat) t v, Tryd.f3.params[j]? = some t → args[j]? = some v → Value.okWide Tryd.prog W .any base t v := hval0
  have hW' := hW
  obtain ⟨p, q, hA0, hV, rfl, hfz, hnd⟩ := hW
  have hA : DataW.TrodAll enc Tryd.prog W 0 (fun _ => true) true Tryd.f3.params.toList args.toList ds p := hA0
  rw [Tryd.params3] at hA hval
  obtain ⟨v0, vs0, d0, ds0, p0, q0, hargs, rfl, rfl, h0, r0⟩ := trodAll_cons hA
  obtain ⟨rfl, rfl, rfl⟩ := trodAll_nil r0
  obtain rfl : args = #[v0] := by cases args; simp_all
  obtain ⟨rfl, rfl⟩ := trodVars_none hV
  obtain ⟨A0, n0, c0, rfl⟩ := okWide_slice Tryd.underlying22 (hval 0 22 v0 rfl rfl)
  have k0 := h0
  have lt0 : ∀ x ∈ p0, x.block < W.heap.size := by obtain ⟨m, hm⟩ := k0; exact DataW.trod_lt m _ _ _ hm
  obtain ⟨l0, x0, g0, z0⟩ := arg_ops6 h0
  clear hA0 hval0
  refine (walk A0 n0 c0 l0 W (of_laid hL) x0 g0 z0).mono fun e W' ⟨he, bel⟩ => ?_
  subst he
  exact ⟨_, rfl, _, _, _, [], _, [], hW', trodAll_mk1 (shut_bool Tryd.underlying4 _), (trodAll_cons_mk (Below.trod laidOut (by kernel_rfl) (of_decide_eq_true (by kernel_rfl)) k0 bel lt0) trodAll_mk0), rfl, bel.frame _, fun h => by cases h⟩

theorem over : Rows.extentPlaysRow.holds Tryd.pinned (OpenSpec.ofChange Rows.extentPlaysSpec) :=
  OpenClaim.holds_of_wide 3 Tryd.f3 rfl rfl rfl rfl rfl rfl rfl ⟨rfl, rfl, rfl, rfl, rfl⟩ rfl rfl rfl rfl rfl (by kernel_rfl) Tryd.func3 (by kernel_rfl)
    (of_decide_eq_true (by kernel_rfl)) (by unfold Func.isWrapper; first | (rw [if_pos (by decide +kernel)]; kernel_rfl) | (rw [if_neg (by decide +kernel)]; exact ⟨rfl, rfl⟩))
    (fun os started H enc _ => lifted os started H enc)

/-- The statement: the tied card. -/
theorem proved : Rows.ExtentPlaysCardSaid :=
  Claim7.holds_tied_plain_at .later [] [.data] true Rows.extentPlaysCard.stood.harness Rows.extentPlaysCard.stood.looks
    over (fun _ h => by cases h) (by kernel_rfl) (fun _ h => by cases h) extentPlays_row_tie rfl ⟨rfl, rfl⟩ (by kernel_rfl) rfl
    (fun f fn hf hfn => by
      obtain rfl : f = 3 := Option.some.inj ((show Tryd.prog.funcNamed "braidwork/braidworklaw06.ExtentPlays" = some 3 by kernel_rfl).symm.trans hf) |>.symm
      obtain rfl : fn = Tryd.f3 := (Option.some.inj (Tryd.func3.symm.trans hfn)).symm
      exact ⟨by kernel_rfl, fun j t ht => by
        rw [Tryd.params3] at ht
        have hm : t ∈ [22] := by simpa using Array.mem_of_getElem? ht
        have hall : ([22].all fun u => !Tryd.prog.wantsStandIn u) = true := by kernel_rfl
        exact (show Tryd.prog.wantsStandIn t = false by simpa using List.all_eq_true.1 hall t hm)⟩)
    (by kernel_rfl)
#print axioms proved
end Go.Proofs.YtmaiikmgpeafkabDoor.ExtentPlays
