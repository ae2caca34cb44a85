/- ExtentCounts holds: for every number that a member's size is made of and every sector: Count says what the reference says (and 0 of -1 and of the least number), each Place of an extent is the reference's, is read by Index as that extent, and lies within the member behind the base; and Index says of any sector what the reference says. No condition besides the card's own: math/bits.deBruijn64tab is as its initialiser lays it. -/
import Derived.Test.YtfghnplbefefbaaDoorLaidT
import Derived.Test.YtfghnplbefefbaaDoorCards
import Derived.Test.YtfghnplbefefbaaDoorTie
import Derived.Test.YtfghnplbefefbaaDoorMask6
import Derived.Test.YtfghnplbefefbaaDoorExtR
namespace Go.Proofs.YtfghnplbefefbaaDoor.ExtentCounts
open Go.ChangeShapes Go.WideShapes Go.ChangeAt Go.RowKit
set_option linter.unusedVariables false
set_option maxRecDepth 100000 in
set_option maxHeartbeats 4000000 in
theorem walk (n p : Int) (w : World) (hT : Tab w) (_ : -9223372036854775808 ≤ n) (_ : n ≤ 9223372036854775807) (hp1 : -9223372036854775808 ≤ p) (hp2 : p ≤ 9223372036854775807) :
    Calls Tryd.prog 3 #[.int .i64 n, .int .i64 p] w fun e w' => e = .returned (.bool true) ∧ Below w.heap.size w w' := by
  obtain ⟨M, N, hmask, hrem, hrem2, hN, hM⟩ := mask6 n
  go_enter Tryd.func3, Tryd.ntmps3
  go_wp2_with fail
  refine (shown6_any w hT).mono ?_
  rintro _ w1 ⟨rfl, hb1⟩
  clear hT
  have hlt : ∀ k : Nat, k < countZ (N : Int) ↔ 114 + 8 * ((k : Int) + 1) ≤ (N : Int) := fun k => countZ_lt
  have hcle := countZ_le (s := (N : Int)) (by omega)
  obtain ⟨q, hq⟩ : ∃ q, q = countZ (N : Int) := ⟨_, rfl⟩
  rw [← hq] at hlt hcle
  have HQ := hide hq.symm
  have HLT := hide hlt
  clear hq hlt
  go_wp2_with fail
  refine (extCount_any (N : Int) (by omega) (by omega)).mono ?_
  rw [HQ.out]
  rintro _ _ ⟨rfl, rfl⟩
  clear hmask hrem hrem2
  go_wp2_with (first
    | (go_at_call 11; refine (refCount_any (N : Int) (by omega) (by omega)).mono ?_; rw [HQ.out]; rintro _ _ ⟨rfl, rfl⟩)
    | (go_at_call 10; refine (extCount_any _ (by omega) (by omega)).mono ?_; simp only [show countZ (-1) = 0 from by decide, show countZ (-9223372036854775808) = 0 from by decide]; rintro _ _ ⟨rfl, rfl⟩))
  go_loop [7] (fun a => ∃ k : Nat, k ≤ q ∧ a = .int .i64 (k : Int)) (fun a => q - (intOf a).toNat)
  case atStart => exact ⟨0, Nat.zero_le _, rfl⟩
  case round =>
    obtain ⟨k, hk, rfl⟩ := hrel
    by_cases hkq : k < q
    · have hh := (HLT.out k).1 hkq
      have hkk : (k : Int) < (q : Int) := by omega
      have hd1 : ¬ ((114 : Int) + 8 * (k : Int) < 114) := by omega
      have hd2 : ¬ ((N : Int) < (114 : Int) + 8 * (k : Int) + 8) := by omega
      go_wp2_with (first
        | (go_at_call 13; refine (extPlace_any (k : Int) (by omega) (by omega)).mono ?_; rintro _ _ ⟨rfl, rfl⟩)
        | (go_at_call 14; refine (refPlace_any (k : Int) (by omega) (by omega)).mono ?_; rintro _ _ ⟨rfl, rfl⟩)
        | (go_at_call 12; refine (extIndex_any (114 + 8 * (k : Int)) (by omega) (by omega)).mono ?_; rw [idxI_place, okI_place]; rintro _ _ ⟨rfl, rfl⟩))
      go_round
      case rel => exact ⟨k + 1, by omega, by go_num⟩
      case measure => simp [intOf]; omega
    · have hkk : ¬ ((k : Int) < (q : Int)) := by omega
      go_wp2_with (first
        | (go_at_call 12; refine (extIndex_any p (by omega) (by omega)).mono ?_; rintro _ _ ⟨rfl, rfl⟩)
        | (go_at_call 15; refine (refIndex_any p (by omega) (by omega)).mono ?_; rintro _ _ ⟨rfl, rfl⟩))
      go_ret
      exact ⟨rfl, hb1⟩

/-! The row's frame, by program: how the walk above proves the statement. -/
set_option maxRecDepth 100000 in
theorem lifted (os : Os) (started : os.Started) (H : Type) (enc : TypeId × Value → H) :
    ReturnsInHanded {} Tryd.checked os 3 .any (fun w args => (Rows.extentCountsSpec.pre enc Tryd.prog Tryd.f3 Rows.extentCountsRow.domain false w args ∧ laidMetH Tryd.prog tabL w) ∧ sizedMet enc Tryd.prog Tryd.f3 (OpenSpec.ofChange Rows.extentCountsSpec) false w args) (Rows.extentCountsSpec.post enc Tryd.prog Tryd.f3 false true false false) := by
  refine returnsInHanded_of_change_and (C := Tryd.checked) (X := fun w _ => laidMetH Tryd.prog tabL w) (fun _ _ _ hh h => h.of_heap hh) own started (by kernel_rfl) Tryd.func3
    (ChangeSpec.witness_shaped (enc := enc) (C := Tryd.checked) (os := os) (X := fun w _ => laidMetH Tryd.prog tabL w) false (World.doorLaid Tryd.prog 400 os) #[.int .i64 0, .int .i64 0] 8 rfl (World.shaped_of_RefB (by kernel_rfl) (by kernel_rfl)) (by kernel_rfl) (by kernel_rfl) (by kernel_rfl) (door_met os _)) ?_
  intro W base args ds gs before hval0 hW _ _ hL _
  have hval : ∀ (j : Nat) t v, Tryd.f3.params[j]? = some t → args[j]? = some v → Value.okWide Tryd.prog W .any base t v := hval0
  have hW' := hW
  obtain ⟨p, q, hA0, hV, rfl, hfz, hnd⟩ := hW
  have hA : DataW.TrodAll enc Tryd.prog W 0 (fun _ => true) true Tryd.f3.params.toList args.toList ds p := hA0
  rw [Tryd.params3] at hA hval
  obtain ⟨v0, vs0, d0, ds0, p0, q0, hargs, rfl, rfl, h0, r0⟩ := trodAll_cons hA
  obtain ⟨v1, vs1, d1, ds1, p1, q1, rfl, rfl, rfl, h1, r1⟩ := trodAll_cons r0
  obtain ⟨rfl, rfl, rfl⟩ := trodAll_nil r1
  obtain rfl : args = #[v0, v1] := by cases args; simp_all
  obtain ⟨rfl, rfl⟩ := trodVars_none hV
  obtain ⟨a0, rfl, rfl, rfl, w0⟩ := open_int Tryd.underlying3 (hval 0 3 v0 rfl rfl) h0
  have b0 := bounds_i64 w0
  obtain ⟨a1, rfl, rfl, rfl, w1⟩ := open_int Tryd.underlying3 (hval 1 3 v1 rfl rfl) h1
  have b1 := bounds_i64 w1
  clear hA0 hval0
  refine (walk a0 a1 W (of_laid hL) b0.1 b0.2 b1.1 b1.2).mono fun e W' ⟨he, bel⟩ => ?_
  subst he
  exact ⟨_, rfl, _, _, _, [], _, [], hW', trodAll_mk1 (shut_bool Tryd.underlying4 _), (trodAll_cons_mk (shut_int Tryd.underlying3 w0) (trodAll_cons_mk (shut_int Tryd.underlying3 w1) trodAll_mk0)), rfl, bel.frame _, fun h => by cases h⟩

theorem over : Rows.extentCountsRow.holds Tryd.pinned (OpenSpec.ofChange Rows.extentCountsSpec) :=
  OpenClaim.holds_of_wide 3 Tryd.f3 rfl rfl rfl rfl rfl rfl rfl ⟨rfl, rfl, rfl, rfl, rfl⟩ rfl rfl rfl rfl rfl (by kernel_rfl) Tryd.func3 (by kernel_rfl)
    (of_decide_eq_true (by kernel_rfl)) (by unfold Func.isWrapper; first | (rw [if_pos (by decide +kernel)]; kernel_rfl) | (rw [if_neg (by decide +kernel)]; exact ⟨rfl, rfl⟩))
    (fun os started H enc _ => lifted os started H enc)

/-- The statement: the tied card. -/
theorem proved : Rows.ExtentCountsCardSaid :=
  Claim7.holds_tied_plain_at .later [] [.data] true Rows.extentCountsCard.stood.harness Rows.extentCountsCard.stood.looks
    over (fun _ h => by cases h) (by kernel_rfl) (fun _ h => by cases h) extentCounts_row_tie rfl ⟨rfl, rfl⟩ (by kernel_rfl) rfl
    (fun f fn hf hfn => by
      obtain rfl : f = 3 := Option.some.inj ((show Tryd.prog.funcNamed "braidwork/braidworklaw06.ExtentCounts" = some 3 by kernel_rfl).symm.trans hf) |>.symm
      obtain rfl : fn = Tryd.f3 := (Option.some.inj (Tryd.func3.symm.trans hfn)).symm
      exact ⟨by kernel_rfl, fun j t ht => by
        rw [Tryd.params3] at ht
        have hm : t ∈ [3, 3] := by simpa using Array.mem_of_getElem? ht
        have hall : ([3, 3].all fun u => !Tryd.prog.wantsStandIn u) = true := by kernel_rfl
        exact (show Tryd.prog.wantsStandIn t = false by simpa using List.all_eq_true.1 hall t hm)⟩)
    (by kernel_rfl)
#print axioms proved
end Go.Proofs.YtfghnplbefefbaaDoor.ExtentCounts
