/- GroupMoves. -/
import Derived.Test.YtmaiikmgpeafkaaLawS
import Derived.Test.YtmaiikmgpeafkaaLawF
import Derived.Test.YtmaiikmgpeafkaaLawC
import Derived.Test.YtmaiikmgpeafkaaRefGM
import Derived.Test.YtmaiikmgpeafkaaArgG
import Derived.Test.YtmaiikmgpeafkaaRows
namespace Go.Proofs.Ytmaiikmgpeafkaa.GroupMoves
open Go.ChangeShapes Go.WideShapes Go.ChangeAt Go.RowKit Go.Proofs.Ytmaiikmgpeafkaa

theorem moveV_shape (rm : List Int) (L : List GrV) (lost : Int) : ∃ (x y : Int) (b : Bool), moveV rm L lost = .tuple #[.int .i64 x, .int .i64 y, .bool b] := by
  unfold moveV
  split
  · split
    · exact ⟨0, 0, false, rfl⟩
    · split
      · exact ⟨0, 0, false, rfl⟩
      · exact ⟨_, _, true, rfl⟩
  · exact ⟨0, 0, false, rfl⟩
set_option maxRecDepth 100000 in
set_option maxHeartbeats 4000000 in
theorem walk (A0 : Option Addr) (n0 c0 : Nat) (L : List GrV) (A1 : Option Addr) (n1 c1 : Nat) (l1 : List Int) (lost : Int) (w : World) (x0 : GsIn w w.heap.size A0 n0 c0 L) (x1 : Reads w w.heap.size 1 A1 n1 (I64 l1)) (y1 : ∀ v ∈ l1, -9223372036854775808 ≤ v ∧ v ≤ 9223372036854775807) (_g1 : n1 ≤ c1) (_z1 : c1 ≤ 9223372036854775807) (_b1 : -9223372036854775808 ≤ lost) (_b2 : lost ≤ 9223372036854775807) :
    Calls Try.prog 5 #[.slice A0 n0 c0, .slice A1 n1 c1, .int .i64 lost] w fun e w' => e = .returned (.bool true) ∧ Below w.heap.size w w' := by
  have HShown := hide shown_any
  have X0 := hide x0
  have X1 := hide x1
  have Y1 := hide y1
  clear x0 x1 y1
  have HSM := hide (smallL_length l1)
  have HSB : Hid (∀ v ∈ smallL l1, -9223372036854775808 ≤ v ∧ v ≤ 1000) := hide (fun v hv => ⟨smallL_ge (by decide) (fun x hx => (Y1.out x hx).1) v hv, smallL_le l1 v hv⟩)
  obtain ⟨rm, hrm⟩ : ∃ rm, rm = smallL l1 := ⟨_, rfl⟩
  have HRM := hide hrm
  rw [← hrm] at HSM HSB
  clear hrm
  go_enter Try.func5, Try.ntmps5
  go_wp2_with (first
    | (go_at_call 10; refine (HShown.out w).mono ?_; rintro _ w1 ⟨rfl, hl1⟩; have HL1 := hide hl1; have HF := hide (few_any A0 n0 c0 L w.heap.size w1 (X0.out.below hl1) hl1.size); clear hl1)
    | (go_at_call 14; refine HF.out.mono ?_; rintro _ w2 ⟨v2, L2, rfl, ho2, hd2, hl2⟩; obtain ⟨A2, c2, hv2⟩ := ho2.shape; subst hv2; have HO2 := hide ho2; have HD2 := hide hd2; have HL2 := hide (HL1.out.trans (hl2.mono HL1.out.size)); have hs2 := small_any A1 n1 c1 l1 w.heap.size w2 (X1.out.below HL2.out) HL2.out.size; rw [← HRM.out] at hs2; have HS := hide hs2; clear ho2 hd2 hl2 hs2 HF)
    | (go_at_call 15; refine HS.out.mono ?_; rintro _ w3 ⟨v3, rfl, ho3, hl3⟩; obtain ⟨A3, c3, hv3, _, _⟩ := own_shape ho3; subst hv3; have HO3 := hide ho3; have HO23 := hide (HO2.out.later hl3); have HL3 := hide (HL2.out.trans (hl3.mono HL2.out.size)); have HM := hide (move_any A2 L2.length c2 L2 A3 c3 rm lost w3.heap.size w3 HO23.out.in_ (Reads.of_own HO3.out) (Nat.le_refl _) (by have := few_len HD2.out; omega) (few_n HD2.out HO2.out) (by have := HSM.out; omega) (fun v hv => ⟨(HSB.out v hv).1, by have := (HSB.out v hv).2; omega⟩)); obtain ⟨x, y, b, hmv⟩ := moveV_shape rm L2 lost; rw [hmv] at HM; have HMV := hide hmv; clear ho3 hl3 HS hmv)
    | (go_at_call 22; refine HM.out.mono ?_; rintro _ w4 ⟨rfl, hl4⟩; have HO34 := hide (own_later HO3.out hl4); have HL4 := hide (HL3.out.trans (hl4.mono HL3.out.size)); have HF4 := hide (few_any A0 n0 c0 L w.heap.size w4 (X0.out.below HL4.out) HL4.out.size); clear hl4 HM)
    | (go_at_call 14; refine HF4.out.mono ?_; rintro _ w5 ⟨v5, L5, rfl, ho5, hd5, hl5⟩; obtain ⟨A5, c5, hv5⟩ := ho5.shape; subst hv5; have HO5 := hide ho5; have HO35 := hide (own_later HO34.out hl5); have HL5 := hide (HL4.out.trans (hl5.mono HL4.out.size)); have hm5 := refMove_any A5 L5.length c5 L5 A3 c3 rm lost w5.heap.size w5 ho5.in_ (Reads.of_own HO35.out) (Nat.le_refl _) (by have := few_len hd5; omega) (few_n hd5 ho5) (by have := HSM.out; omega) (fun v hv => ⟨(HSB.out v hv).1, by have := (HSB.out v hv).2; omega⟩); rw [← moveV_congr (ex_of_dat (HD2.out.trans hd5.symm)), HMV.out] at hm5; have HM5 := hide hm5; clear ho5 hd5 hl5 hm5 HF4)
    | (go_at_call 23; refine HM5.out.mono ?_; rintro _ w6 ⟨rfl, hl6⟩; have HO36 := hide (own_later HO35.out hl6); have HL6 := hide (HL5.out.trans (hl6.mono HL5.out.size)); have hs6 := small_any A1 n1 c1 l1 w.heap.size w6 (X1.out.below HL6.out) HL6.out.size; rw [← HRM.out] at hs6; have HS6 := hide hs6; clear hl6 hs6 HM5)
    | (go_at_call 15; refine HS6.out.mono ?_; rintro _ w7 ⟨v7, rfl, ho7, hl7⟩; obtain ⟨A7, c7, hv7, _, _⟩ := own_shape ho7; subst hv7; have HL7 := hide (HL6.out.trans (hl7.mono HL6.out.size)); have hn7 := numbers_any A3 A7 rm.length rm.length c3 c7 rm rm w7.heap.size w7 (Reads.of_own (own_later HO36.out hl7)) (Reads.of_own ho7) (by have := HSM.out; simp only [maxLen]; omega) (by have := HSM.out; simp only [maxLen]; omega); rw [decide_eq_true rfl] at hn7; have HN7 := hide hn7; clear ho7 hl7 hn7 HS6)
    | (go_at_call 13; refine HN7.out.mono ?_; rintro _ w8 ⟨rfl, z8, hw8⟩; have hl8 : Below w.heap.size w w8 := (by rw [hw8]; exact HL7.out.trans ⟨rfl, rfl, rfl, Nat.le_refl _, fun _ _ => rfl⟩); clear hw8))
  go_ret
  exact ⟨rfl, hl8⟩
/-! The row's frame, by program: how the walk above proves the statement. -/
set_option maxRecDepth 100000 in
theorem lifted (os : Os) (started : os.Started) (H : Type) (enc : TypeId × Value → H) :
    ReturnsInHanded {} Try.checked os 5 .any (Rows.groupMovesSpec.pre6 enc Try.prog Try.f5 Rows.groupMovesRow.domain false) (Rows.groupMovesSpec.post enc Try.prog Try.f5 false true false false) := by
  refine returnsInHanded_of_change (C := Try.checked) own started (by kernel_rfl) Try.func5
    (ChangeSpec.witness6 (enc := enc) (C := Try.checked) false ⟨#[], #[.slice none 0 0, .slice none 0 0, .int .i64 0], []⟩ 8 (by kernel_rfl) (by kernel_rfl) (by kernel_rfl) (by kernel_rfl)) ?_
  intro W base args ds gs before hval0 hW hcnd _
  have hval : ∀ (j : Nat) t v, Try.f5.params[j]? = some t → args[j]? = some v → Value.okWide Try.prog W .any base t v := hval0
  have hW' := hW
  obtain ⟨p, q, hA0, hV, rfl, hfz, hnd⟩ := hW
  have hA : DataW.TrodAll enc Try.prog W 0 (fun _ => true) true Try.f5.params.toList args.toList ds p := hA0
  rw [Try.params5] at hA hval
  obtain ⟨v0, vs0, d0, ds0, p0, q0, hargs, rfl, rfl, h0, r0⟩ := trodAll_cons hA
  obtain ⟨v1, vs1, d1, ds1, p1, q1, rfl, rfl, rfl, h1, r1⟩ := trodAll_cons r0
  obtain ⟨v2, vs2, d2, ds2, p2, q2, rfl, rfl, rfl, h2, r2⟩ := trodAll_cons r1
  obtain ⟨rfl, rfl, rfl⟩ := trodAll_nil r2
  obtain rfl : args = #[v0, v1, v2] := by cases args; simp_all
  obtain ⟨rfl, rfl⟩ := trodVars_none hV
  obtain ⟨A0, n0, c0, rfl⟩ := okWide_slice Try.underlying28 (hval 0 28 v0 rfl rfl)
  have k0 := h0
  have lt0 : ∀ x ∈ p0, x.block < W.heap.size := by obtain ⟨m, hm⟩ := k0; exact DataW.trod_lt m _ _ _ hm
  obtain ⟨l0, x0⟩ := arg_groups h0
  obtain ⟨A1, n1, c1, rfl⟩ := okWide_slice Try.underlying22 (hval 1 22 v1 rfl rfl)
  have k1 := h1
  have lt1 : ∀ x ∈ p1, x.block < W.heap.size := by obtain ⟨m, hm⟩ := k1; exact DataW.trod_lt m _ _ _ hm
  obtain ⟨l1, x1, y1, g1, z1⟩ := arg_ints h1
  obtain ⟨a2, rfl, rfl, rfl, w2⟩ := open_int Try.underlying3 (hval 2 3 v2 rfl rfl) h2
  have b2 := bounds_i64 w2
  clear hA0 hval0
  refine (walk A0 n0 c0 l0 A1 n1 c1 l1 a2 W x0 x1 y1 g1 z1 b2.1 b2.2).mono fun e W' ⟨he, bel⟩ => ?_
  subst he
  exact ⟨_, rfl, _, _, _, [], _, [], hW', trodAll_mk1 (shut_bool Try.underlying4 _), (trodAll_cons_mk (Below.trod laidOut (by kernel_rfl) (of_decide_eq_true (by kernel_rfl)) k0 bel lt0) (trodAll_cons_mk (Below.trod laidOut (by kernel_rfl) (of_decide_eq_true (by kernel_rfl)) k1 bel lt1) (trodAll_cons_mk (shut_int Try.underlying3 w2) trodAll_mk0))), rfl, bel.frame _, fun h => by cases h⟩

theorem over : Rows.groupMovesRow.holds Try.pinned (OpenSpec.ofChange Rows.groupMovesSpec) :=
  OpenClaim.holds_of_wide 5 Try.f5 rfl rfl rfl rfl rfl rfl rfl ⟨rfl, rfl, rfl, rfl, rfl⟩ rfl rfl rfl rfl rfl (by kernel_rfl) Try.func5 (by kernel_rfl)
    (of_decide_eq_true (by kernel_rfl)) (by unfold Func.isWrapper; first | (rw [if_pos (by decide +kernel)]; kernel_rfl) | (rw [if_neg (by decide +kernel)]; exact ⟨rfl, rfl⟩))
    (fun os started H enc _ => lifted os started H enc)

/-- The statement. -/
theorem proved : Rows.GroupMovesSaid := over
#print axioms proved
end Go.Proofs.Ytmaiikmgpeafkaa.GroupMoves
