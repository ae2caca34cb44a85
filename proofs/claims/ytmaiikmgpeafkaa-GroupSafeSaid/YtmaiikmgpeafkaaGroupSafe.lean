/- GroupSafe. -/
import Derived.Test.YtmaiikmgpeafkaaLawS
import Derived.Test.YtmaiikmgpeafkaaLawF
import Derived.Test.YtmaiikmgpeafkaaLawC
import Derived.Test.YtmaiikmgpeafkaaRefGA
import Derived.Test.YtmaiikmgpeafkaaRefGS
import Derived.Test.YtmaiikmgpeafkaaArgG
import Derived.Test.YtmaiikmgpeafkaaRows
import Derived.Deep.QuietTactic
import Derived.BigQuiet
namespace Go.Proofs.Ytmaiikmgpeafkaa.GroupSafe
open Go.ChangeShapes Go.WideShapes Go.ChangeAt Go.RowKit Go.Proofs.Ytmaiikmgpeafkaa

theorem ext_fields : Try.prog.underlying 38 = some (.struct (Try.prog.fieldsOf 38)) := by kernel_rfl
theorem ext_stood : Try.prog.stoodInHeld 38 = false := by kernel_rfl
theorem ext_fieldsL : (Try.prog.fieldsOf 38).toList.map (fun f => (f.name, f.type, f.offset)) = [("Disk", 3, 0), ("At", 3, 1)] := by kernel_rfl
set_option maxRecDepth 100000 in
theorem run_neq_ext (a b : Int) (w : World) : (binOp .neq 38 (.agg #[.int .i64 a, .int .i64 b]) (.agg #[.int .i64 a, .int .i64 b])).run Try.prog w = .ok (.bool false) w := by
  have h := run_equalIn_struct (P := Try.prog) w 9999 38 #[.int .i64 a, .int .i64 b] #[.int .i64 a, .int .i64 b] ext_fields ext_stood
  have hl := ext_fieldsL
  generalize (Try.prog.fieldsOf 38).toList = fs at h hl
  rcases fs with _ | ⟨f0, _ | ⟨f1, _ | ⟨f2, fs⟩⟩⟩ <;> simp at hl
  obtain ⟨⟨n0, t0, o0⟩, n1, t1, o1⟩ := hl
  have p0 : ∀ (x y : Int), (Go.part f0.type #[.int .i64 x, .int .i64 y] f0.offset).run Try.prog w = .ok (.int .i64 x) w := fun x y => by rw [t0, o0]; exact run_part_plain (P := Try.prog) w (by kernel_rfl) (xs := #[.int .i64 x, .int .i64 y]) (off := 0) (v := .int .i64 x) rfl
  have p1 : ∀ (x y : Int), (Go.part f1.type #[.int .i64 x, .int .i64 y] f1.offset).run Try.prog w = .ok (.int .i64 y) w := fun x y => by rw [t1, o1]; exact run_part_plain (P := Try.prog) w (by kernel_rfl) (xs := #[.int .i64 x, .int .i64 y]) (off := 1) (v := .int .i64 y) rfl
  have e0 : ∀ x y : Int, (Op.equalIn 9999 f0.type (.int .i64 x) (.int .i64 y)).run Try.prog w = .ok (x == y) w := fun x y => by rw [t0]; exact run_equalIn_int (P := Try.prog) w 9998 3 .i64 .i64 x y Try.underlying3
  have e1 : ∀ x y : Int, (Op.equalIn 9999 f1.type (.int .i64 x) (.int .i64 y)).run Try.prog w = .ok (x == y) w := fun x y => by rw [t1]; exact run_equalIn_int (P := Try.prog) w 9998 3 .i64 .i64 x y Try.underlying3
  rw [run_neq_struct, h]
  simp only [Op.eqFields]
  simp [n0, n1, p0, p1, e0, e1]
set_option maxRecDepth 100000 in
set_option maxHeartbeats 4000000 in
theorem walk (A0 : Option Addr) (n0 c0 : Nat) (L : List GrV) (A1 : Option Addr) (n1 c1 : Nat) (l1 : List Int) (lost : Int) (w : World) (x0 : GsIn w w.heap.size A0 n0 c0 L) (x1 : Reads w w.heap.size 1 A1 n1 (I64 l1)) (_y1 : ∀ v ∈ l1, -9223372036854775808 ≤ v ∧ v ≤ 9223372036854775807) (_g1 : n1 ≤ c1) (_z1 : c1 ≤ 9223372036854775807) (_b1 : -9223372036854775808 ≤ lost) (b2 : lost ≤ 9223372036854775807) :
    Calls Try.prog 4 #[.slice A0 n0 c0, .slice A1 n1 c1, .int .i64 lost] w fun e w' => e = .returned (.bool true) ∧ Below w.heap.size w w' := by
  have HShown := hide shown_any
  have X0 := hide x0
  have X1 := hide x1
  clear x0 x1
  have HSM := hide (smallL_length l1)
  have HSB : Hid (∀ v ∈ smallL l1, v ≤ 1000) := hide (smallL_le l1)
  obtain ⟨rm, hrm⟩ : ∃ rm, rm = smallL l1 := ⟨_, rfl⟩
  have HRM := hide hrm
  rw [← hrm] at HSM HSB
  clear hrm
  go_enter Try.func4, Try.ntmps4
  go_wp2_with fail
  refine (HShown.out w).mono ?_
  rintro _ w1 ⟨rfl, hl1⟩
  have HL1 := hide hl1
  clear hl1
  go_wp2_with fail
  refine (few_any A0 n0 c0 L w.heap.size w1 (X0.out.below HL1.out) HL1.out.size).mono ?_
  rintro _ w2 ⟨v2, L2, rfl, ho2, hd2, hl2⟩
  obtain ⟨A2, c2, rfl⟩ := ho2.shape
  have HL2 := hide (HL1.out.trans (hl2.mono HL1.out.size))
  have HO2 := hide ho2
  have HD2 := hide hd2
  clear ho2 hd2 hl2
  have hs2 := small_any A1 n1 c1 l1 w.heap.size w2 (X1.out.below HL2.out) HL2.out.size
  rw [← HRM.out] at hs2
  have HS2 := hide hs2
  clear hs2
  go_wp2_with fail
  refine HS2.out.mono ?_
  rintro _ w3 ⟨v3, rfl, ho3, hl3⟩
  obtain ⟨A3, c3, rfl, _, _⟩ := own_shape ho3
  have HO3 := hide ho3
  have HO23 := hide (HO2.out.later hl3)
  have HL3 := hide (HL2.out.trans (hl3.mono HL2.out.size))
  clear ho3 hl3 HS2
  go_wp2_with fail
  refine (few_any A0 n0 c0 L w.heap.size w3 (X0.out.below HL3.out) HL3.out.size).mono ?_
  rintro _ w4 ⟨v4, L4, rfl, ho4, hd4, hl4⟩
  obtain ⟨A4, c4, rfl⟩ := ho4.shape
  have HL4 := hide (HL3.out.trans (hl4.mono HL3.out.size))
  have HO24 := hide (HO23.out.later hl4)
  have HO34 := hide (own_later HO3.out hl4)
  have HO4 := hide ho4
  have HD4 := hide hd4
  have hex : L4.map GrV.ex = L2.map GrV.ex := ex_of_dat (hd4.trans HD2.out.symm)
  have HEX := hide hex
  clear ho4 hd4 hl4 hex
  have hfw2 := few_len HD2.out
  have hfw4 := few_len HD4.out
  obtain ⟨S, hS⟩ : ∃ S, S = safeB rm L2 lost := ⟨_, rfl⟩
  obtain ⟨T, hT⟩ : ∃ T, T = allSafeB rm L2 := ⟨_, rfl⟩
  have hc1 := safe_any A4 L4.length c4 L4 A3 c3 rm lost w4.heap.size w4 HO4.out.in_ (Reads.of_own HO34.out) (Nat.le_refl _) (by omega) (few_n HD4.out HO4.out) (by have := HSM.out; omega)
  rw [safeB_congr HEX.out, ← hS] at hc1
  have HC1 := hide hc1
  have HSS := hide hS
  have HTT := hide hT
  clear hc1 hS hT
  go_wp2_with (first
    | (go_at_call 16; refine HC1.out.mono ?_; rintro _ w5 ⟨rfl, _, hl5⟩; have HL5 := hide (HL4.out.trans (hl5.mono HL4.out.size)); have HO25 := hide (HO24.out.later hl5); have HO45 := hide (HO4.out.later hl5); have HO35 := hide (own_later HO34.out hl5); have hc2 := refSafe_any A2 L2.length c2 L2 A3 c3 rm lost w5.heap.size w5 HO25.out.in_ (Reads.of_own HO35.out) (Nat.le_refl _) (by omega) (by have := HSM.out; omega) (fun v hv => (by have := HSB.out v hv; omega)); rw [← HSS.out] at hc2; have HC2 := hide hc2; clear hl5 hc2)
    | (go_at_call 17; refine HC2.out.mono ?_; rintro _ w6 ⟨rfl, hl6⟩; have HL6 := hide (HL5.out.trans (hl6.mono HL5.out.size)); have HO26 := hide (HO25.out.later hl6); have HO46 := hide (HO45.out.later hl6); have HO36 := hide (own_later HO35.out hl6); have hc3 := allSafe_any A4 L4.length c4 L4 A3 c3 rm w6.heap.size w6 HO46.out.in_ (Reads.of_own HO36.out) (Nat.le_refl _) (by omega) (few_n HD4.out HO4.out) (by have := HSM.out; omega); rw [allSafeB_congr HEX.out, ← HTT.out] at hc3; have HC3 := hide hc3; clear hl6 hc3)
    | (go_at_call 18; refine HC3.out.mono ?_; rintro _ w7 ⟨rfl, hl7⟩; have HL7 := hide (HL6.out.trans (hl7.mono HL6.out.size)); have HO27 := hide (HO26.out.later hl7); have HO47 := hide (HO46.out.later hl7); have HO37 := hide (own_later HO36.out hl7); have hc4 := refAllSafe_any A2 L2.length c2 L2 A3 c3 rm w7.heap.size w7 HO27.out.in_ (Reads.of_own HO37.out) (Nat.le_refl _) (by omega) (by have := HSM.out; omega) (fun v hv => (by have := HSB.out v hv; omega)); rw [← HTT.out] at hc4; have HC4 := hide hc4; clear hl7 hc4)
    | (go_at_call 19; refine HC4.out.mono ?_; rintro _ w8 ⟨rfl, hl8⟩; have HL8 := hide (HL7.out.trans (hl8.mono HL7.out.size)); have HO28 := hide (HO27.out.later hl8); have HO48 := hide (HO47.out.later hl8); have HO38 := hide (own_later HO37.out hl8); have hc5 := spare_any A4 L4.length c4 L4 lost w8.heap.size w8 HO48.out.in_ (Nat.le_refl _) (by omega) (few_n HD4.out HO4.out) (few_all HD4.out) b2; rw [allD_congr HEX.out] at hc5; have HC5 := hide hc5; clear hl8 hc5)
    | (go_at_call 20; refine HC5.out.mono ?_; rintro _ w9 ⟨m, rfl, hm, hl9⟩; have HM := hide hm; have HL9 := hide (HL8.out.trans (hl9.mono HL8.out.size)); have HO29 := hide (HO28.out.later hl9); have HO49 := hide (HO48.out.later hl9); have HO39 := hide (own_later HO38.out hl9); have hc6 := refSpare_any A2 L2.length c2 L2 lost w9.heap.size w9 HO29.out.in_ (by omega) (few_n HD2.out HO2.out) (few_all HD2.out); have HC6 := hide hc6; clear hl9 hc6 hm)
    | (go_at_call 21; refine HC6.out.mono ?_; rintro _ w10 ⟨m2, rfl, hm2, hw10⟩; have hmm : m2 = m := IsMx.unique hm2 HM.out; subst hmm; subst hw10; clear hm2))
  have hlen : L4.length = L2.length := by have := congrArg List.length HEX.out; simpa using this
  have HLEN := hide hlen
  clear HC1 HC2 HC3 HC4 HC5 HC6 hlen
  go_loopw [11] (fun i wr => ∃ k : Nat, k ≤ L2.length ∧ i = .int .i64 k ∧ Hid (∃ q, wr = w9.drewN q)) (fun i _ => L2.length - (intOf i).toNat)
  case atStart => exact ⟨0, Nat.zero_le _, rfl, hide ⟨0, rfl⟩⟩
  case round =>
    obtain ⟨k, hk, rfl, HW⟩ := hrel
    by_cases hkn : k < L2.length
    · obtain ⟨q0, hq0⟩ := HW.out
      obtain ⟨ad2, g2, hA2, _, hg2, hgi2, _, _, f2⟩ := HO29.out.in_.heads hkn
      obtain ⟨ad4, g4, hA4, _, hg4, hgi4, _, _, f4⟩ := HO49.out.in_.heads (k := k) (by rw [HLEN.out]; exact hkn)
      subst hA2 hA4
      have hee : g4.ex = g2.ex := by
        have h := congrArg (fun l => l[k]?) HEX.out
        simp only [List.getElem?_map, hg2, hg4, Option.map_some, Option.some.injEq] at h
        exact h
      have hn2 := ExIn.len hgi2
      have hn4 := ExIn.len hgi4
      have hnn : g4.n = g2.n := by rw [← hn2, ← hn4, hee]
      have hgn := few_n HD2.out HO2.out g2 (List.mem_of_getElem? hg2)
      have HF2 := hide f2
      have HF4 := hide f4
      have HG2 := hide hgi2
      have HG4 := hide hgi4
      have HEE := hide hee
      have HNN := hide hnn
      have hk4 : (k : Int) < (L4.length : Int) := by rw [HLEN.out]; omega
      have c2r : wr.cell? ⟨(ad2.add (k * 3)).block, (ad2.add (k * 3)).off + 2, none⟩ = some (.slice g2.A g2.n g2.c) := by rw [hq0]; exact f2
      clear hg2 hg4 hee hn2 hn4 hnn f2 f4 hgi2 hgi4 hq0
      go_wp2
      go_loopw [12] (fun i wr => ∃ j : Nat, j ≤ g2.n ∧ i = .int .i64 j ∧ Hid (∃ q, wr = w9.drewN q)) (fun i _ => g2.n - (intOf i).toNat)
      case atStart => exact ⟨0, Nat.zero_le _, rfl, HW⟩
      case round =>
        clear HW c2r
        obtain ⟨j, hj, rfl, HW⟩ := hrel
        obtain ⟨q, hq⟩ := HW.out
        have c2 : wr.cell? ⟨(ad2.add (k * 3)).block, (ad2.add (k * 3)).off + 2, none⟩ = some (.slice g2.A g2.n g2.c) := by rw [hq]; exact HF2.out
        have c4 : wr.cell? ⟨(ad4.add (k * 3)).block, (ad4.add (k * 3)).off + 2, none⟩ = some (.slice g4.A g4.n g4.c) := by rw [hq]; exact HF4.out
        by_cases hjn : j < g2.n
        · obtain ⟨a2, y2, hA2, _, hy2, d2, d2'⟩ := ExIn.both HG2.out hjn
          obtain ⟨a4, y4, hA4, _, hy4, d4, d4'⟩ := ExIn.both HG4.out (k := j) (by rw [HNN.out]; exact hjn)
          have hyy : y4 = y2 := by
            rw [HEE.out, hy2] at hy4
            injection hy4 with h
            exact h.symm
          subst hyy
          rw [hA2] at c2
          rw [hA4] at c4
          have e2 : wr.cell? (a2.add (j * 2)) = some (.int .i64 y4.1) := by rw [hq]; exact d2
          have e2' : wr.cell? ⟨(a2.add (j * 2)).block, (a2.add (j * 2)).off + 1, none⟩ = some (.int .i64 y4.2) := by rw [hq]; exact d2'
          have e4 : wr.cell? (a4.add (j * 2)) = some (.int .i64 y4.1) := by rw [hq]; exact d4
          have e4' : wr.cell? ⟨(a4.add (j * 2)).block, (a4.add (j * 2)).off + 1, none⟩ = some (.int .i64 y4.2) := by rw [hq]; exact d4'
          have hneq := run_neq_ext y4.1 y4.2
          have hjn4 : (j : Int) < (g4.n : Int) := by rw [HNN.out]; omega
          have HQ := hide hq
          clear hy2 hy4 d2 d2' d4 d4' hA2 hA4 hq
          go_wp2_with fail
          go_quiet (fail)
          go_wp2
          have HW2 : Hid (∃ q, wr.drewN nq = w9.drewN q) := hide ⟨q + nq, by rw [HQ.out]; simp [World.drewN, Nat.add_assoc]⟩
          go_roundw
          case rel => exact ⟨j + 1, by omega, by go_num, HW2⟩
          case measure => simp [intOf]; omega
        · obtain rfl : j = g2.n := by omega
          clear hq
          go_wp2
          go_roundw
          case rel => exact ⟨k + 1, by omega, by go_num, HW⟩
          case measure => simp [intOf]; omega
    · obtain rfl : k = L2.length := by omega
      obtain ⟨q, hq⟩ := HW.out
      have hlr : Below w.heap.size w wr := by rw [hq]; exact HL9.out.trans ⟨rfl, rfl, rfl, Nat.le_refl _, fun _ _ => rfl⟩
      have hor : wr.ownsRow w2.heap.size 3 1 (.slice A3 rm.length c3) rm.length (I64 rm) := by rw [hq]; exact own_later HO39.out ⟨rfl, rfl, rfl, Nat.le_refl _, fun _ _ => rfl⟩
      have hs6 := small_any A1 n1 c1 l1 w.heap.size wr (X1.out.below hlr) hlr.size
      rw [← HRM.out] at hs6
      have HS6 := hide hs6
      have HLR := hide hlr
      have HOR := hide hor
      clear hs6 hlr hor hq
      go_wp2_with (first
        | (go_at_call 15; refine HS6.out.mono ?_; rintro _ w12 ⟨v12, rfl, ho12, hl12⟩; obtain ⟨A12, c12, hv12, _, _⟩ := own_shape ho12; subst hv12; have HL12 := hide (HLR.out.trans (hl12.mono HLR.out.size)); have hn12 := numbers_any A3 A12 rm.length rm.length c3 c12 rm rm w12.heap.size w12 (Reads.of_own (own_later HOR.out hl12)) (Reads.of_own ho12) (by have := HSM.out; simp only [maxLen]; omega) (by have := HSM.out; simp only [maxLen]; omega); rw [decide_eq_true rfl] at hn12; have HN12 := hide hn12; clear ho12 hl12 hn12 HS6)
        | (go_at_call 13; refine HN12.out.mono ?_; rintro _ w13 ⟨rfl, z13, hw13⟩; have hl13 : Below w.heap.size w w13 := (by rw [hw13]; exact HL12.out.trans ⟨rfl, rfl, rfl, Nat.le_refl _, fun _ _ => rfl⟩); clear hw13))
      go_ret
      exact ⟨rfl, hl13⟩
/-! The row's frame, by program: how the walk above proves the statement. -/
set_option maxRecDepth 100000 in
theorem lifted (os : Os) (started : os.Started) (H : Type) (enc : TypeId × Value → H) :
    ReturnsInHanded {} Try.checked os 4 .any (Rows.groupSafeSpec.pre6 enc Try.prog Try.f4 Rows.groupSafeRow.domain false) (Rows.groupSafeSpec.post enc Try.prog Try.f4 false true false false) := by
  refine returnsInHanded_of_change (C := Try.checked) own started (by kernel_rfl) Try.func4
    (ChangeSpec.witness6 (enc := enc) (C := Try.checked) false ⟨#[], #[.slice none 0 0, .slice none 0 0, .int .i64 0], []⟩ 8 (by kernel_rfl) (by kernel_rfl) (by kernel_rfl) (by kernel_rfl)) ?_
  intro W base args ds gs before hval0 hW hcnd _
  have hval : ∀ (j : Nat) t v, Try.f4.params[j]? = some t → args[j]? = some v → Value.okWide Try.prog W .any base t v := hval0
  have hW' := hW
  obtain ⟨p, q, hA0, hV, rfl, hfz, hnd⟩ := hW
  have hA : DataW.TrodAll enc Try.prog W 0 (fun _ => true) true Try.f4.params.toList args.toList ds p := hA0
  rw [Try.params4] at hA hval
  obtain ⟨v0, vs0, d0, ds0, p0, q0, hargs, rfl, rfl, h0, r0⟩ := trodAll_cons hA
  obtain ⟨v1, vs1, d1, ds1, p1, q1, rfl, rfl, rfl, h1, r1⟩ := trodAll_cons r0
  obtain ⟨v2, vs2, d2, ds2, p2, q2, rfl, rfl, rfl, h2, r2⟩ := trodAll_cons r1
  obtain ⟨rfl, rfl, rfl⟩ := trodAll_nil r2
  obtain rfl : args = #[v0, v1, v2] := by cases args; simp_all
  obtain ⟨rfl, rfl⟩ := trodVars_none hV
  obtain ⟨A0, n0, c0, rfl⟩ := okWide_slice Try.underlying28 (hval 0 28 v0 rfl rfl)
  have k0 := h0
  have lt0 : ∀ x ∈ p0, x.block < W.heap.size := by obtain ⟨m, hm⟩ := k0; exact DataW.trod_lt m _ _ _ hm
  obtain ⟨l0, x0⟩ := arg_groups h0
  obtain ⟨A1, n1, c1, rfl⟩ := okWide_slice Try.underlying22 (hval 1 22 v1 rfl rfl)
  have k1 := h1
  have lt1 : ∀ x ∈ p1, x.block < W.heap.size := by obtain ⟨m, hm⟩ := k1; exact DataW.trod_lt m _ _ _ hm
  obtain ⟨l1, x1, y1, g1, z1⟩ := arg_ints h1
  obtain ⟨a2, rfl, rfl, rfl, w2⟩ := open_int Try.underlying3 (hval 2 3 v2 rfl rfl) h2
  have b2 := bounds_i64 w2
  clear hA0 hval0
  refine (walk A0 n0 c0 l0 A1 n1 c1 l1 a2 W x0 x1 y1 g1 z1 b2.1 b2.2).mono fun e W' ⟨he, bel⟩ => ?_
  subst he
  exact ⟨_, rfl, _, _, _, [], _, [], hW', trodAll_mk1 (shut_bool Try.underlying4 _), (trodAll_cons_mk (Below.trod laidOut (by kernel_rfl) (of_decide_eq_true (by kernel_rfl)) k0 bel lt0) (trodAll_cons_mk (Below.trod laidOut (by kernel_rfl) (of_decide_eq_true (by kernel_rfl)) k1 bel lt1) (trodAll_cons_mk (shut_int Try.underlying3 w2) trodAll_mk0))), rfl, bel.frame _, fun h => by cases h⟩

theorem over : Rows.groupSafeRow.holds Try.pinned (OpenSpec.ofChange Rows.groupSafeSpec) :=
  OpenClaim.holds_of_wide 4 Try.f4 rfl rfl rfl rfl rfl rfl rfl ⟨rfl, rfl, rfl, rfl, rfl⟩ rfl rfl rfl rfl rfl (by kernel_rfl) Try.func4 (by kernel_rfl)
    (of_decide_eq_true (by kernel_rfl)) (by unfold Func.isWrapper; first | (rw [if_pos (by decide +kernel)]; kernel_rfl) | (rw [if_neg (by decide +kernel)]; exact ⟨rfl, rfl⟩))
    (fun os started H enc _ => lifted os started H enc)

/-- The statement. -/
theorem proved : Rows.GroupSafeSaid := over
#print axioms proved
end Go.Proofs.Ytmaiikmgpeafkaa.GroupSafe
