/- PackRefuses holds: for every number v and every width, Put writes v behind nothing just if 1 ≤ width ≤ 6 and 0 ≤ v < 256^width, and PutRow writes the row 0, v, 0 just then; no condition. -/
import Derived.Test.YtkjbjhciafnbeaaShown
import Derived.Test.YtkjbjhciafnbeaaArg
namespace Go.Proofs.Ytkjbjhciafnbeaa.PackRefuses
open Go.ChangeShapes Go.WideShapes Go.ChangeAt Go.RowKit
set_option linter.unusedVariables false

theorem rowB_three (v width : Int) : rowB [0, v, 0] width = fitsB v width := by
  by_cases hw : wideB width = true
  · have h0 : fitsB 0 width = true := by
      simp only [wideB, decide_eq_true_eq] at hw
      simp only [fitsB, decide_eq_true_eq]
      refine ⟨hw.1, hw.2, Int.le_refl _, ?_⟩
      exact Int.pow_pos (by decide)
    simp [rowB, hw, h0]
  · have hw' : wideB width = false := by simpa using hw
    have : fitsB v width = false := by
      simp only [wideB, decide_eq_false_iff_not] at hw'
      simp only [fitsB, decide_eq_false_iff_not]
      omega
    simp [rowB, hw', this]
theorem put_len_yes {v width : Int} (h : fitsB v width = true) : (putB [] v width).length = width.toNat := by simp [putB, h, be_length]
theorem put_len_no {v width : Int} (h : fitsB v width = false) : (putB [] v width).length = 0 := by simp [putB, h]
theorem row_len_yes {v width : Int} (h : fitsB v width = true) : (putRowB [] [0, v, 0] width).length = 2 + 3 * width.toNat := by simp [putRowB, rowB_three, h, rowBytes_length]
theorem row_len_no {v width : Int} (h : fitsB v width = false) : (putRowB [] [0, v, 0] width).length = 0 := by simp [putRowB, rowB_three, h]

set_option maxRecDepth 100000 in
set_option maxHeartbeats 2000000 in
theorem walk (v width : Int) (w : World) (_hv0 : -9223372036854775808 ≤ v) (hv : v ≤ 9223372036854775807) (_hw0 : -9223372036854775808 ≤ width) (_hw : width ≤ 9223372036854775807) :
    Calls Try.prog 7 #[.int .i64 v, .int .i64 width] w fun e w' => e = .returned (.bool true) ∧ Below w.heap.size w w' := by
  have hrow : ∀ (W : World), Reads (W.alloc (.cells #[.int .i64 0, .int .i64 v, .int .i64 0] 3)) (W.alloc (.cells #[.int .i64 0, .int .i64 v, .int .i64 0] 3)).heap.size 1 (some ⟨W.heap.size, 0, none⟩) 3 (I64 [0, v, 0]) := fun W => Reads.fresh W (I64 [0, v, 0]) 3 _ 1 3 (by rw [World.size_alloc]; omega) rfl
  have HR := hide hrow
  clear hrow
  by_cases hf : fitsB v width = true
  · have hp := put_len_yes hf
    have hq := row_len_yes hf
    obtain ⟨h1, h6, h0, hlt⟩ := fits_parts hf
    have he : (v / 2 ^ (8 * width).toNat != 0) = false := by
      have := (fits_is h1 h6 h0).trans hf
      simpa [bne] using this
    clear hlt hf
    go_enter Try.func7, Try.ntmps7
    go_wp2_with fail
    refine (shown_any _).mono ?_
    rintro e w1 ⟨rfl, hb1⟩
    go_wp2_with fail
    refine (put_any none 0 0 [] v width _ Reads.none_ (by omega) (by omega) (by omega) hv).mono ?_
    rintro e w2 ⟨A2, n2, c2, rfl, hn2, hc2, hown2, hbel2⟩
    have hl2 := own_len8 hown2
    rw [hp] at hl2
    have hs2 : ((n2 : Int) == width) = true := by rw [beq_iff_eq]; omega
    clear hl2
    go_wp2_with fail
    have hb2 : Below w.heap.size w w2 := hb1.trans (hbel2.mono hb1.size)
    refine (putRow_any none (some ⟨w2.heap.size, 0, none⟩) 0 0 3 3 [] [0, v, 0] width _ Reads.none_ (HR.out w2) (by omega) (by omega) (by omega) (by omega) (by simp; omega)).mono ?_
    rintro e w3 ⟨A3, n3, c3, rfl, hn3, hc3, hown3, hbel3⟩
    have hl3 := own_len8 hown3
    rw [hq] at hl3
    have hs3 : ((n3 : Int) == 2 + 3 * width) = true := by rw [beq_iff_eq]; omega
    clear hl3
    have hb3 : Below w.heap.size w w3 := (hb2.alloc hb2.size _).trans (hbel3.mono (Nat.le_trans hb2.size (by rw [World.size_alloc]; omega)))
    go_wp2
    go_ret
    exact ⟨rfl, hb3⟩
  · have hf' : fitsB v width = false := by simpa using hf
    have hp := put_len_no hf'
    have hq := row_len_no hf'
    by_cases hwd : 1 ≤ width ∧ width ≤ 6 ∧ 0 ≤ v
    · obtain ⟨h1, h6, h0⟩ := hwd
      have he : (v / 2 ^ (8 * width).toNat != 0) = true := by
        have := (fits_is h1 h6 h0).trans hf'
        simpa [bne] using this
      clear hf hf'
      go_enter Try.func7, Try.ntmps7
      go_wp2_with fail
      refine (shown_any _).mono ?_
      rintro e w1 ⟨rfl, hb1⟩
      go_wp2_with fail
      refine (put_any none 0 0 [] v width _ Reads.none_ (by omega) (by omega) (by omega) hv).mono ?_
      rintro e w2 ⟨A2, n2, c2, rfl, hn2, hc2, hown2, hbel2⟩
      have hl2 := own_len8 hown2
      rw [hp] at hl2
      obtain rfl : n2 = 0 := by omega
      clear hl2
      go_wp2_with fail
      have hb2 : Below w.heap.size w w2 := hb1.trans (hbel2.mono hb1.size)
      refine (putRow_any none (some ⟨w2.heap.size, 0, none⟩) 0 0 3 3 [] [0, v, 0] width _ Reads.none_ (HR.out w2) (by omega) (by omega) (by omega) (by omega) (by simp; omega)).mono ?_
      rintro e w3 ⟨A3, n3, c3, rfl, hn3, hc3, hown3, hbel3⟩
      have hl3 := own_len8 hown3
      rw [hq] at hl3
      obtain rfl : n3 = 0 := by omega
      clear hl3
      have hb3 : Below w.heap.size w w3 := (hb2.alloc hb2.size _).trans (hbel3.mono (Nat.le_trans hb2.size (by rw [World.size_alloc]; omega)))
      go_wp2
      go_ret
      exact ⟨rfl, hb3⟩
    · by_cases h1 : 1 ≤ width
      · by_cases h6 : width ≤ 6
        · have h0 : v < 0 := by omega
          have hd : decide ((0 : Int) ≤ v) = false := by simpa using h0
          clear hf hf' hwd
          go_enter Try.func7, Try.ntmps7
          go_wp2_with fail
          refine (shown_any _).mono ?_
          rintro e w1 ⟨rfl, hb1⟩
          go_wp2_with fail
          refine (put_any none 0 0 [] v width _ Reads.none_ (by omega) (by omega) (by omega) hv).mono ?_
          rintro e w2 ⟨A2, n2, c2, rfl, hn2, hc2, hown2, hbel2⟩
          have hl2 := own_len8 hown2
          rw [hp] at hl2
          obtain rfl : n2 = 0 := by omega
          clear hl2
          go_wp2_with fail
          have hb2 : Below w.heap.size w w2 := hb1.trans (hbel2.mono hb1.size)
          refine (putRow_any none (some ⟨w2.heap.size, 0, none⟩) 0 0 3 3 [] [0, v, 0] width _ Reads.none_ (HR.out w2) (by omega) (by omega) (by omega) (by omega) (by simp; omega)).mono ?_
          rintro e w3 ⟨A3, n3, c3, rfl, hn3, hc3, hown3, hbel3⟩
          have hl3 := own_len8 hown3
          rw [hq] at hl3
          obtain rfl : n3 = 0 := by omega
          clear hl3
          have hb3 : Below w.heap.size w w3 := (hb2.alloc hb2.size _).trans (hbel3.mono (Nat.le_trans hb2.size (by rw [World.size_alloc]; omega)))
          go_wp2
          go_ret
          exact ⟨rfl, hb3⟩
        · have hd : decide (width ≤ (6 : Int)) = false := by simpa using h6
          clear hf hf' hwd
          go_enter Try.func7, Try.ntmps7
          go_wp2_with fail
          refine (shown_any _).mono ?_
          rintro e w1 ⟨rfl, hb1⟩
          go_wp2_with fail
          refine (put_any none 0 0 [] v width _ Reads.none_ (by omega) (by omega) (by omega) hv).mono ?_
          rintro e w2 ⟨A2, n2, c2, rfl, hn2, hc2, hown2, hbel2⟩
          have hl2 := own_len8 hown2
          rw [hp] at hl2
          obtain rfl : n2 = 0 := by omega
          clear hl2
          go_wp2_with fail
          have hb2 : Below w.heap.size w w2 := hb1.trans (hbel2.mono hb1.size)
          refine (putRow_any none (some ⟨w2.heap.size, 0, none⟩) 0 0 3 3 [] [0, v, 0] width _ Reads.none_ (HR.out w2) (by omega) (by omega) (by omega) (by omega) (by simp; omega)).mono ?_
          rintro e w3 ⟨A3, n3, c3, rfl, hn3, hc3, hown3, hbel3⟩
          have hl3 := own_len8 hown3
          rw [hq] at hl3
          obtain rfl : n3 = 0 := by omega
          clear hl3
          have hb3 : Below w.heap.size w w3 := (hb2.alloc hb2.size _).trans (hbel3.mono (Nat.le_trans hb2.size (by rw [World.size_alloc]; omega)))
          go_wp2
          go_ret
          exact ⟨rfl, hb3⟩
      · have hd : decide ((1 : Int) ≤ width) = false := by simpa using h1
        clear hf hf' hwd
        go_enter Try.func7, Try.ntmps7
        go_wp2_with fail
        refine (shown_any _).mono ?_
        rintro e w1 ⟨rfl, hb1⟩
        go_wp2_with fail
        refine (put_any none 0 0 [] v width _ Reads.none_ (by omega) (by omega) (by omega) hv).mono ?_
        rintro e w2 ⟨A2, n2, c2, rfl, hn2, hc2, hown2, hbel2⟩
        have hl2 := own_len8 hown2
        rw [hp] at hl2
        obtain rfl : n2 = 0 := by omega
        clear hl2
        go_wp2_with fail
        have hb2 : Below w.heap.size w w2 := hb1.trans (hbel2.mono hb1.size)
        refine (putRow_any none (some ⟨w2.heap.size, 0, none⟩) 0 0 3 3 [] [0, v, 0] width _ Reads.none_ (HR.out w2) (by omega) (by omega) (by omega) (by omega) (by simp; omega)).mono ?_
        rintro e w3 ⟨A3, n3, c3, rfl, hn3, hc3, hown3, hbel3⟩
        have hl3 := own_len8 hown3
        rw [hq] at hl3
        obtain rfl : n3 = 0 := by omega
        clear hl3
        have hb3 : Below w.heap.size w w3 := (hb2.alloc hb2.size _).trans (hbel3.mono (Nat.le_trans hb2.size (by rw [World.size_alloc]; omega)))
        go_wp2
        go_ret
        exact ⟨rfl, hb3⟩

/-! The row's frame, by program: how the walk above proves the statement. -/
set_option maxRecDepth 100000 in
theorem lifted (os : Os) (started : os.Started) (H : Type) (enc : TypeId × Value → H) :
    ReturnsInHanded {} Try.checked os 7 .any (Rows.packRefusesSpec.pre6 enc Try.prog Try.f7 Rows.packRefusesRow.domain false) (Rows.packRefusesSpec.post enc Try.prog Try.f7 false true false false) := by
  refine returnsInHanded_of_change (C := Try.checked) own started (by kernel_rfl) Try.func7
    (ChangeSpec.witness6 (enc := enc) (C := Try.checked) false ⟨#[], #[.int .i64 0, .int .i64 0], []⟩ 8 (by kernel_rfl) (by kernel_rfl) (by kernel_rfl) (by kernel_rfl)) ?_
  intro W base args ds gs before hval0 hW hcnd _
  have hval : ∀ (j : Nat) t v, Try.f7.params[j]? = some t → args[j]? = some v → Value.okWide Try.prog W .any base t v := hval0
  have hW' := hW
  obtain ⟨p, q, hA0, hV, rfl, hfz, hnd⟩ := hW
  have hA : DataW.TrodAll enc Try.prog W 0 (fun _ => true) true Try.f7.params.toList args.toList ds p := hA0
  rw [Try.params7] at hA hval
  obtain ⟨v0, vs0, d0, ds0, p0, q0, hargs, rfl, rfl, h0, r0⟩ := trodAll_cons hA
  obtain ⟨v1, vs1, d1, ds1, p1, q1, rfl, rfl, rfl, h1, r1⟩ := trodAll_cons r0
  obtain ⟨rfl, rfl, rfl⟩ := trodAll_nil r1
  obtain rfl : args = #[v0, v1] := by cases args; simp_all
  obtain ⟨rfl, rfl⟩ := trodVars_none hV
  obtain ⟨a0, rfl, rfl, rfl, w0⟩ := open_int Try.underlying3 (hval 0 3 v0 rfl rfl) h0
  have b0 := bounds_i64 w0
  obtain ⟨a1, rfl, rfl, rfl, w1⟩ := open_int Try.underlying3 (hval 1 3 v1 rfl rfl) h1
  have b1 := bounds_i64 w1
  clear hA0 hval0
  refine (walk a0 a1 W b0.1 b0.2 b1.1 b1.2).mono fun e W' ⟨he, bel⟩ => ?_
  subst he
  exact ⟨_, rfl, _, _, _, [], _, [], hW', trodAll_mk1 (shut_bool Try.underlying4 _), (trodAll_cons_mk (shut_int Try.underlying3 w0) (trodAll_cons_mk (shut_int Try.underlying3 w1) trodAll_mk0)), rfl, bel.frame _, fun h => by cases h⟩

theorem over : Rows.packRefusesRow.holds Try.pinned (OpenSpec.ofChange Rows.packRefusesSpec) :=
  OpenClaim.holds_of_wide 7 Try.f7 rfl rfl rfl rfl rfl rfl rfl ⟨rfl, rfl, rfl, rfl, rfl⟩ rfl rfl rfl rfl rfl (by kernel_rfl) Try.func7 (by kernel_rfl)
    (of_decide_eq_true (by kernel_rfl)) (by unfold Func.isWrapper; first | (rw [if_pos (by decide +kernel)]; kernel_rfl) | (rw [if_neg (by decide +kernel)]; exact ⟨rfl, rfl⟩))
    (fun os started H enc _ => lifted os started H enc)

/-- The statement. -/
theorem proved : Rows.PackRefusesSaid := over
#print axioms proved
end Go.Proofs.Ytkjbjhciafnbeaa.PackRefuses
