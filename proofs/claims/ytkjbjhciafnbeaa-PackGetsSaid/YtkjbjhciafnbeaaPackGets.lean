/- PackGets holds: for all bytes (their first two thousand) and every width, Get and Row answer what the document's answer over strings is, and leave the bytes as they were; no condition. -/
import Derived.Test.YtkjbjhciafnbeaaShown
import Derived.Test.YtkjbjhciafnbeaaArg
import Derived.Test.YtkjbjhciafnbeaaRef
import Derived.Test.YtkjbjhciafnbeaaSame
namespace Go.Proofs.Ytkjbjhciafnbeaa.PackGets
open Go.ChangeShapes Go.WideShapes Go.ChangeAt Go.RowKit
set_option linter.unusedVariables false

set_option maxRecDepth 100000 in
set_option maxHeartbeats 8000000 in
theorem walk (A : Option Addr) (n c : Nat) (bs : List UInt8) (width : Int) (w : World)
    (hr : Reads w w.heap.size 1 A n (B8 bs)) (hc : n ≤ c) (hc2 : c ≤ 9223372036854775807) (_h0 : -9223372036854775808 ≤ width) (_h1 : width ≤ 9223372036854775807) :
    Calls Try.prog 3 #[.slice A n c, .int .i64 width] w fun e w' => e = .returned (.bool true) ∧ Below w.heap.size w w' := by
  obtain ⟨i1, hj0, hy0, hy1, hy2⟩ := info_parts u8_info
  by_cases hp : n ≤ 2000
  · have hrp := hr.head (k := n) (by omega)
    rw [Nat.mul_one, B8_take] at hrp
    obtain ⟨X, hX⟩ : ∃ X, X = bs.take n := ⟨_, rfl⟩
    rw [← hX] at hrp
    clear hX
    have hxl : X.length = n := by have := hrp.1; rw [B8_length] at this; omega
    have hch : chars ⟨X.toArray⟩ = X := by simp [chars]
    have hsz : (⟨X.toArray⟩ : ByteArray).size = X.length := by simp [ByteArray.size]
    have HG := hide (fun W => refGet_any ⟨X.toArray⟩ width W (by rw [hsz, hxl]; omega))
    have HRW := hide (fun W => refRow_any ⟨X.toArray⟩ width W (by rw [hsz, hxl]; omega))
    rw [hch] at HG HRW
    clear hch hsz hxl
    have hm1 : 0 + n ≤ maxLen := by simp only [maxLen]; omega
    have hm2 : (0 + n) * 1 ≤ 140737488355328 := by omega
    go_enter Try.func3, Try.ntmps3
    go_wp2_with fail
    refine (shown_any _).mono ?_
    rintro e w1 ⟨rfl, hb1⟩
    have hr1 := hrp.below hb1
    go_wp2_with (at_builtin; refine wpList_append_any _ rfl (.tmp 24) (.tmp 25) _ rfl w1.heap.size 5 i1 _ 1 1 Try.underlying22 hj0 hy0 hy1 hy2 rfl (by omega) _ 0 [] rfl (World.ownsRow_made w1 #[] 0 (Nat.le_refl _) (Nat.zero_le _) rfl) w.heap.size A n c (B8 X) rfl (hr1.alloc hb1.size _) (B8_one _) hm1 hm2 (le_alloc (Nat.le_refl _) _) ?_; intro v2 w2 hown2 hbel2)
    obtain ⟨A2, c2, hv2, hn2, hc2'⟩ := own_shape hown2
    rw [hv2] at hown2 ⊢
    rw [List.nil_append] at hown2
    simp only [Nat.zero_add] at hown2 hn2 ⊢
    have hb2 : Below w.heap.size w w2 := (hb1.alloc hb1.size _).trans (hbel2.mono hb1.size)
    have hrb2 := hrp.below hb2
    have hk2 := run_conv_reads (P := Try.prog) w2 22 5 9 Try.underlying22 Try.underlying5 Try.underlying9 _ A n c X hrb2
    go_wp2_with fail
    refine (get_any A2 n c2 X width _ _ (Reads.of_own hown2) hn2 (by simpa [maxLen] using hc2')).mono ?_
    rintro e w' ⟨rfl, rfl⟩
    go_wp2_with fail
    refine (HG.out w2).mono ?_
    rintro e w' ⟨rfl, rfl⟩
    go_wp2_with fail
    refine (row_any A2 n c2 X width _ (Reads.of_own hown2) hn2 (by simpa [maxLen] using hc2') (by omega)).mono ?_
    rintro e w3 ⟨A3, n3, c3, rfl, hn3, hc3', hown3, hbel3⟩
    have hb3 : Below w.heap.size w w3 := hb2.trans (hbel3.mono hb2.size)
    have hrb3 := hrp.below hb3
    have hk3 := run_conv_reads (P := Try.prog) w3 22 5 9 Try.underlying22 Try.underlying5 Try.underlying9 _ A n c X hrb3
    clear hk2
    go_wp2_with fail
    refine (HRW.out w3).mono ?_
    rintro e w4 ⟨A4, n4, c4, rfl, hn4, hc4', hown4, hbel4⟩
    have hb4 : Below w.heap.size w w4 := hb3.trans (hbel4.mono hb3.size)
    have hrb4 := hrp.below hb4
    have hro4 := ((Reads.of_own hown2).later hbel3).later hbel4
    have hrow4 := (Reads.of_own hown3).later hbel4
    have hrew4 := Reads.of_own hown4
    have hk4 := fun q => run_conv_reads (P := Try.prog) (w4.drewN q) 22 5 9 Try.underlying22 Try.underlying5 Try.underlying9 _ A n c X (hrb4.drewN q)
    have hk5 := fun q => run_conv_reads (P := Try.prog) (w4.drewN q) 22 5 9 Try.underlying22 Try.underlying5 Try.underlying9 _ A2 n c2 X (hro4.drewN q)
    clear hk3
    have hdec : decide (rowL X width = rowL X width) = true := by simp
    have HSM := hide (same_any A3 A4 n3 c3 n4 c4 _ _ _ _ w4 hrow4 hrew4 (by simp only [maxLen] at hc3'; omega) (by simp only [maxLen] at hc4'; omega))
    go_wp2_with fail
    refine HSM.out.mono ?_
    rintro e w5 ⟨rfl, q, rfl⟩
    rw [hdec]
    go_wp2
    go_ret
    exact ⟨rfl, below_drewN hb4 q⟩
  · have hrp := hr.head (k := 2000) (by omega)
    rw [Nat.mul_one, B8_take] at hrp
    obtain ⟨X, hX⟩ : ∃ X, X = bs.take 2000 := ⟨_, rfl⟩
    rw [← hX] at hrp
    clear hX
    have hxl : X.length = 2000 := by have := hrp.1; rw [B8_length] at this; omega
    have hch : chars ⟨X.toArray⟩ = X := by simp [chars]
    have hsz : (⟨X.toArray⟩ : ByteArray).size = X.length := by simp [ByteArray.size]
    have HG := hide (fun W => refGet_any ⟨X.toArray⟩ width W (by rw [hsz, hxl]; omega))
    have HRW := hide (fun W => refRow_any ⟨X.toArray⟩ width W (by rw [hsz, hxl]; omega))
    rw [hch] at HG HRW
    clear hch hsz hxl
    have hm1 : 0 + 2000 ≤ maxLen := by simp only [maxLen]; omega
    have hm2 : (0 + 2000) * 1 ≤ 140737488355328 := by omega
    go_enter Try.func3, Try.ntmps3
    go_wp2_with fail
    refine (shown_any _).mono ?_
    rintro e w1 ⟨rfl, hb1⟩
    have hr1 := hrp.below hb1
    go_wp2_with (at_builtin; refine wpList_append_any _ rfl (.tmp 24) (.tmp 25) _ rfl w1.heap.size 5 i1 _ 1 1 Try.underlying22 hj0 hy0 hy1 hy2 rfl (by omega) _ 0 [] rfl (World.ownsRow_made w1 #[] 0 (Nat.le_refl _) (Nat.zero_le _) rfl) w.heap.size A 2000 c (B8 X) rfl (hr1.alloc hb1.size _) (B8_one _) hm1 hm2 (le_alloc (Nat.le_refl _) _) ?_; intro v2 w2 hown2 hbel2)
    obtain ⟨A2, c2, hv2, hn2, hc2'⟩ := own_shape hown2
    rw [hv2] at hown2 ⊢
    rw [List.nil_append] at hown2
    simp only [Nat.zero_add] at hown2 hn2 ⊢
    have hb2 : Below w.heap.size w w2 := (hb1.alloc hb1.size _).trans (hbel2.mono hb1.size)
    have hrb2 := hrp.below hb2
    have hk2 := run_conv_reads (P := Try.prog) w2 22 5 9 Try.underlying22 Try.underlying5 Try.underlying9 _ A 2000 c X hrb2
    go_wp2_with fail
    refine (get_any A2 2000 c2 X width _ _ (Reads.of_own hown2) hn2 (by simpa [maxLen] using hc2')).mono ?_
    rintro e w' ⟨rfl, rfl⟩
    go_wp2_with fail
    refine (HG.out w2).mono ?_
    rintro e w' ⟨rfl, rfl⟩
    go_wp2_with fail
    refine (row_any A2 2000 c2 X width _ (Reads.of_own hown2) hn2 (by simpa [maxLen] using hc2') (by omega)).mono ?_
    rintro e w3 ⟨A3, n3, c3, rfl, hn3, hc3', hown3, hbel3⟩
    have hb3 : Below w.heap.size w w3 := hb2.trans (hbel3.mono hb2.size)
    have hrb3 := hrp.below hb3
    have hk3 := run_conv_reads (P := Try.prog) w3 22 5 9 Try.underlying22 Try.underlying5 Try.underlying9 _ A 2000 c X hrb3
    clear hk2
    go_wp2_with fail
    refine (HRW.out w3).mono ?_
    rintro e w4 ⟨A4, n4, c4, rfl, hn4, hc4', hown4, hbel4⟩
    have hb4 : Below w.heap.size w w4 := hb3.trans (hbel4.mono hb3.size)
    have hrb4 := hrp.below hb4
    have hro4 := ((Reads.of_own hown2).later hbel3).later hbel4
    have hrow4 := (Reads.of_own hown3).later hbel4
    have hrew4 := Reads.of_own hown4
    have hk4 := fun q => run_conv_reads (P := Try.prog) (w4.drewN q) 22 5 9 Try.underlying22 Try.underlying5 Try.underlying9 _ A 2000 c X (hrb4.drewN q)
    have hk5 := fun q => run_conv_reads (P := Try.prog) (w4.drewN q) 22 5 9 Try.underlying22 Try.underlying5 Try.underlying9 _ A2 2000 c2 X (hro4.drewN q)
    clear hk3
    have hdec : decide (rowL X width = rowL X width) = true := by simp
    have HSM := hide (same_any A3 A4 n3 c3 n4 c4 _ _ _ _ w4 hrow4 hrew4 (by simp only [maxLen] at hc3'; omega) (by simp only [maxLen] at hc4'; omega))
    go_wp2_with fail
    refine HSM.out.mono ?_
    rintro e w5 ⟨rfl, q, rfl⟩
    rw [hdec]
    go_wp2
    go_ret
    exact ⟨rfl, below_drewN hb4 q⟩

/-! The row's frame, by program: how the walk above proves the statement. -/
set_option maxRecDepth 100000 in
theorem lifted (os : Os) (started : os.Started) (H : Type) (enc : TypeId × Value → H) :
    ReturnsInHanded {} Try.checked os 3 .any (Rows.packGetsSpec.pre6 enc Try.prog Try.f3 Rows.packGetsRow.domain false) (Rows.packGetsSpec.post enc Try.prog Try.f3 false true false false) := by
  refine returnsInHanded_of_change (C := Try.checked) own started (by kernel_rfl) Try.func3
    (ChangeSpec.witness6 (enc := enc) (C := Try.checked) false ⟨#[], #[.slice none 0 0, .int .i64 0], []⟩ 8 (by kernel_rfl) (by kernel_rfl) (by kernel_rfl) (by kernel_rfl)) ?_
  intro W base args ds gs before hval0 hW hcnd _
  have hval : ∀ (j : Nat) t v, Try.f3.params[j]? = some t → args[j]? = some v → Value.okWide Try.prog W .any base t v := hval0
  have hW' := hW
  obtain ⟨p, q, hA0, hV, rfl, hfz, hnd⟩ := hW
  have hA : DataW.TrodAll enc Try.prog W 0 (fun _ => true) true Try.f3.params.toList args.toList ds p := hA0
  rw [Try.params3] at hA hval
  obtain ⟨v0, vs0, d0, ds0, p0, q0, hargs, rfl, rfl, h0, r0⟩ := trodAll_cons hA
  obtain ⟨v1, vs1, d1, ds1, p1, q1, rfl, rfl, rfl, h1, r1⟩ := trodAll_cons r0
  obtain ⟨rfl, rfl, rfl⟩ := trodAll_nil r1
  obtain rfl : args = #[v0, v1] := by cases args; simp_all
  obtain ⟨rfl, rfl⟩ := trodVars_none hV
  obtain ⟨A0, n0, c0, rfl⟩ := okWide_slice Try.underlying22 (hval 0 22 v0 rfl rfl)
  have k0 := h0
  have lt0 : ∀ x ∈ p0, x.block < W.heap.size := by obtain ⟨m, hm⟩ := k0; exact DataW.trod_lt m _ _ _ hm
  obtain ⟨l0, x0, g0, z0⟩ := arg_bytes h0
  obtain ⟨a1, rfl, rfl, rfl, w1⟩ := open_int Try.underlying3 (hval 1 3 v1 rfl rfl) h1
  have b1 := bounds_i64 w1
  clear hA0 hval0
  refine (walk A0 n0 c0 l0 a1 W x0 g0 z0 b1.1 b1.2).mono fun e W' ⟨he, bel⟩ => ?_
  subst he
  exact ⟨_, rfl, _, _, _, [], _, [], hW', trodAll_mk1 (shut_bool Try.underlying4 _), (trodAll_cons_mk (Below.trod laidOut (by kernel_rfl) (of_decide_eq_true (by kernel_rfl)) k0 bel lt0) (trodAll_cons_mk (shut_int Try.underlying3 w1) trodAll_mk0)), rfl, bel.frame _, fun h => by cases h⟩

theorem over : Rows.packGetsRow.holds Try.pinned (OpenSpec.ofChange Rows.packGetsSpec) :=
  OpenClaim.holds_of_wide 3 Try.f3 rfl rfl rfl rfl rfl rfl rfl ⟨rfl, rfl, rfl, rfl, rfl⟩ rfl rfl rfl rfl rfl (by kernel_rfl) Try.func3 (by kernel_rfl)
    (of_decide_eq_true (by kernel_rfl)) (by unfold Func.isWrapper; first | (rw [if_pos (by decide +kernel)]; kernel_rfl) | (rw [if_neg (by decide +kernel)]; exact ⟨rfl, rfl⟩))
    (fun os started H enc _ => lifted os started H enc)

/-- The statement. -/
theorem proved : Rows.PackGetsSaid := over
#print axioms proved
end Go.Proofs.Ytkjbjhciafnbeaa.PackGets
