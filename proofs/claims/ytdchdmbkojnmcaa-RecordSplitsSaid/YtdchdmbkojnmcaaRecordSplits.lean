/- RecordSplits holds: for all generations, numbers and bytes (their first three thousand) Split answers what the document's answer over strings is, and leaves the bytes as they were; and for every number of bytes Parts answers what the document's answer is; no condition. -/
import Derived.Test.YtdchdmbkojnmcaaRecL
import Derived.Test.YtdchdmbkojnmcaaRecR
import Derived.Test.YtdchdmbkojnmcaaSameSec
import Derived.Test.YtdchdmbkojnmcaaArg
import Derived.Test.YtdchdmbkojnmcaaRows
import Derived.Deep.DeepCutAuto
import Derived.Deep.CutBlock
import Derived.Deep.CutRange
namespace Go.Proofs.Ytdchdmbkojnmcaa.RecordSplits
open Go.ChangeShapes Go.WideShapes Go.ChangeAt Go.RowKit Go.Proofs.Ytdchdmbkojnmcaa

/-- A row of sectors that a call hands back. -/
def GaveS (bs : List UInt8) (w : World) (e : Ending) (w' : World) : Prop := ∃ (A : Option Addr) (n c : Nat), e = .returned (.slice A n c) ∧ Reads w' w'.heap.size 64 A n (B8 bs) ∧ n ≤ 40 ∧ Below w.heap.size w w'
theorem nums (gen nr : Int) : (numB gen = true ∧ numB nr = true) ∨ (numB gen = false ∨ numB nr = false) := by
  cases numB gen <;> cases numB nr <;> simp
theorem both_one (gen nr : Int) (A : Option Addr) (n c : Nat) (b : List UInt8) (B0 : Nat) (w : World) (hr : Reads w B0 1 A n (B8 b)) (hB0 : B0 ≤ w.heap.size) (hc : n ≤ c) (hc2 : c ≤ 9223372036854775807) :
    Calls Try.prog 11 #[.int .i64 gen, .int .i64 nr, .slice A n c] w (GaveS (splitR gen nr b) w) := by
  rcases nums gen nr with ⟨hg, hn⟩ | h
  · rw [splitR_yes hg hn]
    refine (recSplit_any gen nr A n c b B0 w hr hB0 hc hc2 hg hn).mono ?_
    rintro e w' ⟨g, he, _, hb, hl⟩
    exact ⟨_, _, _, he, blk_secs hb (split_length gen nr b), partsN_le _, hl⟩
  · rw [splitR_no h]
    refine (recSplit_no gen nr _ w h).mono ?_
    rintro e w' ⟨he, rfl⟩
    exact ⟨_, _, _, he, Reads.none_, by omega, Below.refl _ _⟩
theorem both_two (gen nr : Int) (b : List UInt8) (hb : b.length ≤ 1000000) (w : World) :
    Calls Try.prog 13 #[.int .i64 gen, .int .i64 nr, .string (strOf b)] w (GaveS (splitR gen nr b) w) := by
  rcases nums gen nr with ⟨hg, hn⟩ | h
  · rw [splitR_yes hg hn]
    by_cases hp : partsN b.length = 0
    · rw [splitT_none hp]
      refine (refSplit_no gen nr b w (.inl hp)).mono ?_
      rintro e w' ⟨he, rfl⟩
      exact ⟨_, _, _, he, Reads.none_, by omega, Below.refl _ _⟩
    · refine (refSplit_any gen nr b hb w hp hg hn).mono ?_
      rintro e w' ⟨A, n, c, he, _, _, ho, hl⟩
      have hlen := ho.1
      rw [B8_length, split_length] at hlen
      have := partsN_le b.length
      exact ⟨_, _, _, he, Reads.of_own ho, by omega, hl⟩
  · rw [splitR_no h]
    refine (refSplit_no gen nr b w (.inr h)).mono ?_
    rintro e w' ⟨he, rfl⟩
    exact ⟨_, _, _, he, Reads.none_, by omega, Below.refl _ _⟩
set_option maxRecDepth 100000 in
set_option maxHeartbeats 4000000 in
theorem walk (gen nr : Int) (A : Option Addr) (n c : Nat) (l : List UInt8) (pn : Int) (w : World) (_g1 : -9223372036854775808 ≤ gen) (_g2 : gen ≤ 9223372036854775807) (_n1 : -9223372036854775808 ≤ nr) (_n2 : nr ≤ 9223372036854775807) (hr : Reads w w.heap.size 1 A n (B8 l)) (hc : n ≤ c) (hc2 : c ≤ 9223372036854775807)
    (_p1 : -9223372036854775808 ≤ pn) (_p2 : pn ≤ 9223372036854775807) :
    Calls Try.prog 3 #[.int .i64 gen, .int .i64 nr, .slice A n c, .int .i64 pn] w fun e w' => e = .returned (.bool true) ∧ Below w.heap.size w w' := by
  have HS := hide (shown_any w)
  have HR := hide hr
  clear hr
  obtain ⟨i0, hi0, hz0, hz1, hz2⟩ := info_parts u8_parts
  go_enter Try.func3, Try.ntmps3
  go_upto_region 2 with (go_at_call 10; refine HS.out.mono ?_; rintro _ w1 ⟨rfl, hl1⟩)
  go_cut [2] (fun v2 wx => w1 = wx ∧ ∃ m : Nat, m ≤ n ∧ m ≤ 3000 ∧ v2 = .slice A m c)
  case first =>
    by_cases hmn : (n : Int) ≤ 3000
    · go_wp2_with fail
      go_meet
      case rel => exact ⟨rfl, n, Nat.le_refl _, by omega, rfl⟩
    · go_wp2_with fail
      go_meet
      case rel => exact ⟨rfl, 3000, by omega, by omega, rfl⟩
  case rest =>
    obtain ⟨rfl, m, hmn, hm30, rfl⟩ := hcut
    have HL1 := hide hl1
    have hh := HR.out.head (k := m) hmn
    rw [Nat.mul_one, B8_take] at hh
    obtain ⟨b, hb⟩ : ∃ b, b = l.take m := ⟨_, rfl⟩
    rw [← hb] at hh
    have hbl : b.length = m := by have := hh.1; rw [B8_length] at this; omega
    have HRB := hide hh
    have HTwo := hide (both_two gen nr b (by omega))
    have HP1 := hide (recParts_any pn)
    have HP2 := hide (refParts_any pn)
    generalize partsI pn = K at *
    have hm1 : 0 + m ≤ maxLen := by simp only [maxLen]; omega
    have hm2 : (0 + m) * 1 ≤ 140737488355328 := by omega
    have HR1 := hide (HRB.out.below HL1.out)
    clear hh hb hl1 hbl
    have hz1' := HL1.out.size
    go_wp2_with (at_builtin; refine wpList_append_any _ rfl (.tmp 19) (.tmp 20) _ rfl w1.heap.size 5 i0 _ 1 1 Try.underlying22 hi0 hz0 hz1 hz2 rfl (by omega) _ 0 [] rfl (World.ownsRow_made w1 #[] 0 (Nat.le_refl _) (Nat.zero_le _) rfl) w.heap.size A m c (B8 b) rfl (HR1.out.alloc hz1' _) (B8_one _) hm1 hm2 (le_alloc (Nat.le_refl _) _) ?_; intro v2 w2 hown2 hbel2)
    rw [List.nil_append, Nat.zero_add] at hown2
    obtain ⟨A2, c2, rfl, hn2, hcm2⟩ := own_shape hown2
    have HL2 := hide ((HL1.out.alloc hz1' (.cells #[] 5)).trans (hbel2.mono hz1'))
    have HO2 := hide hown2
    simp only [maxLen] at hcm2
    clear hown2 hbel2
    refine (both_one gen nr A2 m c2 b w2.heap.size w2 (Reads.of_own HO2.out) (Nat.le_refl _) hn2 (by omega)).mono ?_
    rintro _ w3 ⟨A3, n3, c3, rfl, hr3, hn3, hl3⟩
    have HO3 := hide (own_later HO2.out hl3)
    have HL3 := hide (HL2.out.trans (hl3.mono HL2.out.size))
    have HR3 := hide hr3
    have hkb : (convert 22 9 (.slice A m c)).run Try.prog w3 = .ok (.string (strOf b)) w3 := run_conv_reads (P := Try.prog) w3 22 5 9 Try.underlying22 Try.underlying5 Try.underlying9 _ A m c b (HRB.out.below HL3.out)
    clear hl3 hr3
    go_wp2_with fail
    refine (HTwo.out w3).mono ?_
    rintro _ w4 ⟨A4, n4, c4, rfl, hr4, hn4, hl4⟩
    have HO4 := hide (own_later HO3.out hl4)
    have HL4 := hide (HL3.out.trans (hl4.mono HL3.out.size))
    have hsm := sameSec_any A3 A4 n3 c3 n4 c4 (splitR gen nr b) (splitR gen nr b) _ _ w4 (HR3.out.below hl4) hr4 (by omega) (by omega)
    rw [decide_eq_true rfl] at hsm
    have HSM := hide hsm
    clear hkb hl4 hr4 hsm
    go_wp2_with fail
    refine HSM.out.mono ?_
    rintro _ w5 ⟨rfl, q, rfl⟩
    have HL5 := hide (below_drewN HL4.out q)
    have hk1 : (convert 22 9 (.slice A2 m c2)).run Try.prog (w4.drewN q) = .ok (.string (strOf b)) (w4.drewN q) := run_conv_reads (P := Try.prog) _ 22 5 9 Try.underlying22 Try.underlying5 Try.underlying9 _ A2 m c2 b ((Reads.of_own HO4.out).drewN q)
    have hk2 : (convert 22 9 (.slice A m c)).run Try.prog (w4.drewN q) = .ok (.string (strOf b)) (w4.drewN q) := run_conv_reads (P := Try.prog) _ 22 5 9 Try.underlying22 Try.underlying5 Try.underlying9 _ A m c b ((HRB.out.below HL4.out).drewN q)
    generalize w4.drewN q = w6 at *
    go_wp2_with (first
      | (go_at_call 14; refine (HP1.out _).mono ?_; rintro _ w7 ⟨rfl, rfl⟩)
      | (go_at_call 15; refine (HP2.out _).mono ?_; rintro _ w7 ⟨rfl, rfl⟩))
    go_ret
    exact ⟨rfl, HL5.out⟩

/-! The row's frame, by program: how the walk above proves the statement. -/
set_option maxRecDepth 100000 in
theorem lifted (os : Os) (started : os.Started) (H : Type) (enc : TypeId × Value → H) :
    ReturnsInHanded {} Try.checked os 3 .any (Rows.recordSplitsSpec.pre6 enc Try.prog Try.f3 Rows.recordSplitsRow.domain false) (Rows.recordSplitsSpec.post enc Try.prog Try.f3 false true false false) := by
  refine returnsInHanded_of_change (C := Try.checked) own started (by kernel_rfl) Try.func3
    (ChangeSpec.witness6 (enc := enc) (C := Try.checked) false ⟨#[], #[.int .i64 0, .int .i64 0, .slice none 0 0, .int .i64 0], []⟩ 8 (by kernel_rfl) (by kernel_rfl) (by kernel_rfl) (by kernel_rfl)) ?_
  intro W base args ds gs before hval0 hW hcnd _
  have hval : ∀ (j : Nat) t v, Try.f3.params[j]? = some t → args[j]? = some v → Value.okWide Try.prog W .any base t v := hval0
  have hW' := hW
  obtain ⟨p, q, hA0, hV, rfl, hfz, hnd⟩ := hW
  have hA : DataW.TrodAll enc Try.prog W 0 (fun _ => true) true Try.f3.params.toList args.toList ds p := hA0
  rw [Try.params3] at hA hval
  obtain ⟨v0, vs0, d0, ds0, p0, q0, hargs, rfl, rfl, h0, r0⟩ := trodAll_cons hA
  obtain ⟨v1, vs1, d1, ds1, p1, q1, rfl, rfl, rfl, h1, r1⟩ := trodAll_cons r0
  obtain ⟨v2, vs2, d2, ds2, p2, q2, rfl, rfl, rfl, h2, r2⟩ := trodAll_cons r1
  obtain ⟨v3, vs3, d3, ds3, p3, q3, rfl, rfl, rfl, h3, r3⟩ := trodAll_cons r2
  obtain ⟨rfl, rfl, rfl⟩ := trodAll_nil r3
  obtain rfl : args = #[v0, v1, v2, v3] := by cases args; simp_all
  obtain ⟨rfl, rfl⟩ := trodVars_none hV
  obtain ⟨a0, rfl, rfl, rfl, w0⟩ := open_int Try.underlying3 (hval 0 3 v0 rfl rfl) h0
  have b0 := bounds_i64 w0
  obtain ⟨a1, rfl, rfl, rfl, w1⟩ := open_int Try.underlying3 (hval 1 3 v1 rfl rfl) h1
  have b1 := bounds_i64 w1
  obtain ⟨A2, n2, c2, rfl⟩ := okWide_slice Try.underlying22 (hval 2 22 v2 rfl rfl)
  have k2 := h2
  have lt2 : ∀ x ∈ p2, x.block < W.heap.size := by obtain ⟨m, hm⟩ := k2; exact DataW.trod_lt m _ _ _ hm
  obtain ⟨l2, x2, g2, z2⟩ := arg_bytes h2
  obtain ⟨a3, rfl, rfl, rfl, w3⟩ := open_int Try.underlying3 (hval 3 3 v3 rfl rfl) h3
  have b3 := bounds_i64 w3
  clear hA0 hval0
  refine (walk a0 a1 A2 n2 c2 l2 a3 W b0.1 b0.2 b1.1 b1.2 x2 g2 z2 b3.1 b3.2).mono fun e W' ⟨he, bel⟩ => ?_
  subst he
  exact ⟨_, rfl, _, _, _, [], _, [], hW', trodAll_mk1 (shut_bool Try.underlying4 _), (trodAll_cons_mk (shut_int Try.underlying3 w0) (trodAll_cons_mk (shut_int Try.underlying3 w1) (trodAll_cons_mk (Below.trod laidOut (by kernel_rfl) (of_decide_eq_true (by kernel_rfl)) k2 bel lt2) (trodAll_cons_mk (shut_int Try.underlying3 w3) trodAll_mk0)))), rfl, bel.frame _, fun h => by cases h⟩

theorem over : Rows.recordSplitsRow.holds Try.pinned (OpenSpec.ofChange Rows.recordSplitsSpec) :=
  OpenClaim.holds_of_wide 3 Try.f3 rfl rfl rfl rfl rfl rfl rfl ⟨rfl, rfl, rfl, rfl, rfl⟩ rfl rfl rfl rfl rfl (by kernel_rfl) Try.func3 (by kernel_rfl)
    (of_decide_eq_true (by kernel_rfl)) (by unfold Func.isWrapper; first | (rw [if_pos (by decide +kernel)]; kernel_rfl) | (rw [if_neg (by decide +kernel)]; exact ⟨rfl, rfl⟩))
    (fun os started H enc _ => lifted os started H enc)

/-- The statement. -/
theorem proved : Rows.RecordSplitsSaid := over
#print axioms proved
end Go.Proofs.Ytdchdmbkojnmcaa.RecordSplits
