/- RecordOther holds: for all bytes (their first 2120) and any two unlike pairs of generation and number below 2^32, what the one pair split is not joined by the other, nor by the one with one part of the other in it; no condition. -/
import Derived.Test.YtdchdmbkojnmcaaRecL
import Derived.Test.YtdchdmbkojnmcaaArg
import Derived.Test.YtdchdmbkojnmcaaRows
import Derived.Deep.DeepCutAuto
import Derived.Deep.CutBlock
import Derived.Deep.CutRange
namespace Go.Proofs.Ytdchdmbkojnmcaa.RecordOther
open Go.ChangeShapes Go.WideShapes Go.ChangeAt Go.RowKit Go.Proofs.Ytdchdmbkojnmcaa

set_option maxRecDepth 100000 in
set_option maxHeartbeats 4000000 in
theorem walk (gen nr : Int) (A : Option Addr) (n c : Nat) (l : List UInt8) (other next at_ : Int) (w : World) (_g1 : -9223372036854775808 ≤ gen) (_g2 : gen ≤ 9223372036854775807) (_n1 : -9223372036854775808 ≤ nr) (_n2 : nr ≤ 9223372036854775807) (hr : Reads w w.heap.size 1 A n (B8 l)) (hc : n ≤ c) (hc2 : c ≤ 9223372036854775807)
    (_o1 : -9223372036854775808 ≤ other) (_o2 : other ≤ 9223372036854775807) (_x1 : -9223372036854775808 ≤ next) (_x2 : next ≤ 9223372036854775807) (_a1 : -9223372036854775808 ≤ at_) (_a2 : at_ ≤ 9223372036854775807) :
    Calls Try.prog 6 #[.int .i64 gen, .int .i64 nr, .slice A n c, .int .i64 other, .int .i64 next, .int .i64 at_] w fun e w' => e = .returned (.bool true) ∧ Below w.heap.size w w' := by
  have HS := hide (shown_any w)
  have HR := hide hr
  have hm1 := mask32 gen
  have hm2 := mask32 nr
  have hm3 := mask32 other
  have hm4 := mask32 next
  have hm5 := mask8 at_
  have HN1 := hide (num_mod gen)
  have HN2 := hide (num_mod nr)
  have HN3 := hide (num_mod other)
  have HN4 := hide (num_mod next)
  clear hr
  generalize gen % 4294967296 = G at *
  generalize nr % 4294967296 = R at *
  generalize other % 4294967296 = O at *
  generalize next % 4294967296 = X at *
  have hw0 : 0 ≤ at_ % 256 := Int.emod_nonneg _ (by omega)
  generalize at_ % 256 = T at *
  go_enter Try.func6, Try.ntmps6
  go_upto_region 2 with (go_at_call 10; refine HS.out.mono ?_; rintro _ w1 ⟨rfl, hl1⟩)
  go_cut [2] (fun v2 wx => w1 = wx ∧ ∃ m : Nat, m ≤ n ∧ m ≤ 2120 ∧ v2 = .slice A m c)
  case first =>
    by_cases hmn : (n : Int) ≤ 2120
    · go_wp2_with fail
      go_meet
      case rel => exact ⟨rfl, n, Nat.le_refl _, by omega, rfl⟩
    · go_wp2_with fail
      go_meet
      case rel => exact ⟨rfl, 2120, by omega, by omega, rfl⟩
  case rest =>
    obtain ⟨rfl, m, hmn, hm21, rfl⟩ := hcut
    have HL1 := hide hl1
    have hh := HR.out.head (k := m) hmn
    rw [Nat.mul_one, B8_take] at hh
    obtain ⟨b, hb⟩ : ∃ b, b = l.take m := ⟨_, rfl⟩
    rw [← hb] at hh
    have hbl : b.length = m := by have := hh.1; rw [B8_length] at this; omega
    have HRB := hide hh
    have hpn := (partsN_is (n := b.length) (by omega)).1
    have hp40 := partsN_le b.length
    obtain ⟨N, hN⟩ : ∃ N, N = partsN b.length := ⟨_, rfl⟩
    have HNN := hide hN
    rw [← hN] at hpn hp40
    have hN0 : ((N : Int) == 0) = false := by simp; omega
    clear hh hb hl1 hN hbl
    have HSP1 := hide (fun (w' : World) (hb : Below w.heap.size w w') => recSplit_any G R A m c b w.heap.size w' (HRB.out.below hb) hb.size (by omega) hc2 HN1.out HN2.out)
    have HSP2 := hide (fun (w' : World) (hb : Below w.heap.size w w') => recSplit_any O X A m c b w.heap.size w' (HRB.out.below hb) hb.size (by omega) hc2 HN3.out HN4.out)
    rw [← HNN.out] at HSP1 HSP2
    obtain ⟨r, hr1, hr2⟩ : ∃ r : Nat, T.tmod (N : Int) = (r : Int) ∧ r < N := by
      have h0 : 0 ≤ T % (N : Int) := Int.emod_nonneg _ (by omega)
      have h1 : T % (N : Int) < (N : Int) := Int.emod_lt_of_pos _ (by omega)
      exact ⟨(T % (N : Int)).toNat, by rw [Int.tmod_eq_emod_of_nonneg hw0]; omega, by omega⟩
    have hr3 : T % (N : Int) = (r : Int) := by rw [← Int.tmod_eq_emod_of_nonneg hw0]; exact hr1
    have hSL := split_length G R b
    have hKL := split_length O X b
    rw [← HNN.out] at hSL hKL
    obtain ⟨S, hS⟩ : ∃ S, S = splitT G R b := ⟨_, rfl⟩
    obtain ⟨K, hK⟩ : ∃ K, K = splitT O X b := ⟨_, rfl⟩
    rw [← hS] at HSP1 hSL
    rw [← hK] at HSP2 hKL
    have HS1 := hide hS
    have HK1 := hide hK
    have HSL := hide hSL
    have HKL := hide hKL
    clear hS hK hSL hKL
    by_cases h1 : G = O
    · subst h1
      by_cases h2 : R = X
      · subst h2
        go_wp2
        go_ret
        exact ⟨rfl, HL1.out⟩
      have HNE := hide (show ¬ (G = G ∧ R = X) from fun h => h2 h.2)
      have hq : (R == X) = false := by simpa using h2
      clear h2
      have HJ1 := hide (fun (w' : World) (g : Nat) (hb : Blk w' g 35 (B8 S).toArray) => recJoin_any G X (some ⟨g, 0, none⟩) N N S w'.heap.size w' (blk_secs hb HSL.out) (Nat.le_refl _) (by omega))
      have hj1 : joinB G X N S = false := join_no (i := 0) (by omega) (by rw [HS1.out, split_at G R b (by rw [← HNN.out]; omega)]; exact ok_other HN1.out HN2.out (by rw [← HNN.out]; omega) HNE.out)
      unfold Joined at HJ1
      rw [hj1] at HJ1
      obtain ⟨Y, hY⟩ : ∃ Y, Y = secAt K r := ⟨_, rfl⟩
      have hYl : Y.length = 64 := by rw [hY]; exact secAt_length HKL.out hr2
      have HYP := hide (show Y = pieceS G X b r by rw [hY, HK1.out]; exact split_at G X b (by rw [← HNN.out]; omega))
      have HYI := hide (fun (j : Nat) (v : Value) (h : (B8 Y)[j]? = some v) => (by rw [hY] at h; exact sec_in j v h : (B8 K).toArray[r * 64 + j]? = some v))
      obtain ⟨U, hU⟩ : ∃ U, U = B8 Y := ⟨_, rfl⟩
      have HIU := hide (show (Try.prog.info? 35).map (·.size) = some U.length by rw [hU, B8_length, hYl]; kernel_rfl)
      have HUO := hide (show ∀ v ∈ U, v.oneCell' = true by rw [hU]; exact B8_one _)
      have HFIT := hide (show r * 64 + U.length ≤ (B8 S).toArray.size by rw [List.size_toArray, B8_length, HSL.out, hU, B8_length, hYl]; omega)
      rw [← hU] at HYI
      have HPU := hide (show (B8 S).toArray.toList.take (r * 64) ++ U ++ (B8 S).toArray.toList.drop (r * 64 + U.length) = B8 (putSec S r Y) by
        rw [hU, B8_length, hYl]
        exact B8_putSec S Y r)
      have hPl := putSec_length HSL.out hYl hr2
      have hPa := putSec_at HSL.out hYl hr2
      obtain ⟨Z, hZ⟩ : ∃ Z, Z = putSec S r Y := ⟨_, rfl⟩
      rw [← hZ] at hPl hPa HPU
      have HJ2 := hide (fun (w' : World) (g : Nat) (hb : Blk w' g 35 (B8 Z).toArray) => recJoin_any G R (some ⟨g, 0, none⟩) N N Z w'.heap.size w' (blk_secs hb hPl) (Nat.le_refl _) (by omega))
      have hj2 : joinB G R N Z = false := join_no (i := r) hr2 (by rw [hPa, HYP.out]; exact ok_other HN3.out HN4.out (by rw [← HNN.out]; omega) (fun h => HNE.out ⟨h.1.symm, h.2.symm⟩))
      unfold Joined at HJ2
      rw [hj2] at HJ2
      clear hj1 hj2 hY hYl hU hPl hPa hZ
      go_wp2_with fail
      refine (HSP1.out _ HL1.out).mono ?_
      rintro _ w2 ⟨g1, rfl, hg1, hb1, hl2⟩
      have HB1 := hide hb1
      have HL2 := hide (HL1.out.trans (hl2.mono HL1.out.size))
      have hx1 := hb1.lt
      have HG1 := hide (show w.heap.size ≤ g1 from Nat.le_trans HL1.out.size hg1)
      clear hb1 hl2 hg1
      go_wp2_with fail
      refine (HSP2.out _ HL2.out).mono ?_
      rintro _ w3 ⟨g2, rfl, hg2, hb2, hl3⟩
      have HB13 := hide (HB1.out.below hl3 hx1)
      have HB2 := hide hb2
      have HL3 := hide (HL2.out.trans (hl3.mono HL2.out.size))
      have hx2 := hb2.lt
      have hx3 := hl3.size
      clear hb2 hl3
      go_wp2_with fail
      refine (HJ1.out _ _ HB13.out).mono ?_
      rintro _ w4 ⟨R4, k4, d4, rfl, _, _, _, hl4⟩
      have HB14 := hide (HB13.out.below hl4 HB13.out.lt)
      have HB24 := hide (HB2.out.below hl4 hx2)
      have HL4 := hide (HL3.out.trans (hl4.mono HL3.out.size))
      clear hl4 HB13 HB2
      go_wp2_with (first
        | ((with_reducible refine at_slot 79 ?_); refine wpList_load_blk rfl 35 (.tmp 78) rfl g2 (r * 64) 35 _ HB24.out rfl U _ HYI.out Try.underlying35 rfl HIU.out ?_)
        | ((with_reducible refine at_store 80 ?_); refine wpList_store_blk rfl 35 (.tmp 80) (.tmp 79) rfl g1 (r * 64) 35 _ HB14.out rfl U rfl HIU.out HFIT.out HUO.out ?_; intro w5 hb5 hg5 hs5; clear hs5))
      rw [HPU.out] at hb5
      have HB5 := hide hb5
      have HL5 := hide (HL4.out.grown hg5 (by have := HL4.out.size; omega) (fun g e => by injection e with e; have := HG1.out; omega))
      clear hb5 hg5
      refine (HJ2.out _ _ HB5.out).mono ?_
      rintro _ w6 ⟨R6, k6, d6, rfl, _, _, _, hl6⟩
      have HL6 := hide (HL5.out.trans (hl6.mono HL5.out.size))
      clear hl6
      go_wp2
      go_ret
      exact ⟨rfl, HL6.out⟩
    · have HNE := hide (show ¬ (G = O ∧ R = X) from fun h => h1 h.1)
      have hq : (G == O) = false := by simpa using h1
      clear h1
      have HJ1 := hide (fun (w' : World) (g : Nat) (hb : Blk w' g 35 (B8 S).toArray) => recJoin_any O X (some ⟨g, 0, none⟩) N N S w'.heap.size w' (blk_secs hb HSL.out) (Nat.le_refl _) (by omega))
      have hj1 : joinB O X N S = false := join_no (i := 0) (by omega) (by rw [HS1.out, split_at G R b (by rw [← HNN.out]; omega)]; exact ok_other HN1.out HN2.out (by rw [← HNN.out]; omega) HNE.out)
      unfold Joined at HJ1
      rw [hj1] at HJ1
      obtain ⟨Y, hY⟩ : ∃ Y, Y = secAt K r := ⟨_, rfl⟩
      have hYl : Y.length = 64 := by rw [hY]; exact secAt_length HKL.out hr2
      have HYP := hide (show Y = pieceS O X b r by rw [hY, HK1.out]; exact split_at O X b (by rw [← HNN.out]; omega))
      have HYI := hide (fun (j : Nat) (v : Value) (h : (B8 Y)[j]? = some v) => (by rw [hY] at h; exact sec_in j v h : (B8 K).toArray[r * 64 + j]? = some v))
      obtain ⟨U, hU⟩ : ∃ U, U = B8 Y := ⟨_, rfl⟩
      have HIU := hide (show (Try.prog.info? 35).map (·.size) = some U.length by rw [hU, B8_length, hYl]; kernel_rfl)
      have HUO := hide (show ∀ v ∈ U, v.oneCell' = true by rw [hU]; exact B8_one _)
      have HFIT := hide (show r * 64 + U.length ≤ (B8 S).toArray.size by rw [List.size_toArray, B8_length, HSL.out, hU, B8_length, hYl]; omega)
      rw [← hU] at HYI
      have HPU := hide (show (B8 S).toArray.toList.take (r * 64) ++ U ++ (B8 S).toArray.toList.drop (r * 64 + U.length) = B8 (putSec S r Y) by
        rw [hU, B8_length, hYl]
        exact B8_putSec S Y r)
      have hPl := putSec_length HSL.out hYl hr2
      have hPa := putSec_at HSL.out hYl hr2
      obtain ⟨Z, hZ⟩ : ∃ Z, Z = putSec S r Y := ⟨_, rfl⟩
      rw [← hZ] at hPl hPa HPU
      have HJ2 := hide (fun (w' : World) (g : Nat) (hb : Blk w' g 35 (B8 Z).toArray) => recJoin_any G R (some ⟨g, 0, none⟩) N N Z w'.heap.size w' (blk_secs hb hPl) (Nat.le_refl _) (by omega))
      have hj2 : joinB G R N Z = false := join_no (i := r) hr2 (by rw [hPa, HYP.out]; exact ok_other HN3.out HN4.out (by rw [← HNN.out]; omega) (fun h => HNE.out ⟨h.1.symm, h.2.symm⟩))
      unfold Joined at HJ2
      rw [hj2] at HJ2
      clear hj1 hj2 hY hYl hU hPl hPa hZ
      go_wp2_with fail
      refine (HSP1.out _ HL1.out).mono ?_
      rintro _ w2 ⟨g1, rfl, hg1, hb1, hl2⟩
      have HB1 := hide hb1
      have HL2 := hide (HL1.out.trans (hl2.mono HL1.out.size))
      have hx1 := hb1.lt
      have HG1 := hide (show w.heap.size ≤ g1 from Nat.le_trans HL1.out.size hg1)
      clear hb1 hl2 hg1
      go_wp2_with fail
      refine (HSP2.out _ HL2.out).mono ?_
      rintro _ w3 ⟨g2, rfl, hg2, hb2, hl3⟩
      have HB13 := hide (HB1.out.below hl3 hx1)
      have HB2 := hide hb2
      have HL3 := hide (HL2.out.trans (hl3.mono HL2.out.size))
      have hx2 := hb2.lt
      have hx3 := hl3.size
      clear hb2 hl3
      go_wp2_with fail
      refine (HJ1.out _ _ HB13.out).mono ?_
      rintro _ w4 ⟨R4, k4, d4, rfl, _, _, _, hl4⟩
      have HB14 := hide (HB13.out.below hl4 HB13.out.lt)
      have HB24 := hide (HB2.out.below hl4 hx2)
      have HL4 := hide (HL3.out.trans (hl4.mono HL3.out.size))
      clear hl4 HB13 HB2
      go_wp2_with (first
        | ((with_reducible refine at_slot 79 ?_); refine wpList_load_blk rfl 35 (.tmp 78) rfl g2 (r * 64) 35 _ HB24.out rfl U _ HYI.out Try.underlying35 rfl HIU.out ?_)
        | ((with_reducible refine at_store 80 ?_); refine wpList_store_blk rfl 35 (.tmp 80) (.tmp 79) rfl g1 (r * 64) 35 _ HB14.out rfl U rfl HIU.out HFIT.out HUO.out ?_; intro w5 hb5 hg5 hs5; clear hs5))
      rw [HPU.out] at hb5
      have HB5 := hide hb5
      have HL5 := hide (HL4.out.grown hg5 (by have := HL4.out.size; omega) (fun g e => by injection e with e; have := HG1.out; omega))
      clear hb5 hg5
      refine (HJ2.out _ _ HB5.out).mono ?_
      rintro _ w6 ⟨R6, k6, d6, rfl, _, _, _, hl6⟩
      have HL6 := hide (HL5.out.trans (hl6.mono HL5.out.size))
      clear hl6
      go_wp2
      go_ret
      exact ⟨rfl, HL6.out⟩

/-! The row's frame, by program: how the walk above proves the statement. -/
set_option maxRecDepth 100000 in
theorem lifted (os : Os) (started : os.Started) (H : Type) (enc : TypeId × Value → H) :
    ReturnsInHanded {} Try.checked os 6 .any (Rows.recordOtherSpec.pre6 enc Try.prog Try.f6 Rows.recordOtherRow.domain false) (Rows.recordOtherSpec.post enc Try.prog Try.f6 false true false false) := by
  refine returnsInHanded_of_change (C := Try.checked) own started (by kernel_rfl) Try.func6
    (ChangeSpec.witness6 (enc := enc) (C := Try.checked) false ⟨#[], #[.int .i64 0, .int .i64 0, .slice none 0 0, .int .i64 0, .int .i64 0, .int .i64 0], []⟩ 8 (by kernel_rfl) (by kernel_rfl) (by kernel_rfl) (by kernel_rfl)) ?_
  intro W base args ds gs before hval0 hW hcnd _
  have hval : ∀ (j : Nat) t v, Try.f6.params[j]? = some t → args[j]? = some v → Value.okWide Try.prog W .any base t v := hval0
  have hW' := hW
  obtain ⟨p, q, hA0, hV, rfl, hfz, hnd⟩ := hW
  have hA : DataW.TrodAll enc Try.prog W 0 (fun _ => true) true Try.f6.params.toList args.toList ds p := hA0
  rw [Try.params6] at hA hval
  obtain ⟨v0, vs0, d0, ds0, p0, q0, hargs, rfl, rfl, h0, r0⟩ := trodAll_cons hA
  obtain ⟨v1, vs1, d1, ds1, p1, q1, rfl, rfl, rfl, h1, r1⟩ := trodAll_cons r0
  obtain ⟨v2, vs2, d2, ds2, p2, q2, rfl, rfl, rfl, h2, r2⟩ := trodAll_cons r1
  obtain ⟨v3, vs3, d3, ds3, p3, q3, rfl, rfl, rfl, h3, r3⟩ := trodAll_cons r2
  obtain ⟨v4, vs4, d4, ds4, p4, q4, rfl, rfl, rfl, h4, r4⟩ := trodAll_cons r3
  obtain ⟨v5, vs5, d5, ds5, p5, q5, rfl, rfl, rfl, h5, r5⟩ := trodAll_cons r4
  obtain ⟨rfl, rfl, rfl⟩ := trodAll_nil r5
  obtain rfl : args = #[v0, v1, v2, v3, v4, v5] := by cases args; simp_all
  obtain ⟨rfl, rfl⟩ := trodVars_none hV
  obtain ⟨a0, rfl, rfl, rfl, w0⟩ := open_int Try.underlying3 (hval 0 3 v0 rfl rfl) h0
  have b0 := bounds_i64 w0
  obtain ⟨a1, rfl, rfl, rfl, w1⟩ := open_int Try.underlying3 (hval 1 3 v1 rfl rfl) h1
  have b1 := bounds_i64 w1
  obtain ⟨A2, n2, c2, rfl⟩ := okWide_slice Try.underlying22 (hval 2 22 v2 rfl rfl)
  have k2 := h2
  have lt2 : ∀ x ∈ p2, x.block < W.heap.size := by obtain ⟨m, hm⟩ := k2; exact DataW.trod_lt m _ _ _ hm
  obtain ⟨l2, x2, g2, z2⟩ := arg_bytes h2
  obtain ⟨a3, rfl, rfl, rfl, w3⟩ := open_int Try.underlying3 (hval 3 3 v3 rfl rfl) h3
  have b3 := bounds_i64 w3
  obtain ⟨a4, rfl, rfl, rfl, w4⟩ := open_int Try.underlying3 (hval 4 3 v4 rfl rfl) h4
  have b4 := bounds_i64 w4
  obtain ⟨a5, rfl, rfl, rfl, w5⟩ := open_int Try.underlying3 (hval 5 3 v5 rfl rfl) h5
  have b5 := bounds_i64 w5
  clear hA0 hval0
  refine (walk a0 a1 A2 n2 c2 l2 a3 a4 a5 W b0.1 b0.2 b1.1 b1.2 x2 g2 z2 b3.1 b3.2 b4.1 b4.2 b5.1 b5.2).mono fun e W' ⟨he, bel⟩ => ?_
  subst he
  exact ⟨_, rfl, _, _, _, [], _, [], hW', trodAll_mk1 (shut_bool Try.underlying4 _), (trodAll_cons_mk (shut_int Try.underlying3 w0) (trodAll_cons_mk (shut_int Try.underlying3 w1) (trodAll_cons_mk (Below.trod laidOut (by kernel_rfl) (of_decide_eq_true (by kernel_rfl)) k2 bel lt2) (trodAll_cons_mk (shut_int Try.underlying3 w3) (trodAll_cons_mk (shut_int Try.underlying3 w4) (trodAll_cons_mk (shut_int Try.underlying3 w5) trodAll_mk0)))))), rfl, bel.frame _, fun h => by cases h⟩

theorem over : Rows.recordOtherRow.holds Try.pinned (OpenSpec.ofChange Rows.recordOtherSpec) :=
  OpenClaim.holds_of_wide 6 Try.f6 rfl rfl rfl rfl rfl rfl rfl ⟨rfl, rfl, rfl, rfl, rfl⟩ rfl rfl rfl rfl rfl (by kernel_rfl) Try.func6 (by kernel_rfl)
    (of_decide_eq_true (by kernel_rfl)) (by unfold Func.isWrapper; first | (rw [if_pos (by decide +kernel)]; kernel_rfl) | (rw [if_neg (by decide +kernel)]; exact ⟨rfl, rfl⟩))
    (fun os started H enc _ => lifted os started H enc)

/-- The statement. -/
theorem proved : Rows.RecordOtherSaid := over
#print axioms proved
end Go.Proofs.Ytdchdmbkojnmcaa.RecordOther
