/- CheckNewest holds: of two areas Load tells the newer checkpoint, whichever way they were saved; no condition. -/
import Derived.Test.YtmjdndhpnckeeaaChkC
import Derived.Deep.DeepCutAuto
import Derived.Test.YtmjdndhpnckeeaaArg
import Derived.Test.YtmjdndhpnckeeaaChkK
import Derived.Test.YtmjdndhpnckeeaaRows
namespace Go.Proofs.Ytmjdndhpnckeeaa
open Go.ChangeShapes Go.WideShapes Go.ChangeAt Go.RowKit
set_option linter.unusedVariables false

theorem mask32n (v : Int) : ∃ N : Nat, bits .and .i64 v 4294967295 = (N : Int) ∧ N ≤ 4294967295 := by
  have h := i64_mask v 32 (by decide)
  have h2 : bits .and .i64 v 4294967295 = v % 4294967296 := h
  exact ⟨(v % 4294967296).toNat, by rw [h2]; omega, by omega⟩
set_option maxRecDepth 100000 in
set_option maxHeartbeats 8000000 in
theorem checkNewest_walk (K : CheckK) (A : Option Addr) (n c : Nat) (l : List UInt8) (A2 : Option Addr) (n2 c2 : Nat) (l2 : List UInt8) (g h : Int) (w : World) (hr : Reads w w.heap.size 1 A n (B8 l)) (hc : n ≤ c) (hcm : c ≤ 9223372036854775807) (hr2 : Reads w w.heap.size 1 A2 n2 (B8 l2)) (hc2 : n2 ≤ c2) (hcm2 : c2 ≤ 9223372036854775807) :
    Calls Try.prog 11 #[.slice A n c, .slice A2 n2 c2, .int .i64 g, .int .i64 h] w fun e w' => e = .returned (.bool true) ∧ Below w.heap.size w w' := by
  have HS := hide (shown10_any K w)
  have HR := hide hr
  have HR2 := hide hr2
  obtain ⟨G, hG, hGm⟩ := mask32n g
  obtain ⟨H, hH, hHm⟩ := mask32n h
  have HGB := hide (numB_iff.2 ⟨by omega, by omega⟩ : numB (G : Nat) = true)
  have HHB := hide (numB_iff.2 ⟨by omega, by omega⟩ : numB (H : Nat) = true)
  clear hr hr2
  go_enter Try.func11, Try.ntmps11
  go_upto_region 5 with (first
    | (go_at_call 27; refine HS.out.mono ?_; rintro _ w1 ⟨rfl, hl1⟩)
    | (go_at_call 28; refine (disks_any w1 2 (by decide)).mono ?_; rintro _ w2 ⟨⟨b, F, rfl, hB2, hlo2⟩, hl2⟩))
  have hs1 := hl1.size
  have HI2 : Hid (CkIs w F b w2 (Disks 2) [0, 1] noC 0) := hide { lo := fun x hx => Nat.le_trans hs1 (hlo2 x hx), bank := hB2, ck := Disks_ck 2 [0, 1] (by decide), few := Nat.le_of_eq (Disks_std 2).2.1, low := hl1.trans (hl2.mono hs1) }
  clear hB2 hlo2 hl1 hl2 hs1
  go_cut [0] (fun v0 wx => w2 = wx ∧ ∃ m : Nat, m ≤ n ∧ m ≤ 300 ∧ v0 = .slice A m c)
  case first =>
    by_cases hmn : (n : Int) ≤ 300
    · go_wp2_with fail
      go_meet
      case rel => exact ⟨rfl, (min (n : Int) 300).toNat, by omega, by omega, rfl⟩
    · go_wp2_with fail
      go_meet
      case rel => exact ⟨rfl, (min (n : Int) 300).toNat, by omega, by omega, rfl⟩
  case rest =>
    obtain ⟨rfl, m, hmn, hm300, rfl⟩ := hcut
    go_upto_region 6 with fail
    go_cut [1] (fun v1 wx => w2 = wx ∧ ∃ m2 : Nat, m2 ≤ n2 ∧ m2 ≤ 300 ∧ v1 = .slice A2 m2 c2)
    case first =>
      by_cases hmn : (n2 : Int) ≤ 300
      · go_wp2_with fail
        go_meet
        case rel => exact ⟨rfl, (min (n2 : Int) 300).toNat, by omega, by omega, rfl⟩
      · go_wp2_with fail
        go_meet
        case rel => exact ⟨rfl, (min (n2 : Int) 300).toNat, by omega, by omega, rfl⟩
    case rest =>
      obtain ⟨rfl, m2, hmn2, hm300b, rfl⟩ := hcut
      have hh := HR.out.head (k := m) hmn
      rw [Nat.mul_one, B8_take] at hh
      obtain ⟨xa, hxa⟩ : ∃ xa, xa = l.take m := ⟨_, rfl⟩
      rw [← hxa] at hh
      have hxl : xa.length = m := by have := hh.1; rw [B8_length] at this; omega
      have HXA := hide hh
      have hh2 := HR2.out.head (k := m2) hmn2
      rw [Nat.mul_one, B8_take] at hh2
      obtain ⟨xc, hxc⟩ : ∃ xc, xc = l2.take m2 := ⟨_, rfl⟩
      rw [← hxc] at hh2
      have hxl2 : xc.length = m2 := by have := hh2.1; rw [B8_length] at this; omega
      have HXC := hide hh2
      have HXL := hide (show xa.length ≤ 1696 by omega)
      have HXL2 := hide (show xc.length ≤ 1696 by omega)
      clear hh hh2 hxa hxc HR HR2 hxl hxl2
      go_wp2_with fail
      have hN := newRow9 w2 (I64 [0, 1]) 3 (0, 0)
      have hbk : Blk (w2.alloc (.cells (I64 [0, 1]).toArray 3 (0, 0))) w2.heap.size 3 (I64 [0, 1]).toArray := Blk.new _ _ _
      show Calls _ _ _ (w2.alloc (.cells (I64 [0, 1]).toArray 3 (0, 0))) _
      generalize w2.alloc (.cells (I64 [0, 1]).toArray 3 (0, 0)) = w3 at hN hbk ⊢
      obtain ⟨hl3, hz3, hr3⟩ := hN
      have HI3 := hide (HI2.out.later hl3)
      have hF2 : ¬ F w2.heap.size := fun hf => absurd (HI2.out.bank.1 _ hf) (Nat.lt_irrefl _)
      have HK3 := hide hbk
      have hsv := HI3.out.save K (Disks_std 2).2.2 (by decide) (by decide) (by decide) (a := 0) (g := G) (x := xa) (by decide) HXL.out HGB.out (by decide) (some ⟨w2.heap.size, 0, none⟩) 2 2 (Blk.readsI9 (xs := [0, 1]) HK3.out rfl) (by omega) (by omega) (by omega) (fun ad e _ hf => by injection e with e; subst e; exact hF2 hf) A m c ((HXA.out.below HI3.out.low).more HI3.out.low.size) (by omega) hcm (HXA.out.far HI3.out.lo)
      refine hsv.mono ?_
      rintro _ w4 ⟨rfl, ⟨S4, hI4, _, hA4⟩, hT4⟩
      have HI4 := hide hI4
      have HK4 := hide (HK3.out.of_block (hT4.block _ HK3.out.lt hF2))
      have HA4 := hide hA4
      clear hsv hr3 hl3 hz3 hbk hI4 hA4 hT4 HK3 HI3
      go_wp2_with fail
      have hsv := HI4.out.save K HA4.out (by decide) (by decide) (by decide) (a := 1) (g := H) (x := xc) (by decide) HXL2.out HHB.out (by decide) (some ⟨w2.heap.size, 0, none⟩) 2 2 (Blk.readsI9 (xs := [0, 1]) HK4.out rfl) (by omega) (by omega) (by omega) (fun ad e _ hf => by injection e with e; subst e; exact hF2 hf) A2 m2 c2 ((HXC.out.below HI4.out.low).more HI4.out.low.size) (by omega) hcm2 (HXC.out.far HI4.out.lo)
      refine hsv.mono ?_
      rintro _ w5 ⟨rfl, ⟨S5, hI5, _, _⟩, hT5⟩
      have HI5 := hide hI5
      have HK5 := hide (HK4.out.of_block (hT5.block _ HK4.out.lt hF2))
      have HLR := hide (load_two hI5.ck.shown (by decide) HXL.out HXL2.out HGB.out HHB.out)
      clear hsv hI5 hT5 HK4 HI4
      by_cases hgh : G < H
      · have hghw : (G : Int) < (H : Int) := by omega
        have HLE := hide (HLR.out.trans (if_pos hgh))

        have hld := HI5.out.load K (some ⟨w2.heap.size, 0, none⟩) 2 2 (Blk.readsI9 (xs := [0, 1]) HK5.out rfl) (by omega) (by omega) (by omega) (by decide) HLE.out
        have hmx : max (G : Int) (H : Int) = (H : Int) := by omega
        have hmx2 : max G H = H := by omega
        rw [hmx2] at hld
        have HLD := hide hld
        obtain ⟨bx, hbx⟩ : ∃ bx : ByteArray, bx = ⟨xc.toArray⟩ := ⟨_, rfl⟩
        have hcvA := fun (w' : World) (hb : Below w.heap.size w w') => conv9 (c := c2) (HXC.out.below hb)
        rw [show strS xc = .string bx by rw [hbx]; rfl] at hcvA
        have HCA := hide hcvA
        have HST := hide (show strS xc = .string bx by rw [hbx]; rfl)
        clear hld hmx2 hcvA hbx HLE HLR
        go_wp2_with (first
          | (go_at_call 30; refine HLD.out.mono ?_; rintro _ w6 ⟨B6, m6, q6, rfl, hrB, _, _, _, hl6⟩; have HRB := hide hrB; have HL6 := hide (HI5.out.low.trans (hl6.mono HI5.out.low.size)); clear hrB hl6)
          | ((with_reducible refine at_slot 14 ?_); refine wpList_alloc_blk rfl 55 rfl _ (found_zero _) ?_; intro x4 hb4 hl4 hs4; clear hs4)
          | ((with_reducible refine at_store 14 ?_); refine wpList_store_all rfl 55 (.tmp 14) (.tmp 53) rfl w6.heap.size 55 _ hb4 rfl (foundC ⟨1, H, xc, H, 0⟩ B6 m6 q6) rfl found_info rfl (foundC_one _ _ _ _) ?_; intro x5 hb5 hg5 hs5; have hy4 := hb4.lt; have hl35 : Below w6.heap.size w6 x5 := hl4.grown hg5 (by omega) (fun g e => by injection e with e; omega); have HL5 := hide (HL6.out.trans (hl35.mono HL6.out.size)); have z0 := found_c0 hb5; have z1 := found_c1 hb5; have z2 := found_c2 hb5; have z3 := found_c3 hb5; have hcv := conv9 (c := q6) (HRB.out.below hl35); rw [HST.out] at hcv; have HCV := hide hcv; clear hb4 hl4 hb5 hg5 hs5 hl35 hcv)
          | ((with_reducible refine at_slot 88 ?_); refine when_conv (by rfl) 32 9 (.tmp 87) rfl _ _ rfl HCV.out ?_)
          | ((with_reducible refine at_slot 90 ?_); refine when_conv (by rfl) 32 9 (.tmp 89) rfl _ _ rfl (HCA.out x5 HL5.out) ?_))
        go_ret
        exact ⟨by simp, HL5.out⟩
      · have hghw : ¬ ((G : Int) < (H : Int)) := by omega
        have HLE := hide (HLR.out.trans (if_neg hgh))

        have hld := HI5.out.load K (some ⟨w2.heap.size, 0, none⟩) 2 2 (Blk.readsI9 (xs := [0, 1]) HK5.out rfl) (by omega) (by omega) (by omega) (by decide) HLE.out
        have hmx : max (G : Int) (H : Int) = (G : Int) := by omega
        have hmx2 : max G H = G := by omega
        rw [hmx2] at hld
        have HLD := hide hld
        obtain ⟨bx, hbx⟩ : ∃ bx : ByteArray, bx = ⟨xa.toArray⟩ := ⟨_, rfl⟩
        have hcvA := fun (w' : World) (hb : Below w.heap.size w w') => conv9 (c := c) (HXA.out.below hb)
        rw [show strS xa = .string bx by rw [hbx]; rfl] at hcvA
        have HCA := hide hcvA
        have HST := hide (show strS xa = .string bx by rw [hbx]; rfl)
        clear hld hmx2 hcvA hbx HLE HLR
        go_wp2_with (first
          | (go_at_call 30; refine HLD.out.mono ?_; rintro _ w6 ⟨B6, m6, q6, rfl, hrB, _, _, _, hl6⟩; have HRB := hide hrB; have HL6 := hide (HI5.out.low.trans (hl6.mono HI5.out.low.size)); clear hrB hl6)
          | ((with_reducible refine at_slot 14 ?_); refine wpList_alloc_blk rfl 55 rfl _ (found_zero _) ?_; intro x4 hb4 hl4 hs4; clear hs4)
          | ((with_reducible refine at_store 14 ?_); refine wpList_store_all rfl 55 (.tmp 14) (.tmp 53) rfl w6.heap.size 55 _ hb4 rfl (foundC ⟨0, G, xa, G, 0⟩ B6 m6 q6) rfl found_info rfl (foundC_one _ _ _ _) ?_; intro x5 hb5 hg5 hs5; have hy4 := hb4.lt; have hl35 : Below w6.heap.size w6 x5 := hl4.grown hg5 (by omega) (fun g e => by injection e with e; omega); have HL5 := hide (HL6.out.trans (hl35.mono HL6.out.size)); have z0 := found_c0 hb5; have z1 := found_c1 hb5; have z2 := found_c2 hb5; have z3 := found_c3 hb5; have hcv := conv9 (c := q6) (HRB.out.below hl35); rw [HST.out] at hcv; have HCV := hide hcv; clear hb4 hl4 hb5 hg5 hs5 hl35 hcv)
          | ((with_reducible refine at_slot 105 ?_); refine when_conv (by rfl) 32 9 (.tmp 104) rfl _ _ rfl HCV.out ?_)
          | ((with_reducible refine at_slot 107 ?_); refine when_conv (by rfl) 32 9 (.tmp 106) rfl _ _ rfl (HCA.out x5 HL5.out) ?_))
        go_ret
        exact ⟨by simp, HL5.out⟩
#print axioms checkNewest_walk
namespace CheckNewest
set_option linter.unusedVariables false
theorem walk (A0 : Option Addr) (n0 c0 : Nat) (l0 : List UInt8) (A1 : Option Addr) (n1 c1 : Nat) (l1 : List UInt8) (a2 : Int) (a3 : Int) (w : World) (x0 : Reads w w.heap.size 1 A0 n0 (B8 l0)) (g0 : n0 ≤ c0) (z0 : c0 ≤ 9223372036854775807) (x1 : Reads w w.heap.size 1 A1 n1 (B8 l1)) (g1 : n1 ≤ c1) (z1 : c1 ≤ 9223372036854775807) (b2 : -9223372036854775808 ≤ a2) (e2 : a2 ≤ 9223372036854775807) (b3 : -9223372036854775808 ≤ a3) (e3 : a3 ≤ 9223372036854775807) :
    Calls Try.prog 11 #[.slice A0 n0 c0, .slice A1 n1 c1, .int .i64 a2, .int .i64 a3] w fun e w' => e = .returned (.bool true) ∧ Below w.heap.size w w' :=
  checkNewest_walk checkK A0 n0 c0 l0 A1 n1 c1 l1 a2 a3 w x0 g0 z0 x1 g1 z1
/-! The row's frame, by program: how the walk above proves the statement. -/
set_option maxRecDepth 100000 in
theorem lifted (os : Os) (started : os.Started) (H : Type) (enc : TypeId × Value → H) :
    ReturnsInHanded {} Try.checked os 11 .any (Rows.checkNewestSpec.pre6 enc Try.prog Try.f11 Rows.checkNewestRow.domain false) (Rows.checkNewestSpec.post enc Try.prog Try.f11 false true false false) := by
  refine returnsInHanded_of_change (C := Try.checked) own started (by kernel_rfl) Try.func11
    (ChangeSpec.witness6 (enc := enc) (C := Try.checked) false ⟨#[], #[.slice none 0 0, .slice none 0 0, .int .i64 0, .int .i64 0], []⟩ 8 (by kernel_rfl) (by kernel_rfl) (by kernel_rfl) (by kernel_rfl)) ?_
  intro W base args ds gs before hval0 hW hcnd _
  have hval : ∀ (j : Nat) t v, Try.f11.params[j]? = some t → args[j]? = some v → Value.okWide Try.prog W .any base t v := hval0
  have hW' := hW
  obtain ⟨p, q, hA0, hV, rfl, hfz, hnd⟩ := hW
  have hA : DataW.TrodAll enc Try.prog W 0 (fun _ => true) true Try.f11.params.toList args.toList ds p := hA0
  rw [Try.params11] at hA hval
  obtain ⟨v0, vs0, d0, ds0, p0, q0, hargs, rfl, rfl, h0, r0⟩ := trodAll_cons hA
  obtain ⟨v1, vs1, d1, ds1, p1, q1, rfl, rfl, rfl, h1, r1⟩ := trodAll_cons r0
  obtain ⟨v2, vs2, d2, ds2, p2, q2, rfl, rfl, rfl, h2, r2⟩ := trodAll_cons r1
  obtain ⟨v3, vs3, d3, ds3, p3, q3, rfl, rfl, rfl, h3, r3⟩ := trodAll_cons r2
  obtain ⟨rfl, rfl, rfl⟩ := trodAll_nil r3
  obtain rfl : args = #[v0, v1, v2, v3] := by cases args; simp_all
  obtain ⟨rfl, rfl⟩ := trodVars_none hV
  obtain ⟨A0, n0, c0, rfl⟩ := okWide_slice Try.underlying32 (hval 0 32 v0 rfl rfl)
  have k0 := h0
  have lt0 : ∀ x ∈ p0, x.block < W.heap.size := by obtain ⟨m, hm⟩ := k0; exact DataW.trod_lt m _ _ _ hm
  obtain ⟨l0, x0, g0, z0⟩ := arg_bytes h0
  obtain ⟨A1, n1, c1, rfl⟩ := okWide_slice Try.underlying32 (hval 1 32 v1 rfl rfl)
  have k1 := h1
  have lt1 : ∀ x ∈ p1, x.block < W.heap.size := by obtain ⟨m, hm⟩ := k1; exact DataW.trod_lt m _ _ _ hm
  obtain ⟨l1, x1, g1, z1⟩ := arg_bytes h1
  obtain ⟨a2, rfl, rfl, rfl, w2⟩ := open_int Try.underlying3 (hval 2 3 v2 rfl rfl) h2
  have b2 := bounds_i64 w2
  obtain ⟨a3, rfl, rfl, rfl, w3⟩ := open_int Try.underlying3 (hval 3 3 v3 rfl rfl) h3
  have b3 := bounds_i64 w3
  clear hA0 hval0
  refine (walk A0 n0 c0 l0 A1 n1 c1 l1 a2 a3 W x0 g0 z0 x1 g1 z1 b2.1 b2.2 b3.1 b3.2).mono fun e W' ⟨he, bel⟩ => ?_
  subst he
  exact ⟨_, rfl, _, _, _, [], _, [], hW', trodAll_mk1 (shut_bool Try.underlying4 _), (trodAll_cons_mk (Below.trod laidOut (by kernel_rfl) (of_decide_eq_true (by kernel_rfl)) k0 bel lt0) (trodAll_cons_mk (Below.trod laidOut (by kernel_rfl) (of_decide_eq_true (by kernel_rfl)) k1 bel lt1) (trodAll_cons_mk (shut_int Try.underlying3 w2) (trodAll_cons_mk (shut_int Try.underlying3 w3) trodAll_mk0)))), rfl, bel.frame _, fun h => by cases h⟩

theorem over : Rows.checkNewestRow.holds Try.pinned (OpenSpec.ofChange Rows.checkNewestSpec) :=
  OpenClaim.holds_of_wide 11 Try.f11 rfl rfl rfl rfl rfl rfl rfl ⟨rfl, rfl, rfl, rfl, rfl⟩ rfl rfl rfl rfl rfl (by kernel_rfl) Try.func11 (by kernel_rfl)
    (of_decide_eq_true (by kernel_rfl)) (by unfold Func.isWrapper; first | (rw [if_pos (by decide +kernel)]; kernel_rfl) | (rw [if_neg (by decide +kernel)]; exact ⟨rfl, rfl⟩))
    (fun os started H enc _ => lifted os started H enc)

/-- The statement. -/
theorem proved : Rows.CheckNewestSaid := over
#print axioms proved
end CheckNewest
end Go.Proofs.Ytmjdndhpnckeeaa
