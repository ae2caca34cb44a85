/- CheckSizes holds: a state of any number of bytes up to the limit comes back as it was saved, a longer one is refused and writes nothing; no condition. -/
import Derived.Test.YtmjdndhpnckeeaaChkC
import Derived.Test.YtmjdndhpnckeeaaPoke
import Derived.Test.YtmjdndhpnckeeaaMade
import Derived.Deep.DeepCutAuto
import Derived.Test.YtmjdndhpnckeeaaArg
import Derived.Test.YtmjdndhpnckeeaaChkK
import Derived.Test.YtmjdndhpnckeeaaRows
namespace Go.Proofs.Ytmjdndhpnckeeaa
open Go.ChangeShapes Go.WideShapes Go.ChangeAt Go.RowKit
set_option linter.unusedVariables false

theorem mask32s (v : Int) : ∃ N : Nat, bits .and .i64 v 4294967295 = (N : Int) ∧ N ≤ 4294967295 := by
  have h := i64_mask v 32 (by decide)
  have h2 : bits .and .i64 v 4294967295 = v % 4294967296 := h
  exact ⟨(v % 4294967296).toNat, by rw [h2]; omega, by omega⟩
theorem mask2047 (v : Int) : ∃ N : Nat, bits .and .i64 v 2047 = (N : Int) ∧ N < 2048 := by
  have h := i64_mask v 11 (by decide)
  have h2 : bits .and .i64 v 2047 = v % 2048 := h
  exact ⟨(v % 2048).toNat, by rw [h2]; omega, by omega⟩
theorem mask1s (v : Int) : ∃ N : Nat, bits .and .i64 v 1 = (N : Int) ∧ N ≤ 1 := by
  have h := i64_mask v 1 (by decide)
  have h2 : bits .and .i64 v 1 = v % 2 := h
  exact ⟨(v % 2).toNat, by rw [h2]; omega, by omega⟩
/-- The bytes that are laid, the first i of them. -/
def fillL (n i : Nat) : List UInt8 := (List.range n).map fun j => if j < i then UInt8.ofNat (j % 255 + 1) else 0
theorem fillL_length (n i : Nat) : (fillL n i).length = n := by simp [fillL]
theorem fillL_zero (n : Nat) : fillL n 0 = List.replicate n 0 := by
  unfold fillL
  apply List.ext_getElem?
  intro j
  by_cases h : j < n
  · simp [h]
  · rw [List.getElem?_eq_none (by simp; omega), List.getElem?_eq_none (by simp; omega)]
theorem fillL_set (n i : Nat) : (fillL n i).set i (UInt8.ofNat (i % 255 + 1)) = fillL n (i + 1) := by
  apply List.ext_getElem?
  intro j
  by_cases h : j < n
  · rw [List.getElem?_set]
    by_cases hij : i = j
    · subst hij
      rw [if_pos rfl, if_pos (by rw [fillL_length]; exact h)]
      simp [fillL, h]
    · rw [if_neg hij]
      unfold fillL
      rw [List.getElem?_map, List.getElem?_map, List.getElem?_range h]
      have e : (j < i) = (j < i + 1) := by simp; omega
      simp [e]
  · rw [List.getElem?_eq_none (by rw [List.length_set, fillL_length]; omega), List.getElem?_eq_none (by rw [fillL_length]; omega)]
theorem fill_poke (n i : Nat) : (B8 (fillL n i)).toArray.setIfInBounds i (.int .u8 (((i : Int) % 255) + 1)) = (B8 (fillL n (i + 1))).toArray := by
  rw [List.setIfInBounds_toArray, ← fillL_set]
  unfold B8
  have e : (Value.int .u8 (((i : Int) % 255) + 1)) = .int .u8 (((UInt8.ofNat (i % 255 + 1)).toNat : Nat) : Int) := by
    rw [UInt8.toNat_ofNat']
    have : (i % 255 + 1) % 2 ^ 8 = i % 255 + 1 := by omega
    rw [this]
    refine congrArg _ ?_
    omega
  rw [e, List.map_set]
set_option maxRecDepth 100000 in
set_option maxHeartbeats 8000000 in
theorem checkSizes_walk (K : CheckK) (nn ar ge : Int) (w : World) :
    Calls Try.prog 10 #[.int .i64 nn, .int .i64 ar, .int .i64 ge] w fun e w' => e = .returned (.bool true) ∧ Below w.heap.size w w' := by
  have HS := hide (shown10_any K w)
  obtain ⟨n, hn, hn2048⟩ := mask2047 nn
  obtain ⟨a, ha, ha1⟩ := mask1s ar
  obtain ⟨g, hg, hgm⟩ := mask32s ge
  have HGB := hide (numB_iff.2 ⟨by omega, by omega⟩ : numB (g : Nat) = true)
  obtain ⟨ui, hui, huz, hus, hub⟩ := info_parts u8_parts
  have hmk : ∀ w : World, (Instr.makeSlice 32 (.int .i64 (n : Int)) (.int .i64 (n : Int))).run Try.prog w = .ok (.slice (some ⟨w.heap.size, 0, none⟩) n n) (w.alloc (.cells (B8 (fillL n 0)).toArray 5)) :=
    fun w => run_make_list w _ _ ui _ Try.underlying32 hui huz hus rfl n _ (by rw [fillL_zero, B8, List.map_replicate]; rfl) (by rw [hub]; omega) (by omega)
  clear hui huz hus hub
  go_enter Try.func10, Try.ntmps10
  go_wp2_with (first
    | (go_at_call 27; refine HS.out.mono ?_; rintro _ w1 ⟨rfl, hl1⟩)
    | (go_at_call 28; refine (disks_any w1 1 (by decide)).mono ?_; rintro _ w2 ⟨⟨b, F, rfl, hB2, hlo2⟩, hl2⟩))
  have hs1 := hl1.size
  have HI2 : Hid (CkIs w F b w2 (Disks 1) [0] noC 0) := hide { lo := fun x hx => Nat.le_trans hs1 (hlo2 x hx), bank := hB2, ck := Disks_ck 1 [0] (by decide), few := Nat.le_of_eq (Disks_std 1).2.1, low := hl1.trans (hl2.mono hs1) }
  clear hB2 hlo2 hl1 hl2 hs1 hmk
  have hl3 : Below w2.heap.size w2 (w2.alloc (.cells (B8 (fillL n 0)).toArray 5)) := (Below.refl _ _).alloc (Nat.le_refl _) _
  have hbk : Blk (w2.alloc (.cells (B8 (fillL n 0)).toArray 5)) w2.heap.size 5 (B8 (fillL n 0)).toArray := Blk.new _ _ _
  generalize w2.alloc (.cells (B8 (fillL n 0)).toArray 5) = w3 at hl3 hbk ⊢
  have hF2 : ¬ F w2.heap.size := fun hf => absurd (HI2.out.bank.1 _ hf) (Nat.lt_irrefl _)
  have HI3 := hide (HI2.out.later hl3)
  have HK3 := hide hbk
  have hlo2 := HI2.out.low.size
  clear hl3 hbk
  go_loopw [10] (fun s10 wr => ∃ i : Nat, s10 = .int .i64 (i : Int) ∧ i ≤ n ∧ Hid (CkIs w F b wr (Disks 1) [0] noC 0) ∧ Hid (Blk wr w2.heap.size 5 (B8 (fillL n i)).toArray)) (fun s10 _ => n - (intOf s10).toNat)
  case atStart => exact ⟨0, rfl, Nat.zero_le _, HI3, HK3⟩
  case round =>
    obtain ⟨i, rfl, hin, hI, hK⟩ := hrel
    obtain ⟨wo, rfl⟩ : ∃ wo, wo = wr := ⟨_, rfl⟩
    by_cases hlt : i < n
    · have hltw : (i : Int) < (n : Int) := by omega
      have hcell : wo.cell? ⟨w2.heap.size, i, none⟩ = some (.int .u8 0) := by
        rw [hK.out.cell i, List.getElem?_toArray]
        unfold B8 fillL
        rw [List.getElem?_map, List.getElem?_map, List.getElem?_range hlt]
        simp
      have hfro : wo.frozen? ⟨w2.heap.size, i, none⟩ = false := hK.out.frozen i
      go_wp2_with fail
      go_roundw
      case rel =>
        have hT := Turn.set (F := fun x => x = w2.heap.size) (Turn.refl _ wo) (⟨w2.heap.size, i, none⟩ : Addr) (.inl rfl) (.int .u8 (((i : Int) % 255) + 1))
        refine ⟨i + 1, by simp, by omega, hide (hI.out.aside hT (fun x hx e => hF2 (e ▸ hx)) (fun x e => by rw [e]; exact hlo2)), hide ?_⟩
        have hb := hK.out.set_ i (.int .u8 (((i : Int) % 255) + 1))
        rw [fill_poke] at hb
        exact hb
      case measure => simp [intOf]; omega
    · obtain rfl : i = n := by omega
      obtain ⟨xs, hxs⟩ : ∃ xs, xs = fillL i i := ⟨_, rfl⟩
      have hxl : xs.length = i := by rw [hxs, fillL_length]
      rw [← hxs] at hK
      have HXL := hide hxl
      clear hxs hxl
      go_wp2_with fail
      have hN := newRow9 wo (I64 [0]) 3 (0, 0)
      show Calls _ _ _ (wo.alloc (.cells (I64 [0]).toArray 3 (0, 0))) _
      generalize wo.alloc (.cells (I64 [0]).toArray 3 (0, 0)) = w5 at hN ⊢
      obtain ⟨hl5, hz5, hr5⟩ := hN
      rw [← hz5] at hr5
      have HI5 := hide (hI.out.later hl5)
      have HK5 := hide (hK.out.below hl5 hK.out.lt)
      have hF5 : ¬ F wo.heap.size := fun hf => absurd (hI.out.bank.1 _ hf) (Nat.lt_irrefl _)
      have hrx : Reads w5 w5.heap.size 1 (some ⟨w2.heap.size, 0, none⟩) i (B8 xs) := by
        have h := HK5.out.reads (B := w5.heap.size) (off := 0) (n := i) HK5.out.lt (by rw [HXL.out]; omega)
        rwa [List.drop_zero] at h
      clear hl5
      by_cases hbig : 1696 < i
      · have hbw : (1696 : Int) < (i : Int) := by omega
        have hsv := K.save_any w5 b F (Disks 1) (some ⟨wo.heap.size, 0, none⟩) 1 1 [0] a (g : Int) (some ⟨w2.heap.size, 0, none⟩) i i xs HI5.out.bank hr5 (by omega) (by omega) (by omega) (fun ad e _ hf => by injection e with e; subst e; exact hF5 hf) hrx (by omega) (by omega) (fun ad e _ hf => by injection e with e; subst e; exact hF2 hf) (by have := HI5.out.few; omega)
        have hno : saveC (Disks 1) [0] a (g : Int) xs = (1, Disks 1) := by
          unfold saveC
          rw [if_neg (fun h => by have := h.2.2; have := HXL.out; omega)]
        rw [hno] at hsv
        refine hsv.mono ?_
        rintro _ w6 ⟨rfl, _, hT6⟩
        have HL6 := hide (HI5.out.turned hT6)
        clear hsv hno hT6 hr5 hrx
        go_wp2_with fail
        go_ret
        exact ⟨rfl, HL6.out⟩
      · have hbw : ¬ ((1696 : Int) < (i : Int)) := by omega
        have hsv := HI5.out.save K (Disks_std 1).2.2 (by decide) (by decide) (by decide) (a := a) (g := g) (x := xs) ha1 (by rw [HXL.out]; omega) HGB.out (by decide) (some ⟨wo.heap.size, 0, none⟩) 1 1 hr5 (by omega) (by omega) (by omega) (fun ad e _ hf => by injection e with e; subst e; exact hF5 hf) (some ⟨w2.heap.size, 0, none⟩) i i hrx (by omega) (by omega) (fun ad e _ hf => by injection e with e; subst e; exact hF2 hf)
        refine hsv.mono ?_
        rintro _ w6 ⟨rfl, ⟨S6, hI6, _, _⟩, hT6⟩
        have HI6 := hide hI6
        have HK6 := hide (HK5.out.of_block (hT6.block _ HK5.out.lt hF2))
        have hld0 := load_one hI6.ck.shown (by decide) ha1 (show xs.length ≤ 1696 by rw [HXL.out]; omega) HGB.out
        have HLD0 := hide hld0
        clear hsv hI6 hT6 hr5 hrx hld0
        go_wp2_with fail
        have hN := newRow9 w6 (I64 [0]) 3 (0, 0)
        show Calls _ _ _ (w6.alloc (.cells (I64 [0]).toArray 3 (0, 0))) _
        generalize w6.alloc (.cells (I64 [0]).toArray 3 (0, 0)) = w7 at hN ⊢
        obtain ⟨hl7, hz7, hr7⟩ := hN
        rw [← hz7] at hr7
        refine ((HI6.out.later hl7).load K (some ⟨w6.heap.size, 0, none⟩) 1 1 hr7 (by omega) (by omega) (by omega) (by decide) HLD0.out).mono ?_
        rintro _ w8 ⟨B8_, m8, q8, rfl, hrB, _, _, _, hl8⟩
        have HL8 := hide ((HI6.out.later hl7).low.trans (hl8.mono (HI6.out.later hl7).low.size))
        have HRB := hide hrB
        have HK8 := hide ((HK6.out.below hl7 HK6.out.lt).below hl8 (Nat.lt_of_lt_of_le HK6.out.lt hl7.size))
        obtain ⟨bx, hbx⟩ : ∃ bx : ByteArray, bx = ⟨xs.toArray⟩ := ⟨_, rfl⟩
        have HST := hide (show strS xs = .string bx by rw [hbx]; rfl)
        clear hbx hrB hl8 hl7 hr7
        go_wp2_with (first
          | ((with_reducible refine at_slot 12 ?_); refine wpList_alloc_blk rfl 55 rfl _ (found_zero _) ?_; intro x4 hb4 hl4 hs4; clear hs4)
          | ((with_reducible refine at_store 12 ?_); refine wpList_store_all rfl 55 (.tmp 12) (.tmp 56) rfl w8.heap.size 55 _ hb4 rfl (foundC ⟨a, g, xs, g, 0⟩ B8_ m8 q8) rfl found_info rfl (foundC_one _ _ _ _) ?_; intro x5 hb5 hg5 hs5; have hy4 := hb4.lt; have hl35 : Below w8.heap.size w8 x5 := hl4.grown hg5 (by omega) (fun g e => by injection e with e; omega); have HL9 := hide (HL8.out.trans (hl35.mono HL8.out.size)); have z0 := found_c0 hb5; have z1 := found_c1 hb5; have z2 := found_c2 hb5; have hcv := conv9 (c := q8) (HRB.out.below hl35); rw [HST.out] at hcv; have HCV := hide hcv; have hkx := HK8.out.below hl35 HK8.out.lt; have hrx : Reads x5 x5.heap.size 1 (some ⟨w2.heap.size, 0, none⟩) i (B8 xs) := (by have h := hkx.reads (B := x5.heap.size) (off := 0) (n := i) hkx.lt (by rw [HXL.out]; omega); rwa [List.drop_zero] at h); have hcx := conv9 (c := i) hrx; rw [HST.out] at hcx; have HCX := hide hcx; clear hb4 hl4 hb5 hg5 hs5 hl35 hcv hkx hrx hcx)
          | ((with_reducible refine at_slot 79 ?_); refine when_conv (by rfl) 32 9 (.tmp 78) rfl _ _ rfl HCV.out ?_)
          | ((with_reducible refine at_slot 81 ?_); refine when_conv (by rfl) 32 9 (.tmp 80) rfl _ _ rfl HCX.out ?_))
        go_ret
        exact ⟨by simp, HL9.out⟩
#print axioms checkSizes_walk
namespace CheckSizes
set_option linter.unusedVariables false
theorem walk (a0 : Int) (a1 : Int) (a2 : Int) (w : World) (b0 : -9223372036854775808 ≤ a0) (e0 : a0 ≤ 9223372036854775807) (b1 : -9223372036854775808 ≤ a1) (e1 : a1 ≤ 9223372036854775807) (b2 : -9223372036854775808 ≤ a2) (e2 : a2 ≤ 9223372036854775807) :
    Calls Try.prog 10 #[.int .i64 a0, .int .i64 a1, .int .i64 a2] w fun e w' => e = .returned (.bool true) ∧ Below w.heap.size w w' :=
  checkSizes_walk checkK a0 a1 a2 w 
/-! The row's frame, by program: how the walk above proves the statement. -/
set_option maxRecDepth 100000 in
theorem lifted (os : Os) (started : os.Started) (H : Type) (enc : TypeId × Value → H) :
    ReturnsInHanded {} Try.checked os 10 .any (Rows.checkSizesSpec.pre6 enc Try.prog Try.f10 Rows.checkSizesRow.domain false) (Rows.checkSizesSpec.post enc Try.prog Try.f10 false true false false) := by
  refine returnsInHanded_of_change (C := Try.checked) own started (by kernel_rfl) Try.func10
    (ChangeSpec.witness6 (enc := enc) (C := Try.checked) false ⟨#[], #[.int .i64 0, .int .i64 0, .int .i64 0], []⟩ 8 (by kernel_rfl) (by kernel_rfl) (by kernel_rfl) (by kernel_rfl)) ?_
  intro W base args ds gs before hval0 hW hcnd _
  have hval : ∀ (j : Nat) t v, Try.f10.params[j]? = some t → args[j]? = some v → Value.okWide Try.prog W .any base t v := hval0
  have hW' := hW
  obtain ⟨p, q, hA0, hV, rfl, hfz, hnd⟩ := hW
  have hA : DataW.TrodAll enc Try.prog W 0 (fun _ => true) true Try.f10.params.toList args.toList ds p := hA0
  rw [Try.params10] at hA hval
  obtain ⟨v0, vs0, d0, ds0, p0, q0, hargs, rfl, rfl, h0, r0⟩ := trodAll_cons hA
  obtain ⟨v1, vs1, d1, ds1, p1, q1, rfl, rfl, rfl, h1, r1⟩ := trodAll_cons r0
  obtain ⟨v2, vs2, d2, ds2, p2, q2, rfl, rfl, rfl, h2, r2⟩ := trodAll_cons r1
  obtain ⟨rfl, rfl, rfl⟩ := trodAll_nil r2
  obtain rfl : args = #[v0, v1, v2] := by cases args; simp_all
  obtain ⟨rfl, rfl⟩ := trodVars_none hV
  obtain ⟨a0, rfl, rfl, rfl, w0⟩ := open_int Try.underlying3 (hval 0 3 v0 rfl rfl) h0
  have b0 := bounds_i64 w0
  obtain ⟨a1, rfl, rfl, rfl, w1⟩ := open_int Try.underlying3 (hval 1 3 v1 rfl rfl) h1
  have b1 := bounds_i64 w1
  obtain ⟨a2, rfl, rfl, rfl, w2⟩ := open_int Try.underlying3 (hval 2 3 v2 rfl rfl) h2
  have b2 := bounds_i64 w2
  clear hA0 hval0
  refine (walk a0 a1 a2 W b0.1 b0.2 b1.1 b1.2 b2.1 b2.2).mono fun e W' ⟨he, bel⟩ => ?_
  subst he
  exact ⟨_, rfl, _, _, _, [], _, [], hW', trodAll_mk1 (shut_bool Try.underlying4 _), (trodAll_cons_mk (shut_int Try.underlying3 w0) (trodAll_cons_mk (shut_int Try.underlying3 w1) (trodAll_cons_mk (shut_int Try.underlying3 w2) trodAll_mk0))), rfl, bel.frame _, fun h => by cases h⟩

theorem over : Rows.checkSizesRow.holds Try.pinned (OpenSpec.ofChange Rows.checkSizesSpec) :=
  OpenClaim.holds_of_wide 10 Try.f10 rfl rfl rfl rfl rfl rfl rfl ⟨rfl, rfl, rfl, rfl, rfl⟩ rfl rfl rfl rfl rfl (by kernel_rfl) Try.func10 (by kernel_rfl)
    (of_decide_eq_true (by kernel_rfl)) (by unfold Func.isWrapper; first | (rw [if_pos (by decide +kernel)]; kernel_rfl) | (rw [if_neg (by decide +kernel)]; exact ⟨rfl, rfl⟩))
    (fun os started H enc _ => lifted os started H enc)

/-- The statement. -/
theorem proved : Rows.CheckSizesSaid := over
#print axioms proved
end CheckSizes
end Go.Proofs.Ytmjdndhpnckeeaa
