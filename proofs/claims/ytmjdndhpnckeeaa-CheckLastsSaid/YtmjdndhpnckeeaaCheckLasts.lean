/- CheckLasts holds: whatever is saved on three members by turns, power failing at any write with whatever kept, the area laid again and the next one begun, and any one disk lost then, Load tells the newest that was saved or the one under way; no condition. -/
import Derived.Test.YtmjdndhpnckeeaaChkC
import Derived.Test.YtmjdndhpnckeeaaChkR
import Derived.Test.YtmjdndhpnckeeaaArgY
import Derived.Test.YtmjdndhpnckeeaaPoke
import Derived.StillTailTactics
import Derived.Deep.DeepCutAuto
import Derived.Deep.CutBlock
import Derived.Test.YtmjdndhpnckeeaaArg
import Derived.Test.YtmjdndhpnckeeaaArgU
import Derived.Test.YtmjdndhpnckeeaaChkK
import Derived.Test.YtmjdndhpnckeeaaRows
namespace Go.Proofs.Ytmjdndhpnckeeaa
open Go.ChangeShapes Go.WideShapes Go.ChangeAt Go.RowKit
set_option linter.unusedVariables false

theorem mask31l (v : Int) : ∃ N : Nat, bits .and .i64 v 31 = (N : Int) ∧ N < 32 := by
  have h := i64_mask v 5 (by decide)
  have h2 : bits .and .i64 v 31 = v % 32 := h
  exact ⟨(v % 32).toNat, by rw [h2]; omega, by omega⟩
theorem mask3l (v : Int) : ∃ N : Nat, bits .and .i64 v 3 = (N : Int) ∧ N < 4 := by
  have h := i64_mask v 2 (by decide)
  have h2 : bits .and .i64 v 3 = v % 4 := h
  exact ⟨(v % 4).toNat, by rw [h2]; omega, by omega⟩
theorem addr_add0 (g j : Nat) : (⟨g, 0, none⟩ : Addr).add j = ⟨g, j, none⟩ := by unfold Addr.add; split <;> simp_all
theorem str_ne {a b : ByteArray} (h : ¬ a = b) : (a.toList == b.toList) = false := by
  rw [beq_eq_false_iff_ne]
  intro e
  rw [ByteArray.toList_eq, ByteArray.toList_eq] at e
  exact h (bytes_inj e)
theorem failL {w : World} {b : Nat} {S : Bank} {F : Nat → Prop} (h : BankOn w b F S) (d : Nat) :
    Calls Try.prog 21 #[.pointer (some ⟨b, 0, none⟩), .int .i64 (d : Int)] w fun e w' => (∃ v : Int, e = .returned (.int .i64 v)) ∧ BankOn w' b F (S.fail_ d) ∧ Turn F w w' :=
  (on_failD h d).mono fun _ _ h => ⟨⟨_, h.1⟩, h.2⟩
def firstL : List UInt8 := [102, 105, 114, 115, 116]
set_option maxRecDepth 100000 in
set_option maxHeartbeats 8000000 in
theorem checkLasts_walk (K : CheckK) (A : Option Addr) (nl c : Nat) (f : Nat → BsV) (A1 : Option Addr) (n1 c1 : Nat) (l1 : List Int) (A2 : Option Addr) (n2 c2 : Nat) (l2 : List Int) (lo : Int) (w : World) (hx : RowsIn w w.heap.size A nl c f) (hr1 : Reads w w.heap.size 1 A1 n1 (I64 l1)) (hy1 : ∀ v ∈ l1, -9223372036854775808 ≤ v ∧ v ≤ 9223372036854775807) (hc1 : n1 ≤ c1) (hm1 : c1 ≤ 9223372036854775807) (hr2 : Reads w w.heap.size 1 A2 n2 (U64 l2)) (hy2 : ∀ v ∈ l2, 0 ≤ v ∧ v ≤ 18446744073709551615) (hc2 : n2 ≤ c2) (hm2 : c2 ≤ 9223372036854775807) (_ : -9223372036854775808 ≤ lo) (_ : lo ≤ 9223372036854775807) :
    Calls Try.prog 9 #[.slice A nl c, .slice A1 n1 c1, .slice A2 n2 c2, .int .i64 lo] w fun e w' => e = .returned (.bool true) ∧ Below w.heap.size w w' := by
  have HX := hide hx
  have hnc := hx.le
  have hc63 := hx.lt
  have HR1 := hide hr1
  have HR2 := hide hr2
  have HY2 := hide hy2
  obtain ⟨NL, hNL, hNL4⟩ := mask3l lo
  clear hx hr1 hr2 hy1 hy2
  have HS := hide (shown10_any K w)
  obtain ⟨ii, hii, hiz, his, hib⟩ := str_info9
  have HII := hide hii
  have HIZ := hide hiz
  have HIS := hide his
  have HIB := hide hib
  clear hii hiz his hib
  go_enter Try.func9, Try.ntmps9
  go_upto_region 5 with (first
    | (go_at_call 27; refine HS.out.mono ?_; rintro _ w1 ⟨rfl, hl1⟩)
    | (go_at_call 28; refine (disks_any w1 3 (by decide)).mono ?_; rintro _ w2 ⟨⟨b, F, rfl, hB2, hlo2⟩, hl2⟩))
  have hs1 := hl1.size
  have HI2 : Hid (CkIs w F b w2 (Disks 3) [0, 1, 2] noC 0) := hide { lo := fun x hx => Nat.le_trans hs1 (hlo2 x hx), bank := hB2, ck := Disks_ck 3 [0, 1, 2] (by decide), few := Nat.le_of_eq (Disks_std 3).2.1, low := hl1.trans (hl2.mono hs1) }
  clear hB2 hlo2 hl1 hl2 hs1
  have kc := fun (w : World) (C : Array Value) (n c : Nat) => Lib.run_convert_bytes_const (P := Try.prog) w 32 5 C n c Try.underlying32 Try.underlying5
  go_wp2_with ((with_reducible refine at_slot 34 ?_); have hN6 := newRow9 w2 (I64 [0, 1, 2]) 3 (0, 0); have hbk : Blk (w2.alloc (.cells (I64 [0, 1, 2]).toArray 3 (0, 0))) w2.heap.size 3 (I64 [0, 1, 2]).toArray := Blk.new _ _ _; show wpList _ _ _ _ _ (w2.alloc (.cells (I64 [0, 1, 2]).toArray 3 (0, 0))); generalize w2.alloc (.cells (I64 [0, 1, 2]).toArray 3 (0, 0)) = w3 at hN6 hbk ⊢; obtain ⟨hl3, hz3, hr3⟩ := hN6; have HZ3 := hide hz3; clear hz3 hr3)
  clear kc
  have hN := newRow9 w3 (B8 firstL) 5 (5, 6)
  show Calls _ _ _ (w3.alloc (.cells (B8 firstL).toArray 5 (5, 6))) _
  generalize w3.alloc (.cells (B8 firstL).toArray 5 (5, 6)) = w3b at hN ⊢
  obtain ⟨hl3b, hz3b, hr3b⟩ := hN
  rw [← hz3b] at hr3b
  have hF2 : ¬ F w2.heap.size := fun hf => absurd (HI2.out.bank.1 _ hf) (Nat.lt_irrefl _)
  have hF3 : ¬ F w3.heap.size := fun hf => by have h1 := HI2.out.bank.1 _ hf; have h2 := HZ3.out; omega
  have HI3 := hide ((HI2.out.later hl3).later hl3b)
  have HK3 := hide (hbk.below hl3b hbk.lt)
  have hsv := HI3.out.save K (Disks_std 3).2.2 (by decide) (by decide) (by decide) (a := 0) (g := 1) (x := firstL) (by decide) (by decide) (by decide) (by decide) (some ⟨w2.heap.size, 0, none⟩) 3 3 (Blk.readsI9 (xs := [0, 1, 2]) HK3.out rfl) (by omega) (by omega) (by omega) (fun ad e _ hf => by injection e with e; subst e; exact hF2 hf) (some ⟨w3.heap.size, 0, none⟩) 5 5 hr3b (by omega) (by omega) (fun ad e _ hf => by injection e with e; subst e; exact hF3 hf)
  refine hsv.mono ?_
  rintro _ w4 ⟨rfl, ⟨S4, hI4, _, _⟩, hT4⟩
  have hz24 : w2.heap.size < w3b.heap.size := by have h2 := HZ3.out; omega
  have hz34 := hT4.size
  have HRW : Hid (∀ (wq : World), Below w4.heap.size w4 wq → ∀ v M, wq.ownsRow w4.heap.size 9 1 v M.length (strV M) → RowsL w F w2.heap.size w4.heap.size wq M v) := hide fun wq hq v M h =>
    { row := h, live := (HK3.out.of_block (hT4.block _ HK3.out.lt hF2)).below hq (by omega), far := hF2, lt := by omega, all := fun x hx => by have := HI2.out.bank.1 x hx; omega, lo := by have := HI2.out.low.size; omega, base := hq.size }
  have HI4 := hide hI4
  have hw4 := hI4.low.size
  clear hsv hr3b hl3 hl3b hz3b hbk hI4 hT4 HK3 HI3 hF3 HZ3
  go_upto_block 0 with ((with_reducible refine at_slot 38 ?_); refine wpList_build_str rfl (const (.string ⟨#[102, 105, 114, 115, 116]⟩)) rfl (strS firstL) rfl rfl rfl ?_)
  go_cut [12, 13] (fun s12 s13 wr => ∃ (i : Nat) (S : Bank) (C : Cont) (X : Known) (m k0 a0 : Nat) (x0 : List UInt8) (M : List (List UInt8)) (AM : Option Addr) (nM cM : Nat), s12 = .slice AM nM cM ∧ s13 = .int .i64 (i : Int) ∧ i ≤ 6 ∧ nM ≤ 2 ∧ Hid (M.length = nM) ∧ Hid (CkIs w F b wr S [0, 1, 2] C (160 + i * 320)) ∧ Hid (CkI [0, 1, 2] C X m k0 a0 x0 M) ∧ Hid (m ≤ i + 1) ∧ Hid (RowsL w F w2.heap.size w4.heap.size wr M (.slice AM nM cM)) ∧ w4.heap.size ≤ wr.heap.size)
  case first =>
    go_wp2_with fail
    go_loopw [12, 13] (fun s12 s13 wr => ∃ (i : Nat) (S : Bank) (C : Cont) (X : Known) (m k0 a0 : Nat) (x0 : List UInt8) (M : List (List UInt8)) (AM : Option Addr) (nM cM : Nat), s12 = .slice AM nM cM ∧ s13 = .int .i64 (i : Int) ∧ i ≤ 6 ∧ nM ≤ 2 ∧ Hid (M.length = nM) ∧ Hid (CkIs w F b wr S [0, 1, 2] C (160 + i * 320)) ∧ Hid (CkI [0, 1, 2] C X m k0 a0 x0 M) ∧ Hid (m ≤ i + 1) ∧ Hid (RowsL w F w2.heap.size w4.heap.size wr M (.slice AM nM cM)) ∧ w4.heap.size ≤ wr.heap.size) (fun _ s13 _ => 6 - (intOf s13).toNat)
    case atStart =>
      have hal : Below w4.heap.size w4 (w4.alloc (.cells #[strS firstL] 9)) := (Below.refl _ _).alloc (Nat.le_refl _) _
      exact ⟨0, _, _, _, 1, 1, 0, firstL, [firstL], _, 1, 1, rfl, rfl, by decide, by decide, hide rfl, hide (HI4.out.later hal), hide (CkI.first (by decide)), hide (by decide), hide (HRW.out _ hal _ _ (World.ownsRow_lit w4 #[strS firstL] 1 (Nat.le_refl _) (by decide) rfl)), hal.size⟩
    case round =>
      obtain ⟨i, S, C, X, m, k0, a0, x0, M, AM, nM, cM, rfl, rfl, hi6, hM2, hML, hI, hC, hm, hR, hzr⟩ := hrel
      obtain ⟨wo, rfl⟩ : ∃ wo, wo = wr := ⟨_, rfl⟩
      have HEND : Hid (∀ (x : World), x = wo → ∃ (i' : Nat) (S' : Bank) (C' : Cont) (X' : Known) (m' k0' a0' : Nat) (x0' : List UInt8) (M' : List (List UInt8)) (AM' : Option Addr) (nM' cM' : Nat), (.slice AM nM cM : Value) = .slice AM' nM' cM' ∧ (.int .i64 (i : Int) : Value) = .int .i64 (i' : Int) ∧ i' ≤ 6 ∧ nM' ≤ 2 ∧ Hid (M'.length = nM') ∧ Hid (CkIs w F b x S' [0, 1, 2] C' (160 + i' * 320)) ∧ Hid (CkI [0, 1, 2] C' X' m' k0' a0' x0' M') ∧ Hid (m' ≤ i' + 1) ∧ Hid (RowsL w F w2.heap.size w4.heap.size x M' (.slice AM' nM' cM')) ∧ w4.heap.size ≤ x.heap.size) := hide fun x e => by
        subst e
        exact ⟨i, S, C, X, m, k0, a0, x0, M, AM, nM, cM, rfl, rfl, hi6, hM2, hML, hI, hC, hm, hR, hzr⟩
      by_cases hlt : i < nl ∧ i < 6
      · have hg1 : (i : Int) < (nl : Int) := by omega
        have hg2 : (i : Int) < 6 := by omega
        clear HEND
        obtain ⟨ad, rfl, hadb, hcells⟩ := HX.out.row (by omega)
        have HCL := hide (hcells i hlt.1)
        clear hcells
        generalize f i = y at HCL
        obtain ⟨yA, yn, yc, yl⟩ := y
        have hyc : yn ≤ yc := HCL.out.2.le
        have hyc2 : yc ≤ 9223372036854775807 := HCL.out.2.lt
        obtain ⟨L, hL, hL1, hL2, hL3, hL4, hL5, hL6⟩ := hC.out.told hI.out.ck.shows (d := 0) (by decide) (hI.out.ck.alive 0 (by decide))
        have HLL := hide (show L.bytes.length ≤ 300 ∧ numB (L.gen : Nat) = true ∧ L.bytes ∈ M from ⟨hL3, hL4, hL5⟩)
        have HTL := hide hL6
        have HLD := hide (hI.out.loadF K hR.out hL)
        have hae : (L.err : Int) = 0 := by omega
        rw [hae] at HLD
        have hga0 : ¬ ((L.area : Int) < 0) := by omega
        have hga1 : ¬ ((L.area : Int) > 1) := by omega
        have hga2 : ¬ ((1 : Int) < (L.area : Int)) := by omega
        clear hL hL1 hL3 hL4 hL5 hL6 hae
        go_upto_block 2 with (first
          | (go_at_call 30; refine HLD.out.mono ?_; rintro _ w5 ⟨BL, mL, qL, rfl, hrB, hfB, hmq, hqm, hl5⟩; have HRB := hide hrB; have HFB := hide hfB; have HL5 := hide hl5; clear hrB hfB hl5)
          | ((with_reducible refine at_slot 14 ?_); refine wpList_alloc_blk rfl 55 rfl _ (found_zero _) ?_; intro y4 hb4 hl4 hs4; clear hs4)
          | ((with_reducible refine at_store 14 ?_); refine wpList_store_all rfl 55 (.tmp 14) (.tmp 53) rfl w5.heap.size 55 _ hb4 rfl (foundC L BL mL qL) rfl found_info rfl (foundC_one _ _ _ _) ?_; intro y5 hb5 hg5 hs5; have hy4 := hb4.lt; have hl35 : Below w5.heap.size w5 y5 := hl4.grown hg5 (by omega) (fun g e => by injection e with e; omega); have hfF : ¬ F w5.heap.size := (fun hf => by have h1 := hI.out.bank.1 _ hf; have h2 := HL5.out.size; omega); have HFA : Hid (FoundAt F y5 w5.heap.size L BL mL qL) := hide { blk := hb5, bts := (HRB.out.below hl35).more hl35.size, farg := hfF, farb := fun ad e _ hf => (by have h1 := hI.out.bank.1 _ hf; have h2 := HFB.out ad e; omega), le := hmq, lt := hqm }; have HL6 : Hid (Below wo.heap.size wo y5) := hide (HL5.out.trans (hl35.mono HL5.out.size)); have c0 := found_c0 hb5; clear hs5 hg5 hb4 hl4 hl35 hy4 hfF hb5))
        have hz6 := HL6.out.size
        have HIY := hide (hI.out.later HL6.out)
        have HRY := hide (hR.out.later HL6.out)
        obtain ⟨sb, hsb⟩ : ∃ sb : ByteArray, sb = ⟨L.bytes.toArray⟩ := ⟨_, rfl⟩
        have hst : strS L.bytes = .string sb := by rw [hsb]; rfl
        have HSB := hide hsb
        have HST := hide hst
        clear hsb hst c0 hga0 hga1 hga2 HLD HRB HFB HL5
        go_wp2_with fail
        go_loopw [16, 17] (fun s16 s17 wr => ∃ (j : Nat) (q : Bool), s16 = .bool q ∧ s17 = .int .i64 (j : Int) ∧ j ≤ nM ∧ Hid (q = true ∨ ∀ t, t < j → M[t]? ≠ some L.bytes) ∧ Hid (Below y5.heap.size y5 wr)) (fun _ s17 _ => nM - (intOf s17).toNat)
        case atStart => exact ⟨0, false, rfl, rfl, Nat.zero_le _, hide (.inr fun t ht => absurd ht (Nat.not_lt_zero _)), hide (Below.refl _ _)⟩
        case round =>
          obtain ⟨j, q, rfl, rfl, hjn, hq, hlj⟩ := hrel
          obtain ⟨wj, rfl⟩ : ∃ wj, wj = wr := ⟨_, rfl⟩
          by_cases hjj : j < nM
          · have hjw : (j : Int) < (nM : Int) := by omega
            cases q with
            | true =>
              go_wp2_with fail
              refine wp_region_quiet_lit (by kernel_rfl) (by kernel_rfl) ?_
              iterate 12 (go_big_quiet_step (fail))
              refine wpQuiet_nil ?_
              rintro z7 ⟨q7, rfl⟩
              have HL7 := hide (show Below y5.heap.size y5 (wj.drewN q7) from ⟨hlj.out.os, hlj.out.tape, hlj.out.output, hlj.out.size, hlj.out.block⟩)
              go_wp2
              go_roundw
              case rel => exact ⟨j + 1, true, rfl, by simp, by omega, hide (.inl rfl), HL7⟩
              case measure => simp [intOf]; omega
            | false =>
              have hq2 : ∀ t, t < j → M[t]? ≠ some L.bytes := hq.out.elim (fun e => by cases e) id
              obtain ⟨r, hr⟩ : ∃ r, M[j]? = some r := ⟨M[j]'(by have := hML.out; omega), List.getElem?_eq_getElem (by have := hML.out; omega)⟩
              obtain ⟨gE, hgE⟩ : ∃ g, AM = some ⟨g, 0, none⟩ := by
                rcases HRY.out.row.2 with ⟨h1, h2⟩ | ⟨g, cap, cur, h1, _⟩
                · have := hML.out; omega
                · injection h1 with h1 _ _
                  exact ⟨g, h1⟩
              subst hgE
              obtain ⟨bx, hbx⟩ : ∃ bx : ByteArray, bx = ⟨r.toArray⟩ := ⟨_, rfl⟩
              have hcs : wj.cell? ⟨gE, j, none⟩ = some (.string bx) := by
                have h1 := (own_later HRY.out.row hlj.out).cells (g := gE) rfl j (strS r) (strV_get hr)
                have hadd := addr_add0 gE j
                rw [hadd] at h1
                rw [h1, hbx]
                rfl
              have hc2 : wj.cell? ⟨w5.heap.size, 2, none⟩ = some (.slice BL mL qL) := found_c2 (HFA.out.later hlj.out).blk
              have hC1 := (fun (W : World) (hW : ∃ q, W = wj.drewN q) => conv9 (w := W) (c := qL) (by obtain ⟨q, rfl⟩ := hW; exact ((HFA.out.later hlj.out).bts.drewN q)))
              simp only [HST.out] at hC1
              have HC1 := hide hC1
              clear hC1
              have HBX := hide hbx
              have HR9 := hide hr
              have HQ2 := hide hq2
              clear hbx hr hq2
              by_cases hbb : sb = bx
              · subst hbb
                go_wp2_with fail
                refine wp_region_quiet_lit (by kernel_rfl) (by kernel_rfl) ?_
                iterate 4 (go_big_quiet_step (fail))
                refine quietS_conv (by rfl) 32 9 (.tmp 76) rfl _ _ rfl HC1.out ?_
                simp only [Act.put, List.setIfInBounds_toArray, List.set_cons_succ, List.set_cons_zero]
                iterate 7 (go_big_quiet_step (fail))
                refine wpQuiet_nil ?_
                rintro z7 ⟨q7, rfl⟩
                have HL7 := hide (show Below y5.heap.size y5 (wj.drewN q7) from ⟨hlj.out.os, hlj.out.tape, hlj.out.output, hlj.out.size, hlj.out.block⟩)
                go_wp2
                go_roundw
                case rel => exact ⟨j + 1, true, rfl, by simp, by omega, hide (.inl rfl), HL7⟩
                case measure => simp [intOf]; omega
              · have hne := str_ne hbb
                go_wp2_with fail
                refine wp_region_quiet_lit (by kernel_rfl) (by kernel_rfl) ?_
                iterate 4 (go_big_quiet_step (fail))
                refine quietS_conv (by rfl) 32 9 (.tmp 76) rfl _ _ rfl HC1.out ?_
                simp only [Act.put, List.setIfInBounds_toArray, List.set_cons_succ, List.set_cons_zero]
                iterate 7 (go_big_quiet_step (fail))
                refine wpQuiet_nil ?_
                rintro z7 ⟨q7, rfl⟩
                have HL7 := hide (show Below y5.heap.size y5 (wj.drewN q7) from ⟨hlj.out.os, hlj.out.tape, hlj.out.output, hlj.out.size, hlj.out.block⟩)
                go_wp2
                go_roundw
                case rel =>
                  refine ⟨j + 1, false, rfl, by simp, by omega, hide (.inr fun t ht => ?_), HL7⟩
                  by_cases e : t = j
                  · subst e
                    rw [HR9.out]
                    intro h
                    injection h with h
                    exact hbb (by rw [HSB.out, HBX.out, h])
                  · exact HQ2.out t (by omega)
                case measure => simp [intOf]; omega
          · obtain rfl : nM = j := by omega
            cases q with
            | false =>
              exfalso
              rcases hq.out with h | h
              · cases h
              · obtain ⟨t, ht, e⟩ := List.mem_iff_getElem.1 HLL.out.2.2
                have hml := hML.out
                exact h t (by omega) (by rw [← e]; exact List.getElem?_eq_getElem ht)
            | true =>
              have HIX := hide (HIY.out.later hlj.out)
              have HRX := hide (HRY.out.later hlj.out)
              have HFX := hide (HFA.out.later hlj.out)
              have hzj := hlj.out.size
              clear hq hlj HIY HRY HFA HL6
              go_upto_region 22 with fail
              go_cut [18] (fun s18 wx => ∃ mm : Nat, s18 = .slice yA mm yc ∧ mm ≤ yn ∧ mm ≤ 300 ∧ Hid (Below wj.heap.size wj wx))
              case first =>
                have hcy : wj.cell? (ad.add i) = some (.slice yA yn yc) := (HIX.out.low.cell (p := ad.add i) (by rw [block_of_add]; exact hadb)).trans HCL.out.1
                by_cases hmn : (yn : Int) ≤ 300
                · have hmv : min (yn : Int) 300 = (yn : Int) := by omega
                  go_still_tail 11, (by kernel_rfl)
                  change wpList _ _ _ _ _ wj.drew
                  have hbd : Below wj.heap.size wj wj.drew := (Below.refl _ _).drew
                  generalize wj.drew = w6 at hbd ⊢
                  clear hcy
                  go_wp2_with fail
                  go_meet
                  exact ⟨yn, rfl, Nat.le_refl _, by omega, hide hbd⟩
                · have hmv : min (yn : Int) 300 = 300 := by omega
                  have h300 : 300 ≤ yc := by omega
                  have h3w : (300 : Int) ≤ (yc : Int) := by omega
                  go_still_tail 11, (by kernel_rfl)
                  change wpList _ _ _ _ _ wj.drew
                  have hbd : Below wj.heap.size wj wj.drew := (Below.refl _ _).drew
                  generalize wj.drew = w6 at hbd ⊢
                  clear hcy
                  go_wp2_with fail
                  go_meet
                  exact ⟨300, rfl, by omega, Nat.le_refl _, hide hbd⟩
              case rest =>
                obtain ⟨mm, rfl, hmm, hm300, hlx⟩ := hcut
                obtain ⟨wk, rfl⟩ : ∃ wk, wk = wc := ⟨_, rfl⟩
                have hh := HCL.out.2.reads.head (k := mm) hmm
                rw [Nat.mul_one, B8_take] at hh
                obtain ⟨xs, hxs⟩ : ∃ xs, xs = yl.take mm := ⟨_, rfl⟩
                rw [← hxs] at hh
                have hxl : xs.length = mm := by have := hh.1; rw [B8_length] at this; omega
                have HXS := hide hh
                have HXN := hide hxl
                have HI7 := hide (HIX.out.later hlx.out)
                have HR7 := hide (HRX.out.later hlx.out)
                have HF7 := hide (HFX.out.later hlx.out)
                have hz7 := hlx.out.size
                clear hh hxs hxl HIX HRX HFX hlx
                go_upto_region 23 with fail
                go_cut [106] (fun s106 wx => wk = wx ∧ ∃ q : Bool, s106 = .bool q ∧ Hid (q = true ↔ i < n1 ∧ i < n2))
                case first =>
                  by_cases hin1 : i < n1
                  · have hg3 : (i : Int) < (n1 : Int) := by omega
                    by_cases hin2 : i < n2
                    · have hg4 : (i : Int) < (n2 : Int) := by omega
                      go_wp2_with fail
                      go_meet
                      exact ⟨rfl, true, rfl, hide ⟨fun _ => ⟨hin1, hin2⟩, fun _ => rfl⟩⟩
                    · have hg4 : ¬ ((i : Int) < (n2 : Int)) := by omega
                      go_wp2_with fail
                      go_meet
                      exact ⟨rfl, false, rfl, hide ⟨fun h => absurd h (by decide), fun h => absurd h.2 hin2⟩⟩
                  · have hg3 : ¬ ((i : Int) < (n1 : Int)) := by omega
                    go_wp2_with fail
                    go_meet
                    exact ⟨rfl, false, rfl, hide ⟨fun h => absurd h (by decide), fun h => absurd h.1 hin1⟩⟩
                case rest =>
                  obtain ⟨rfl, q6, rfl, hq6⟩ := hcut
                  go_upto_if 106 with fail
                  go_cut [18] (fun s18 wx => s18 = .slice yA mm yc ∧ ∃ S' : Bank, Hid (CkIs w F b wx S' [0, 1, 2] C (160 + i * 320)) ∧ Hid (RowsL w F w2.heap.size w4.heap.size wx M (.slice AM nM cM)) ∧ Hid (FoundAt F wx w5.heap.size L BL mL qL) ∧ wk.heap.size ≤ wx.heap.size)
                  case first =>
                    cases q6 with
                    | true =>
                      obtain ⟨hin1, hin2⟩ := hq6.out.1 rfl
                      obtain ⟨ad1, rfl, hb1, hcc1⟩ := HR1.out.2 (by omega)
                      obtain ⟨ad2, rfl, hb2, hcc2⟩ := HR2.out.2 (by omega)
                      have hlen1 : i < l1.length := by have := HR1.out.1; rw [I64_length] at this; omega
                      have hlen2 : i < l2.length := by have := HR2.out.1; rw [U64_length] at this; omega
                      obtain ⟨v1, hv1⟩ : ∃ v1, l1[i]? = some v1 := ⟨_, List.getElem?_eq_getElem hlen1⟩
                      obtain ⟨v2, hv2⟩ : ∃ v2, l2[i]? = some v2 := ⟨_, List.getElem?_eq_getElem hlen2⟩
                      have hc1 : wk.cell? (ad1.add i) = some (.int .i64 v1) := (HI7.out.low.cell (p := ad1.add i) (by rw [block_of_add]; exact hb1)).trans (hcc1 i _ (by simp [I64, hv1]))
                      have hc2 : wk.cell? (ad2.add i) = some (.int .u64 v2) := (HI7.out.low.cell (p := ad2.add i) (by rw [block_of_add]; exact hb2)).trans (hcc2 i _ (by simp [U64, hv2]))
                      obtain ⟨N1, hN1, hN32⟩ := mask31l v1
                      have hv2b := HY2.out v2 (List.mem_of_getElem? hv2)
                      obtain ⟨m2, rfl⟩ : ∃ m2 : Nat, v2 = (m2 : Int) := ⟨v2.toNat, by omega⟩
                      have HAR := hide fun (wq : World) (hq : Below wk.heap.size wk wq) => (HI7.out.later hq).arm (N1 : Int) N1 m2 (by split <;> omega) (by omega) (by omega)
                      clear hcc1 hcc2 hlen1 hlen2 hv1 hv2 hv2b
                      go_wp2_with fail
                      go_still_tail 10, (by kernel_rfl)
                      change wpList _ _ _ _ _ wk.drew
                      have hbd : Below wk.heap.size wk wk.drew := (Below.refl _ _).drew
                      generalize wk.drew = w6 at hbd ⊢
                      go_wp2_with fail
                      refine (HAR.out w6 hbd).mono ?_
                      rintro _ w8 ⟨rfl, hI8, hT8⟩
                      have HI8 := hide hI8
                      have HR8 := hide ((HR7.out.later hbd).turned hT8)
                      have HF8 := hide ((HF7.out.later hbd).turned hT8)
                      have hz8 := hT8.size
                      have hz6 := hbd.size
                      clear hI8 hT8 hbd HAR
                      go_wp2_with fail
                      go_meet
                      exact ⟨rfl, _, HI8, HR8, HF8, by omega⟩
                    | false =>
                      go_wp2_with fail
                      go_meet
                      exact ⟨rfl, _, HI7, HR7, HF7, Nat.le_refl _⟩
                  case rest =>
                    obtain ⟨rfl, S8, HI8, HR8, HF8, hz8⟩ := hcut
                    obtain ⟨wl, rfl⟩ : ∃ wl, wl = wc := ⟨_, rfl⟩
                    have c0 := found_c0 HF8.out.blk
                    have c1 := found_c1 HF8.out.blk
                    have c2 := found_c2 HF8.out.blk
                    have HSV := hide (HI8.out.layF K HR8.out (a := L.area) (g := L.gen) (x := L.bytes) hL2 HLL.out.1 HLL.out.2.1 (by omega) BL mL qL HF8.out.bts HF8.out.le HF8.out.lt HF8.out.farb)
                    go_upto_if 128 with (go_at_call 29; refine HSV.out.mono ?_; rintro _ w9 ⟨ff, rfl, hT9, hd9⟩; have HD9 := hide hd9; have HR9 := hide (HR8.out.turned hT9); have HF9 := hide (HF8.out.turned hT9); have hz9 := hT9.size; clear hd9 hT9 c0 c1 c2)
                    clear HSV HI8 HR8 HF8
                    go_cut [12, 19] (fun s12 s19 wx => ∃ (C' : Cont) (X' : Known) (m' k' a' : Nat) (x' : List UInt8) (M' : List (List UInt8)) (AM' : Option Addr) (nM' cM' : Nat) (fe : Int), s12 = .slice AM' nM' cM' ∧ s19 = .int .i64 fe ∧ nM' ≤ 2 ∧ Hid (M'.length = nM') ∧ Hid (CkI [0, 1, 2] C' X' m' k' a' x' M') ∧ Hid (m' ≤ i + 2) ∧ Hid (RowsL w F w2.heap.size w4.heap.size wx M' (.slice AM' nM' cM')) ∧ ((fe = 0 ∧ Hid (∃ S', CkIs w F b wx S' [0, 1, 2] C' (160 + (i + 1) * 320))) ∨ (fe = 6 ∧ Hid (∃ S', CkDn w F b wx S' [0, 1, 2] C' (160 + (i + 1) * 320)))) ∧ w4.heap.size ≤ wx.heap.size)
                    case first =>
                      have hks : 160 + i * 320 + 160 ≤ 160 + (i + 1) * 320 ∧ 160 + i * 320 + 160 + 160 ≤ 160 + (i + 1) * 320 ∧ 160 + i * 320 + 160 ≤ 1000000 := by omega
                      have HKS := hide hks
                      clear hks
                      rcases HD9.out with ⟨rfl, S9, hI9⟩ | ⟨rfl, S9, C9, hI9, hE9⟩
                      · have HI9 := hide hI9
                        clear hI9 HD9
                        have c2 := found_c2 HF9.out.blk
                        have hcv := conv9 (c := qL) HF9.out.bts
                        rw [HST.out] at hcv
                        have HCV := hide hcv
                        have hse : L.seen ≤ 10 := by have h1 := HTL.out.2.2.2.1; have h2 := hm.out; omega
                        have ha2 : (1 : Int) - (L.area : Int) = ((1 - L.area : Nat) : Int) := by omega
                        have hs2 : (L.seen : Int) + 1 = ((L.seen + 1 : Nat) : Int) := by omega
                        have HA2 := hide ha2
                        have HS2 := hide hs2
                        clear hcv ha2 hs2
                        go_upto_if 144 with (first
                          | ((with_reducible refine at_slot 131 ?_); refine wpList_conv rfl 32 9 (.tmp 130) rfl (.string sb) _ rfl HCV.out ?_)
                          | ((with_reducible refine at_slot 132 ?_); refine wpList_build_str rfl (.tmp 131) rfl (.string sb) rfl rfl rfl ?_; have hal : Below w9.heap.size w9 (w9.alloc (.cells #[.string sb] 9)) := (Below.refl _ _).alloc (Nat.le_refl _) _; have hR10 := HR9.out.one L.bytes; rw [HST.out] at hR10; generalize w9.alloc (.cells #[.string sb] 9) = w10 at hal hR10 ⊢; have HI10 := hide (HI9.out.later hal); have HR10 := hide hR10; have HF10 := hide (HF9.out.later hal); have hz10 := hal.size; clear c2; have c0 := found_c0 HF10.out.blk; have c3 := found_c3 HF10.out.blk; have hsv2 := HI10.out.layF K hR10 (a := 1 - L.area) (g := L.seen + 1) (x := xs) (by omega) (by have := HXN.out; omega) (num100 (by omega)) HKS.out.2.2 yA mm yc ((HXS.out.below HI10.out.low).more HI10.out.low.size) (by omega) hyc2 (HXS.out.far HI10.out.lo); rw [← HA2.out, ← HS2.out] at hsv2; have HSV2 := hide hsv2; clear hsv2 hR10 hal HCV HI9 HR9 HF9)
                          | (go_at_call 29; refine HSV2.out.mono ?_; rintro _ w11 ⟨f2, rfl, hT11, hd11⟩; have HD11 := hide hd11; have HR11 := hide (HR10.out.turned hT11); have hz11 := hT11.size; have hlw11 : Below w.heap.size w w11 := HI10.out.turned hT11; have HLW11 := hide hlw11; clear hd11 hT11 c0 c3 HSV2 hlw11))
                        obtain ⟨X2, hnx, hbg⟩ := hC.out.next (x := xs) HTL.out.1 (HTL.out.2.2.2.2 hI.out.ck.alive).1 HTL.out.2.2.1 (HTL.out.2.2.2.2 hI.out.ck.alive).2 HTL.out.2.2.2.1 (by have := hm.out; omega) (by have := HXN.out; omega)
                        have HNX := hide hnx
                        have HBG := hide hbg
                        clear hnx hbg
                        rcases HD11.out with ⟨rfl, S11, hI11⟩ | ⟨rfl, S11, C11, hI11, hE11⟩
                        · have HI11 := hide hI11
                          clear hI11 HD11
                          have hxl11 : Reads w11 w11.heap.size 1 yA mm (B8 xs) := (HXS.out.below HLW11.out).more HLW11.out.size
                          have hcv := conv9 (c := yc) hxl11
                          obtain ⟨sx, hsx⟩ : ∃ sx : ByteArray, sx = ⟨xs.toArray⟩ := ⟨_, rfl⟩
                          have hstx : strS xs = .string sx := by rw [hsx]; rfl
                          rw [hstx] at hcv
                          have HCV := hide hcv
                          have HSX := hide hstx
                          have hlump := Reads.lump (w := w11) [.string sx] 9 (w11.heap.size + 1) 1 (by omega) rfl
                          have HLUMP := hide hlump
                          have hal : Below w11.heap.size w11 (w11.alloc (.cells #[.string sx] 9)) := (Below.refl _ _).alloc (Nat.le_refl _) _
                          have HRA := hide (HR11.out.none.later hal)
                          have HIA := hide (HI11.out.later hal)
                          have HQ := hide (show 0 + 1 ≤ maxLen ∧ (0 + 1) * 16 ≤ 140737488355328 by decide)
                          have HOW := hide (show (w11.alloc (.cells #[.string sx] 9)).ownsRow w4.heap.size 9 1 (.slice none 0 0) 0 (strV ([] : List (List UInt8))) from HRA.out.row)
                          clear hxl11 hcv hsx hstx hlump hal
                          go_wp2_with (first
                            | ((with_reducible refine at_slot 147 ?_); refine wpList_conv rfl 32 9 (.tmp 146) rfl (.string sx) _ rfl HCV.out ?_)
                            | ((with_reducible refine at_slot 148 ?_); refine wpList_build_str rfl (.tmp 147) rfl (.string sx) rfl rfl rfl ?_)
                            | ((with_reducible refine at_slot 149 ?_); refine wpList_append_two _ rfl (.tmp 145) (.tmp 148) 31 rfl w4.heap.size 9 ii _ 1 16 Try.underlying31 HII.out HIZ.out HIS.out HIB.out rfl (by decide) _ 0 _ rfl HOW.out (w11.heap.size + 1) (some ⟨w11.heap.size, 0, none⟩) 1 1 [.string sx] rfl HLUMP.out (by intro u hu; simp at hu; rw [hu]; rfl) HQ.out.1 HQ.out.2 (by rw [World.size_alloc]; omega) ?_; intro v12 w12 hown12 hg12 _))
                          go_meet
                          obtain ⟨A12, c12, rfl⟩ := own10_slice hown12
                          rw [← HSX.out, show strV ([] : List (List UInt8)) ++ [strS xs] = strV [xs] by rfl] at hown12
                          have hR12 := HRA.out.more (N := [xs]) hown12 hg12
                          have hTg := Turn.of_grown (F := fun x => ((.slice none 0 0) : Value).ownBlock = some x) hg12 (fun g e => e)
                          have hI12 := HIA.out.aside hTg (fun x hx e => by have h1 := own_ge10 HOW.out x e; have h2 := HRA.out.all x hx; omega) (fun x e => by have h1 := own_ge10 HOW.out x e; omega)
                          exact ⟨_, X2, m + 1, L.seen + 1, 1 - L.area, xs, [xs], A12, 0 + 1, c12, 0, rfl, rfl, by decide, hide rfl, hide HNX.out, hide (by have := hm.out; omega), hide hR12, (.inl ⟨rfl, hide ⟨S11, hI12.more HKS.out.2.1⟩⟩), by have := hR12.base; omega⟩
                        · have HI11 := hide hI11
                          have HE11 := hide hE11
                          clear hI11 hE11 HD11
                          have hxl11 : Reads w11 w11.heap.size 1 yA mm (B8 xs) := (HXS.out.below HLW11.out).more HLW11.out.size
                          have hcv := conv9 (c := yc) hxl11
                          obtain ⟨sx, hsx⟩ : ∃ sx : ByteArray, sx = ⟨xs.toArray⟩ := ⟨_, rfl⟩
                          have hstx : strS xs = .string sx := by rw [hsx]; rfl
                          rw [hstx] at hcv
                          have HCV := hide hcv
                          have HSX := hide hstx
                          have hlump := Reads.lump (w := w11) [.string sx] 9 (w11.heap.size + 1) 1 (by omega) rfl
                          have HLUMP := hide hlump
                          have hal : Below w11.heap.size w11 (w11.alloc (.cells #[.string sx] 9)) := (Below.refl _ _).alloc (Nat.le_refl _) _
                          have HRA := hide (HR11.out.later hal)
                          have HIA := hide (HI11.out.later hal)
                          have HQ := hide (show 1 + 1 ≤ maxLen ∧ (1 + 1) * 16 ≤ 140737488355328 by decide)
                          have HOW := hide (show (w11.alloc (.cells #[.string sx] 9)).ownsRow w4.heap.size 9 1 (.slice (some ⟨w9.heap.size, 0, none⟩) 1 1) 1 (strV [L.bytes]) from HRA.out.row)
                          clear hxl11 hcv hsx hstx hlump hal
                          go_wp2_with (first
                            | ((with_reducible refine at_slot 147 ?_); refine wpList_conv rfl 32 9 (.tmp 146) rfl (.string sx) _ rfl HCV.out ?_)
                            | ((with_reducible refine at_slot 148 ?_); refine wpList_build_str rfl (.tmp 147) rfl (.string sx) rfl rfl rfl ?_)
                            | ((with_reducible refine at_slot 149 ?_); refine wpList_append_two _ rfl (.tmp 145) (.tmp 148) 31 rfl w4.heap.size 9 ii _ 1 16 Try.underlying31 HII.out HIZ.out HIS.out HIB.out rfl (by decide) _ 1 _ rfl HOW.out (w11.heap.size + 1) (some ⟨w11.heap.size, 0, none⟩) 1 1 [.string sx] rfl HLUMP.out (by intro u hu; simp at hu; rw [hu]; rfl) HQ.out.1 HQ.out.2 (by rw [World.size_alloc]; omega) ?_; intro v12 w12 hown12 hg12 _))
                          go_meet
                          obtain ⟨A12, c12, rfl⟩ := own10_slice hown12
                          rw [← HSX.out, show strV [L.bytes] ++ [strS xs] = strV [L.bytes, xs] by rfl] at hown12
                          have hR12 := HRA.out.more (N := [L.bytes, xs]) hown12 hg12
                          have hTg := Turn.of_grown (F := fun x => ((.slice (some ⟨w9.heap.size, 0, none⟩) 1 1) : Value).ownBlock = some x) hg12 (fun g e => e)
                          have hI12 := HIA.out.aside hTg (fun x hx e => by have h1 := own_ge10 HOW.out x e; have h2 := HRA.out.all x hx; omega) (fun x e => by have h1 := own_ge10 HOW.out x e; omega)
                          exact ⟨_, X2, m + 1, L.gen, L.area, L.bytes, [L.bytes, xs], A12, 1 + 1, c12, 6, rfl, rfl, by decide, hide rfl, hide (HBG.out _ HE11.out), hide (by have := hm.out; omega), hide hR12, (.inr ⟨rfl, hide ⟨S11, hI12.more HKS.out.2.1⟩⟩), by have := hR12.base; omega⟩
                      · have HI9 := hide hI9
                        have HE9 := hide hE9
                        clear hI9 hE9 HD9
                        go_wp2_with fail
                        go_meet
                        exact ⟨C9, X, m, k0, a0, x0, M, AM, nM, cM, 6, rfl, rfl, hM2, hML, hide (hC.out.again HTL.out.1 HTL.out.2.1 HTL.out.2.2.1 HE9.out), hide (by have := hm.out; omega), HR9, .inr ⟨rfl, hide ⟨S9, HI9.out.more HKS.out.1⟩⟩, by omega⟩
                    case rest =>
                      obtain ⟨C', X', m', k', a', x', M', AM', nM', cM', fe, rfl, rfl, hM2', hML', hC', hm', hR', hfe, hzr'⟩ := hcut
                      obtain ⟨wp, rfl⟩ : ∃ wp, wp = wc := ⟨_, rfl⟩
                      rcases hfe with ⟨rfl, hex⟩ | ⟨rfl, hex⟩
                      · obtain ⟨S', hI'⟩ := hex.out
                        have HU := hide hI'.up
                        have HIP := hide hI'
                        by_cases hin2 : i < n2
                        · have hg4 : (i : Int) < (n2 : Int) := by omega
                          obtain ⟨ad2, rfl, hb2, hcc2⟩ := HR2.out.2 (by omega)
                          have hlen2 : i < l2.length := by have := HR2.out.1; rw [U64_length] at this; omega
                          obtain ⟨v2, hv2⟩ : ∃ v2, l2[i]? = some v2 := ⟨_, List.getElem?_eq_getElem hlen2⟩
                          have hcx : wp.cell? (ad2.add i) = some (.int .u64 v2) := (hI'.low.cell (p := ad2.add i) (by rw [block_of_add]; exact hb2)).trans (hcc2 i _ (by simp [U64, hv2]))
                          have hv2b := HY2.out v2 (List.mem_of_getElem? hv2)
                          obtain ⟨m2, rfl⟩ : ∃ m2 : Nat, v2 = (m2 : Int) := ⟨v2.toNat, by omega⟩
                          have HCR := hide (hI'.crash m2 (by omega))
                          clear hI' hcc2 hlen2 hv2 hv2b
                          go_wp2_with (first
                            | (go_at_call 18; refine HU.out.mono ?_; rintro _ _ ⟨rfl, rfl⟩)
                            | (go_at_call 19; refine HCR.out.mono ?_; rintro _ w12 ⟨rfl, hD12, hT12⟩; have HST12 := hide hD12.start; have HR12 := hide (hR'.out.turned hT12); have hz12 := hT12.size; clear hD12 hT12)
                            | (go_at_call 20; refine HST12.out.mono ?_; rintro _ w13 ⟨rfl, hI13, hT13⟩; have HI13 := hide hI13; have HR13 := hide (HR12.out.turned hT13); have hz13 := hT13.size; clear hI13 hT13))
                          go_roundw
                          case rel => exact ⟨i + 1, _, C', X', m', k', a', x', M', AM', nM', cM', rfl, by simp, by omega, hM2', hML', HI13, hC', hide (by have := hm'.out; omega), HR13, by omega⟩
                          case measure => simp [intOf]; omega
                        · have hg4 : ¬ ((i : Int) < (n2 : Int)) := by omega
                          have HST12 := hide hI'.start
                          clear hI'
                          go_wp2_with (first
                            | (go_at_call 18; refine HU.out.mono ?_; rintro _ _ ⟨rfl, rfl⟩)
                            | (go_at_call 20; refine HST12.out.mono ?_; rintro _ w13 ⟨rfl, hI13, hT13⟩; have HI13 := hide hI13; have HR13 := hide (hR'.out.turned hT13); have hz13 := hT13.size; clear hI13 hT13))
                          go_roundw
                          case rel => exact ⟨i + 1, _, C', X', m', k', a', x', M', AM', nM', cM', rfl, by simp, by omega, hM2', hML', HI13, hC', hide (by have := hm'.out; omega), HR13, by omega⟩
                          case measure => simp [intOf]; omega
                      · obtain ⟨S', hI'⟩ := hex.out
                        have HU := hide hI'.up
                        have HST12 := hide hI'.start
                        clear hI'
                        go_wp2_with (first
                          | (go_at_call 18; refine HU.out.mono ?_; rintro _ _ ⟨rfl, rfl⟩)
                          | (go_at_call 20; refine HST12.out.mono ?_; rintro _ w13 ⟨rfl, hI13, hT13⟩; have HI13 := hide hI13; have HR13 := hide (hR'.out.turned hT13); have hz13 := hT13.size; clear hI13 hT13))
                        go_roundw
                        case rel => exact ⟨i + 1, _, C', X', m', k', a', x', M', AM', nM', cM', rfl, by simp, by omega, hM2', hML', HI13, hC', hide (by have := hm'.out; omega), HR13, by omega⟩
                        case measure => simp [intOf]; omega
      · have he : i = 6 ∨ ¬ i < nl := by omega
        by_cases hin2 : i < nl
        · obtain rfl : i = 6 := by omega
          have hg1 : (6 : Int) < (nl : Int) := by omega
          go_wp2_with fail
          go_meet
          exact HEND.out _ rfl
        · have hg1 : ¬ ((i : Int) < (nl : Int)) := by omega
          go_wp2_with fail
          go_meet
          exact HEND.out _ rfl
  case rest =>
    obtain ⟨i, S, C, X, m, k0, a0, x0, M, AM, nM, cM, rfl, rfl, hi6, hM2, hML, hI, hC, hm, hR, hzr⟩ := hcut
    obtain ⟨we, rfl⟩ : ∃ we, we = wc := ⟨_, rfl⟩
    have HFL := hide (failL hI.out.bank NL)
    obtain ⟨e1, e2, e3, d, hd, hxd⟩ := hI.out.ck.lost NL
    obtain ⟨L, hL, hL1, hL2, hL3, hL4, hL5, hL6⟩ := hC.out.told e3 hd hxd
    have HLM := hide hL5
    have HLD := hide fun (w5 : World) (h5 : BankOn w5 b F (S.fail_ NL)) (hR5 : RowsL w F w2.heap.size w4.heap.size w5 M (.slice AM nM cM)) => K.load_any w5 b F (S.fail_ NL) (some ⟨w2.heap.size, 0, none⟩) 3 3 [0, 1, 2] h5 e1 hR5.reads (by omega) (by omega) (by omega) e2 (by decide)
    have hae : (L.err : Int) = 0 := by omega
    rw [hL, hae] at HLD
    have HLO := hide hI.out.lo
    have HLW := hide hI.out.low
    clear e1 e2 e3 hxd hd hL hL1 hL2 hL3 hL4 hL5 hL6 hae hI hC
    go_wp2_with (first
      | (go_at_call 21; refine HFL.out.mono ?_; rintro _ w5 ⟨⟨v5, rfl⟩, hB5, hT5⟩; have HR5 := hide (hR.out.turned hT5); have HB5 := hide hB5; have hlw5 := below_turned HLW.out HLO.out hT5 HLW.out.size; have HLW5 := hide hlw5; have hz5 := hT5.size; clear hB5 hT5 hlw5)
      | (go_at_call 30; refine (HLD.out _ HB5.out HR5.out).mono ?_; rintro _ w6 ⟨BL, mL, qL, rfl, hrB, hfB, hmq, hqm, hl6⟩; have HRB := hide hrB; have HL6 := hide hl6; clear hrB hfB hl6)
      | ((with_reducible refine at_slot 20 ?_); refine wpList_alloc_blk rfl 55 rfl _ (found_zero _) ?_; intro y4 hb4 hl4 hs4; clear hs4)
      | ((with_reducible refine at_store 20 ?_); refine wpList_store_all rfl 55 (.tmp 20) (.tmp 180) rfl w6.heap.size 55 _ hb4 rfl (foundC L BL mL qL) rfl found_info rfl (foundC_one _ _ _ _) ?_; intro y5 hb5 hg5 hs5; have hy4 := hb4.lt; have hl35 : Below w6.heap.size w6 y5 := hl4.grown hg5 (by omega) (fun g e => by injection e with e; omega); have HFB := hide hb5; have HRC := hide ((HRB.out.below hl35).more hl35.size); have HL5 : Hid (Below w5.heap.size w5 y5) := hide (HL6.out.trans (hl35.mono HL6.out.size)); clear hs5 hg5 hb4 hl4 hl35 hy4 hb5))
    all_goals (
      have HRY := hide (HR5.out.later HL5.out)
      have HLY := hide (HLW5.out.trans (HL5.out.mono HLW5.out.size))
      obtain ⟨sb, hsb⟩ : ∃ sb : ByteArray, sb = ⟨L.bytes.toArray⟩ := ⟨_, rfl⟩
      have hst : strS L.bytes = .string sb := by rw [hsb]; rfl
      have HSB := hide hsb
      have HST := hide hst
      clear hsb hst
      go_loopw [22] (fun s22 wr => ∃ j : Nat, s22 = .int .i64 (j : Int) ∧ j ≤ nM ∧ Hid (∀ t, t < j → M[t]? ≠ some L.bytes) ∧ Hid (Below y5.heap.size y5 wr)) (fun s22 _ => nM - (intOf s22).toNat)
      case atStart => exact ⟨0, rfl, Nat.zero_le _, hide (fun t ht => absurd ht (Nat.not_lt_zero _)), hide (Below.refl _ _)⟩
      case round =>
        obtain ⟨j, rfl, hjn, hq, hlj⟩ := hrel
        obtain ⟨wj, rfl⟩ : ∃ wj, wj = wr := ⟨_, rfl⟩
        by_cases hjj : j < nM
        · have hjw : (j : Int) < (nM : Int) := by omega
          obtain ⟨r, hr⟩ : ∃ r, M[j]? = some r := ⟨M[j]'(by have := hML.out; omega), List.getElem?_eq_getElem (by have := hML.out; omega)⟩
          obtain ⟨gE, hgE⟩ : ∃ g, AM = some ⟨g, 0, none⟩ := by
            rcases HRY.out.row.2 with ⟨h1, h2⟩ | ⟨g, cap, cur, h1, _⟩
            · have := hML.out; omega
            · injection h1 with h1 _ _
              exact ⟨g, h1⟩
          subst hgE
          obtain ⟨bx, hbx⟩ : ∃ bx : ByteArray, bx = ⟨r.toArray⟩ := ⟨_, rfl⟩
          have hcs : wj.cell? ⟨gE, j, none⟩ = some (.string bx) := by
            have h1 := (own_later HRY.out.row hlj.out).cells (g := gE) rfl j (strS r) (strV_get hr)
            have hadd := addr_add0 gE j
            rw [hadd] at h1
            rw [h1, hbx]
            rfl
          have hc2 : wj.cell? ⟨w6.heap.size, 2, none⟩ = some (.slice BL mL qL) := found_c2 (HFB.out.below hlj.out HFB.out.lt)
          have hC1 := (fun (W : World) (hW : ∃ q, W = wj.drewN q) => conv9 (w := W) (c := qL) (by obtain ⟨q, rfl⟩ := hW; exact ((HRC.out.below hlj.out).drewN q)))
          simp only [HST.out] at hC1
          have HC1 := hide hC1
          clear hC1
          have HBX := hide hbx
          have HR9 := hide hr
          clear hbx hr
          by_cases hbb : sb = bx
          · subst hbb
            have heq : (sb.toList == sb.toList) = true := beq_self_eq_true _
            go_wp2_with fail
            refine wp_region_quiet_lit (by kernel_rfl) (by kernel_rfl) ?_
            iterate 5 (go_big_quiet_step (fail))
            refine quietS_conv (by rfl) 32 9 (.tmp 192) rfl _ _ rfl HC1.out ?_
            simp only [Act.put, List.setIfInBounds_toArray, List.set_cons_succ, List.set_cons_zero]
            iterate 6 (go_big_quiet_step (fail))
            refine wpQuiet_nil ?_
            rintro z7 ⟨q7, rfl⟩
            have HL7 := hide (show Below y5.heap.size y5 (wj.drewN q7) from ⟨hlj.out.os, hlj.out.tape, hlj.out.output, hlj.out.size, hlj.out.block⟩)
            go_wp2
            go_ret
            exact ⟨rfl, HLY.out.trans (HL7.out.mono HLY.out.size)⟩
          · have hne := str_ne hbb
            go_wp2_with fail
            refine wp_region_quiet_lit (by kernel_rfl) (by kernel_rfl) ?_
            iterate 5 (go_big_quiet_step (fail))
            refine quietS_conv (by rfl) 32 9 (.tmp 192) rfl _ _ rfl HC1.out ?_
            simp only [Act.put, List.setIfInBounds_toArray, List.set_cons_succ, List.set_cons_zero]
            iterate 6 (go_big_quiet_step (fail))
            refine wpQuiet_nil ?_
            rintro z7 ⟨q7, rfl⟩
            have HL7 := hide (show Below y5.heap.size y5 (wj.drewN q7) from ⟨hlj.out.os, hlj.out.tape, hlj.out.output, hlj.out.size, hlj.out.block⟩)
            go_wp2
            go_roundw
            case rel =>
              refine ⟨j + 1, by simp, by omega, hide (fun t ht => ?_), HL7⟩
              by_cases e : t = j
              · subst e
                rw [HR9.out]
                intro h
                injection h with h
                exact hbb (by rw [HSB.out, HBX.out, h])
              · exact hq.out t (by omega)
            case measure => simp [intOf]; omega
        · exfalso
          obtain ⟨t, ht, e⟩ := List.mem_iff_getElem.1 HLM.out
          have hml := hML.out
          exact hq.out t (by omega) (by rw [← e]; exact List.getElem?_eq_getElem ht))
#print axioms checkLasts_walk
namespace CheckLasts
set_option linter.unusedVariables false
theorem walk (A0 : Option Addr) (n0 c0 : Nat) (l0 : Nat → BsV) (A1 : Option Addr) (n1 c1 : Nat) (l1 : List Int) (A2 : Option Addr) (n2 c2 : Nat) (l2 : List Int) (a3 : Int) (w : World) (x0 : RowsIn w w.heap.size A0 n0 c0 l0) (x1 : Reads w w.heap.size 1 A1 n1 (I64 l1)) (y1 : ∀ v ∈ l1, -9223372036854775808 ≤ v ∧ v ≤ 9223372036854775807) (g1 : n1 ≤ c1) (z1 : c1 ≤ 9223372036854775807) (x2 : Reads w w.heap.size 1 A2 n2 (U64 l2)) (y2 : ∀ v ∈ l2, 0 ≤ v ∧ v ≤ 18446744073709551615) (g2 : n2 ≤ c2) (z2 : c2 ≤ 9223372036854775807) (b3 : -9223372036854775808 ≤ a3) (e3 : a3 ≤ 9223372036854775807) :
    Calls Try.prog 9 #[.slice A0 n0 c0, .slice A1 n1 c1, .slice A2 n2 c2, .int .i64 a3] w fun e w' => e = .returned (.bool true) ∧ Below w.heap.size w w' :=
  checkLasts_walk checkK A0 n0 c0 l0 A1 n1 c1 l1 A2 n2 c2 l2 a3 w x0 x1 y1 g1 z1 x2 y2 g2 z2 b3 e3
/-! The row's frame, by program: how the walk above proves the statement. -/
set_option maxRecDepth 100000 in
theorem lifted (os : Os) (started : os.Started) (H : Type) (enc : TypeId × Value → H) :
    ReturnsInHanded {} Try.checked os 9 .any (Rows.checkLastsSpec.pre6 enc Try.prog Try.f9 Rows.checkLastsRow.domain false) (Rows.checkLastsSpec.post enc Try.prog Try.f9 false true false false) := by
  refine returnsInHanded_of_change (C := Try.checked) own started (by kernel_rfl) Try.func9
    (ChangeSpec.witness6 (enc := enc) (C := Try.checked) false ⟨#[], #[.slice none 0 0, .slice none 0 0, .slice none 0 0, .int .i64 0], []⟩ 8 (by kernel_rfl) (by kernel_rfl) (by kernel_rfl) (by kernel_rfl)) ?_
  intro W base args ds gs before hval0 hW hcnd _
  have hval : ∀ (j : Nat) t v, Try.f9.params[j]? = some t → args[j]? = some v → Value.okWide Try.prog W .any base t v := hval0
  have hW' := hW
  obtain ⟨p, q, hA0, hV, rfl, hfz, hnd⟩ := hW
  have hA : DataW.TrodAll enc Try.prog W 0 (fun _ => true) true Try.f9.params.toList args.toList ds p := hA0
  rw [Try.params9] at hA hval
  obtain ⟨v0, vs0, d0, ds0, p0, q0, hargs, rfl, rfl, h0, r0⟩ := trodAll_cons hA
  obtain ⟨v1, vs1, d1, ds1, p1, q1, rfl, rfl, rfl, h1, r1⟩ := trodAll_cons r0
  obtain ⟨v2, vs2, d2, ds2, p2, q2, rfl, rfl, rfl, h2, r2⟩ := trodAll_cons r1
  obtain ⟨v3, vs3, d3, ds3, p3, q3, rfl, rfl, rfl, h3, r3⟩ := trodAll_cons r2
  obtain ⟨rfl, rfl, rfl⟩ := trodAll_nil r3
  obtain rfl : args = #[v0, v1, v2, v3] := by cases args; simp_all
  obtain ⟨rfl, rfl⟩ := trodVars_none hV
  obtain ⟨A0, n0, c0, rfl⟩ := okWide_slice Try.underlying22 (hval 0 22 v0 rfl rfl)
  have k0 := h0
  have lt0 : ∀ x ∈ p0, x.block < W.heap.size := by obtain ⟨m, hm⟩ := k0; exact DataW.trod_lt m _ _ _ hm
  obtain ⟨l0, x0⟩ := arg_rows h0
  obtain ⟨A1, n1, c1, rfl⟩ := okWide_slice Try.underlying27 (hval 1 27 v1 rfl rfl)
  have k1 := h1
  have lt1 : ∀ x ∈ p1, x.block < W.heap.size := by obtain ⟨m, hm⟩ := k1; exact DataW.trod_lt m _ _ _ hm
  obtain ⟨l1, x1, y1, g1, z1⟩ := arg_ints h1
  obtain ⟨A2, n2, c2, rfl⟩ := okWide_slice Try.underlying52 (hval 2 52 v2 rfl rfl)
  have k2 := h2
  have lt2 : ∀ x ∈ p2, x.block < W.heap.size := by obtain ⟨m, hm⟩ := k2; exact DataW.trod_lt m _ _ _ hm
  obtain ⟨l2, x2, y2, g2, z2⟩ := arg_u64s h2
  obtain ⟨a3, rfl, rfl, rfl, w3⟩ := open_int Try.underlying3 (hval 3 3 v3 rfl rfl) h3
  have b3 := bounds_i64 w3
  clear hA0 hval0
  refine (walk A0 n0 c0 l0 A1 n1 c1 l1 A2 n2 c2 l2 a3 W x0 x1 y1 g1 z1 x2 y2 g2 z2 b3.1 b3.2).mono fun e W' ⟨he, bel⟩ => ?_
  subst he
  exact ⟨_, rfl, _, _, _, [], _, [], hW', trodAll_mk1 (shut_bool Try.underlying4 _), (trodAll_cons_mk (Below.trod laidOut (by kernel_rfl) (of_decide_eq_true (by kernel_rfl)) k0 bel lt0) (trodAll_cons_mk (Below.trod laidOut (by kernel_rfl) (of_decide_eq_true (by kernel_rfl)) k1 bel lt1) (trodAll_cons_mk (Below.trod laidOut (by kernel_rfl) (of_decide_eq_true (by kernel_rfl)) k2 bel lt2) (trodAll_cons_mk (shut_int Try.underlying3 w3) trodAll_mk0)))), rfl, bel.frame _, fun h => by cases h⟩

theorem over : Rows.checkLastsRow.holds Try.pinned (OpenSpec.ofChange Rows.checkLastsSpec) :=
  OpenClaim.holds_of_wide 9 Try.f9 rfl rfl rfl rfl rfl rfl rfl ⟨rfl, rfl, rfl, rfl, rfl⟩ rfl rfl rfl rfl rfl (by kernel_rfl) Try.func9 (by kernel_rfl)
    (of_decide_eq_true (by kernel_rfl)) (by unfold Func.isWrapper; first | (rw [if_pos (by decide +kernel)]; kernel_rfl) | (rw [if_neg (by decide +kernel)]; exact ⟨rfl, rfl⟩))
    (fun os started H enc _ => lifted os started H enc)

/-- The statement. -/
theorem proved : Rows.CheckLastsSaid := over
#print axioms proved
end CheckLasts
end Go.Proofs.Ytmjdndhpnckeeaa
