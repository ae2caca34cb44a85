/- GroupMore. -/
import Derived.Test.YtmaiikmgpeafkaaLawS
import Derived.Test.YtmaiikmgpeafkaaLawF
import Derived.Test.YtmaiikmgpeafkaaLawC
import Derived.Test.YtmaiikmgpeafkaaMoreP
import Derived.Test.YtmaiikmgpeafkaaRehM
import Derived.Test.YtmaiikmgpeafkaaRefG
import Derived.Test.YtmaiikmgpeafkaaGrpA
import Derived.Test.YtmaiikmgpeafkaaPoke
import Derived.Test.YtmaiikmgpeafkaaArgG
import Derived.Test.YtmaiikmgpeafkaaRows
import Derived.Deep.DeepCutAuto
import Derived.Deep.CutBlock
import Derived.Deep.CutRange
import Derived.Outline
namespace Go.Proofs.Ytmaiikmgpeafkaa.GroupMore
open Go.ChangeShapes Go.WideShapes Go.ChangeAt Go.RowKit Go.Proofs.Ytmaiikmgpeafkaa

theorem mask16 (n : Int) : ∃ M : Nat, bits .and .i64 n 65535 = (M : Int) ∧ M ≤ 65535 := by
  have h := i64_mask n 16 (by decide)
  refine ⟨(n % 65536).toNat, ?_, by omega⟩
  have e : (65535 : Int) = 2 ^ 16 - 1 := by decide
  rw [e, h]
  have e2 : (2 : Int) ^ 16 = 65536 := by decide
  rw [e2]
  omega
theorem mask_mod (n : Int) {R : Nat} (hR : 0 < R) : ∃ M k : Nat, bits .and .i64 n 65535 = (M : Int) ∧ (M : Int).tmod (R : Int) = (k : Int) ∧ k < R := by
  obtain ⟨M, h1, _⟩ := mask16 n
  refine ⟨M, M % R, h1, ?_, Nat.mod_lt _ hR⟩
  rw [Int.tmod_eq_emod_of_nonneg (by omega)]
  exact (Int.natCast_emod M R).symm
theorem reads_groups {w : World} {B n k : Nat} {A : Option Addr} {L : List GrV} (h : Reads w B 3 A n (grL L)) (hk : k ≤ n) : Reads w B 3 A k (grL (L.take k)) := by
  have hl : L.length = n := by have := h.1; rw [grL_length] at this; omega
  refine ⟨by rw [grL_length, List.length_take]; omega, fun hn => ?_⟩
  obtain ⟨ad, hA, hb, hc⟩ := h.2 (by omega)
  refine ⟨ad, hA, hb, fun j u hu => hc j u ?_⟩
  have e : grL (L.take k) = (grL L).take (k * 3) := (flat_take grC_length k L).symm
  rw [e, List.getElem?_take] at hu
  split at hu
  · exact hu
  · cases hu
set_option maxRecDepth 100000 in
set_option maxHeartbeats 8000000 in
theorem walk (A0 : Option Addr) (n0 c0 : Nat) (L : List GrV) (A1 : Option Addr) (n1 c1 : Nat) (l1 : List Int) (lost at_ : Int) (w : World) (x0 : GsIn w w.heap.size A0 n0 c0 L) (x1 : Reads w w.heap.size 1 A1 n1 (I64 l1)) (y1 : ∀ v ∈ l1, -9223372036854775808 ≤ v ∧ v ≤ 9223372036854775807) (_g1 : n1 ≤ c1) (_z1 : c1 ≤ 9223372036854775807) (_b1 : -9223372036854775808 ≤ lost) (_b2 : lost ≤ 9223372036854775807) (_b3 : -9223372036854775808 ≤ at_) (_b4 : at_ ≤ 9223372036854775807) :
    Calls Try.prog 7 #[.slice A0 n0 c0, .slice A1 n1 c1, .int .i64 lost, .int .i64 at_] w fun e w' => e = .returned (.bool true) ∧ Below w.heap.size w w' := by
  obtain ⟨i0, hi0, hz0, hz1, hz2⟩ := info_parts int_parts
  have HI := hide (And.intro hi0 (And.intro hz0 (And.intro hz1 hz2)))
  obtain ⟨i1, hj0, hy0, hy1, hy2⟩ := info_parts grp_parts
  have HJ := hide (And.intro hj0 (And.intro hy0 (And.intro hy1 hy2)))
  have HShown := hide shown_any
  have X0 := hide x0
  have X1 := hide x1
  have HSM := hide (smallL_length l1)
  have HSB : Hid (∀ v ∈ smallL l1, -9223372036854775808 ≤ v ∧ v ≤ 1000) := hide (fun v hv => ⟨smallL_ge (by decide) (fun x hx => (y1 x hx).1) v hv, smallL_le l1 v hv⟩)
  obtain ⟨rm, hrm⟩ : ∃ rm, rm = smallL l1 := ⟨_, rfl⟩
  have HRM := hide hrm
  rw [← hrm] at HSM HSB
  clear hrm x0 x1 y1 hi0 hz0 hz1 hz2 hj0 hy0 hy1 hy2
  go_enter Try.func7, Try.ntmps7
  go_wp2_with fail
  refine (HShown.out w).mono ?_
  rintro _ w1 ⟨rfl, hl1⟩
  have HL1 := hide hl1
  clear hl1
  go_wp2_with fail
  refine (few_any A0 n0 c0 L w.heap.size w1 (X0.out.below HL1.out) HL1.out.size).mono ?_
  rintro _ w2 ⟨v2, L2, rfl, ho2, hd2, hl2⟩
  obtain ⟨A2, c2, rfl⟩ := ho2.shape
  have HL2 := hide (HL1.out.trans (hl2.mono HL1.out.size))
  have HO2 := hide ho2
  have HD2 := hide hd2
  have hfw := few_len hd2
  clear ho2 hd2 hl2
  have hs2 := small_any A1 n1 c1 l1 w.heap.size w2 (X1.out.below HL2.out) HL2.out.size
  rw [← HRM.out] at hs2
  have HS2 := hide hs2
  clear hs2
  go_wp2_with fail
  refine HS2.out.mono ?_
  rintro _ w3 ⟨v3, rfl, ho3, hl3⟩
  obtain ⟨A3, c3, rfl, _, _⟩ := own_shape ho3
  obtain ⟨R, hR⟩ : ∃ R, R = rm.length := ⟨_, rfl⟩
  have hR8 : R ≤ 8 := by rw [hR]; exact HSM.out
  have HRL := hide hR
  rw [← hR] at ho3 ⊢
  have HO3 := hide ho3
  have HO23 := hide (HO2.out.later hl3)
  have HL3 := hide (HL2.out.trans (hl3.mono HL2.out.size))
  clear ho3 hl3 HS2 hR
  by_cases hR0 : R = 0
  · go_wp2
    go_ret
    exact ⟨rfl, HL3.out⟩
  · obtain ⟨S, hS⟩ : ∃ S, S = safeB rm L2 lost := ⟨_, rfl⟩
    have hc1 := safe_any A2 L2.length c2 L2 A3 c3 rm lost w3.heap.size w3 HO23.out.in_ (by rw [← HRL.out]; exact Reads.of_own HO3.out) (Nat.le_refl _) (by omega) (few_n HD2.out HO2.out) (by rw [← HRL.out]; omega)
    rw [← hS, ← HRL.out] at hc1
    have HC1 := hide hc1
    have HSS := hide hS
    obtain ⟨M, k, hM, hMk, hkR⟩ := mask_mod at_ (R := R) (by omega)
    have hRne : ((R : Int) == 0) = false := by simp; omega
    have HONE := hide (I64_one rm)
    obtain ⟨v, hv⟩ : ∃ v, v = roomI rm k := ⟨_, rfl⟩
    have hgx : rm[k]? = some v := by rw [hv]; exact roomI_get (by rw [← HRL.out]; exact hkR)
    have hv1 := (HSB.out v (List.mem_of_getElem? hgx)).2
    have HGX := hide hgx
    have HV := hide hv
    clear hc1 hS hgx hv
    go_upto_region 10 with (first
      | (go_at_call 16; refine HC1.out.mono ?_; rintro _ w5 ⟨rfl, _, hl5⟩; have HL5 := hide (HL3.out.trans (hl5.mono HL3.out.size)); have HO25 := hide (HO23.out.later hl5); have HO35 := hide (own_later HO3.out hl5); have hR5 := (Reads.of_own HO35.out).alloc (Nat.le_refl _) (.cells #[] 3); have HR5 := hide hR5; clear hl5 hR5)
      | ((with_reducible refine at_slot 37 ?_); refine wpList_append_any _ rfl (.tmp 35) (.tmp 36) _ rfl w5.heap.size 3 i0 _ 1 8 Try.underlying22 HI.out.1 HI.out.2.1 HI.out.2.2.1 HI.out.2.2.2 rfl (by decide) _ 0 [] rfl (World.ownsRow_made w5 #[] 0 (Nat.le_refl _) (Nat.zero_le _) rfl) w5.heap.size A3 R c3 (I64 rm) rfl HR5.out HONE.out (by simp only [maxLen]; omega) (by omega) (le_alloc (Nat.le_refl _) _) ?_; intro v6 w6 hown6 hbel6; rw [Nat.zero_add, List.nil_append] at hown6; obtain ⟨g6, c6, hv6, _, hgl6⟩ := hown6.form (by omega); subst hv6; have hlo6 := (hown6.lt g6 rfl).1; have hl56 : Below w5.heap.size w5 w6 := ((Below.refl _ _).alloc (Nat.le_refl _) _).trans hbel6; have HOWN6 := hide hown6; have hc6 := own_cell hown6 (i := k) (x := v) HGX.out; obtain ⟨cur, hcur, hcs, _⟩ := own_blk hown6; have HCUR := hide hcur; have HXS := hide (show k < cur.size by omega); have HL6 := hide (HL5.out.trans (hl56.mono HL5.out.size)); have HB56 := hide hl56; clear hown6 hbel6 hcur hcs hl56 HC1)
      | ((with_reducible refine at_store 51 ?_); refine wpList_poke rfl 3 (.tmp 51) (.tmp 50) rfl g6 k 3 cur HCUR.out rfl (.int .i64 (max 0 v + 1)) rfl rfl (by kernel_rfl) HXS.out ?_; intro w7 hb7 hg7 hs7; have hz67 : w6.heap.size ≤ w7.heap.size := (by omega); clear hs7; have hown7 := own_poke HOWN6.out HCUR.out hb7; have HOWN7 := hide hown7; have HL7 := hide (HL6.out.grown hg7 HL6.out.size (fun y e => (by injection e with e; have h1 := HL5.out.size; omega))); have HB57 := hide (HB56.out.grown hg7 HB56.out.size (fun y e => (by injection e with e; omega))); clear hown7 hb7 hg7 hc6))
    have HO27 := hide (HO25.out.later HB57.out)
    have HO37 := hide (own_later HO35.out HB57.out)
    obtain ⟨rm2, hrm2⟩ : ∃ rm2, rm2 = rm.set k (max 0 v + 1) := ⟨_, rfl⟩
    have hl2 : rm2.length = R := by rw [hrm2, List.length_set, HRL.out]
    have hge : ∀ d, d < rm.length → roomI rm d ≤ roomI rm2 d := fun d hd => by
      by_cases e : k = d
      · subst e
        rw [← HV.out]
        have : roomI rm2 k = max 0 v + 1 := by rw [hrm2]; simp [roomI, List.getD_eq_getElem?_getD, hd]
        omega
      · have : roomI rm2 d = roomI rm d := by rw [hrm2]; simp [roomI, List.getD_eq_getElem?_getD, e]
        omega
    have HSAFE : Hid (S = true → safeB rm2 L2 lost = true) := hide (fun h => safe_more (by rw [← HSS.out]; exact h) (by rw [hl2, HRL.out]) hge)
    have HROW : Hid (w7.ownsRow w5.heap.size 3 1 (.slice (some ⟨g6, 0, none⟩) R c6) R (I64 rm2)) := hide (by rw [hrm2]; exact HOWN7.out)
    have hc2 := safe_any A2 L2.length c2 L2 (some ⟨g6, 0, none⟩) c6 rm2 lost w7.heap.size w7 HO27.out.in_ (by rw [hl2]; exact Reads.of_own HROW.out) (Nat.le_refl _) (by omega) (few_n HD2.out HO2.out) (by omega)
    rw [hl2] at hc2
    have HC2 := hide hc2
    have HL2L := hide hl2
    clear hrm2 hl2 hge hc2 HOWN7 HOWN6 HCUR HXS HB56 HR5 HONE HO35 HO23 HO3
    dsimp only [Act.put]
    go_cut [59] (fun s wx => s = .bool false ∧ Hid (Below w7.heap.size w7 wx))
    case first =>
      cases S with
      | true =>
        have hst := HSAFE.out rfl
        have hc3 := HC2.out
        rw [hst] at hc3
        have HC3 := hide hc3
        clear hst hc3
        go_wp2_with (first
          | (go_at_call 16; refine HC3.out.mono ?_; rintro _ w8 ⟨rfl, _, hl8⟩))
        go_meet
        case rel => exact ⟨rfl, hide hl8⟩
      | false =>
        go_wp2
        go_meet
        case rel => exact ⟨rfl, hide (Below.refl _ _)⟩
    case rest =>
      obtain ⟨rfl, HB8⟩ := hcut
      go_upto_if 62 with fail
      obtain ⟨w8, hw8⟩ : ∃ x : World, x = wc := ⟨_, rfl⟩
      subst hw8
      have HL8 := hide (HL7.out.trans (HB8.out.mono HL7.out.size))
      have HO28 := hide (HO27.out.later HB8.out)
      have HO38 := hide (own_later HO37.out HB8.out)
      have HROW8 := hide (own_later HROW.out HB8.out)
      have HB58 := hide (HB57.out.trans (HB8.out.mono HB57.out.size))
      clear HB8 HC2 HL7 HO27 HO37 HROW HSAFE HB57
      go_cut [15, 16] from 62 to 87 (fun _ _ wx => Hid (Below w8.heap.size w8 wx))
      case first =>
        by_cases hg0 : L2.length = 0
        · go_wp2
          go_meet
          case rel => exact hide (Below.refl _ _)
        · obtain ⟨M2, k2, hM2, hMk2, hk2⟩ := mask_mod (at_ / 65536) (R := L2.length) (by omega)
          have hgne : ((L2.length : Int) == 0) = false := beq_false_of_ne (by omega)
          have hgin := HO28.out.in_
          have hcL := hgin.le
          have hcM := hgin.cap
          obtain ⟨ad, _, hA, _⟩ := hgin.at_ hk2
          subst hA
          have hdr := hgin.drop (k := k2 + 1) (by omega)
          obtain ⟨AS, hAS⟩ : ∃ AS, (if c2 = k2 + 1 then some ad else some (ad.add ((k2 + 1) * 3))) = AS := ⟨_, rfl⟩
          change GsIn w8 w8.heap.size (if c2 = k2 + 1 then some ad else some (ad.add ((k2 + 1) * 3))) _ _ _ at hdr
          rw [hAS] at hdr
          have HDR := hide hdr
          have HTK := hide (reads_groups hgin.row (Nat.le_of_lt hk2))
          clear hdr hgin
          have HLESS : Hid (∀ g ∈ L2.take k2 ++ L2.drop (k2 + 1), g ∈ L2) := hide (fun g hg => by
            rcases List.mem_append.1 hg with h | h
            · exact List.mem_of_mem_take h
            · exact List.mem_of_mem_drop h)
          obtain ⟨m10, hm10⟩ : ∃ m, m = k2 + (L2.length - (k2 + 1)) := ⟨_, rfl⟩
          have hm16 : m10 ≤ 1000000 := by omega
          have HM10 := hide hm10
          clear hm10
          cases S with
          | true =>
            have HSL := hide (safe_less (n := k2) HSS.out.symm hk2)
            go_wp2_with (first
              | ((with_reducible refine at_slot 73 ?_); refine wpList_append_any _ rfl (.tmp 69) (.tmp 72) _ rfl w8.heap.size 36 i1 _ 3 40 Try.underlying28 HJ.out.1 HJ.out.2.1 HJ.out.2.2.1 HJ.out.2.2.2 rfl (by decide) _ 0 [] rfl (World.ownsRow_made w8 #[] 0 (Nat.le_refl _) (Nat.zero_le _) rfl) w8.heap.size (some ad) k2 c2 (grL (L2.take k2)) rfl (HTK.out.alloc (Nat.le_refl _) _) (grL_oneCell _) (by simp only [maxLen]; omega) (by omega) (le_alloc (Nat.le_refl _) _) ?_; intro v9 w9 hown9 hbel9; rw [Nat.zero_add, List.nil_append] at hown9; obtain ⟨A9, c9, hv9, _, _⟩ := own_shape hown9; subst hv9; have HL89 : Hid (Below w8.heap.size w8 w9) := hide (((Below.refl _ _).alloc (Nat.le_refl _) _).trans hbel9); have HOWN9 := hide hown9; clear hown9 hbel9)
              | ((with_reducible refine at_slot 79 ?_); refine wpList_append_any _ rfl (.tmp 74) (.tmp 78) _ rfl w8.heap.size 36 i1 _ 3 40 Try.underlying28 HJ.out.1 HJ.out.2.1 HJ.out.2.2.1 HJ.out.2.2.2 rfl (by decide) _ k2 (grL (L2.take k2)) rfl HOWN9.out w8.heap.size AS (L2.length - (k2 + 1)) (c2 - (k2 + 1)) (grL (L2.drop (k2 + 1))) rfl (HDR.out.row.below HL89.out) (grL_oneCell _) (by simp only [maxLen]; omega) (by omega) HL89.out.size ?_; intro v10 w10 hown10 hbel10; rw [← HM10.out] at hown10; obtain ⟨A10, c10, hv10, hnc10, hcm10⟩ := own_shape hown10; subst hv10; have hl810 : Below w8.heap.size w8 w10 := HL89.out.trans hbel10; have HL810 := hide hl810; have hgl : GsIn w10 w10.heap.size A10 m10 c10 (L2.take k2 ++ L2.drop (k2 + 1)) := ⟨(by rw [grL_append]; exact Reads.of_own hown10), hnc10, (by simpa [maxLen] using hcm10), fun g hg => (((HO28.out.in_.mem g (HLESS.out g hg)).below hl810).more hl810.size)⟩; have HGL := hide hgl; have HO310 := hide (own_later HO38.out hl810); have hc9 := safe_any A10 m10 c10 (L2.take k2 ++ L2.drop (k2 + 1)) A3 c3 rm lost w10.heap.size w10 HGL.out (by rw [← HRL.out]; exact Reads.of_own HO310.out) (Nat.le_refl _) hm16 (fun g hg => few_n HD2.out HO2.out g (HLESS.out g hg)) (by rw [← HRL.out]; omega); rw [HSL.out, ← HRL.out] at hc9; have HC9 := hide hc9; clear hc9 hown10 hbel10 hl810 hgl hnc10 hcm10)
              | (go_at_call 16; refine HC9.out.mono ?_; rintro _ w11 ⟨rfl, _, hl11⟩; have hl811 := HL810.out.trans (hl11.mono HL810.out.size)))
            go_meet
            case rel => exact hide hl811
          | false =>
            go_wp2_with (first
              | ((with_reducible refine at_slot 73 ?_); refine wpList_append_any _ rfl (.tmp 69) (.tmp 72) _ rfl w8.heap.size 36 i1 _ 3 40 Try.underlying28 HJ.out.1 HJ.out.2.1 HJ.out.2.2.1 HJ.out.2.2.2 rfl (by decide) _ 0 [] rfl (World.ownsRow_made w8 #[] 0 (Nat.le_refl _) (Nat.zero_le _) rfl) w8.heap.size (some ad) k2 c2 (grL (L2.take k2)) rfl (HTK.out.alloc (Nat.le_refl _) _) (grL_oneCell _) (by simp only [maxLen]; omega) (by omega) (le_alloc (Nat.le_refl _) _) ?_; intro v9 w9 hown9 hbel9; rw [Nat.zero_add, List.nil_append] at hown9; obtain ⟨A9, c9, hv9, _, _⟩ := own_shape hown9; subst hv9; have HL89 : Hid (Below w8.heap.size w8 w9) := hide (((Below.refl _ _).alloc (Nat.le_refl _) _).trans hbel9); have HOWN9 := hide hown9; clear hown9 hbel9)
              | ((with_reducible refine at_slot 79 ?_); refine wpList_append_any _ rfl (.tmp 74) (.tmp 78) _ rfl w8.heap.size 36 i1 _ 3 40 Try.underlying28 HJ.out.1 HJ.out.2.1 HJ.out.2.2.1 HJ.out.2.2.2 rfl (by decide) _ k2 (grL (L2.take k2)) rfl HOWN9.out w8.heap.size AS (L2.length - (k2 + 1)) (c2 - (k2 + 1)) (grL (L2.drop (k2 + 1))) rfl (HDR.out.row.below HL89.out) (grL_oneCell _) (by simp only [maxLen]; omega) (by omega) HL89.out.size ?_; intro v10 w10 hown10 hbel10; rw [← HM10.out] at hown10; obtain ⟨A10, c10, hv10, hnc10, hcm10⟩ := own_shape hown10; subst hv10; have hl810 : Below w8.heap.size w8 w10 := HL89.out.trans hbel10; have HL810 := hide hl810; have hgl : GsIn w10 w10.heap.size A10 m10 c10 (L2.take k2 ++ L2.drop (k2 + 1)) := ⟨(by rw [grL_append]; exact Reads.of_own hown10), hnc10, (by simpa [maxLen] using hcm10), fun g hg => (((HO28.out.in_.mem g (HLESS.out g hg)).below hl810).more hl810.size)⟩; have HGL := hide hgl; have HO310 := hide (own_later HO38.out hl810); clear hown10 hbel10 hl810 hgl hnc10 hcm10))
            go_meet
            case rel => exact HL810
      case rest =>
        obtain ⟨w9, hw9⟩ : ∃ x : World, x = wc := ⟨_, rfl⟩
        subst hw9
        have HB9 := hcut
        have HL9 := hide (HL8.out.trans (HB9.out.mono HL8.out.size))
        have HO29 := hide (HO28.out.later HB9.out)
        have HROW9 := hide (own_later HROW8.out HB9.out)
        have HB59 := hide (HB58.out.trans (HB9.out.mono HB58.out.size))
        clear HB9 HL8 HO28 HO38 HROW8 HB58 hcut
        go_wp2
        go_loopw [17, 18, 19, 20] (fun f i _ _ wr => ∃ k : Nat, k ≤ L2.length ∧ i = .int .i64 k ∧ f = .bool ((L2.take k).any (fullG R lost)) ∧ Hid (Below w9.heap.size w9 wr)) (fun _ i _ _ _ => L2.length - (intOf i).toNat)
        case atStart => exact ⟨0, Nat.zero_le _, rfl, rfl, hide (Below.refl _ _)⟩
        case round =>
          obtain ⟨k, hk, rfl, rfl, HB⟩ := hrel
          obtain ⟨wy, hwy⟩ : ∃ x : World, x = wr := ⟨_, rfl⟩
          subst hwy
          by_cases hkn : k < L2.length
          · obtain ⟨ad, g, hA, hab, hg, hgi, hcg⟩ := (HO29.out.later HB.out).in_.at_ hkn
            subst hA
            have hmore : (L2.take (k + 1)).any (fullG R lost) = ((L2.take k).any (fullG R lost) || fullG R lost g) := by
              rw [take_more hg, List.any_append]
              simp
            obtain ⟨f, hf⟩ : ∃ f, f = (L2.take k).any (fullG R lost) := ⟨_, rfl⟩
            rw [← hf] at hmore ⊢
            obtain ⟨h0, hh0⟩ : ∃ h, h = hasB g.ex lost := ⟨_, rfl⟩
            have hhas := refHas_any g lost wy.heap.size wy hgi (Nat.le_refl _)
            rw [← hh0] at hhas
            have HH := hide hhas
            have HCG := hide hcg
            have HGI := hide hgi
            have HMORE := hide hmore
            have HH0 := hide hh0
            clear hhas hcg hgi hmore hh0 hg hf
            go_wp2_with (first
              | ((with_reducible refine at_slot 97 ?_); refine wpList_load_at rfl 36 (.tmp 96) rfl (ad.add (k * 3)) rfl (grC g) _ HCG.out Try.underlying36 rfl grp_info ?_)
              | (go_at_call 24; refine HH.out.mono ?_; rintro _ w10 ⟨rfl, hl10⟩))
            have HL10 := hide hl10
            have hz10 := hl10.size
            clear hl10 HH
            go_loopw [19, 20] (fun a d wx => ∃ j : Nat, j ≤ R ∧ d = .int .i64 j ∧ a = .bool (h0 && (List.range j).all (fun (d : Nat) => hasB g.ex (d : Int))) ∧ Hid (Below wy.heap.size wy wx)) (fun _ d _ => R - (intOf d).toNat)
            case atStart => exact ⟨0, Nat.zero_le _, rfl, by simp, HL10⟩
            case round =>
              clear HL10 hz10
              obtain ⟨j, hj, rfl, rfl, HBX⟩ := hrel
              by_cases hjr : j < R
              · obtain ⟨c, hc⟩ : ∃ c, c = hasB g.ex (j : Int) := ⟨_, rfl⟩
                obtain ⟨b, hb⟩ : ∃ b, b = (h0 && (List.range j).all (fun (d : Nat) => hasB g.ex (d : Int))) := ⟨_, rfl⟩
                have hstep : (h0 && (List.range (j + 1)).all (fun (d : Nat) => hasB g.ex (d : Int))) = (b && c) := by
                  rw [List.range_succ, List.all_append, ← Bool.and_assoc, ← hb]
                  simp [hc]
                have hhas := refHas_any g (j : Int) wy.heap.size wr (HGI.out.below HBX.out) HBX.out.size
                rw [← hc] at hhas
                have HH := hide hhas
                have HCX := hide (fun (x : Nat) v hv => (HBX.out.cell (p := (ad.add (k * 3)).add x) (by rw [block_of_add, block_of_add]; exact hab)).trans (HCG.out x v hv))
                have HSTEP := hide hstep
                rw [← hb]
                clear hc hb hstep hhas
                cases b with
                | false =>
                  go_wp2
                  go_roundw
                  case rel => exact ⟨j + 1, by omega, by go_num, by rw [HSTEP.out]; rfl, HBX⟩
                  case measure => simp [intOf]; omega
                | true =>
                  go_wp2_with (first
                    | ((with_reducible refine at_slot 111 ?_); refine when_load_at rfl 36 (.tmp 110) rfl (ad.add (k * 3)) rfl (grC g) _ HCX.out Try.underlying36 rfl grp_info ?_)
                    | (go_at_call 24; refine HH.out.mono ?_; rintro _ w11 ⟨rfl, hl11⟩))
                  have HB11 := hide (HBX.out.trans (hl11.mono HBX.out.size))
                  go_roundw
                  case rel => exact ⟨j + 1, by omega, by go_num, by rw [HSTEP.out]; rfl, HB11⟩
                  case measure => simp [intOf]; omega
              · obtain rfl : j = R := by omega
                obtain ⟨b, hb⟩ : ∃ b, b = (h0 && (List.range j).all (fun (d : Nat) => hasB g.ex (d : Int))) := ⟨_, rfl⟩
                have hfg : fullG j lost g = b := by rw [hb, HH0.out]; rfl
                have HE := hide (show (L2.take (k + 1)).any (fullG j lost) = (f || b) by rw [HMORE.out, hfg])
                have HB12 := hide (HB.out.trans (HBX.out.mono HB.out.size))
                rw [← hb]
                clear hb hfg
                cases f with
                | false =>
                  go_wp2
                  go_roundw
                  case rel => exact ⟨k + 1, by omega, by go_num, by rw [HE.out]; rfl, HB12⟩
                  case measure => simp [intOf]; omega
                | true =>
                  go_wp2
                  go_roundw
                  case rel => exact ⟨k + 1, by omega, by go_num, by rw [HE.out]; rfl, HB12⟩
                  case measure => simp [intOf]; omega
          · obtain rfl : k = L2.length := by omega
            rw [List.take_length]
            obtain ⟨F, hF⟩ : ∃ F, F = L2.any (fullG R lost) := ⟨_, rfl⟩
            rw [← hF]
            have HF := hide hF
            have HB5 := hide (HB59.out.trans (HB.out.mono HB59.out.size))
            have HROWr := hide (own_later HROW9.out HB.out)
            have HLr := hide (HL9.out.trans (HB.out.mono HL9.out.size))
            have hg5 := (HROW9.out.lt g6 rfl).1
            clear hF HB59 HROW9 HL9 HB
            go_wp2
            go_loopw [21] (fun d wx => ∃ j : Nat, j ≤ R ∧ d = .int .i64 j ∧ Hid (∃ rj : List Int, rj.length = R ∧ wx.ownsRow w5.heap.size 3 1 (.slice (some ⟨g6, 0, none⟩) R c6) R (I64 rj) ∧ ∀ i, i < j → roomI rj i = (L2.length : Int) + 1) ∧ Hid (Below w5.heap.size w5 wx)) (fun d _ => R - (intOf d).toNat)
            case atStart => exact ⟨0, Nat.zero_le _, rfl, hide ⟨rm2, HL2L.out, HROWr.out, fun i hi => absurd hi (Nat.not_lt_zero _)⟩, HB5⟩
            case round =>
              clear HROWr HB5
              obtain ⟨j, hj, rfl, HRJ, HBX⟩ := hrel
              obtain ⟨rj, hrl, hown, hall⟩ := HRJ.out
              have HALL := hide hall
              have HRLJ := hide hrl
              have HOWN := hide hown
              clear hall hrl
              by_cases hjr : j < R
              · obtain ⟨cur, hcur, hcs, _⟩ := own_blk hown
                have HCUR := hide hcur
                have HXS := hide (show j < cur.size by omega)
                clear hcur hcs hown
                go_wp2_with (first
                  | ((with_reducible refine at_store 130 ?_); refine wpList_poke rfl 3 (.tmp 130) (.tmp 129) rfl g6 j 3 cur HCUR.out rfl (.int .i64 ((L2.length : Int) + 1)) rfl rfl (by kernel_rfl) HXS.out ?_; intro w12 hb12 hg12 hs12; have HB12 := hide hb12; have HG12 := hide hg12; clear hb12 hg12 hs12))
                have HR12 : Hid (∃ rj : List Int, rj.length = R ∧ w12.ownsRow w5.heap.size 3 1 (.slice (some ⟨g6, 0, none⟩) R c6) R (I64 rj) ∧ ∀ i, i < j + 1 → roomI rj i = (L2.length : Int) + 1) := hide ⟨rj.set j ((L2.length : Int) + 1), by rw [List.length_set]; exact HRLJ.out, own_poke HOWN.out HCUR.out HB12.out, fun i hi => by
                  by_cases e : j = i
                  · subst e
                    have := HRLJ.out
                    simp [roomI, List.getD_eq_getElem?_getD, this, hjr]
                  · have := HALL.out i (by omega)
                    rw [← this]
                    simp [roomI, List.getD_eq_getElem?_getD, e]⟩
                have HB13 := hide (HBX.out.grown HG12.out HBX.out.size (fun y e => by injection e with e; omega))
                go_roundw
                case rel => exact ⟨j + 1, by omega, by go_num, HR12, HB13⟩
                case measure => simp [intOf]; omega
              · obtain rfl : j = R := by omega
                have hsf : safeB rj L2 lost = !F := by
                  rw [safe_full (fun d hd => HALL.out d (by rw [← HRLJ.out]; exact hd)), HRLJ.out, ← HF.out]
                have hO := (HO25.out.later HBX.out).in_
                have hc4 := safe_any A2 L2.length c2 L2 (some ⟨g6, 0, none⟩) c6 rj lost wr.heap.size wr hO (by rw [HRLJ.out]; exact Reads.of_own HOWN.out) (Nat.le_refl _) (by omega) (few_n HD2.out HO2.out) (by rw [HRLJ.out]; omega)
                rw [hsf, HRLJ.out] at hc4
                have HC4 := hide hc4
                clear hsf hO hc4 hown
                have hlw : Below w.heap.size w wr := HL5.out.trans (HBX.out.mono HL5.out.size)
                have HLW := hide hlw
                clear hlw
                cases F with
                | false =>
                  go_wp2_with (first
                    | (go_at_call 16; refine HC4.out.mono ?_; rintro _ w13 ⟨rfl, _, hl13⟩; have HL13 := hide (HLW.out.trans (hl13.mono HLW.out.size)); clear hl13))
                  go_ret
                  exact ⟨rfl, HL13.out⟩
                | true =>
                  go_wp2_with (first
                    | (go_at_call 16; refine HC4.out.mono ?_; rintro _ w13 ⟨rfl, _, hl13⟩; have HL13 := hide (HLW.out.trans (hl13.mono HLW.out.size)); clear hl13))
                  go_ret
                  exact ⟨rfl, HL13.out⟩
/-! The row's frame, by program: how the walk above proves the statement. -/
set_option maxRecDepth 100000 in
theorem lifted (os : Os) (started : os.Started) (H : Type) (enc : TypeId × Value → H) :
    ReturnsInHanded {} Try.checked os 7 .any (Rows.groupMoreSpec.pre6 enc Try.prog Try.f7 Rows.groupMoreRow.domain false) (Rows.groupMoreSpec.post enc Try.prog Try.f7 false true false false) := by
  refine returnsInHanded_of_change (C := Try.checked) own started (by kernel_rfl) Try.func7
    (ChangeSpec.witness6 (enc := enc) (C := Try.checked) false ⟨#[], #[.slice none 0 0, .slice none 0 0, .int .i64 0, .int .i64 0], []⟩ 8 (by kernel_rfl) (by kernel_rfl) (by kernel_rfl) (by kernel_rfl)) ?_
  intro W base args ds gs before hval0 hW hcnd _
  have hval : ∀ (j : Nat) t v, Try.f7.params[j]? = some t → args[j]? = some v → Value.okWide Try.prog W .any base t v := hval0
  have hW' := hW
  obtain ⟨p, q, hA0, hV, rfl, hfz, hnd⟩ := hW
  have hA : DataW.TrodAll enc Try.prog W 0 (fun _ => true) true Try.f7.params.toList args.toList ds p := hA0
  rw [Try.params7] at hA hval
  obtain ⟨v0, vs0, d0, ds0, p0, q0, hargs, rfl, rfl, h0, r0⟩ := trodAll_cons hA
  obtain ⟨v1, vs1, d1, ds1, p1, q1, rfl, rfl, rfl, h1, r1⟩ := trodAll_cons r0
  obtain ⟨v2, vs2, d2, ds2, p2, q2, rfl, rfl, rfl, h2, r2⟩ := trodAll_cons r1
  obtain ⟨v3, vs3, d3, ds3, p3, q3, rfl, rfl, rfl, h3, r3⟩ := trodAll_cons r2
  obtain ⟨rfl, rfl, rfl⟩ := trodAll_nil r3
  obtain rfl : args = #[v0, v1, v2, v3] := by cases args; simp_all
  obtain ⟨rfl, rfl⟩ := trodVars_none hV
  obtain ⟨A0, n0, c0, rfl⟩ := okWide_slice Try.underlying28 (hval 0 28 v0 rfl rfl)
  have k0 := h0
  have lt0 : ∀ x ∈ p0, x.block < W.heap.size := by obtain ⟨m, hm⟩ := k0; exact DataW.trod_lt m _ _ _ hm
  obtain ⟨l0, x0⟩ := arg_groups h0
  obtain ⟨A1, n1, c1, rfl⟩ := okWide_slice Try.underlying22 (hval 1 22 v1 rfl rfl)
  have k1 := h1
  have lt1 : ∀ x ∈ p1, x.block < W.heap.size := by obtain ⟨m, hm⟩ := k1; exact DataW.trod_lt m _ _ _ hm
  obtain ⟨l1, x1, y1, g1, z1⟩ := arg_ints h1
  obtain ⟨a2, rfl, rfl, rfl, w2⟩ := open_int Try.underlying3 (hval 2 3 v2 rfl rfl) h2
  have b2 := bounds_i64 w2
  obtain ⟨a3, rfl, rfl, rfl, w3⟩ := open_int Try.underlying3 (hval 3 3 v3 rfl rfl) h3
  have b3 := bounds_i64 w3
  clear hA0 hval0
  refine (walk A0 n0 c0 l0 A1 n1 c1 l1 a2 a3 W x0 x1 y1 g1 z1 b2.1 b2.2 b3.1 b3.2).mono fun e W' ⟨he, bel⟩ => ?_
  subst he
  exact ⟨_, rfl, _, _, _, [], _, [], hW', trodAll_mk1 (shut_bool Try.underlying4 _), (trodAll_cons_mk (Below.trod laidOut (by kernel_rfl) (of_decide_eq_true (by kernel_rfl)) k0 bel lt0) (trodAll_cons_mk (Below.trod laidOut (by kernel_rfl) (of_decide_eq_true (by kernel_rfl)) k1 bel lt1) (trodAll_cons_mk (shut_int Try.underlying3 w2) (trodAll_cons_mk (shut_int Try.underlying3 w3) trodAll_mk0)))), rfl, bel.frame _, fun h => by cases h⟩

theorem over : Rows.groupMoreRow.holds Try.pinned (OpenSpec.ofChange Rows.groupMoreSpec) :=
  OpenClaim.holds_of_wide 7 Try.f7 rfl rfl rfl rfl rfl rfl rfl ⟨rfl, rfl, rfl, rfl, rfl⟩ rfl rfl rfl rfl rfl (by kernel_rfl) Try.func7 (by kernel_rfl)
    (of_decide_eq_true (by kernel_rfl)) (by unfold Func.isWrapper; first | (rw [if_pos (by decide +kernel)]; kernel_rfl) | (rw [if_neg (by decide +kernel)]; exact ⟨rfl, rfl⟩))
    (fun os started H enc _ => lifted os started H enc)

/-- The statement. -/
theorem proved : Rows.GroupMoreSaid := over
#print axioms proved
end Go.Proofs.Ytmaiikmgpeafkaa.GroupMore
