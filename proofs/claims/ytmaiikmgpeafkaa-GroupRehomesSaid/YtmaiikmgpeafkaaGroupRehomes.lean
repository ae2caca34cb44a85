/- GroupRehomes. -/
import Derived.Test.YtmaiikmgpeafkaaLawS
import Derived.Test.YtmaiikmgpeafkaaLawF
import Derived.Test.YtmaiikmgpeafkaaLawC
import Derived.Test.YtmaiikmgpeafkaaRehP
import Derived.Test.YtmaiikmgpeafkaaRehM
import Derived.Test.YtmaiikmgpeafkaaRefG
import Derived.Test.YtmaiikmgpeafkaaGrpA
import Derived.Test.YtmaiikmgpeafkaaPoke
import Derived.Test.YtmaiikmgpeafkaaArgG
import Derived.Test.YtmaiikmgpeafkaaRows
import Derived.Deep.DeepCutAuto
import Derived.Deep.CutBlock
import Derived.Deep.CutRange
import Derived.Outline
namespace Go.Proofs.Ytmaiikmgpeafkaa.GroupRehomes
open Go.ChangeShapes Go.WideShapes Go.ChangeAt Go.RowKit Go.Proofs.Ytmaiikmgpeafkaa

/-- What holds ahead of each move. -/
structure Left (w wr : World) (b1 b2 : Nat) (A2 : Option Addr) (n c2 : Nat) (A3 : Option Addr) (R c3 : Nat) (lost : Int) (m : Nat) (Lk : List GrV) (rk : List Int) : Prop where
  own : GsOwn wr b1 (.slice A2 n c2) Lk
  row : wr.ownsRow b2 3 1 (.slice A3 R c3) R (I64 rk)
  few : ∀ g ∈ Lk, g.n ≤ 1000000
  room : ∀ v ∈ rk, -9223372036854775808 ≤ v ∧ v ≤ 9223372036854775807
  safe : safeB rk Lk lost = true
  left : (needyL Lk lost).length = m
  below : Below w.heap.size w wr
theorem own_len {w : World} {base n c : Nat} {A : Option Addr} {L : List GrV} (h : GsOwn w base (.slice A n c) L) : n = L.length := by
  obtain ⟨A', c', hv⟩ := h.shape
  injection hv
theorem row_len {w : World} {base n c : Nat} {A : Option Addr} {l : List Int} (h : w.ownsRow base 3 1 (.slice A n c) n (I64 l)) : l.length = n := by
  have := h.1
  rw [I64_length] at this
  omega
theorem needy_len (L : List GrV) (d : Int) : (needyL L d).length ≤ L.length := by
  unfold needyL
  rw [List.length_map]
  exact List.length_filter_le _ _
set_option maxRecDepth 100000 in
set_option maxHeartbeats 8000000 in
theorem walk (A0 : Option Addr) (n0 c0 : Nat) (L : List GrV) (A1 : Option Addr) (n1 c1 : Nat) (l1 : List Int) (lost : Int) (w : World) (x0 : GsIn w w.heap.size A0 n0 c0 L) (x1 : Reads w w.heap.size 1 A1 n1 (I64 l1)) (y1 : ∀ v ∈ l1, -9223372036854775808 ≤ v ∧ v ≤ 9223372036854775807) (_g1 : n1 ≤ c1) (_z1 : c1 ≤ 9223372036854775807) (_b1 : -9223372036854775808 ≤ lost) (_b2 : lost ≤ 9223372036854775807) :
    Calls Try.prog 6 #[.slice A0 n0 c0, .slice A1 n1 c1, .int .i64 lost] w fun e w' => e = .returned (.bool true) ∧ Below w.heap.size w w' := by
  have HShown := hide shown_any
  have X0 := hide x0
  have X1 := hide x1
  have HSM := hide (smallL_length l1)
  have HSB : Hid (∀ v ∈ smallL l1, -9223372036854775808 ≤ v ∧ v ≤ 9223372036854775807) := hide (fun v hv => ⟨smallL_ge (by decide) (fun x hx => (y1 x hx).1) v hv, by have := smallL_le l1 v hv; omega⟩)
  obtain ⟨rm, hrm⟩ : ∃ rm, rm = smallL l1 := ⟨_, rfl⟩
  have HRM := hide hrm
  rw [← hrm] at HSM HSB
  clear hrm x0 x1 y1
  go_enter Try.func6, Try.ntmps6
  go_wp2_with fail
  refine (HShown.out w).mono ?_
  rintro _ w1 ⟨rfl, hl1⟩
  have HL1 := hide hl1
  clear hl1
  go_wp2_with fail
  refine (few_any A0 n0 c0 L w.heap.size w1 (X0.out.below HL1.out) HL1.out.size).mono ?_
  rintro _ w2 ⟨v2, L2, rfl, ho2, hd2, hl2⟩
  obtain ⟨A2, c2, rfl⟩ := ho2.shape
  have HL2 := hide (HL1.out.trans (hl2.mono HL1.out.size))
  have HO2 := hide ho2
  have HFEW := hide (few_n hd2 ho2)
  have hfw := few_len hd2
  clear ho2 hd2 hl2
  have hs2 := small_any A1 n1 c1 l1 w.heap.size w2 (X1.out.below HL2.out) HL2.out.size
  rw [← HRM.out] at hs2
  have HS2 := hide hs2
  have hz12 := HL1.out.size
  have hz2 := HL2.out.size
  clear hs2
  go_wp2_with fail
  refine HS2.out.mono ?_
  rintro _ w3 ⟨v3, rfl, ho3, hl3⟩
  obtain ⟨A3, c3, rfl, _, _⟩ := own_shape ho3
  obtain ⟨R, hR⟩ : ∃ R, R = rm.length := ⟨_, rfl⟩
  obtain ⟨n, hn⟩ : ∃ n, n = L2.length := ⟨_, rfl⟩
  have hR8 : R ≤ 8 := by rw [hR]; exact HSM.out
  have HNL := hide hn
  rw [← hR] at ho3 ⊢
  have HO23 := hide (HO2.out.later hl3)
  rw [← hn] at HO23 hfw ⊢
  have HO3 := hide ho3
  have HL3 := hide (HL2.out.trans (hl3.mono HL2.out.size))
  clear ho3 hl3 HS2 hR hn HO2
  go_wp2
  go_loopw [10, 11] (fun q i wr => ∃ k : Nat, k ≤ n ∧ i = .int .i64 k ∧ q = .int .i64 ((needyL (L2.take k) lost).length : Nat) ∧ Hid (Below w3.heap.size w3 wr)) (fun _ i _ => n - (intOf i).toNat)
  case atStart => exact ⟨0, Nat.zero_le _, rfl, rfl, hide (Below.refl _ _)⟩
  case round =>
    obtain ⟨k, hk, rfl, rfl, HB⟩ := hrel
    by_cases hkn : k < n
    · obtain ⟨ad, g, hA, hab, hg, hgi, hcg⟩ := (HO23.out.later HB.out).in_.at_ hkn
      subst hA
      have hstep := needy_step (lost := lost) hg
      have hql := needy_len (L2.take k) lost
      rw [List.length_take] at hql
      obtain ⟨q, hq⟩ : ∃ q, q = (needyL (L2.take k) lost).length := ⟨_, rfl⟩
      rw [← hq] at hstep hql ⊢
      obtain ⟨h0, hh0⟩ : ∃ h, h = hasB g.ex lost := ⟨_, rfl⟩
      have hhas := refHas_any g lost wr.heap.size wr hgi (Nat.le_refl _)
      rw [← hh0] at hhas hstep
      have hq16 : q ≤ 16 := by omega
      have HH := hide hhas
      have HCG := hide hcg
      have HSTEP := hide hstep
      clear hhas hcg hgi hstep hh0 hg hq hql
      cases h0 with
      | false =>
        go_wp2_with (first
          | ((with_reducible refine at_slot 36 ?_); refine wpList_load_at rfl 36 (.tmp 35) rfl (ad.add (k * 3)) rfl (grC g) _ HCG.out Try.underlying36 rfl grp_info ?_)
          | (go_at_call 24; refine HH.out.mono ?_; rintro _ w4 ⟨rfl, hl4⟩; have HB4 := hide (HB.out.trans (hl4.mono HB.out.size)); clear hl4))
        go_roundw
        case rel => exact ⟨k + 1, by omega, by go_num, by rw [HSTEP.out]; rfl, HB4⟩
        case measure => simp [intOf]; omega
      | true =>
        go_wp2_with (first
          | ((with_reducible refine at_slot 36 ?_); refine wpList_load_at rfl 36 (.tmp 35) rfl (ad.add (k * 3)) rfl (grC g) _ HCG.out Try.underlying36 rfl grp_info ?_)
          | (go_at_call 24; refine HH.out.mono ?_; rintro _ w4 ⟨rfl, hl4⟩; have HB4 := hide (HB.out.trans (hl4.mono HB.out.size)); clear hl4))
        go_roundw
        case rel => exact ⟨k + 1, by omega, by go_num, by rw [HSTEP.out]; go_num, HB4⟩
        case measure => simp [intOf]; omega
    · obtain rfl : k = n := by omega
      rw [HNL.out, List.take_length, ← HNL.out]
      obtain ⟨m0, hm0⟩ : ∃ m0, m0 = (needyL L2 lost).length := ⟨_, rfl⟩
      have hm16 : m0 ≤ 16 := by have := needy_len L2 lost; rw [← HNL.out] at this; omega
      rw [← hm0]
      have HM0 := hide hm0
      obtain ⟨S, hS⟩ : ∃ S, S = safeB rm L2 lost := ⟨_, rfl⟩
      have HSS := hide hS
      have ho4 := HO23.out.later HB.out
      have HO4 := hide ho4
      have HR4 := hide (own_later HO3.out HB.out)
      have HL4 := hide (HL3.out.trans (HB.out.mono HL3.out.size))
      have hrl := row_len HO3.out
      have hc1 := safe_any A2 k c2 L2 A3 c3 rm lost wr.heap.size wr ho4.in_ (by rw [hrl]; exact Reads.of_own HR4.out) (Nat.le_refl _) (by omega) HFEW.out (by rw [hrl]; omega)
      rw [← hS, hrl] at hc1
      have HRL := hide hrl
      have HC1 := hide hc1
      clear hc1 hS hm0 ho4 hrl HB HO23 HO3 HL3
      cases S with
      | false =>
        obtain ⟨hmv, hpos⟩ := move_unsafe HSS.out.symm
        have hpos : 0 < m0 := by rw [HM0.out]; exact hpos
        have HMV := hide hmv
        clear hmv
        go_wp2_with (first
          | (go_at_call 16; refine HC1.out.mono ?_; rintro _ w5 ⟨rfl, _, hl5⟩; have HL5 := hide (HL4.out.trans (hl5.mono HL4.out.size)); have hm := move_any A2 k c2 L2 A3 c3 rm lost w5.heap.size w5 (HO4.out.later hl5).in_ (by rw [HRL.out]; exact Reads.of_own (own_later HR4.out hl5)) (Nat.le_refl _) (by omega) HFEW.out (by rw [HRL.out]; omega) HSB.out; rw [HMV.out, HRL.out] at hm; unfold noMove at hm; have HM := hide hm; clear hl5 hm)
          | (go_at_call 22; refine HM.out.mono ?_; rintro _ w6 ⟨rfl, hl6⟩; have HL6 := hide (HL5.out.trans (hl6.mono HL5.out.size)); clear hl6))
        go_ret
        exact ⟨rfl, HL6.out⟩
      | true =>
        go_wp2_with (first
          | (go_at_call 16; refine HC1.out.mono ?_; rintro _ w5 ⟨rfl, _, hl5⟩; have HLEFT : Hid (∃ Lk rk, Left w w5 w1.heap.size w2.heap.size A2 k c2 A3 R c3 lost m0 Lk rk) := hide ⟨L2, rm, HO4.out.later hl5, own_later HR4.out hl5, HFEW.out, HSB.out, HSS.out.symm, HM0.out.symm, HL4.out.trans (hl5.mono HL4.out.size)⟩; clear hl5))
        clear HO4 HR4 HL4 HC1 HSS HM0 HRL HSB HFEW HNL HSM X0 X1 HRM HL1 HL2
        go_loopw [10, 15, 16, 17, 18] (fun q _ _ _ _ wr => ∃ m : Nat, m ≤ 16 ∧ q = .int .i64 m ∧ Hid (∃ Lk rk, Left w wr w1.heap.size w2.heap.size A2 k c2 A3 R c3 lost m Lk rk)) (fun q _ _ _ _ _ => (intOf q).toNat)
        case atStart => exact ⟨m0, hm16, rfl, HLEFT⟩
        case round =>
          clear HLEFT hm16
          obtain ⟨m, hm16, rfl, HLEFT⟩ := hrel
          obtain ⟨wy, hwy⟩ : ∃ x : World, x = wr := ⟨_, rfl⟩
          subst hwy
          obtain ⟨Lk, rk, hleft⟩ := HLEFT.out
          have HLK := hide hleft
          have hrl := row_len hleft.row
          have HRL := hide hrl
          have HLEN := hide (own_len hleft.own)
          have hmv0 := move_any A2 k c2 Lk A3 c3 rk lost wy.heap.size wy hleft.own.in_ (by rw [hrl]; exact Reads.of_own hleft.row) (Nat.le_refl _) (by omega) hleft.few (by rw [hrl]; omega) hleft.room
          rw [hrl] at hmv0
          clear hrl HLEFT
          by_cases hm0 : m = 0
          · subst hm0
            rw [moveV_none (none_has (List.length_eq_zero_iff.1 hleft.left))] at hmv0
            unfold noMove at hmv0
            have HM := hide hmv0
            clear hmv0 hleft
            go_wp2_with (first
              | (go_at_call 22; refine HM.out.mono ?_; rintro _ w6 ⟨rfl, hl6⟩; have HL6 := hide (HLK.out.below.trans (hl6.mono HLK.out.below.size)); clear hl6))
            go_ret
            exact ⟨rfl, HL6.out⟩
          · obtain ⟨m', rfl⟩ : ∃ m', m = m' + 1 := ⟨m - 1, by omega⟩
            obtain ⟨x, d, g, hg, hd, hroom, hnd, hl, hmv, hnext⟩ := move_safe hleft.safe hleft.left
            rw [hmv] at hmv0
            have HM := hide hmv0
            have hxk : x < k := by have := (List.getElem?_eq_some_iff.1 hg).1; rw [HLEN.out]; exact this
            have hdR : d < R := by rw [← HRL.out]; exact hd
            obtain ⟨v, hv⟩ : ∃ v, v = roomI rk d := ⟨_, rfl⟩
            rw [← hv] at hroom
            have hgx : rk[d]? = some v := by rw [hv]; exact roomI_get hd
            have hvb := (hleft.room v (List.mem_of_getElem? hgx)).2
            obtain ⟨g3, c3', hv3, _, _⟩ := hleft.row.form (by omega)
            obtain ⟨rfl, rfl⟩ : A3 = some ⟨g3, 0, none⟩ ∧ c3 = c3' := by
              simp only [Value.slice.injEq] at hv3
              exact ⟨hv3.1, hv3.2.2⟩
            clear hv3
            have HG := hide hg
            have HGX := hide hgx
            have HV := hide hv
            have HND := hide hnd
            have HHL := hide hl
            have HNEXT := hide hnext
            have hxk1 : (x : Int) < (k : Int) := by omega
            have hdR1 : (d : Int) < (R : Int) := by omega
            have hr1 : decide (v < 1) = false := decide_eq_false (by omega)
            have hr2 : decide ((x : Int) < 0) = false := decide_eq_false (by omega)
            have hr3 : decide (k ≤ x) = false := decide_eq_false (by omega)
            have hr4 : decide ((d : Int) < 0) = false := decide_eq_false (by omega)
            have hr5 : decide (R ≤ d) = false := decide_eq_false (by omega)
            have HROOM := hide hroom
            clear hroom
            clear hmv0 hmv hg hd hgx hv hnd hl hnext hleft
            go_wp2_with (first
              | (go_at_call 22; refine HM.out.mono ?_; rintro _ w4 ⟨rfl, hl4⟩; have HL4 := hide hl4; have ho4 := HLK.out.own.later hl4; obtain ⟨ad, g', hA, hab, hg', hgi, hcg⟩ := ho4.in_.at_ hxk; rw [HG.out] at hg'; injection hg' with hg'; subst hg'; subst hA; have hcr := own_cell (own_later HLK.out.row hl4) HGX.out; have HCG := hide hcg; have HGI := hide hgi; have HO4 := hide ho4; have hh := refHas_any g (d : Int) w4.heap.size w4 hgi (Nat.le_refl _); rw [HND.out] at hh; have HH := hide hh; clear hl4 ho4 hcg hgi hh)
              | ((with_reducible refine at_slot 108 ?_); refine when_load_at rfl 36 (.tmp 107) rfl (ad.add (x * 3)) rfl (grC g) _ HCG.out Try.underlying36 rfl grp_info ?_)
              | (go_at_call 24; refine HH.out.mono ?_; rintro _ w5 ⟨rfl, hl5⟩; have HL5 := hide hl5; have HCX := hide (fun (z : Nat) v hv => (hl5.cell (p := (ad.add (x * 3)).add z) (by rw [block_of_add, block_of_add]; exact hab)).trans (HCG.out z v hv)); have hh := refHas_any g lost w4.heap.size w5 (HGI.out.below hl5) hl5.size; rw [HHL.out] at hh; have HH2 := hide hh; clear hl5 hh HH)
              | ((with_reducible refine at_slot 116 ?_); refine when_load_at rfl 36 (.tmp 115) rfl (ad.add (x * 3)) rfl (grC g) _ HCX.out Try.underlying36 rfl grp_info ?_)
              | (go_at_call 24; refine HH2.out.mono ?_; rintro _ w6 ⟨rfl, hl6⟩; have HB46 := hide (HL5.out.trans (hl6.mono HL5.out.size)); clear hl6 HH2))
            have HLW := hide (HLK.out.below.trans ((HL4.out.trans (HB46.out.mono HL4.out.size)).mono HLK.out.below.size))
            have HGO6 := hide (HO4.out.later HB46.out)
            have HRW6 := hide (own_later (own_later HLK.out.row HL4.out) HB46.out)
            have HGL := hide (ExIn.len HGI.out)
            have hzw1 := HLW.out.size
            have hgn := HLK.out.few g (List.mem_of_getElem? HG.out)
            clear hr1 hr2 hr3 hr4 hr5
            clear HB46 HO4 HL4 HL5 HCX HCG HGI HM HND HHL hcr
            go_loopw [18] (fun q wr => ∃ j : Nat, j ≤ g.n ∧ q = .int .i64 j ∧ Hid (GsOwn wr w1.heap.size (.slice (some ad) k c2) (Lk.set x { g with ex := partX lost d j g.ex })) ∧ Hid (wr.ownsRow w2.heap.size 3 1 (.slice (some ⟨g3, 0, none⟩) R c3) R (I64 rk)) ∧ Hid (Below w.heap.size w wr)) (fun q _ => g.n - (intOf q).toNat)
            case atStart => exact ⟨0, Nat.zero_le _, rfl, hide (by rw [partX_zero]; rw [set_same HG.out]; exact HGO6.out), HRW6, HLW⟩
            case round =>
              clear HGO6 HRW6 HLW hzw1
              obtain ⟨j, hj, rfl, HGO, HRW, HBW⟩ := hrel
              obtain ⟨wq, hwq⟩ : ∃ x : World, x = wr := ⟨_, rfl⟩
              subst hwq
              by_cases hjn : j < g.n
              · obtain ⟨y0, hy0⟩ : ∃ y0, g.ex[j]? = some y0 := ⟨_, List.getElem?_eq_getElem (by rw [HGL.out]; exact hjn)⟩
                obtain ⟨gj, hgj⟩ : ∃ gj : GrV, gj = { g with ex := partX lost d j g.ex } := ⟨_, rfl⟩
                have hgo := HGO.out
                rw [← hgj] at hgo
                have hjA : gj.A = g.A := by rw [hgj]
                have hjn' : gj.n = g.n := by rw [hgj]
                have hjc : gj.c = g.c := by rw [hgj]
                have hje : gj.ex = partX lost d j g.ex := by rw [hgj]
                have hset : (Lk.set x gj)[x]? = some gj := by rw [List.getElem?_set_self]; rw [← HLEN.out]; exact hxk
                obtain ⟨ad', g', hA', _, hg', hgi', _, _, f2⟩ := hgo.in_.heads hxk
                rw [hset] at hg'
                injection hg' with hg'
                subst hg'
                injection hA' with hA'
                subst hA'
                obtain ⟨b, cur, hgA, hblk, hcs, hbb, hbw⟩ := hgo.ints hset (by omega)
                obtain ⟨ae, y, hAe, _, hy, e0, _⟩ := ExIn.both hgi' (k := j) (by omega)
                have hy00 := partX_at lost d hy0
                rw [← hje, hy] at hy00
                injection hy00 with hy00
                subst hy00
                rw [hgA] at hAe
                injection hAe with hAe
                subst hAe
                rw [addr_add] at e0
                rw [hgA, hjn', hjc] at f2
                rw [hjn'] at hcs
                have hjn1 : (j : Int) < (g.n : Int) := by omega
                have hxs : j * 2 < cur.size := by omega
                obtain ⟨y1, hy1⟩ : ∃ y1, y1 = y.1 := ⟨_, rfl⟩
                rw [← hy1] at e0
                have HGJ := hide hgj
                have HGO' := hide hgo
                have HSET := hide hset
                have HGA := hide hgA
                have HBLK := hide hblk
                have HY := hide hy
                have HY0 := hide hy0
                have HY1 := hide hy1
                have HBB := hide (And.intro hbb hbw)
                clear hgj hgo hset hgA hblk hy hy0 hy1 hjA hjn' hjc hje hgi' hcs hbb hbw HGO
                by_cases hyl : y1 = lost
                · have hyb : (y1 == lost) = true := by simpa using hyl
                  have HYL := hide hyl
                  clear hyl
                  go_wp2_with (first
                    | ((with_reducible refine at_store 150 ?_); refine wpList_poke rfl 3 (.tmp 150) (.tmp 148) rfl b (j * 2) 38 cur HBLK.out rfl (.int .i64 (d : Int)) rfl rfl (by kernel_rfl) hxs ?_; intro w7 hb7 hg7 hs7; have HB7 := hide hb7; have HG7 := hide hg7; clear hb7 hg7 hs7))
                  have HGO7 : Hid (GsOwn w7 w1.heap.size (.slice (some ad) k c2) (Lk.set x { g with ex := partX lost d (j + 1) g.ex })) := hide (by
                    have h := HGO'.out.poke HSET.out HGA.out HY.out HBLK.out HB7.out HG7.out
                    rw [List.set_set] at h
                    have e : ({ gj with ex := gj.ex.set j ((d : Int), y.2) } : GrV) = { g with ex := partX lost d (j + 1) g.ex } := by
                      rw [partX_more lost d HY0.out, HGJ.out]
                      have : swapX lost d y = ((d : Int), y.2) := by unfold swapX; rw [← HY1.out, if_pos HYL.out]
                      rw [this]
                    rw [e] at h
                    exact h)
                  have HRW7 := hide (HRW.out.kept HG7.out (by
                    cases hv : (Value.slice (some ⟨g3, 0, none⟩) R c3).ownBlock with
                    | none => exact .inl rfl
                    | some z => exact .inr (fun e => by
                        rw [e] at hv
                        exact blk_kind_ne HRW.out HBLK.out (by decide) hv)))
                  have HBW7 := hide (HBW.out.grown HG7.out HBW.out.size (fun z e => by injection e with e; have := HBB.out.1; omega))
                  go_roundw
                  case rel => exact ⟨j + 1, by omega, by go_num, HGO7, HRW7, HBW7⟩
                  case measure => simp [intOf]; omega
                · have hyb : (y1 == lost) = false := by simpa using hyl
                  have HGO7 : Hid (GsOwn wq w1.heap.size (.slice (some ad) k c2) (Lk.set x { g with ex := partX lost d (j + 1) g.ex })) := hide (by
                    rw [partX_keep lost d HY0.out (by rw [← HY1.out]; exact hyl), ← HGJ.out]
                    exact HGO'.out)
                  clear hyl
                  go_wp2
                  go_roundw
                  case rel => exact ⟨j + 1, by omega, by go_num, HGO7, HRW, HBW⟩
                  case measure => simp [intOf]; omega
              · obtain rfl : j = g.n := by omega
                obtain ⟨g9, hg9⟩ : ∃ g9 : GrV, g9 = { g with ex := partX lost d g.n g.ex } := ⟨_, rfl⟩
                have hgo := HGO.out
                rw [← hg9] at hgo
                have hset : (Lk.set x g9)[x]? = some g9 := by rw [List.getElem?_set_self]; rw [← HLEN.out]; exact hxk
                obtain ⟨ad', g', hA', _, hg', hgi', _, _, f2⟩ := hgo.in_.heads hxk
                rw [hset] at hg'
                injection hg' with hg'
                subst hg'
                injection hA' with hA'
                subst hA'
                have h9A : g9.A = g.A := by rw [hg9]
                have h9n : g9.n = g.n := by rw [hg9]
                have h9c : g9.c = g.c := by rw [hg9]
                rw [h9A, h9n, h9c] at f2
                have h9e : g9.ex = g.ex.map (swapX lost d) := by rw [hg9]; show partX lost d g.n g.ex = _; rw [← HGL.out, partX_all]
                obtain ⟨hsafe, hleft⟩ := HNEXT.out g9 h9e
                obtain ⟨L9, hL9⟩ : ∃ L9, L9 = Lk.set x g9 := ⟨_, rfl⟩
                rw [← hL9] at hgo hsafe hleft
                have hfew9 : ∀ g ∈ L9, g.n ≤ 1000000 := fun z hz => by
                  rw [hL9] at hz
                  rcases List.mem_or_eq_of_mem_set hz with h | h
                  · exact HLK.out.few z h
                  · rw [h, h9n]; exact HLK.out.few g (List.mem_of_getElem? HG.out)
                have HFEW9 := hide hfew9
                have HGO9 := hide hgo
                have HSAFE := hide hsafe
                have HLEFT9 := hide hleft
                obtain ⟨cur3, hcur3, hcs3, hg3b⟩ := own_blk HRW.out
                have hcr := own_cell HRW.out HGX.out
                have HC3 := hide hcur3
                have hroom := HROOM.out
                have hxs : d < cur3.size := by omega
                clear hgo hset hgi' hg9 h9A h9n h9c h9e hsafe hleft hL9 hfew9 hcur3 hcs3 HGO
                go_wp2_with (first
                  | ((with_reducible refine at_store 156 ?_); refine wpList_poke rfl 3 (.tmp 156) (.tmp 155) rfl g3 d 3 cur3 HC3.out rfl (.int .i64 (v - 1)) rfl rfl (by kernel_rfl) hxs ?_; intro w8 hb8 hg8 hs8; have HGO8 := hide (HGO9.out.other HC3.out hg8); have hr8 : w8.ownsRow w2.heap.size 3 1 (.slice (some ⟨g3, 0, none⟩) R c3) R (I64 (decR rk d)) := (by have h := own_poke HRW.out HC3.out hb8; rw [HV.out] at h; exact h); have HR8 := hide hr8; have HB8 := hide (HBW.out.grown hg8 HBW.out.size (fun z e => (by injection e with e; omega))); have hl8 := row_len hr8; have hc8 := safe_any (some ad) k c2 L9 (some ⟨g3, 0, none⟩) c3 (decR rk d) lost w8.heap.size w8 HGO8.out.in_ (by rw [hl8]; exact Reads.of_own hr8) (Nat.le_refl _) (by omega) HFEW9.out (by rw [hl8]; omega); rw [hl8, HSAFE.out] at hc8; have HC8 := hide hc8; clear hb8 hg8 hs8 hr8 hl8 hc8 hcr)
                  | (go_at_call 16; refine HC8.out.mono ?_; rintro _ w9 ⟨rfl, _, hl9⟩; have HL9 := hide hl9; clear hl9))
                have HLF : Hid (∃ Lk rk, Left w w9 w1.heap.size w2.heap.size (some ad) k c2 (some ⟨g3, 0, none⟩) R c3 lost m' Lk rk) := hide ⟨L9, decR rk d, HGO8.out.later HL9.out, own_later HR8.out HL9.out, HFEW9.out, fun z hz => by
                  unfold decR at hz
                  rcases List.mem_or_eq_of_mem_set hz with h | h
                  · exact HLK.out.room z h
                  · rw [h, ← HV.out]; have := HROOM.out; omega, HSAFE.out, HLEFT9.out, HB8.out.trans (HL9.out.mono HB8.out.size)⟩
                go_roundw
                case rel => exact ⟨m', by omega, by go_num, HLF⟩
                case measure => simp [intOf]
/-! The row's frame, by program: how the walk above proves the statement. -/
set_option maxRecDepth 100000 in
theorem lifted (os : Os) (started : os.Started) (H : Type) (enc : TypeId × Value → H) :
    ReturnsInHanded {} Try.checked os 6 .any (Rows.groupRehomesSpec.pre6 enc Try.prog Try.f6 Rows.groupRehomesRow.domain false) (Rows.groupRehomesSpec.post enc Try.prog Try.f6 false true false false) := by
  refine returnsInHanded_of_change (C := Try.checked) own started (by kernel_rfl) Try.func6
    (ChangeSpec.witness6 (enc := enc) (C := Try.checked) false ⟨#[], #[.slice none 0 0, .slice none 0 0, .int .i64 0], []⟩ 8 (by kernel_rfl) (by kernel_rfl) (by kernel_rfl) (by kernel_rfl)) ?_
  intro W base args ds gs before hval0 hW hcnd _
  have hval : ∀ (j : Nat) t v, Try.f6.params[j]? = some t → args[j]? = some v → Value.okWide Try.prog W .any base t v := hval0
  have hW' := hW
  obtain ⟨p, q, hA0, hV, rfl, hfz, hnd⟩ := hW
  have hA : DataW.TrodAll enc Try.prog W 0 (fun _ => true) true Try.f6.params.toList args.toList ds p := hA0
  rw [Try.params6] at hA hval
  obtain ⟨v0, vs0, d0, ds0, p0, q0, hargs, rfl, rfl, h0, r0⟩ := trodAll_cons hA
  obtain ⟨v1, vs1, d1, ds1, p1, q1, rfl, rfl, rfl, h1, r1⟩ := trodAll_cons r0
  obtain ⟨v2, vs2, d2, ds2, p2, q2, rfl, rfl, rfl, h2, r2⟩ := trodAll_cons r1
  obtain ⟨rfl, rfl, rfl⟩ := trodAll_nil r2
  obtain rfl : args = #[v0, v1, v2] := by cases args; simp_all
  obtain ⟨rfl, rfl⟩ := trodVars_none hV
  obtain ⟨A0, n0, c0, rfl⟩ := okWide_slice Try.underlying28 (hval 0 28 v0 rfl rfl)
  have k0 := h0
  have lt0 : ∀ x ∈ p0, x.block < W.heap.size := by obtain ⟨m, hm⟩ := k0; exact DataW.trod_lt m _ _ _ hm
  obtain ⟨l0, x0⟩ := arg_groups h0
  obtain ⟨A1, n1, c1, rfl⟩ := okWide_slice Try.underlying22 (hval 1 22 v1 rfl rfl)
  have k1 := h1
  have lt1 : ∀ x ∈ p1, x.block < W.heap.size := by obtain ⟨m, hm⟩ := k1; exact DataW.trod_lt m _ _ _ hm
  obtain ⟨l1, x1, y1, g1, z1⟩ := arg_ints h1
  obtain ⟨a2, rfl, rfl, rfl, w2⟩ := open_int Try.underlying3 (hval 2 3 v2 rfl rfl) h2
  have b2 := bounds_i64 w2
  clear hA0 hval0
  refine (walk A0 n0 c0 l0 A1 n1 c1 l1 a2 W x0 x1 y1 g1 z1 b2.1 b2.2).mono fun e W' ⟨he, bel⟩ => ?_
  subst he
  exact ⟨_, rfl, _, _, _, [], _, [], hW', trodAll_mk1 (shut_bool Try.underlying4 _), (trodAll_cons_mk (Below.trod laidOut (by kernel_rfl) (of_decide_eq_true (by kernel_rfl)) k0 bel lt0) (trodAll_cons_mk (Below.trod laidOut (by kernel_rfl) (of_decide_eq_true (by kernel_rfl)) k1 bel lt1) (trodAll_cons_mk (shut_int Try.underlying3 w2) trodAll_mk0))), rfl, bel.frame _, fun h => by cases h⟩

theorem over : Rows.groupRehomesRow.holds Try.pinned (OpenSpec.ofChange Rows.groupRehomesSpec) :=
  OpenClaim.holds_of_wide 6 Try.f6 rfl rfl rfl rfl rfl rfl rfl ⟨rfl, rfl, rfl, rfl, rfl⟩ rfl rfl rfl rfl rfl (by kernel_rfl) Try.func6 (by kernel_rfl)
    (of_decide_eq_true (by kernel_rfl)) (by unfold Func.isWrapper; first | (rw [if_pos (by decide +kernel)]; kernel_rfl) | (rw [if_neg (by decide +kernel)]; exact ⟨rfl, rfl⟩))
    (fun os started H enc _ => lifted os started H enc)

/-- The statement. -/
theorem proved : Rows.GroupRehomesSaid := over
#print axioms proved
end Go.Proofs.Ytmaiikmgpeafkaa.GroupRehomes
