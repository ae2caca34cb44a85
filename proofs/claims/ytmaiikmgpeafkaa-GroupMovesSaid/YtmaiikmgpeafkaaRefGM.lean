/- The reference's Move. -/
import Derived.Test.YtmaiikmgpeafkaaMoveP
import Derived.Test.YtmaiikmgpeafkaaRefGP
import Derived.Test.YtmaiikmgpeafkaaRefGS
import Derived.Test.YtmaiikmgpeafkaaRefGH
import Derived.Test.YtmaiikmgpeafkaaTwoRows
import Derived.Test.YtmaiikmgpeafkaaPoke
namespace Go.Proofs.Ytmaiikmgpeafkaa
open Go.RowKit

theorem toI_take_zero (O : List Nat) : toI (O.take 0) = [] := rfl
theorem dks_take_zero (l : List Ex) : dks (l.take 0) = [] := rfl
set_option maxRecDepth 100000 in
set_option maxHeartbeats 4000000 in
theorem refMove_any (A : Option Addr) (n c : Nat) (L : List GrV) (AR : Option Addr) (cR : Nat) (rm : List Int) (d : Int) (B0 : Nat) (w : World) (hr : GsIn w B0 A n c L) (hrm : Reads w B0 1 AR rm.length (I64 rm)) (hB0 : B0 ≤ w.heap.size) (hn : n ≤ 1000000) (hfew : ∀ g ∈ L, g.n ≤ 1000000) (hrn : rm.length ≤ 16) (hrb : ∀ v ∈ rm, -9223372036854775808 ≤ v ∧ v ≤ 1000000) :
    Calls Try.prog 23 #[.slice A n c, .slice AR rm.length cR, .int .i64 d] w fun e w' => e = .returned (moveV rm L d) ∧ Below w.heap.size w w' := by
  obtain ⟨i0, hi0, hz0, hz1, hz2⟩ := info_parts int_parts
  have HI := hide (And.intro hi0 (And.intro hz0 (And.intro hz1 hz2)))
  have HR := hide hr
  have HRM := hide hrm
  have HL := hide hr.len
  have HF := hide hfew
  have HRB := hide hrb
  have HCN := hide hr.le
  have HCM := hide hr.cap
  obtain ⟨p, hp⟩ : ∃ p, p = fun y : GrV => hasB y.ex d := ⟨_, rfl⟩
  have hpd : ∀ g : GrV, p g = hasB g.ex d := by rw [hp]; exact fun _ => rfl
  have HP := hide hpd
  have hnone : NoneYet p L L.length → moveV rm L d = noMove := by rw [hp]; exact moveV_none
  have hfirst : ∀ {k : Nat} {g : GrV}, NoneYet p L k → L[k]? = some g → hasB g.ex d = true → moveV rm L d = match moveD rm g (L.drop (k + 1)) d with
    | none => noMove
    | some x => .tuple #[.int .i64 (k : Int), .int .i64 (x : Int), .bool true] := by rw [hp]; exact moveV_first
  obtain ⟨RV, hRV⟩ : ∃ RV, RV = moveV rm L d := ⟨_, rfl⟩
  rw [← hRV] at hnone ⊢
  simp only [← hRV] at hfirst
  have HNONE := hide hnone
  have HFIRST := hide (fun k g => hfirst (k := k) (g := g))
  clear hr hrm hfew hrb hi0 hz0 hz1 hz2 hp hpd hnone hfirst hRV
  go_enter Try.func23, Try.ntmps23
  go_wp2
  go_loopw [9] (fun i wr => ∃ k : Nat, k ≤ n ∧ i = .int .i64 k ∧ Hid (NoneYet p L k) ∧ Hid (Below w.heap.size w wr)) (fun i _ => n - (intOf i).toNat)
  case atStart => exact ⟨0, Nat.zero_le _, rfl, hide NoneYet.zero, hide (Below.refl _ _)⟩
  case round =>
    obtain ⟨k, hk, rfl, HN, HB⟩ := hrel
    obtain ⟨wa, hwa⟩ : ∃ x : World, x = wr := ⟨_, rfl⟩
    subst hwa
    by_cases hkn : k < n
    · obtain ⟨ad, g, hA, hab, hg, hgi, hcg⟩ := (HR.out.below (HB.out.mono hB0)).at_ hkn
      subst hA
      have HCG := hide hcg
      have HGI := hide hgi
      have HG := hide hg
      have hza := HB.out.size
      have hhas := refHas_any g d B0 wa hgi (Nat.le_trans hB0 hza)
      have hpg := HP.out g
      obtain ⟨h1, hh1⟩ : ∃ x, x = hasB g.ex d := ⟨_, rfl⟩
      rw [← hh1] at hhas hpg
      have HH := hide hhas
      have HH1 := hide hh1
      have HPG := hide hpg
      have hgn := HF.out g (List.mem_of_getElem? hg)
      clear hg hgi hcg hhas hh1 hpg
      cases h1 with
      | false =>
        have HN2 := hide (HN.out.succ HG.out HPG.out)
        go_wp2_with (first
          | ((with_reducible refine at_slot 25 ?_); refine wpList_load_at rfl 36 (.tmp 24) rfl (ad.add (k * 3)) rfl (grC g) _ HCG.out Try.underlying36 rfl grp_info ?_)
          | (go_at_call 24; refine HH.out.mono ?_; rintro _ w2 ⟨rfl, hl2⟩))
        have HB2 := hide (HB.out.trans (hl2.mono hza))
        go_roundw
        case rel => exact ⟨k + 1, by omega, by go_num, HN2, HB2⟩
        case measure => simp [intOf]; omega
      | true =>
        have hrv := HFIRST.out k g HN.out HG.out HH1.out.symm
        have HRV := hide hrv
        have HGL := hide (ExIn.len HGI.out)
        clear hrv
        go_wp2_with (first
          | ((with_reducible refine at_slot 25 ?_); refine wpList_load_at rfl 36 (.tmp 24) rfl (ad.add (k * 3)) rfl (grC g) _ HCG.out Try.underlying36 rfl grp_info ?_)
          | (go_at_call 24; refine HH.out.mono ?_; rintro _ w2 ⟨rfl, hl2⟩))
        have hl12 : Below w.heap.size w w2 := HB.out.trans (hl2.mono hza)
        have hz12 := hl12.size
        obtain ⟨w3, hw3⟩ : ∃ w3, w3 = w2.alloc (.cells #[] 3) := ⟨_, rfl⟩
        have hl13 : Below w.heap.size w w3 := by rw [hw3]; exact hl12.alloc hz12 _
        have hrow : w3.ownsRow w.heap.size 3 1 (.slice (some ⟨w2.heap.size, 0, none⟩) 0 0) 0 (I64 (dks (g.ex.take 0))) := by
          rw [hw3]
          exact own_mono (World.ownsRow_made w2 #[] 0 (Nat.le_refl _) (Nat.zero_le _) rfl) hz12
        rw [← hw3]
        have H11 := hide hrow
        have HB3 := hide hl13
        clear hw3 hrow hl13 hl12 hl2 hz12
        go_loopw [11, 12] (fun s11 i wr => ∃ j : Nat, j ≤ g.n ∧ i = .int .i64 j ∧ (∃ A1 c1, s11 = .slice A1 j c1) ∧ Hid (wr.ownsRow w.heap.size 3 1 s11 j (I64 (dks (g.ex.take j)))) ∧ Hid (Below w.heap.size w wr)) (fun _ i _ => g.n - (intOf i).toNat)
        case atStart => exact ⟨0, Nat.zero_le _, rfl, ⟨_, _, rfl⟩, H11, HB3⟩
        case round =>
          clear H11 HB3
          obtain ⟨j, hj, rfl, ⟨A1, c1, rfl⟩, H11, HB3⟩ := hrel
          have hzr := HB3.out.size
          obtain ⟨ad2, g2, hA2, hg2, hgi2, hc2⟩ := (HR.out.below (HB3.out.mono hB0)).ext hkn
          injection hA2 with hA2
          subst hA2
          rw [HG.out] at hg2
          injection hg2 with hg2
          subst hg2
          by_cases hjn : j < g.n
          · obtain ⟨ae, x, hA, hx, hce⟩ := ExIn.disk hgi2 hjn
            have hdt := dks_take hx
            have HDT := hide hdt
            obtain ⟨y, hy⟩ : ∃ y, y = x.1 := ⟨_, rfl⟩
            rw [← hy] at hce HDT
            rw [hA] at hc2
            have a1 : j + 1 ≤ maxLen := by simp only [maxLen]; omega
            have a2 : (j + 1) * 8 ≤ 140737488355328 := by omega
            have HAA := hide (And.intro a1 a2)
            clear hx hy hA hgi2 hdt a1 a2
            go_wp2_with (first
              | ((with_reducible refine at_slot 52 ?_); refine wpList_append_two _ rfl (.tmp 41) (.tmp 51) _ rfl w.heap.size 3 i0 _ 1 8 Try.underlying22 HI.out.1 HI.out.2.1 HI.out.2.2.1 HI.out.2.2.2 rfl (by decide) _ j _ rfl (H11.out.alloc _) (wr.heap.size + 1) (some ⟨wr.heap.size, 0, none⟩) 1 1 [.int .i64 y] rfl (Reads.one _ _ _ _ (by omega)) (one_i64 _) HAA.out.1 HAA.out.2 (le_alloc (by omega) _) ?_; intro v4 w4 hown4 hg4 hb4; have hz4 := hg4.size; rw [World.size_alloc] at hz4; have H4 := hide hown4; have HG4 := hide hg4; clear hown4 hg4 hb4))
            have hl4 : Below w.heap.size w w4 := (HB3.out.alloc hzr _).grown HG4.out (by rw [World.size_alloc]; omega) (fun g e => (H11.out.lt g e).1)
            have H42 : Hid (w4.ownsRow w.heap.size 3 1 v4 (j + 1) (I64 (dks (g.ex.take (j + 1))))) := hide (by
              rw [HDT.out, I64_append]
              exact H4.out)
            obtain ⟨A4, c4, hv4, _, _⟩ := own_shape H42.out
            subst hv4
            have HB4 := hide hl4
            clear hl4 H4 hz4
            go_roundw
            case rel => exact ⟨j + 1, by omega, by go_num, ⟨_, _, rfl⟩, H42, HB4⟩
            case measure => simp [intOf]; omega
          · obtain rfl : j = g.n := by omega
            have h11 := H11.out
            rw [List.take_of_length_le (by rw [HGL.out]; exact Nat.le_refl _)] at h11
            obtain ⟨O, hO⟩ : ∃ O, O = orderL rm (dks g.ex) := ⟨_, rfl⟩
            have hOm : ∀ x ∈ O, x < rm.length ∧ 0 < roomI rm x := fun x hx => by rw [hO, orderL_mem] at hx; exact ⟨hx.1, hx.2.1⟩
            have hole := orderL_le rm (dks g.ex)
            have hmat : ∀ q x : Nat, O[q]? = some x → mostI rm (dks g.ex ++ toI (O.take q)) = (x : Int) := fun q x h => by rw [hO] at h ⊢; exact most_at h
            have hmend := most_end rm (dks g.ex)
            obtain ⟨F, hF⟩ : ∃ F : Nat → Bool, F = fun e => fitsB (decR rm e) (needyL (L.drop (k + 1)) d) := ⟨_, rfl⟩
            have hmd : moveD rm g (L.drop (k + 1)) d = O.find? F := by rw [moveD, ← hO, hF]
            rw [hmd] at HRV
            rw [← hO] at hole hmend
            have hF2 : ∀ x, safeB (decR rm x) (L.drop (k + 1)) d = F x := fun x => by rw [hF]; rfl
            have HF2 := hide hF2
            have HOM := hide hOm
            have HMAT := hide hmat
            have HMEND := hide hmend
            have hstart : wr.ownsRow w.heap.size 3 1 (.slice A1 g.n c1) (g.n + 0) (I64 (dks g.ex ++ toI (O.take 0))) := by
              rw [toI_take_zero, List.append_nil]
              exact h11
            have H110 := hide hstart
            have hdr := HR.out.drop (k := k + 1) (by omega)
            obtain ⟨AS, hAS⟩ : ∃ AS, (if c = k + 1 then some ad else some (ad.add ((k + 1) * 3))) = AS := ⟨_, rfl⟩
            change GsIn w B0 (if c = k + 1 then some ad else some (ad.add ((k + 1) * 3))) _ _ _ at hdr
            rw [hAS] at hdr
            have HDR := hide hdr
            have HONE := hide (I64_one rm)
            have HRL : Hid (0 + rm.length ≤ maxLen ∧ (0 + rm.length) * 8 ≤ 140737488355328) := hide ⟨by simp only [maxLen]; omega, by omega⟩
            clear h11 hO hOm hmat hmend hF hmd hF2 hstart hdr H11 hgi2
            go_wp2
            clear hc2
            go_loopw [11] (fun s11 wr => ∃ q : Nat, q ≤ O.length ∧ (∃ A1 c1, s11 = .slice A1 (g.n + q) c1) ∧ Hid (wr.ownsRow w.heap.size 3 1 s11 (g.n + q) (I64 (dks g.ex ++ toI (O.take q)))) ∧ Hid (NoneYet F O q) ∧ Hid (Below w.heap.size w wr)) (fun s11 _ => g.n + O.length - lenS s11)
            case atStart => exact ⟨0, Nat.zero_le _, ⟨_, _, rfl⟩, H110, hide NoneYet.zero, HB3⟩
            case round =>
              clear H110 HB3 hzr
              obtain ⟨q, hq, ⟨A1, c1, rfl⟩, H11, HNY, HB3⟩ := hrel
              have hzr := HB3.out.size
              have hmost := refMost_any AR cR rm A1 (g.n + q) c1 (dks g.ex ++ toI (O.take q)) B0 wr.heap.size wr (HRM.out.below (HB3.out.mono hB0)) (Reads.of_own H11.out) (by omega) (by simp only [maxLen]; omega)
              by_cases hqO : q < O.length
              · obtain ⟨x, hx⟩ : ∃ x, O[q]? = some x := ⟨_, List.getElem?_eq_getElem hqO⟩
                rw [HMAT.out q x hx] at hmost
                have HM := hide hmost
                have HTK := hide (take_more hx)
                obtain ⟨hxr, hx0⟩ := HOM.out x (List.mem_of_getElem? hx)
                obtain ⟨v, hv⟩ : ∃ v, v = roomI rm x := ⟨_, rfl⟩
                rw [← hv] at hx0
                have hgx := roomI_get hxr
                rw [← hv] at hgx
                have hv1 : v ≤ 1000000 := (HRB.out _ (List.mem_of_getElem? hgx)).2
                have hfx := HF2.out x
                obtain ⟨fx, hfxe⟩ : ∃ f, f = F x := ⟨_, rfl⟩
                rw [← hfxe] at hfx
                have hsafe : ∀ W, Below B0 w W → B0 ≤ W.heap.size → ∀ gL cL, Reads W W.heap.size 1 (some ⟨gL, 0, none⟩) rm.length (I64 (decR rm x)) → Calls Try.prog 17 #[.slice AS (n - (k + 1)) (c - (k + 1)), .slice (some ⟨gL, 0, none⟩) rm.length cL, .int .i64 d] W fun e w' => e = .returned (.bool fx) ∧ Below W.heap.size W w' := by
                  intro W b1 b2 gL cL b3
                  have hdl := decR_length rm x
                  have hb : ∀ v ∈ decR rm x, v ≤ 1000000 := fun y hy => by
                    obtain ⟨i, hi⟩ := List.getElem?_of_mem hy
                    by_cases e : x = i
                    · subst e
                      rw [decR_get hxr] at hi
                      injection hi with hi
                      have := (HRB.out _ (List.mem_of_getElem? (roomI_get hxr))).2
                      omega
                    · rw [decR, List.getElem?_set, if_neg e] at hi
                      exact (HRB.out _ (List.mem_of_getElem? hi)).2
                  have h := refSafe_any AS (n - (k + 1)) (c - (k + 1)) (L.drop (k + 1)) (some ⟨gL, 0, none⟩) cL (decR rm x) d W.heap.size W ((HDR.out.below b1).more b2) (by rw [hdl]; exact b3) (Nat.le_refl _) (by omega) (by rw [hdl]; exact hrn) hb
                  rw [hdl, hfx] at h
                  exact h
                have HSF := hide hsafe
                clear hsafe
                have HFX := hide hfx
                have HFE := hide hfxe
                have HX := hide hx
                have HV := hide hv
                have HGX := hide hgx
                have a1 : g.n + q + 1 ≤ maxLen := by simp only [maxLen]; omega
                have a2 : (g.n + q + 1) * 8 ≤ 140737488355328 := by omega
                have HAA := hide (And.intro a1 a2)
                clear hmost hx hv hgx hfx hfxe a1 a2
                cases fx with
                | true =>
                  have HRES := hide (find_some HNY.out HX.out HFE.out.symm)
                  go_wp2_with (first
                    | (go_at_call 27; refine HM.out.mono ?_; rintro _ w3 ⟨rfl, z, hw3⟩; have hl3 : Below wr.heap.size wr w3 := (by rw [hw3]; exact ⟨rfl, rfl, rfl, Nat.le_refl _, fun _ _ => rfl⟩); clear hw3; have H3 := hide (own_later H11.out hl3); have hz3 := hl3.size; have HB33 := hide (HB3.out.trans (hl3.mono hzr)); clear hl3)
                    | ((with_reducible refine at_slot 60 ?_); refine wpList_append_any _ rfl (.tmp 58) (.tmp 59) _ rfl w3.heap.size 3 i0 _ 1 8 Try.underlying22 HI.out.1 HI.out.2.1 HI.out.2.2.1 HI.out.2.2.2 rfl (by decide) _ 0 [] rfl (World.ownsRow_made w3 #[] 0 (Nat.le_refl _) (Nat.zero_le _) rfl) B0 AR rm.length cR (I64 rm) rfl ((HRM.out.below (HB33.out.mono hB0)).alloc (Nat.le_trans hB0 HB33.out.size) _) HONE.out HRL.out.1 HRL.out.2 (le_alloc (Nat.le_refl _) _) ?_; intro v4 w4 hown4 hbel4; rw [Nat.zero_add, List.nil_append] at hown4; obtain ⟨gL, cL, hv4, _, hgl4⟩ := hown4.form (by omega); subst hv4; have hlo4 := (hown4.lt gL rfl).1; have HOWN4 := hide hown4; have hc4 := own_cell hown4 (i := x) (x := v) HGX.out; obtain ⟨cur, hcur, hcs, _⟩ := own_blk hown4; have HCUR := hide hcur; have HXS := hide (show x < cur.size by omega); have hbe4 : Below w3.heap.size w3 w4 := ((Below.refl _ _).alloc (Nat.le_refl _) _).trans hbel4; have HB34 := hide hbe4; have hz4 := hbe4.size; clear hown4 hbel4 hcur hcs hbe4)
                    | ((with_reducible refine at_store 66 ?_); refine wpList_poke rfl 3 (.tmp 66) (.tmp 65) rfl gL x 3 cur HCUR.out rfl (.int .i64 (v - 1)) rfl rfl (by kernel_rfl) HXS.out ?_; intro w5 hb5 hg5 hs5; have hz5 : w4.heap.size ≤ w5.heap.size := (by omega); clear hs5; have hown5 : w5.ownsRow w3.heap.size 3 1 (.slice (some ⟨gL, 0, none⟩) rm.length cL) rm.length (I64 (decR rm x)) := (by have h := own_poke HOWN4.out HCUR.out hb5; rw [HV.out] at h; exact h); have hl5 : Below w3.heap.size w3 w5 := HB34.out.grown hg5 HB34.out.size (fun g e => (by injection e with e; omega)); have HOWN5 := hide hown5; have HL5 := hide hl5; have HB5 := hide (HB33.out.trans (hl5.mono HB33.out.size)); clear hown5 hl5 hb5 hg5 hc4)
                    | (go_at_call 17; refine (HSF.out w5 (HB5.out.mono hB0) (Nat.le_trans hB0 HB5.out.size) gL cL (Reads.of_own HOWN5.out)).mono ?_; rintro _ w6 ⟨rfl, hl6⟩))
                  go_ret3
                  exact ⟨by rw [HRV.out, HRES.out]; rfl, HB5.out.trans (hl6.mono HB5.out.size)⟩
                | false =>
                  have HNY2 := hide (HNY.out.succ HX.out HFE.out.symm)
                  go_wp2_with (first
                    | (go_at_call 27; refine HM.out.mono ?_; rintro _ w3 ⟨rfl, z, hw3⟩; have hl3 : Below wr.heap.size wr w3 := (by rw [hw3]; exact ⟨rfl, rfl, rfl, Nat.le_refl _, fun _ _ => rfl⟩); clear hw3; have H3 := hide (own_later H11.out hl3); have hz3 := hl3.size; have HB33 := hide (HB3.out.trans (hl3.mono hzr)); clear hl3)
                    | ((with_reducible refine at_slot 60 ?_); refine wpList_append_any _ rfl (.tmp 58) (.tmp 59) _ rfl w3.heap.size 3 i0 _ 1 8 Try.underlying22 HI.out.1 HI.out.2.1 HI.out.2.2.1 HI.out.2.2.2 rfl (by decide) _ 0 [] rfl (World.ownsRow_made w3 #[] 0 (Nat.le_refl _) (Nat.zero_le _) rfl) B0 AR rm.length cR (I64 rm) rfl ((HRM.out.below (HB33.out.mono hB0)).alloc (Nat.le_trans hB0 HB33.out.size) _) HONE.out HRL.out.1 HRL.out.2 (le_alloc (Nat.le_refl _) _) ?_; intro v4 w4 hown4 hbel4; rw [Nat.zero_add, List.nil_append] at hown4; obtain ⟨gL, cL, hv4, _, hgl4⟩ := hown4.form (by omega); subst hv4; have hlo4 := (hown4.lt gL rfl).1; have HOWN4 := hide hown4; have hc4 := own_cell hown4 (i := x) (x := v) HGX.out; obtain ⟨cur, hcur, hcs, _⟩ := own_blk hown4; have HCUR := hide hcur; have HXS := hide (show x < cur.size by omega); have hbe4 : Below w3.heap.size w3 w4 := ((Below.refl _ _).alloc (Nat.le_refl _) _).trans hbel4; have HB34 := hide hbe4; have hz4 := hbe4.size; clear hown4 hbel4 hcur hcs hbe4)
                    | ((with_reducible refine at_store 66 ?_); refine wpList_poke rfl 3 (.tmp 66) (.tmp 65) rfl gL x 3 cur HCUR.out rfl (.int .i64 (v - 1)) rfl rfl (by kernel_rfl) HXS.out ?_; intro w5 hb5 hg5 hs5; have hz5 : w4.heap.size ≤ w5.heap.size := (by omega); clear hs5; have hown5 : w5.ownsRow w3.heap.size 3 1 (.slice (some ⟨gL, 0, none⟩) rm.length cL) rm.length (I64 (decR rm x)) := (by have h := own_poke HOWN4.out HCUR.out hb5; rw [HV.out] at h; exact h); have hl5 : Below w3.heap.size w3 w5 := HB34.out.grown hg5 HB34.out.size (fun g e => (by injection e with e; omega)); have HOWN5 := hide hown5; have HL5 := hide hl5; have HB5 := hide (HB33.out.trans (hl5.mono HB33.out.size)); clear hown5 hl5 hb5 hg5 hc4)
                    | (go_at_call 17; refine (HSF.out w5 (HB5.out.mono hB0) (Nat.le_trans hB0 HB5.out.size) gL cL (Reads.of_own HOWN5.out)).mono ?_; rintro _ w6 ⟨rfl, hl6⟩; have hl36 := HL5.out.trans (hl6.mono HL5.out.size); have H6 := hide (own_later H3.out hl36); have HB6 := hide (HB5.out.trans (hl6.mono HB5.out.size)); have hz6 := HB6.out.size; clear hl36 hl6)
                    | ((with_reducible refine at_slot 80 ?_); refine wpList_append_two _ rfl (.tmp 77) (.tmp 79) _ rfl w.heap.size 3 i0 _ 1 8 Try.underlying22 HI.out.1 HI.out.2.1 HI.out.2.2.1 HI.out.2.2.2 rfl (by decide) _ (g.n + q) _ rfl (H6.out.alloc _) (w6.heap.size + 1) (some ⟨w6.heap.size, 0, none⟩) 1 1 [.int .i64 (x : Int)] rfl (Reads.one _ _ _ _ (by omega)) (one_i64 _) HAA.out.1 HAA.out.2 (le_alloc (by omega) _) ?_; intro v7 w7 hown7 hg7 hb7; have hz7 := hg7.size; rw [World.size_alloc] at hz7; have H7 := hide hown7; have HG7 := hide hg7; clear hown7 hg7 hb7))
                  have hl7 : Below w.heap.size w w7 := (HB6.out.alloc hz6 _).grown HG7.out (by rw [World.size_alloc]; omega) (fun g e => (H6.out.lt g e).1)
                  have H72 : Hid (w7.ownsRow w.heap.size 3 1 v7 (g.n + (q + 1)) (I64 (dks g.ex ++ toI (O.take (q + 1))))) := hide (by
                    rw [HTK.out, toI_append, ← List.append_assoc, I64_append]
                    exact H7.out)
                  obtain ⟨A7, c7, hv7, _, _⟩ := own_shape H72.out
                  subst hv7
                  have HB7 := hide hl7
                  clear hl7 H7 hz7
                  go_roundw
                  case rel => exact ⟨q + 1, by omega, ⟨_, _, rfl⟩, H72, HNY2, HB7⟩
                  case measure => simp [lenS]; omega
              · obtain rfl : q = O.length := by omega
                rw [HMEND.out] at hmost
                have HM := hide hmost
                have HRES := hide (find_none HNY.out)
                clear hmost
                go_wp2_with (first
                  | (go_at_call 27; refine HM.out.mono ?_; rintro _ w3 ⟨rfl, z, hw3⟩; have hl3 : Below wr.heap.size wr w3 := (by rw [hw3]; exact ⟨rfl, rfl, rfl, Nat.le_refl _, fun _ _ => rfl⟩); clear hw3))
                go_ret3
                exact ⟨by rw [HRV.out, HRES.out]; rfl, HB3.out.trans (hl3.mono hzr)⟩
    · obtain rfl : k = n := by omega
      have hres := HNONE.out (by rw [HL.out]; exact HN.out)
      have HRES := hide hres
      clear hres
      go_wp2
      go_ret3
      exact ⟨by rw [HRES.out]; rfl, HB.out⟩
#print axioms refMove_any
end Go.Proofs.Ytmaiikmgpeafkaa
