/- ParityOrder's walk over the contracts. -/
import Derived.Test.YtdebdkagmnccjaaParR
import Derived.Deep.DeepCutAuto
import Derived.Deep.CutBlock
namespace Go.Proofs.Ytdebdkagmnccjaa
open Go.RowKit
set_option maxRecDepth 100000 in
set_option maxHeartbeats 8000000 in
theorem parityOrder_walk (K : ParK) (A : Option Addr) (n c : Nat) (l : List UInt8) (A2 : Option Addr) (n2 c2 : Nat) (l2 : List UInt8) (w : World) (hr : Reads w w.heap.size 64 A n (B8 l)) (hc : n ≤ c) (hc2 : c ≤ 9223372036854775807) (hr2 : Reads w w.heap.size 64 A2 n2 (B8 l2)) (hc3 : n2 ≤ c2) (hc4 : c2 ≤ 9223372036854775807) :
    Calls Try.prog 5 #[.slice A n c, .slice A2 n2 c2] w fun e w' => e = .returned (.bool true) ∧ Below w.heap.size w w' := by
  obtain ⟨ui, UI0⟩ : ∃ ui, Try.prog.info? 5 = some ui := ⟨_, pu8_info⟩
  have UI := hide UI0
  obtain ⟨i0, hi0, hz0, hz1, hz2⟩ := psec_parts0
  have HI := hide (And.intro hi0 (And.intro hz0 (And.intro hz1 hz2)))
  have HSH := hide (fun w => shown11_any K w)
  have HR := hide hr
  have HR2 := hide hr2
  have HUN : Hid (Try.prog.underlying 24 = some (.array 64 5)) := Try.underlying24
  clear hi0 hz0 hz1 hz2 UI0 hr hr2
  go_enter Try.func5, Try.ntmps5
  go_upto_region 2 with (go_at_call 8; refine (HSH.out w).mono ?_; rintro _ w1 ⟨rfl, hl1⟩)
  go_cut [0] (fun v0 wx => w1 = wx ∧ ∃ m : Nat, m ≤ n ∧ m ≤ 40 ∧ v0 = .slice A m c)
  case first =>
    by_cases hmn : (n : Int) ≤ 40
    · go_wp2_with fail
      go_meet
      case rel => exact ⟨rfl, n, Nat.le_refl _, by omega, rfl⟩
    · go_wp2_with fail
      go_meet
      case rel => exact ⟨rfl, 40, by omega, by omega, rfl⟩
  case rest =>
    obtain ⟨rfl, m, hmn, hm40, rfl⟩ := hcut
    go_upto_region 3 with fail
    go_cut [1] (fun v1 wx => w1 = wx ∧ ∃ m2 : Nat, m2 ≤ n2 ∧ m2 ≤ 40 ∧ v1 = .slice A2 m2 c2)
    case first =>
      by_cases hmn : (n2 : Int) ≤ 40
      · go_wp2_with fail
        go_meet
        case rel => exact ⟨rfl, n2, Nat.le_refl _, by omega, rfl⟩
      · go_wp2_with fail
        go_meet
        case rel => exact ⟨rfl, 40, by omega, by omega, rfl⟩
    case rest =>
      obtain ⟨rfl, m2, hmn2, hm402, rfl⟩ := hcut
      obtain ⟨hS0, hL0, hR0⟩ := cut_all HR.out (m := m) hmn
      obtain ⟨hS2, hL2, hR2⟩ := cut_all HR2.out (m := m2) hmn2
      obtain ⟨L, hL⟩ : ∃ L, L = cutS l m := ⟨_, rfl⟩
      rw [← hL] at hS0 hL0 hR0
      obtain ⟨M, hM⟩ : ∃ M, M = cutS l2 m2 := ⟨_, rfl⟩
      rw [← hM] at hS2 hL2 hR2
      obtain ⟨p, hp⟩ : ∃ p, p = parOf L := ⟨_, rfl⟩
      obtain ⟨pk, hpk⟩ : ∃ pk, pk = parOf M := ⟨_, rfl⟩
      have hlp : p.length = 64 := by rw [hp]; exact par_length hS0
      have hlk : pk.length = 64 := by rw [hpk]; exact par_length hS2
      have HS := hide hS0
      have HSM := hide hS2
      have HL := hide hL0
      have HM := hide hL2
      have HRL := hide hR0
      have HRM := hide hR2
      have HP := hide hp
      have HPK := hide hpk
      have LP := hide hlp
      have LK := hide hlk
      have IP := hide (show (Try.prog.info? 24).map (·.size) = some (B8 p).length by rw [B8_length, hlp]; exact psec_info)
      have HBK := hide (show parOf (turnL L 0) = p by rw [par_turn hS0, ← hp])
      have HTW := hide (show parOf (L ++ L) = zeroL from par_twice hS0)
      have HBO := hide (show parOf (L ++ M) = xorL p pk by rw [par_append hS0 hS2, ← hp, ← hpk])
      have HL1 := hide hl1
      have H1 := hide (And.intro (show 0 + m ≤ maxLen by simp only [maxLen]; omega) (show (0 + m) * 64 ≤ 140737488355328 by omega))
      have H2 := hide (And.intro (show m + m ≤ maxLen by simp only [maxLen]; omega) (show (m + m) * 64 ≤ 140737488355328 by omega))
      have H3 := hide (And.intro (show m + m2 ≤ maxLen by simp only [maxLen]; omega) (show (m + m2) * 64 ≤ 140737488355328 by omega))
      clear hL hM hS0 hL0 hR0 hS2 hL2 hR2 hp hpk hlp hlk hl1
      have HL_w1 := hide HL1.out
      go_wp2_with (first
        | (go_at_call 11; (with_reducible refine (K.build_any w1 A m c L HS.out HL.out (HRL.out.later HL1.out) (Nat.le_trans hmn hc) hc2 (by omega)).mono ?_); rintro _ y1 ⟨rfl, hl⟩; rw [← HP.out]; have HL_y1 := hide (HL_w1.out.trans (hl.mono HL_w1.out.size)); clear hl)
        | ((with_reducible refine at_slot 6 ?_); refine wpList_alloc_blk rfl 24 rfl _ (psec_nought _) ?_; intro y2 hbq hl1 hs1; have hb1 : Blk y2 y1.heap.size 24 (B8 zeroL).toArray := hbq; clear hbq hs1)
        | ((with_reducible refine at_store 6 ?_); refine wpList_store_all rfl 24 (.tmp 6) (.tmp 23) rfl y1.heap.size 24 _ hb1 rfl (B8 p) rfl IP.out (by rw [List.size_toArray, B8_length, B8_length, LP.out, zeroL_length]) (B8_one _) ?_; intro y3 hbz hg hs; have hz := hb1.lt; have hl : Below y1.heap.size y1 y3 := hl1.grown hg (by omega) (fun g e => by injection e with e; omega); have Hp_y3 := hide hbz; have HL_y3 := hide (HL_y1.out.trans (hl.mono HL_y1.out.size)); clear hz hl hs hg hbz hb1 hl1))
      go_loopw [7, 8] (fun s7 s8 wr => ∃ (j : Nat) (AB : Option Addr) (cb : Nat), s8 = .int .i64 ((j : Int) - 1) ∧ j ≤ m ∧ s7 = .slice AB (turnL L j).length cb ∧ Hid (RowS wr y3.heap.size AB cb (turnL L j)) ∧ Hid (Below y3.heap.size y3 wr)) (fun _ s8 _ => (intOf s8 + 1).toNat)
      case atStart => exact ⟨m, none, 0, rfl, Nat.le_refl _, by rw [turn_end (by rw [HL.out]; exact Nat.le_refl _)]; rfl, hide (by rw [turn_end (by rw [HL.out]; exact Nat.le_refl _)]; exact RowS.none _ _), hide (Below.refl _ _)⟩
      case round =>
        obtain ⟨j0, AB, cb, rfl, hj, rfl, hB, hl⟩ := hrel
        obtain ⟨wo, rfl⟩ : ∃ wo, wo = wr := ⟨_, rfl⟩
        have HLo := hide (HL_y3.out.trans (hl.out.mono HL_y3.out.size))
        cases j0 with
        | succ j =>
          have hjj : (((j + 1 : Nat) : Int) - 1) = (j : Int) := by omega
          rw [hjj]
          have hjw : (0 : Int) ≤ (j : Int) := by omega
          have hjm : (j : Int) < (m : Int) := by omega
          have hjl : j < L.length := by rw [HL.out]; omega
          obtain ⟨s, hs⟩ : ∃ s, L[j]? = some s := ⟨L[j]'hjl, List.getElem?_eq_getElem _⟩
          have hls : s.length = 64 := HS.out s (List.mem_of_getElem? hs)
          have hreads := (HRL.out.later HLo.out)
          obtain ⟨ad, hA, hab, hcs⟩ := hreads.sec_at (k := j) (by omega)
          subst hA
          rw [flat_at HS.out hs] at hcs
          have HCS := hide hcs
          have LS := hide hls
          have IS := hide (show (Try.prog.info? 24).map (·.size) = some (B8 s).length by rw [B8_length, hls]; exact psec_info)
          have HTS := hide (turn_succ hs)
          have hln := turn_len L (j + 1)
          obtain ⟨TL, hTL⟩ : ∃ TL, TL = (turnL L (j + 1)).length := ⟨_, rfl⟩
          have HTL := hide hTL
          have H4 := hide (And.intro (show TL + 2 ≤ maxLen by simp only [maxLen]; have := HL.out; omega) (show (TL + 2) * 64 ≤ 140737488355328 by have := HL.out; omega))
          rw [← hTL]
          have hown0 := hB.out.own
          rw [← hTL] at hown0
          have HOW := hide hown0
          have HSZ := hide hl.out.size
          clear hcs hs hls hreads hln hTL hown0 hjl
          go_wp2_with (first
            | ((with_reducible refine at_slot 35 ?_); refine wpList_load_at rfl 24 (.tmp 34) rfl (ad.add (j * 64)) rfl (B8 s) _ HCS.out Try.underlying24 rfl IS.out ?_)
            | ((with_reducible refine at_slot 36 ?_); refine wpList_build_is rfl 24 #[] rfl [] (by simp) _ psec_built ?_)
            | ((with_reducible refine at_slot 37 ?_); refine when_secs2 rfl (.tmp 35) (.tmp 36) rfl s zeroL LS.out zeroL_length rfl rfl ?_; have hb : Blk (wo.alloc (.cells (B8 (s ++ zeroL)).toArray 24)) wo.heap.size 24 (B8 (s ++ zeroL)).toArray := Blk.new _ _ _; have hl1 : Below wo.heap.size wo (wo.alloc (.cells (B8 (s ++ zeroL)).toArray 24)) := (Below.refl _ _).alloc (Nat.le_refl _) _; generalize wo.alloc (.cells (B8 (s ++ zeroL)).toArray 24) = x1 at hb hl1 ⊢; have HRN : Hid (Reads x1 x1.heap.size 64 (some ⟨wo.heap.size, 0, none⟩) 2 (B8 (s ++ zeroL))) := hide (by have h := reads64 (L := [s, zeroL]) (by rw [flat2]; exact hb) (secs2 LS.out zeroL_length) rfl; rw [flat2] at h; exact h); have HX1 := hide hl1; clear hb hl1)
            | ((with_reducible refine at_slot 38 ?_); refine wpList_append_any _ rfl (.tmp 31) (.tmp 37) _ rfl y3.heap.size 24 i0 _ 64 64 Try.underlying22 HI.out.1 HI.out.2.1 HI.out.2.2.1 HI.out.2.2.2 rfl (by decide) _ TL _ rfl (own_later HOW.out HX1.out) x1.heap.size (some ⟨wo.heap.size, 0, none⟩) 2 2 (B8 (s ++ zeroL)) rfl HRN.out (B8_one _) H4.out.1 H4.out.2 (Nat.le_trans HSZ.out HX1.out.size) ?_; intro v3 x2 hown hbel))
          obtain ⟨AN, cn, rfl, _, _⟩ := own_shape hown
          go_roundw
          case rel =>
            refine ⟨j, AN, cn, rfl, by omega, ?_, hide ⟨?_, turn_secs HS.out _⟩, hide (hl.out.trans ((HX1.out.mono HSZ.out).trans hbel))⟩
            · rw [HTS.out, List.length_append, ← HTL.out]
              rfl
            · rw [HTS.out, List.length_append, ← HTL.out, flat_append, flat2, B8_append]
              exact hown
          case measure => simp [intOf]
        | zero =>
          have hjw : ¬ ((0 : Int) ≤ ((0 : Nat) : Int) - 1) := by omega
          have HL_wo := hide HLo.out
          have Hp_wo := hide (Hp_y3.out.below hl.out Hp_y3.out.lt)
          have RB_wo := hide hB.out
          clear hB hl HLo
          go_wp2_with (first
            | ((with_reducible refine at_slot 39 ?_); refine wpList_none64 rfl rfl ?_)
            | ((with_reducible refine at_slot 41 ?_); refine wpList_append_any _ rfl (.tmp 39) (.tmp 40) _ rfl wo.heap.size 24 i0 _ 64 64 Try.underlying22 HI.out.1 HI.out.2.1 HI.out.2.2.1 HI.out.2.2.2 rfl (by decide) _ 0 [] rfl (World.ownsRow_made wo #[] 0 (Nat.le_refl _) (Nat.zero_le _) rfl) wo.heap.size _ m c (B8 L.flatten) rfl ((HRL.out.later HL_wo.out).alloc (Nat.le_refl _) _) (B8_one _) H1.out.1 H1.out.2 (le_alloc (Nat.le_refl _) _) ?_; intro v3 y21 hown1 hbel1; have hla : Below wo.heap.size wo y21 := ((Below.refl _ _).alloc (Nat.le_refl _) _).trans hbel1; rw [Nat.zero_add, List.nil_append] at hown1; obtain ⟨AQ, cq, rfl, _, _⟩ := own_shape hown1; have HLA := hide (HL_wo.out.trans (hla.mono HL_wo.out.size)))
            | ((with_reducible refine at_slot 43 ?_); refine wpList_append_any _ rfl (.tmp 41) (.tmp 42) _ rfl wo.heap.size 24 i0 _ 64 64 Try.underlying22 HI.out.1 HI.out.2.1 HI.out.2.2.1 HI.out.2.2.2 rfl (by decide) _ m _ rfl hown1 y21.heap.size _ m c (B8 L.flatten) rfl (HRL.out.later HLA.out) (B8_one _) H2.out.1 H2.out.2 hla.size ?_; intro v4 y22 hown2 hbel2; have hl : Below wo.heap.size wo y22 := hla.trans hbel2; obtain ⟨AT, cT, rfl, _, _⟩ := own_shape hown2; have RT_y22 : Hid (RowS y22 wo.heap.size AT cT (L ++ L)) := hide ⟨(by rw [List.length_append, HL.out, flat_append, B8_append]; exact hown2), HS.out.append HS.out⟩; have HL_y22 := hide (HL_wo.out.trans (hl.mono HL_wo.out.size)); have Hp_y22 := hide (Hp_wo.out.below hl Hp_wo.out.lt); have RB_y22 := hide (RB_wo.out.later hl); clear hl hown2 hbel2 hown1 hla hbel1 HLA)
            | ((with_reducible refine at_slot 44 ?_); refine wpList_none64 rfl rfl ?_)
            | ((with_reducible refine at_slot 46 ?_); refine wpList_append_any _ rfl (.tmp 44) (.tmp 45) _ rfl y22.heap.size 24 i0 _ 64 64 Try.underlying22 HI.out.1 HI.out.2.1 HI.out.2.2.1 HI.out.2.2.2 rfl (by decide) _ 0 [] rfl (World.ownsRow_made y22 #[] 0 (Nat.le_refl _) (Nat.zero_le _) rfl) y22.heap.size _ m c (B8 L.flatten) rfl ((HRL.out.later HL_y22.out).alloc (Nat.le_refl _) _) (B8_one _) H1.out.1 H1.out.2 (le_alloc (Nat.le_refl _) _) ?_; intro v3 y23 hown1 hbel1; have hla : Below y22.heap.size y22 y23 := ((Below.refl _ _).alloc (Nat.le_refl _) _).trans hbel1; rw [Nat.zero_add, List.nil_append] at hown1; obtain ⟨AQ, cq, rfl, _, _⟩ := own_shape hown1; have HLA := hide (HL_y22.out.trans (hla.mono HL_y22.out.size)))
            | ((with_reducible refine at_slot 48 ?_); refine wpList_append_any _ rfl (.tmp 46) (.tmp 47) _ rfl y22.heap.size 24 i0 _ 64 64 Try.underlying22 HI.out.1 HI.out.2.1 HI.out.2.2.1 HI.out.2.2.2 rfl (by decide) _ m _ rfl hown1 y23.heap.size _ m2 c2 (B8 M.flatten) rfl (HRM.out.later HLA.out) (B8_one _) H3.out.1 H3.out.2 hla.size ?_; intro v4 y24 hown2 hbel2; have hl : Below y22.heap.size y22 y24 := hla.trans hbel2; obtain ⟨AO, cO, rfl, _, _⟩ := own_shape hown2; have RO_y24 : Hid (RowS y24 y22.heap.size AO cO (L ++ M)) := hide ⟨(by rw [List.length_append, HL.out, HM.out, flat_append, B8_append]; exact hown2), HS.out.append HSM.out⟩; have HL_y24 := hide (HL_y22.out.trans (hl.mono HL_y22.out.size)); have Hp_y24 := hide (Hp_y22.out.below hl Hp_y22.out.lt); have RB_y24 := hide (RB_y22.out.later hl); have RT_y24 := hide (RT_y22.out.later hl); clear hl hown2 hbel2 hown1 hla hbel1 HLA))
          have HDR := hide ((Below.refl y24.heap.size y24).drew)
          have HFF : Hid (∀ W', Below y24.heap.size y24 W' → (W'.rangeAt y1.heap.size 0 (B8 p) ∧ Below y24.heap.size y24 W')) := hide fun W' h => ⟨range_of64 (Hp_y24.out.below h Hp_y24.out.lt), h⟩
          refine wp_region_held_drew (S := (fun W => W.rangeAt y1.heap.size 0 (B8 p) ∧ Below y24.heap.size y24 W)) (by kernel_rfl) ?_ (fun hHeld => ?_)
          · exact HFF.out _ HDR.out
          refine heldTake (i := 0) (v := ?_) rfl (by kernel_rfl) (by kernel_rfl) (by kernel_rfl) (fun _ _ _ h => h) (Or.inl ⟨by rfl, ?_⟩) (by assumption) ?_
          rotate_left
          · intro w hSw; (try dsimp only at hSw); go_simp <;> (with_reducible rfl)
          try simp only [Act.put, List.setIfInBounds_toArray, List.set_cons_zero, List.set_cons_succ]
          refine heldTake (i := 1) (v := ?_) rfl (by kernel_rfl) (by kernel_rfl) (by kernel_rfl) (fun _ _ _ h => h) (Or.inl ⟨by rfl, ?_⟩) (by assumption) ?_
          rotate_left
          · intro w hSw; (try dsimp only at hSw); go_simp <;> (with_reducible rfl)
          try simp only [Act.put, List.setIfInBounds_toArray, List.set_cons_zero, List.set_cons_succ]
          refine heldTake (i := 2) (v := ?_) rfl (by kernel_rfl) (by kernel_rfl) (by kernel_rfl) (fun _ _ _ h => h) (Or.inl ⟨by rfl, ?_⟩) (by assumption) ?_
          rotate_left
          · intro w hSw; (try dsimp only at hSw); go_simp <;> (with_reducible rfl)
          try simp only [Act.put, List.setIfInBounds_toArray, List.set_cons_zero, List.set_cons_succ]
          refine heldTake (i := 4) (v := .agg (B8 p).toArray) rfl (by kernel_rfl) (by kernel_rfl) (by kernel_rfl) (fun _ _ _ h => h) (yieldsIf_load_mid (by rfl) _ _ rfl _ _ rfl (B8 p) _ (fun W hW => hW.1) HUN.out rfl IP.out) (by assumption) ?_
          try simp only [Act.put, List.setIfInBounds_toArray, List.set_cons_zero, List.set_cons_succ]
          refine wpAnyH_ready (rs := [3]) (by kernel_rfl) (by simp) ?_
          refine heldCons (i := 3) rfl (fun Kq hKq => ?_) AllReadyH.nil
          go_simp
          go_at_call 11
          refine (RowS.build K (RB_y24.out.later HDR.out) rfl (by have h1 := turn_len L 0; have h2 := HL.out; omega)).mono ?_
          rintro _ z1 ⟨rfl, hz1⟩
          rw [HBK.out]
          have hq1 : Below y24.heap.size y24 z1 := HDR.out.trans hz1
          first | (refine hKq.out _ _ (HFF.out _ hq1) (fun hHeld => ?_)) | (go_wp2_with fail; refine hKq.out _ _ (HFF.out _ hq1) (fun hHeld => ?_))
          clear hKq Kq
          try simp only [Act.put, List.setIfInBounds_toArray, List.set_cons_zero, List.set_cons_succ]
          refine heldTake (i := 5) (v := .bool true) rfl (by kernel_rfl) (by kernel_rfl) (by kernel_rfl) (fun _ _ _ h => h) (Or.inl ⟨by rfl, fun W hW => run_eql_secs UI.out W _ (.tmp 52) (.tmp 53) _ rfl p p LP.out LP.out rfl rfl true (by simp)⟩) (by assumption) ?_
          try simp only [Act.put, List.setIfInBounds_toArray, List.set_cons_zero, List.set_cons_succ]
          refine heldTake (i := 6) (v := ?_) rfl (by kernel_rfl) (by kernel_rfl) (by kernel_rfl) (fun _ _ _ h => h) (Or.inl ⟨by rfl, ?_⟩) (by assumption) ?_
          rotate_left
          · intro w hSw; (try dsimp only at hSw); go_simp <;> (with_reducible rfl)
          try simp only [Act.put, List.setIfInBounds_toArray, List.set_cons_zero, List.set_cons_succ]
          refine heldTake (i := 7) (v := ?_) rfl (by kernel_rfl) (by kernel_rfl) (by kernel_rfl) (fun _ _ _ h => h) (Or.inl ⟨by rfl, ?_⟩) (by assumption) ?_
          rotate_left
          · intro w hSw; (try dsimp only at hSw); go_simp <;> (with_reducible rfl)
          try simp only [Act.put, List.setIfInBounds_toArray, List.set_cons_zero, List.set_cons_succ]
          refine heldTake (i := 8) (v := ?_) rfl (by kernel_rfl) (by kernel_rfl) (by kernel_rfl) (fun _ _ _ h => h) (Or.inl ⟨by rfl, ?_⟩) (by assumption) ?_
          rotate_left
          · intro w hSw; (try dsimp only at hSw); go_simp <;> (with_reducible rfl)
          try simp only [Act.put, List.setIfInBounds_toArray, List.set_cons_zero, List.set_cons_succ]
          refine heldTake (i := 10) (v := .agg (B8 zeroL).toArray) rfl (by kernel_rfl) (by kernel_rfl) (by kernel_rfl) (fun _ _ _ h => h) (Or.inl ⟨by rfl, fun W hW => run_build_none W _ rfl⟩) (by assumption) ?_
          try simp only [Act.put, List.setIfInBounds_toArray, List.set_cons_zero, List.set_cons_succ]
          refine wpAnyH_ready (rs := [9]) (by kernel_rfl) (by simp) ?_
          refine heldCons (i := 9) rfl (fun Kq hKq => ?_) AllReadyH.nil
          go_simp
          go_at_call 11
          refine (RowS.build K (RT_y24.out.later hq1) (by rw [List.length_append, HL.out]) (by omega)).mono ?_
          rintro _ z2 ⟨rfl, hz2⟩
          rw [HTW.out]
          have hq2 : Below y24.heap.size y24 z2 := hq1.trans (hz2.mono hq1.size)
          first | (refine hKq.out _ _ (HFF.out _ hq2) (fun hHeld => ?_)) | (go_wp2_with fail; refine hKq.out _ _ (HFF.out _ hq2) (fun hHeld => ?_))
          clear hKq Kq
          try simp only [Act.put, List.setIfInBounds_toArray, List.set_cons_zero, List.set_cons_succ]
          refine heldTake (i := 11) (v := .bool true) rfl (by kernel_rfl) (by kernel_rfl) (by kernel_rfl) (fun _ _ _ h => h) (Or.inl ⟨by rfl, fun W hW => run_eql_secs UI.out W _ (.tmp 58) (.tmp 59) _ rfl zeroL zeroL zeroL_length zeroL_length rfl rfl true (by simp)⟩) (by assumption) ?_
          try simp only [Act.put, List.setIfInBounds_toArray, List.set_cons_zero, List.set_cons_succ]
          refine heldTake (i := 12) (v := ?_) rfl (by kernel_rfl) (by kernel_rfl) (by kernel_rfl) (fun _ _ _ h => h) (Or.inl ⟨by rfl, ?_⟩) (by assumption) ?_
          rotate_left
          · intro w hSw; (try dsimp only at hSw); go_simp <;> (with_reducible rfl)
          try simp only [Act.put, List.setIfInBounds_toArray, List.set_cons_zero, List.set_cons_succ]
          refine heldTake (i := 13) (v := ?_) rfl (by kernel_rfl) (by kernel_rfl) (by kernel_rfl) (fun _ _ _ h => h) (Or.inl ⟨by rfl, ?_⟩) (by assumption) ?_
          rotate_left
          · intro w hSw; (try dsimp only at hSw); go_simp <;> (with_reducible rfl)
          try simp only [Act.put, List.setIfInBounds_toArray, List.set_cons_zero, List.set_cons_succ]
          refine heldTake (i := 14) (v := ?_) rfl (by kernel_rfl) (by kernel_rfl) (by kernel_rfl) (fun _ _ _ h => h) (Or.inl ⟨by rfl, ?_⟩) (by assumption) ?_
          rotate_left
          · intro w hSw; (try dsimp only at hSw); go_simp <;> (with_reducible rfl)
          try simp only [Act.put, List.setIfInBounds_toArray, List.set_cons_zero, List.set_cons_succ]
          refine heldTake (i := 16) (v := .agg (B8 p).toArray) rfl (by kernel_rfl) (by kernel_rfl) (by kernel_rfl) (fun _ _ _ h => h) (yieldsIf_load_mid (by rfl) _ _ rfl _ _ rfl (B8 p) _ (fun W hW => hW.1) HUN.out rfl IP.out) (by assumption) ?_
          try simp only [Act.put, List.setIfInBounds_toArray, List.set_cons_zero, List.set_cons_succ]
          refine heldTake (i := 17) (v := ?_) rfl (by kernel_rfl) (by kernel_rfl) (by kernel_rfl) (fun _ _ _ h => h) (Or.inl ⟨by rfl, ?_⟩) (by assumption) ?_
          rotate_left
          · intro w hSw; (try dsimp only at hSw); go_simp <;> (with_reducible rfl)
          try simp only [Act.put, List.setIfInBounds_toArray, List.set_cons_zero, List.set_cons_succ]
          refine wpAnyH_ready (rs := [15]) (by kernel_rfl) (by simp) ?_
          refine heldCons (i := 15) rfl (fun Kq hKq => ?_) AllReadyH.nil
          go_simp
          go_at_call 11
          refine (RowS.build K (RO_y24.out.later hq2) (by rw [List.length_append, HL.out, HM.out]) (by omega)).mono ?_
          rintro _ z3 ⟨rfl, hz3⟩
          rw [HBO.out]
          have hq3 : Below y24.heap.size y24 z3 := hq2.trans (hz3.mono hq2.size)
          first | (refine hKq.out _ _ (HFF.out _ hq3) (fun hHeld => ?_)) | (go_wp2_with fail; refine hKq.out _ _ (HFF.out _ hq3) (fun hHeld => ?_))
          clear hKq Kq
          try simp only [Act.put, List.setIfInBounds_toArray, List.set_cons_zero, List.set_cons_succ]
          refine wpAnyH_ready (rs := [18]) (by kernel_rfl) (by simp) ?_
          refine heldCons (i := 18) rfl (fun Kq hKq => ?_) AllReadyH.nil
          go_simp
          go_at_call 11
          refine (K.build_any _ A2 m2 c2 M HSM.out HM.out (HRM.out.later (HL_y24.out.trans (hq3.mono HL_y24.out.size))) (Nat.le_trans hmn2 hc3) hc4 (by omega)).mono ?_
          rintro _ z4 ⟨rfl, hz4⟩
          rw [← HPK.out]
          have hq4 : Below y24.heap.size y24 z4 := hq3.trans (hz4.mono hq3.size)
          first | (refine hKq.out _ _ (HFF.out _ hq4) (fun hHeld => ?_)) | (go_wp2_with fail; refine hKq.out _ _ (HFF.out _ hq4) (fun hHeld => ?_))
          clear hKq Kq
          try simp only [Act.put, List.setIfInBounds_toArray, List.set_cons_zero, List.set_cons_succ]
          refine wpAnyH_ready (rs := [19]) (by kernel_rfl) (by simp) ?_
          refine heldCons (i := 19) rfl (fun Kq hKq => ?_) AllReadyH.nil
          go_simp
          go_at_call 13
          refine (K.xor_any _ p pk LP.out LK.out).mono ?_
          rintro _ z5 ⟨rfl, hz5⟩
          have hq5 : Below y24.heap.size y24 z5 := hq4.trans (hz5.mono hq4.size)
          first | (refine hKq.out _ _ (HFF.out _ hq5) (fun hHeld => ?_)) | (go_wp2_with fail; refine hKq.out _ _ (HFF.out _ hq5) (fun hHeld => ?_))
          clear hKq Kq
          try simp only [Act.put, List.setIfInBounds_toArray, List.set_cons_zero, List.set_cons_succ]
          refine heldTake (i := 20) (v := .bool true) rfl (by kernel_rfl) (by kernel_rfl) (by kernel_rfl) (fun _ _ _ h => h) (Or.inl ⟨by rfl, fun W hW => run_eql_secs UI.out W _ (.tmp 64) (.tmp 68) _ rfl (xorL p pk) (xorL p pk) (xorL_length LP.out LK.out) (xorL_length LP.out LK.out) rfl rfl true (by simp)⟩) (by assumption) ?_
          try simp only [Act.put, List.setIfInBounds_toArray, List.set_cons_zero, List.set_cons_succ]
          refine heldTake (i := 21) (v := ?_) rfl (by kernel_rfl) (by kernel_rfl) (by kernel_rfl) (fun _ _ _ h => h) (Or.inl ⟨by rfl, ?_⟩) (by assumption) ?_
          rotate_left
          · intro w hSw; (try dsimp only at hSw); go_simp <;> (with_reducible rfl)
          try simp only [Act.put, List.setIfInBounds_toArray, List.set_cons_zero, List.set_cons_succ]
          refine heldTake (i := 22) (v := ?_) rfl (by kernel_rfl) (by kernel_rfl) (by kernel_rfl) (fun _ _ _ h => h) (Or.inl ⟨by rfl, ?_⟩) (by assumption) ?_
          rotate_left
          · intro w hSw; (try dsimp only at hSw); go_simp <;> (with_reducible rfl)
          try simp only [Act.put, List.setIfInBounds_toArray, List.set_cons_zero, List.set_cons_succ]
          refine wpAnyH_done (by kernel_rfl) ?_ _
          go_wp2_with fail
          go_ret
          exact ⟨rfl, HL_y24.out.trans (hq5.mono HL_y24.out.size)⟩
#print axioms parityOrder_walk
end Go.Proofs.Ytdebdkagmnccjaa
