/- The banks that stage 4's laws begin with: three disks of 200 sectors, of these labels' sectors and raw ones; the same on both sides. -/
import Derived.Test.YtbbfgcekjelmkaaRefKA
import Derived.Test.YtbbfgcekjelmkaaRefLP
import Derived.Test.YtbbfgcekjelmkaaQuiet
import Derived.Test.YtbbfgcekjelmkaaArgLs
namespace Go.Proofs.Ytbbfgcekjelmkaa
open Go.RowKit
set_option linter.unusedVariables false

def rawTo (g : Nat → Sec) : Nat → Bank
  | 0 => Three
  | i + 1 => ((rawTo g i).write (i % 3) (i / 3) (g i)).2
/-- One bit of a generation. -/
def lowBit (v : Int) : Nat := (v % 2).toNat
def labTo (S : Bank) (f : Nat → LabV) : Nat → Bank
  | 0 => S
  | i + 1 => if rightB (cutL (f i).1) then ((labTo S f i).write (i % 3) (lowBit (f i).1.gen) (labS (cutL (f i).1))).2 else labTo S f i
def lawB (f : Nat → LabV) (n : Nat) (g : Nat → Sec) (m : Nat) : Bank := labTo (rawTo g (min m 6)) f (min n 6)
theorem Quiet.write_ {S : Bank} (h : Quiet 200 S) {d k : Nat} (hd : d < 3) (hk : k < 200) (s : Sec) : Quiet 200 (S.write d k s).2 ∧ (S.write d k s).1 = 0 ∧ (S.write d k s).2.writes = S.writes + 1 := by
  rw [h.write hd hk s]
  exact ⟨(h.wrote).put d k s, rfl, rfl⟩
theorem rawTo_quiet (g : Nat → Sec) : ∀ i, i ≤ 6 → Quiet 200 (rawTo g i) ∧ (rawTo g i).writes ≤ i
  | 0, _ => ⟨quiet_three, Nat.le_refl _⟩
  | i + 1, hi => by
    obtain ⟨h1, h2⟩ := rawTo_quiet g i (by omega)
    obtain ⟨h3, _, h4⟩ := h1.write_ (d := i % 3) (k := i / 3) (by omega) (by omega) (g i)
    exact ⟨h3, by show ((rawTo g i).write (i % 3) (i / 3) (g i)).2.writes ≤ _; omega⟩
theorem labTo_quiet {S : Bank} (hS : Quiet 200 S) (hw : S.writes ≤ 6) (f : Nat → LabV) : ∀ i, i ≤ 6 → Quiet 200 (labTo S f i) ∧ (labTo S f i).writes ≤ 6 + i
  | 0, _ => ⟨hS, hw⟩
  | i + 1, hi => by
    obtain ⟨h1, h2⟩ := labTo_quiet hS hw f i (by omega)
    rw [labTo]
    split
    · obtain ⟨h3, _, h4⟩ := h1.write_ (d := i % 3) (k := lowBit (f i).1.gen) (by omega) (by unfold lowBit; omega) (labS (cutL (f i).1))
      exact ⟨h3, by omega⟩
    · exact ⟨h1, by omega⟩
theorem lawB_quiet (f : Nat → LabV) (n : Nat) (g : Nat → Sec) (m : Nat) : Quiet 200 (lawB f n g m) ∧ (lawB f n g m).writes ≤ 12 := by
  obtain ⟨h1, h2⟩ := rawTo_quiet g (min m 6) (by omega)
  obtain ⟨h3, h4⟩ := labTo_quiet h1 (by omega) f (min n 6) (by omega)
  exact ⟨h3, by unfold lawB; omega⟩
theorem low_bit (v : Int) : bits .and .i64 v 1 = (lowBit v : Int) ∧ lowBit v < 2 := by
  have h := i64_mask v 1 (by decide)
  have h2 : bits .and .i64 v 1 = v % 2 := h
  rw [h2]
  unfold lowBit
  omega
/-- Both banks, side by side. -/
structure Both (w0 w : World) (b r : Nat) (S : Bank) : Prop where
  ex : ∃ F G : Nat → Prop, BankOn w b F S ∧ RefOn w r G S ∧ (∀ x, F x → ¬ G x) ∧ (∀ x, F x ∨ G x → w0.heap.size ≤ x)
  low : Below w0.heap.size w0 w
theorem Both.later {w0 w w' : World} {b r : Nat} {S : Bank} (h : Both w0 w b r S) (hb : Below w.heap.size w w') : Both w0 w' b r S := by
  obtain ⟨⟨F, G, h1, h2, h3, h4⟩, h5⟩ := h
  exact ⟨⟨F, G, h1.later hb, h2.later hb, h3, h4⟩, h5.trans (hb.mono h5.size)⟩
/-- A block that lies in neither bank. -/
structure Free (w : World) (b r : Nat) (S : Bank) (g : Nat) : Prop where
  free : True
/-- First the code's bank turns, then the reference's. -/
theorem both_step {w0 w w1 : World} {b r : Nat} {S T : Bank} {F G : Nat → Prop} (h2 : RefOn w r G S) (h3 : ∀ x, F x → ¬ G x) (hB : BankOn w1 b F T) (hT : Turn F w w1) : RefOn w1 r G S := h2.kept hT (fun x hx hf => h3 x hf hx)
theorem both_next {w0 w1 w2 : World} {b r : Nat} {T : Bank} {F G : Nat → Prop} (h3 : ∀ x, F x → ¬ G x) (h4 : ∀ x, F x ∨ G x → w0.heap.size ≤ x) (hB : BankOn w1 b F T) (hR : RefOn w2 r (More G w1 w2) T) (hT : Turn G w1 w2) (h5 : Below w0.heap.size w0 w1) : Both w0 w2 b r T := by
  have hs := h5.size
  refine ⟨⟨F, More G w1 w2, hB.kept hT (fun x hx hg => h3 x hx hg), hR, fun x hx hg => ?_, fun x hx => ?_⟩, h5.trans (hT.below_ hs (fun x hx => h4 x (.inr hx)))⟩
  · rcases hg with hg | hg
    · exact h3 x hx hg
    · have := hB.1 x hx
      omega
  · rcases hx with hx | hx | hx
    · exact h4 x (.inl hx)
    · exact h4 x (.inr hx)
    · omega
set_option maxRecDepth 100000 in
set_option maxHeartbeats 8000000 in
theorem bank_any (A : Option Addr) (n c : Nat) (f : Nat → LabV) (C : Option Addr) (m e : Nat) (g : Nat → Sec) (w : World) (hf : LabsIn w w.heap.size A n c f) (hg : SecsIn w w.heap.size C m g) (hme : m ≤ e) (he63 : e ≤ 9223372036854775807) :
    Calls Try.prog 19 #[.slice A n c, .slice C m e] w fun e w' => (∃ b r, e = .returned (.tuple #[.pointer (some ⟨b, 0, none⟩), .pointer (some ⟨r, 0, none⟩)]) ∧ Both w w' b r (lawB f n g m)) ∧ Below w.heap.size w w' := by
  have HF := hide hf
  have HG := hide hg
  have hn63 := hf.2.1
  have hnc := hf.1
  clear hf hg
  go_enter Try.func19, Try.ntmps19
  go_wp2_with (first
    | (go_at_call 46; refine (newBank_any w).mono ?_; rintro _ w1 ⟨rfl, hB1, hl1⟩)
    | (go_at_call 47; refine (rNew_any w1).mono ?_; rintro _ w2 ⟨rfl, hS2, hl2, hz2⟩))
  have hz1 := hl1.size
  have HBo : Hid (Both w w2 w.heap.size w1.heap.size Bank.new) := by
    refine ⟨⟨_, _, hB1.on.later hl2, hS2, fun x h1 h2 => ?_, fun x h => ?_⟩, hl1.trans (hl2.mono hz1)⟩
    · have h3 := h1.2
      have h4 : x = w1.heap.size := h2
      omega
    · rcases h with h | h
      · exact h.1
      · have h4 : x = w1.heap.size := h
        omega
  clear hB1 hl1 hl2 hS2
  go_loopw [8] (fun s8 wr => ∃ i : Nat, s8 = .int .i64 (i : Int) ∧ i ≤ 3 ∧ Hid (Both w wr w.heap.size w1.heap.size (ThreeTo i))) (fun s8 _ => 3 - (intOf s8).toNat)
  case atStart => exact ⟨0, rfl, by decide, HBo⟩
  case round =>
    obtain ⟨i, rfl, hi, hbo⟩ := hrel
    obtain ⟨wo, rfl⟩ : ∃ wo, wo = wr := ⟨_, rfl⟩
    by_cases hi3 : i < 3
    · have hg1 : (i : Int) < 3 := by omega
      obtain ⟨F, G, hB, hS, hd, hlo⟩ := hbo.out.ex
      have hlow := hbo.out.low
      have HB := hide hB
      have HS := hide hS
      have HD := hide hd
      have HLO := hide hlo
      have HLOW := hide hlow
      clear hB hS hd hlo hlow hbo
      go_wp2_with fail
      refine (on_add HB.out 200 (by decide) (by decide) (by rw [ThreeTo_n]; omega)).mono ?_
      rintro _ w3 ⟨rfl, hB3, hT3⟩
      have hS3 := HS.out.kept hT3 (fun x hx hf => HD.out x hf hx)
      have hz3 := hT3.size
      have hL3 := HLOW.out.trans (hT3.below_ HLOW.out.size (fun x hx => HLO.out x (.inl hx)))
      have HB3 := hide hB3
      have HS3 := hide hS3
      have HL3 := hide hL3
      clear hB3 hS3 hT3 hL3
      go_wp2_with fail
      refine (rOn_add HS3.out 200 (by decide) (by decide) (by rw [ThreeTo_n]; omega)).mono ?_
      rintro _ w4 ⟨⟨v, rfl⟩, hS4, hT4⟩
      have HB4 : Hid (Both w w4 w.heap.size w1.heap.size (ThreeTo (i + 1))) := by
        have hs := HLOW.out.size
        refine both_next (fun x hx hg => ?_) (fun x hx => ?_) HB3.out hS4 hT4 HL3.out
        · rcases hx with hx | hx
          · exact HD.out x hx hg
          · have := HS.out.1 x hg
            omega
        · rcases hx with (hx | hx) | hx
          · exact HLO.out x (.inl hx)
          · omega
          · exact HLO.out x (.inr hx)
      clear hS4 hT4
      go_wp2_with fail
      go_roundw
      case rel => exact ⟨i + 1, by simp, by omega, HB4⟩
      case measure => simp [intOf]; omega
    · obtain rfl : i = 3 := by omega
      rw [show ((3 : Nat) : Int) = 3 from rfl]
      go_wp2_with fail
      go_loopw [9, 10] (fun s9 _ wr => ∃ i : Nat, s9 = .int .i64 (i : Int) ∧ i ≤ m ∧ i ≤ 6 ∧ Hid (Both w wr w.heap.size w1.heap.size (rawTo g i))) (fun s9 _ _ => 6 - (intOf s9).toNat)
      case atStart => exact ⟨0, rfl, Nat.zero_le _, by decide, hbo⟩
      case round =>
        obtain ⟨i, rfl, him, hi6, hbo⟩ := hrel
        obtain ⟨wo, rfl⟩ : ∃ wo, wo = wr := ⟨_, rfl⟩
        by_cases hlt : i < m ∧ i < 6
        · have hg1 : (i : Int) < (m : Int) := by omega
          have hg2 : (i : Int) < 6 := by omega
          obtain ⟨F, G, hB, hS, hd, hlo⟩ := hbo.out.ex
          have hlow := hbo.out.low
          obtain ⟨ad, rfl, hadb, hcs⟩ := (HG.out.below hlow) (by omega)
          obtain ⟨hq, hqw⟩ := rawTo_quiet g i hi6
          obtain ⟨U, hU⟩ : ∃ U, U = secL (g i) := ⟨_, rfl⟩
          have hUl : U.length = 64 := by rw [hU, secL_length]
          have hiU : (Try.prog.info? 26).map (·.size) = some U.length := by rw [hUl]; exact sec_info
          have hs : secV (g i) = .agg U.toArray := by rw [hU]; rfl
          have hpl : ([.int .i64 ((i : Int) % 3), .int .i64 ((i : Int) / 3)] : List Value) = placeL (i % 3, i / 3) := by
            show _ = [Value.int .i64 (((i % 3 : Nat)) : Int), Value.int .i64 (((i / 3 : Nat)) : Int)]
            rw [show (((i % 3 : Nat)) : Int) = (i : Int) % 3 by omega, show (((i / 3 : Nat)) : Int) = (i : Int) / 3 by omega]
          have HW1 := hide (fun w5 (h : BankOn w5 w.heap.size F (rawTo g i)) => on_write h (by omega) (i % 3) (i / 3) (g i))
          have HW2 := hide (fun w5 G2 (h : RefOn w5 w1.heap.size G2 (rawTo g i)) => rOn_write h (by omega) (i % 3) (i / 3) (g i))
          rw [hs] at HW1 HW2
          have HCS := hide (fun w5 (hb : Below w.heap.size wo w5) (j : Nat) (v : Value) (hj : (secL (g i))[j]? = some v) => (hb.cell (p := (ad.add (i * 64)).add j) (by rw [block_of_add, block_of_add]; exact hadb)).trans (hcs i hlt.1 j v hj))
          rw [← hU] at HCS
          have HIU := hide hiU
          have HPL := hide hpl
          have HB := hide hB
          have HS := hide hS
          have HD := hide hd
          have HLO := hide hlo
          have HLOW := hide hlow
          have hsw := HLOW.out.size
          clear hB hS hd hlo hlow hbo hcs hq hU hUl hiU hs hpl
          go_wp2_with (first
            | (refine wpList_alloc_blk rfl 59 rfl _ (place_zero wo) ?_; intro w3 hb3 hl3 hs3; clear hs3)
            | (refine wpList_store_all rfl 59 (.tmp 10) (.tmp 42) rfl wo.heap.size 59 _ hb3 rfl [.int .i64 ((i : Int) % 3), .int .i64 ((i : Int) / 3)] rfl rplace_info rfl (by intro v hv; simp at hv; rcases hv with rfl | rfl <;> rfl) ?_; intro w4 hb4 hg4 hs4; clear hs4))
          rw [HPL.out] at hb4
          have hl04 : Below wo.heap.size wo w4 := hl3.grown hg4 (by have := hl3.size; omega) (fun g e => by injection e with e; omega)
          have HX4 := hide hb4
          have HL4 := hide hl04
          have hz4 := hb4.lt
          have hz04 := hl04.size
          clear hb3 hl3 hb4 hg4 hl04
          have HP4 := hide (fun (w5 : World) (hx : Blk w5 wo.heap.size 59 (placeL (i % 3, i / 3)).toArray) (j : Nat) (v : Value) (hj : (placeL (i % 3, i / 3))[j]? = some v) => show w5.cell? ((⟨wo.heap.size, 0, none⟩ : Addr).add j) = some v from by
            have hadd : (⟨wo.heap.size, 0, none⟩ : Addr).add j = ⟨wo.heap.size, j, none⟩ := by unfold Addr.add; split <;> simp_all
            rw [hadd, hx.cell j]
            simpa using hj)
          refine wp_region_still_tail 6 (by kernel_rfl) (by kernel_rfl) ?_
          change wpStill _ _ w4.drew _ _ _
          simp only [List.take_succ_cons, List.take_zero, List.drop_succ_cons, List.drop_zero]
          still_step
          refine still_load_at rfl 59 (.tmp 10) rfl ⟨wo.heap.size, 0, none⟩ rfl (placeL (i % 3, i / 3)) _ (HP4.out _ HX4.out.drew) Try.underlying59 rfl rplace_info ?_
          iterate 3 still_step
          refine still_load_at rfl 26 (.tmp 47) rfl (ad.add (i * 64)) rfl U _ (HCS.out _ ((HL4.out.mono hsw).drew)) Try.underlying26 rfl HIU.out ?_
          refine wpStill_nil ?_
          change wpList _ _ _ _ _ w4.drew
          go_wp2_with fail
          refine (HW1.out w4.drew (HB.out.later HL4.out.drew)).mono ?_
          rintro _ w5 ⟨rfl, hB5, hT5⟩
          have hnF : ¬ F wo.heap.size := fun hf => by have := HB.out.1 _ hf; omega
          have hnG : ¬ G wo.heap.size := fun hf => by have := HS.out.1 _ hf; omega
          have HX5 := hide (HX4.out.drew.turned hT5 hnF)
          have HS5 := hide ((HS.out.later HL4.out.drew).kept hT5 (fun x hx hf => HD.out x hf hx))
          have HL5 : Hid (Below w.heap.size wo w5) := ((HL4.out.drew).mono hsw).trans (hT5.below_ (by show w.heap.size ≤ w4.heap.size; omega) (fun x hx => HLO.out x (.inl hx)))
          have HB5 := hide hB5
          have hz5 : w4.heap.size ≤ w5.heap.size := hT5.size
          clear hB5 hT5
          go_wp2_with fail
          refine wp_region_still_tail 6 (by kernel_rfl) (by kernel_rfl) ?_
          change wpStill _ _ w5.drew _ _ _
          simp only [List.take_succ_cons, List.take_zero, List.drop_succ_cons, List.drop_zero]
          still_step
          refine still_load_at rfl 59 (.tmp 10) rfl ⟨wo.heap.size, 0, none⟩ rfl (placeL (i % 3, i / 3)) _ (HP4.out _ HX5.out.drew) Try.underlying59 rfl rplace_info ?_
          iterate 3 still_step
          refine still_load_at rfl 26 (.tmp 54) rfl (ad.add (i * 64)) rfl U _ (HCS.out _ HL5.out.drew) Try.underlying26 rfl HIU.out ?_
          refine wpStill_nil ?_
          change wpList _ _ _ _ _ w5.drew
          go_wp2_with fail
          refine (HW2.out w5.drew G (HS5.out.later ((Below.refl _ _).drew))).mono ?_
          rintro _ w6 ⟨rfl, hS6, hT6⟩
          have HB6 : Hid (Both w w6 w.heap.size w1.heap.size (rawTo g (i + 1))) := both_next HD.out HLO.out (HB5.out.later ((Below.refl _ _).drew)) hS6 hT6 ((HLOW.out.trans HL5.out).drew)
          clear hS6 hT6
          go_wp2_with fail
          go_roundw
          case rel => exact ⟨i + 1, by simp, by omega, by omega, HB6⟩
          case measure => simp [intOf]; omega
        · have hend : min m 6 = i := by omega
          have HEND := hide (show rawTo g i = rawTo g (min m 6) by rw [hend])
          have hdec : (decide ((i : Int) < (m : Int)) && decide ((i : Int) < 6)) = false := by simp; omega
          clear hdec
          by_cases h1 : i < m
          · have hd5 : decide ((i : Int) < 6) = false := by simp; omega
            have hd6 : decide ((i : Int) < (m : Int)) = true := by simp; omega
            rw [HEND.out] at hbo
            go_wp2_with fail
            obtain ⟨hq0, hqw0⟩ := rawTo_quiet g (min m 6) (by omega)
            obtain ⟨S0, hS0⟩ : ∃ S0, S0 = rawTo g (min m 6) := ⟨_, rfl⟩
            rw [← hS0] at hbo hq0 hqw0
            have HS0 := hide hS0
            have HQ0 := hide (And.intro hq0 (show S0.writes ≤ 6 by omega))
            have HBO := hide hbo.out
            clear hS0 hq0 hqw0 hbo hlt HEND hend hd5
            go_loopw [11, 12, 13, 14] (fun s11 _ _ _ wr => ∃ i : Nat, s11 = .int .i64 (i : Int) ∧ i ≤ n ∧ i ≤ 6 ∧ Hid (Both w wr w.heap.size w1.heap.size (labTo S0 f i))) (fun s11 _ _ _ _ => 6 - (intOf s11).toNat)
            case atStart => exact ⟨0, rfl, Nat.zero_le _, by decide, HBO⟩
            case round =>
              obtain ⟨i, rfl, him, hi6, hbo⟩ := hrel
              obtain ⟨wo, rfl⟩ : ∃ wo, wo = wr := ⟨_, rfl⟩
              by_cases hlt : i < n ∧ i < 6
              · have hg1 : (i : Int) < (n : Int) := by omega
                have hg2 : (i : Int) < 6 := by omega
                obtain ⟨F, G, hB, hS, hd, hlo⟩ := hbo.out.ex
                have hlow := hbo.out.low
                obtain ⟨ad, rfl, hadb, hcs⟩ := (HF.out.below hlow).2.2 (by omega)
                obtain ⟨hcl, hmb⟩ := hcs i hlt.1
                obtain ⟨hq, hqw⟩ := labTo_quiet HQ0.out.1 HQ0.out.2 f i hi6
                obtain ⟨⟨l, Am, nm, cm⟩, hfi⟩ : ∃ x, x = f i := ⟨_, rfl⟩
                rw [← hfi] at hcl hmb
                obtain ⟨K, hK⟩ : ∃ K, K = cutL l := ⟨_, rfl⟩
                obtain ⟨lb1, lb2⟩ := low_bit l.gen
                obtain ⟨U, hU⟩ : ∃ U, U = secL (putS K) := ⟨_, rfl⟩
                have hUl : U.length = 64 := by rw [hU, secL_length]
                have hUo : ∀ v ∈ U, v.oneCell' = true := by rw [hU]; exact secL_one _
                have hiU : (Try.prog.info? 26).map (·.size) = some U.length := by rw [hUl]; exact sec_info
                have hs : secV (putS K) = .agg U.toArray := by rw [hU]; rfl
                have HSc := hide (hlow.size)
                have HCut := hide (cut_any l Am nm cm w.heap.size wo hmb hlow.size)
                rw [← hK] at HCut
                have HPut := hide (fun A' n' c' B0 w5 => refLput_any K A' n' c' B0 w5)
                rw [hs] at HPut
                have HCL := hide hcl
                have HGC := hide (fun (w5 : World) (hb : Below w.heap.size wo w5) => show w5.cell? ((ad.add (i * 5)).add 1) = some (.int .i64 l.gen) from (hb.cell (p := (ad.add (i * 5)).add 1) (by rw [block_of_add, block_of_add]; exact hadb)).trans (hcl 1 _ rfl))
                have HSTEP := hide (show labTo S0 f (i + 1) = if rightB K then ((labTo S0 f i).write (i % 3) (lowBit l.gen) (labS K)).2 else labTo S0 f i by rw [labTo, ← hfi, hK])
                have HIU := hide hiU
                have HUO := hide hUo
                have HUl := hide hUl
                have HSV := hide hs
                have HB := hide hB
                have HS := hide hS
                have HD := hide hd
                have HLO := hide hlo
                have HLOW := hide hlow
                have HLB := hide lb1
                have hsw := HLOW.out.size
                clear hB hS hd hlo hlow hcs hcl hmb hq hU hUl hUo hiU hs hfi hK lb1
                cases hr : rightB K with
                | false =>
                  have hE : putE K = 1 := by rw [putE, hr]; rfl
                  have HST := hide (show labTo S0 f (i + 1) = labTo S0 f i by rw [HSTEP.out, hr]; rfl)
                  rw [hE] at HPut
                  clear hr hE
                  go_wp2_with (first
                    | (refine wpList_load_at rfl 24 (.tmp 70) rfl (ad.add (i * 5)) rfl (labC l Am nm cm) _ HCL.out Try.underlying24 rfl lab_info ?_))
                  refine HCut.out.mono ?_
                  rintro _ w3 ⟨⟨A3, n3, c3, rfl, hG3⟩, hl3⟩
                  have HG3 := hide hG3
                  have HL3 := hide hl3
                  clear hG3 hl3
                  go_wp2_with fail
                  refine (HPut.out A3 n3 c3 w3.heap.size w3 HG3.out.1 (Nat.le_refl _)).mono ?_
                  rintro _ w4 ⟨rfl, hl4⟩
                  have hz3 := HL3.out.size
                  have HL4 := hide (HL3.out.trans (hl4.mono hz3))
                  clear hl4
                  go_wp2_with (first
                    | (refine wpList_alloc_blk rfl 26 rfl _ (sec_zero w4) ?_; intro w5 hb5 hl5 hs5; clear hs5)
                    | (refine wpList_store_all rfl 26 (.tmp 12) (.tmp 74) rfl w4.heap.size 26 _ hb5 rfl U rfl HIU.out (HUl.out.trans (secL_length zeroSec).symm) HUO.out ?_; intro w6 hb6 hg6 hs6; clear hs6))
                  have hz4 := HL4.out.size
                  have hl46 : Below w4.heap.size w4 w6 := hl5.grown hg6 (by have := hl5.size; omega) (fun g e => by injection e with e; omega)
                  have HBN : Hid (Both w w6 w.heap.size w1.heap.size (labTo S0 f (i + 1))) := by show Both _ _ _ _ _; rw [HST.out]; exact hbo.out.later (HL4.out.trans (hl46.mono hz4))
                  clear hb5 hl5 hb6 hg6 hl46
                  go_roundw
                  case rel => exact ⟨i + 1, by simp, by omega, by omega, HBN⟩
                  case measure => simp [intOf]; omega
                | true =>
                  have hE : putE K = 0 := by rw [putE, hr]; rfl
                  have hPS : putS K = labS K := by rw [putS, hr]; rfl
                  have HST := hide (show labTo S0 f (i + 1) = ((labTo S0 f i).write (i % 3) (lowBit l.gen) (putS K)).2 by rw [HSTEP.out, hr, hPS]; rfl)
                  rw [hE] at HPut
                  have hpl : ([.int .i64 ((i : Int) % 3), .int .i64 ((lowBit l.gen : Nat) : Int)] : List Value) = placeL (i % 3, lowBit l.gen) := by
                    show _ = [Value.int .i64 (((i % 3 : Nat)) : Int), Value.int .i64 ((lowBit l.gen : Nat) : Int)]
                    rw [show (((i % 3 : Nat)) : Int) = (i : Int) % 3 by omega]
                  have HPL := hide hpl
                  have HW1 := hide (fun w5 (h : BankOn w5 w.heap.size F (labTo S0 f i)) => on_write h (by omega) (i % 3) (lowBit l.gen) (putS K))
                  have HW2 := hide (fun w5 G2 (h : RefOn w5 w1.heap.size G2 (labTo S0 f i)) => rOn_write h (by omega) (i % 3) (lowBit l.gen) (putS K))
                  rw [HSV.out] at HW1 HW2
                  have hlbx := HLB.out
                  clear hr hE hPS hpl hbo
                  go_wp2_with (first
                    | (refine wpList_load_at rfl 24 (.tmp 70) rfl (ad.add (i * 5)) rfl (labC l Am nm cm) _ HCL.out Try.underlying24 rfl lab_info ?_))
                  refine HCut.out.mono ?_
                  rintro _ w3 ⟨⟨A3, n3, c3, rfl, hG3⟩, hl3⟩
                  have HG3 := hide hG3
                  have HL3 := hide hl3
                  clear hG3 hl3
                  go_wp2_with fail
                  refine (HPut.out A3 n3 c3 w3.heap.size w3 HG3.out.1 (Nat.le_refl _)).mono ?_
                  rintro _ w4 ⟨rfl, hl4⟩
                  have hz3 := HL3.out.size
                  have HL4 := hide (HL3.out.trans (hl4.mono hz3))
                  have hz4 := HL4.out.size
                  clear hl4
                  go_wp2_with (first
                    | (refine wpList_alloc_blk rfl 26 rfl _ (sec_zero w4) ?_; intro w5 hb5 hl5 hs5; clear hs5)
                    | (refine wpList_store_all rfl 26 (.tmp 12) (.tmp 74) rfl w4.heap.size 26 _ hb5 rfl U rfl HIU.out (HUl.out.trans (secL_length zeroSec).symm) HUO.out ?_; intro w6 hb6 hg6 hs6; clear hs6; have hz5 := hb6.lt; have hl46 : Below w4.heap.size w4 w6 := hl5.grown hg6 (by have := hl5.size; omega) (fun g e => by injection e with e; omega); have HL6 := hide (HL4.out.trans (hl46.mono hz4)); have HY6 := hide hb6; have hgc : w6.cell? ⟨(ad.add (i * 5)).block, (ad.add (i * 5)).off + 1, none⟩ = some (.int .i64 l.gen) := HGC.out w6 (HL6.out.mono hsw); clear hb5 hl5 hb6 hg6 hl46)
                    | (refine wpList_alloc_blk rfl 59 rfl _ (place_zero w6) ?_; intro w7 hb7 hl7 hs7; clear hs7)
                    | (refine wpList_store_all rfl 59 (.tmp 14) (.tmp 86) rfl w6.heap.size 59 _ hb7 rfl [.int .i64 ((i : Int) % 3), .int .i64 ((lowBit l.gen : Nat) : Int)] rfl rplace_info rfl (by intro v hv; simp at hv; rcases hv with rfl | rfl <;> rfl) ?_; intro w8 hb8q hg8 hs8; clear hs8; have hb8 : Blk w8 w6.heap.size 59 (placeL (i % 3, lowBit l.gen)).toArray := by { have hq := hb8q; rw [HPL.out] at hq; exact hq }; clear hb8q; have hl68 : Below w6.heap.size w6 w8 := hl7.grown hg8 (by have := hl7.size; omega) (fun g e => by injection e with e; omega); have HL8 := hide (HL6.out.trans (hl68.mono HL6.out.size)); have HY8 := hide (HY6.out.below hl68 HY6.out.lt); have HX8 := hide hb8; have hz8 := hb8.lt; clear hb7 hl7 hg8 hl68 hb8 hgc)
                    | (refine wpList_load_blk rfl 59 (.tmp 14) rfl w6.heap.size 0 59 _ HX8.out rfl (placeL (i % 3, lowBit l.gen)) _ (fun j v hj => by rw [Nat.zero_add]; simpa using hj) Try.underlying59 rfl rplace_info ?_)
                    | (refine wpList_load_blk rfl 26 (.tmp 12) rfl w4.heap.size 0 26 _ HY8.out rfl U _ (fun j v hj => by rw [Nat.zero_add]; simpa using hj) Try.underlying26 rfl HIU.out ?_))
                  refine (HW1.out w8 (HB.out.later HL8.out)).mono ?_
                  rintro _ w9 ⟨rfl, hB9, hT9⟩
                  have hnF6 : ¬ F w6.heap.size := fun hf => by have := HB.out.1 _ hf; have := HL6.out.size; omega
                  have hnF4 : ¬ F w4.heap.size := fun hf => by have := HB.out.1 _ hf; omega
                  have HX9 := hide (HX8.out.turned hT9 hnF6)
                  have HY9 := hide (HY8.out.turned hT9 hnF4)
                  have HS9 := hide ((HS.out.later HL8.out).kept hT9 (fun x hx hf => HD.out x hf hx))
                  have HL9 : Hid (Below w.heap.size wo w9) := (HL8.out.mono hsw).trans (hT9.below_ (by have := HL8.out.size; omega) (fun x hx => HLO.out x (.inl hx)))
                  have HB9 := hide hB9
                  clear hB9 hT9
                  go_wp2_with (first
                    | (refine wpList_load_blk rfl 59 (.tmp 14) rfl w6.heap.size 0 59 _ HX9.out rfl (placeL (i % 3, lowBit l.gen)) _ (fun j v hj => by rw [Nat.zero_add]; simpa using hj) Try.underlying59 rfl rplace_info ?_)
                    | (refine wpList_load_blk rfl 26 (.tmp 12) rfl w4.heap.size 0 26 _ HY9.out rfl U _ (fun j v hj => by rw [Nat.zero_add]; simpa using hj) Try.underlying26 rfl HIU.out ?_))
                  refine (HW2.out w9 G HS9.out).mono ?_
                  rintro _ w10 ⟨rfl, hS10, hT10⟩
                  have HBN : Hid (Both w w10 w.heap.size w1.heap.size (labTo S0 f (i + 1))) := by show Both _ _ _ _ _; rw [HST.out]; exact both_next HD.out HLO.out HB9.out hS10 hT10 (HLOW.out.trans HL9.out)
                  clear hS10 hT10
                  go_wp2_with fail
                  go_roundw
                  case rel => exact ⟨i + 1, by simp, by omega, by omega, HBN⟩
                  case measure => simp [intOf]; omega
              · have hend : min n 6 = i := by omega
                have HFIN := hide (show labTo S0 f i = lawB f n g m by rw [HS0.out, ← hend]; rfl)
                rw [HFIN.out] at hbo
                by_cases h1 : i < n
                · have hd5 : decide ((i : Int) < 6) = false := by simp; omega
                  have hd6 : decide ((i : Int) < (n : Int)) = true := by simp; omega
                  go_wp2_with fail
                  go_ret2
                  exact ⟨⟨_, _, rfl, hbo.out⟩, hbo.out.low⟩
                · have hd5 : decide ((i : Int) < (n : Int)) = false := by simp; omega
                  go_wp2_with fail
                  go_ret2
                  exact ⟨⟨_, _, rfl, hbo.out⟩, hbo.out.low⟩
          · have hd5 : decide ((i : Int) < (m : Int)) = false := by simp; omega
            have hnw : ¬ ((i : Int) < (m : Int)) := by omega
            rw [HEND.out] at hbo
            go_wp2_with fail
            obtain ⟨hq0, hqw0⟩ := rawTo_quiet g (min m 6) (by omega)
            obtain ⟨S0, hS0⟩ : ∃ S0, S0 = rawTo g (min m 6) := ⟨_, rfl⟩
            rw [← hS0] at hbo hq0 hqw0
            have HS0 := hide hS0
            have HQ0 := hide (And.intro hq0 (show S0.writes ≤ 6 by omega))
            have HBO := hide hbo.out
            clear hS0 hq0 hqw0 hbo hlt HEND hend hd5
            go_loopw [11, 12, 13, 14] (fun s11 _ _ _ wr => ∃ i : Nat, s11 = .int .i64 (i : Int) ∧ i ≤ n ∧ i ≤ 6 ∧ Hid (Both w wr w.heap.size w1.heap.size (labTo S0 f i))) (fun s11 _ _ _ _ => 6 - (intOf s11).toNat)
            case atStart => exact ⟨0, rfl, Nat.zero_le _, by decide, HBO⟩
            case round =>
              obtain ⟨i, rfl, him, hi6, hbo⟩ := hrel
              obtain ⟨wo, rfl⟩ : ∃ wo, wo = wr := ⟨_, rfl⟩
              by_cases hlt : i < n ∧ i < 6
              · have hg1 : (i : Int) < (n : Int) := by omega
                have hg2 : (i : Int) < 6 := by omega
                obtain ⟨F, G, hB, hS, hd, hlo⟩ := hbo.out.ex
                have hlow := hbo.out.low
                obtain ⟨ad, rfl, hadb, hcs⟩ := (HF.out.below hlow).2.2 (by omega)
                obtain ⟨hcl, hmb⟩ := hcs i hlt.1
                obtain ⟨hq, hqw⟩ := labTo_quiet HQ0.out.1 HQ0.out.2 f i hi6
                obtain ⟨⟨l, Am, nm, cm⟩, hfi⟩ : ∃ x, x = f i := ⟨_, rfl⟩
                rw [← hfi] at hcl hmb
                obtain ⟨K, hK⟩ : ∃ K, K = cutL l := ⟨_, rfl⟩
                obtain ⟨lb1, lb2⟩ := low_bit l.gen
                obtain ⟨U, hU⟩ : ∃ U, U = secL (putS K) := ⟨_, rfl⟩
                have hUl : U.length = 64 := by rw [hU, secL_length]
                have hUo : ∀ v ∈ U, v.oneCell' = true := by rw [hU]; exact secL_one _
                have hiU : (Try.prog.info? 26).map (·.size) = some U.length := by rw [hUl]; exact sec_info
                have hs : secV (putS K) = .agg U.toArray := by rw [hU]; rfl
                have HSc := hide (hlow.size)
                have HCut := hide (cut_any l Am nm cm w.heap.size wo hmb hlow.size)
                rw [← hK] at HCut
                have HPut := hide (fun A' n' c' B0 w5 => refLput_any K A' n' c' B0 w5)
                rw [hs] at HPut
                have HCL := hide hcl
                have HGC := hide (fun (w5 : World) (hb : Below w.heap.size wo w5) => show w5.cell? ((ad.add (i * 5)).add 1) = some (.int .i64 l.gen) from (hb.cell (p := (ad.add (i * 5)).add 1) (by rw [block_of_add, block_of_add]; exact hadb)).trans (hcl 1 _ rfl))
                have HSTEP := hide (show labTo S0 f (i + 1) = if rightB K then ((labTo S0 f i).write (i % 3) (lowBit l.gen) (labS K)).2 else labTo S0 f i by rw [labTo, ← hfi, hK])
                have HIU := hide hiU
                have HUO := hide hUo
                have HUl := hide hUl
                have HSV := hide hs
                have HB := hide hB
                have HS := hide hS
                have HD := hide hd
                have HLO := hide hlo
                have HLOW := hide hlow
                have HLB := hide lb1
                have hsw := HLOW.out.size
                clear hB hS hd hlo hlow hcs hcl hmb hq hU hUl hUo hiU hs hfi hK lb1
                cases hr : rightB K with
                | false =>
                  have hE : putE K = 1 := by rw [putE, hr]; rfl
                  have HST := hide (show labTo S0 f (i + 1) = labTo S0 f i by rw [HSTEP.out, hr]; rfl)
                  rw [hE] at HPut
                  clear hr hE
                  go_wp2_with (first
                    | (refine wpList_load_at rfl 24 (.tmp 70) rfl (ad.add (i * 5)) rfl (labC l Am nm cm) _ HCL.out Try.underlying24 rfl lab_info ?_))
                  refine HCut.out.mono ?_
                  rintro _ w3 ⟨⟨A3, n3, c3, rfl, hG3⟩, hl3⟩
                  have HG3 := hide hG3
                  have HL3 := hide hl3
                  clear hG3 hl3
                  go_wp2_with fail
                  refine (HPut.out A3 n3 c3 w3.heap.size w3 HG3.out.1 (Nat.le_refl _)).mono ?_
                  rintro _ w4 ⟨rfl, hl4⟩
                  have hz3 := HL3.out.size
                  have HL4 := hide (HL3.out.trans (hl4.mono hz3))
                  clear hl4
                  go_wp2_with (first
                    | (refine wpList_alloc_blk rfl 26 rfl _ (sec_zero w4) ?_; intro w5 hb5 hl5 hs5; clear hs5)
                    | (refine wpList_store_all rfl 26 (.tmp 12) (.tmp 74) rfl w4.heap.size 26 _ hb5 rfl U rfl HIU.out (HUl.out.trans (secL_length zeroSec).symm) HUO.out ?_; intro w6 hb6 hg6 hs6; clear hs6))
                  have hz4 := HL4.out.size
                  have hl46 : Below w4.heap.size w4 w6 := hl5.grown hg6 (by have := hl5.size; omega) (fun g e => by injection e with e; omega)
                  have HBN : Hid (Both w w6 w.heap.size w1.heap.size (labTo S0 f (i + 1))) := by show Both _ _ _ _ _; rw [HST.out]; exact hbo.out.later (HL4.out.trans (hl46.mono hz4))
                  clear hb5 hl5 hb6 hg6 hl46
                  go_roundw
                  case rel => exact ⟨i + 1, by simp, by omega, by omega, HBN⟩
                  case measure => simp [intOf]; omega
                | true =>
                  have hE : putE K = 0 := by rw [putE, hr]; rfl
                  have hPS : putS K = labS K := by rw [putS, hr]; rfl
                  have HST := hide (show labTo S0 f (i + 1) = ((labTo S0 f i).write (i % 3) (lowBit l.gen) (putS K)).2 by rw [HSTEP.out, hr, hPS]; rfl)
                  rw [hE] at HPut
                  have hpl : ([.int .i64 ((i : Int) % 3), .int .i64 ((lowBit l.gen : Nat) : Int)] : List Value) = placeL (i % 3, lowBit l.gen) := by
                    show _ = [Value.int .i64 (((i % 3 : Nat)) : Int), Value.int .i64 ((lowBit l.gen : Nat) : Int)]
                    rw [show (((i % 3 : Nat)) : Int) = (i : Int) % 3 by omega]
                  have HPL := hide hpl
                  have HW1 := hide (fun w5 (h : BankOn w5 w.heap.size F (labTo S0 f i)) => on_write h (by omega) (i % 3) (lowBit l.gen) (putS K))
                  have HW2 := hide (fun w5 G2 (h : RefOn w5 w1.heap.size G2 (labTo S0 f i)) => rOn_write h (by omega) (i % 3) (lowBit l.gen) (putS K))
                  rw [HSV.out] at HW1 HW2
                  have hlbx := HLB.out
                  clear hr hE hPS hpl hbo
                  go_wp2_with (first
                    | (refine wpList_load_at rfl 24 (.tmp 70) rfl (ad.add (i * 5)) rfl (labC l Am nm cm) _ HCL.out Try.underlying24 rfl lab_info ?_))
                  refine HCut.out.mono ?_
                  rintro _ w3 ⟨⟨A3, n3, c3, rfl, hG3⟩, hl3⟩
                  have HG3 := hide hG3
                  have HL3 := hide hl3
                  clear hG3 hl3
                  go_wp2_with fail
                  refine (HPut.out A3 n3 c3 w3.heap.size w3 HG3.out.1 (Nat.le_refl _)).mono ?_
                  rintro _ w4 ⟨rfl, hl4⟩
                  have hz3 := HL3.out.size
                  have HL4 := hide (HL3.out.trans (hl4.mono hz3))
                  have hz4 := HL4.out.size
                  clear hl4
                  go_wp2_with (first
                    | (refine wpList_alloc_blk rfl 26 rfl _ (sec_zero w4) ?_; intro w5 hb5 hl5 hs5; clear hs5)
                    | (refine wpList_store_all rfl 26 (.tmp 12) (.tmp 74) rfl w4.heap.size 26 _ hb5 rfl U rfl HIU.out (HUl.out.trans (secL_length zeroSec).symm) HUO.out ?_; intro w6 hb6 hg6 hs6; clear hs6; have hz5 := hb6.lt; have hl46 : Below w4.heap.size w4 w6 := hl5.grown hg6 (by have := hl5.size; omega) (fun g e => by injection e with e; omega); have HL6 := hide (HL4.out.trans (hl46.mono hz4)); have HY6 := hide hb6; have hgc : w6.cell? ⟨(ad.add (i * 5)).block, (ad.add (i * 5)).off + 1, none⟩ = some (.int .i64 l.gen) := HGC.out w6 (HL6.out.mono hsw); clear hb5 hl5 hb6 hg6 hl46)
                    | (refine wpList_alloc_blk rfl 59 rfl _ (place_zero w6) ?_; intro w7 hb7 hl7 hs7; clear hs7)
                    | (refine wpList_store_all rfl 59 (.tmp 14) (.tmp 86) rfl w6.heap.size 59 _ hb7 rfl [.int .i64 ((i : Int) % 3), .int .i64 ((lowBit l.gen : Nat) : Int)] rfl rplace_info rfl (by intro v hv; simp at hv; rcases hv with rfl | rfl <;> rfl) ?_; intro w8 hb8q hg8 hs8; clear hs8; have hb8 : Blk w8 w6.heap.size 59 (placeL (i % 3, lowBit l.gen)).toArray := by { have hq := hb8q; rw [HPL.out] at hq; exact hq }; clear hb8q; have hl68 : Below w6.heap.size w6 w8 := hl7.grown hg8 (by have := hl7.size; omega) (fun g e => by injection e with e; omega); have HL8 := hide (HL6.out.trans (hl68.mono HL6.out.size)); have HY8 := hide (HY6.out.below hl68 HY6.out.lt); have HX8 := hide hb8; have hz8 := hb8.lt; clear hb7 hl7 hg8 hl68 hb8 hgc)
                    | (refine wpList_load_blk rfl 59 (.tmp 14) rfl w6.heap.size 0 59 _ HX8.out rfl (placeL (i % 3, lowBit l.gen)) _ (fun j v hj => by rw [Nat.zero_add]; simpa using hj) Try.underlying59 rfl rplace_info ?_)
                    | (refine wpList_load_blk rfl 26 (.tmp 12) rfl w4.heap.size 0 26 _ HY8.out rfl U _ (fun j v hj => by rw [Nat.zero_add]; simpa using hj) Try.underlying26 rfl HIU.out ?_))
                  refine (HW1.out w8 (HB.out.later HL8.out)).mono ?_
                  rintro _ w9 ⟨rfl, hB9, hT9⟩
                  have hnF6 : ¬ F w6.heap.size := fun hf => by have := HB.out.1 _ hf; have := HL6.out.size; omega
                  have hnF4 : ¬ F w4.heap.size := fun hf => by have := HB.out.1 _ hf; omega
                  have HX9 := hide (HX8.out.turned hT9 hnF6)
                  have HY9 := hide (HY8.out.turned hT9 hnF4)
                  have HS9 := hide ((HS.out.later HL8.out).kept hT9 (fun x hx hf => HD.out x hf hx))
                  have HL9 : Hid (Below w.heap.size wo w9) := (HL8.out.mono hsw).trans (hT9.below_ (by have := HL8.out.size; omega) (fun x hx => HLO.out x (.inl hx)))
                  have HB9 := hide hB9
                  clear hB9 hT9
                  go_wp2_with (first
                    | (refine wpList_load_blk rfl 59 (.tmp 14) rfl w6.heap.size 0 59 _ HX9.out rfl (placeL (i % 3, lowBit l.gen)) _ (fun j v hj => by rw [Nat.zero_add]; simpa using hj) Try.underlying59 rfl rplace_info ?_)
                    | (refine wpList_load_blk rfl 26 (.tmp 12) rfl w4.heap.size 0 26 _ HY9.out rfl U _ (fun j v hj => by rw [Nat.zero_add]; simpa using hj) Try.underlying26 rfl HIU.out ?_))
                  refine (HW2.out w9 G HS9.out).mono ?_
                  rintro _ w10 ⟨rfl, hS10, hT10⟩
                  have HBN : Hid (Both w w10 w.heap.size w1.heap.size (labTo S0 f (i + 1))) := by show Both _ _ _ _ _; rw [HST.out]; exact both_next HD.out HLO.out HB9.out hS10 hT10 (HLOW.out.trans HL9.out)
                  clear hS10 hT10
                  go_wp2_with fail
                  go_roundw
                  case rel => exact ⟨i + 1, by simp, by omega, by omega, HBN⟩
                  case measure => simp [intOf]; omega
              · have hend : min n 6 = i := by omega
                have HFIN := hide (show labTo S0 f i = lawB f n g m by rw [HS0.out, ← hend]; rfl)
                rw [HFIN.out] at hbo
                by_cases h1 : i < n
                · have hd5 : decide ((i : Int) < 6) = false := by simp; omega
                  have hd6 : decide ((i : Int) < (n : Int)) = true := by simp; omega
                  go_wp2_with fail
                  go_ret2
                  exact ⟨⟨_, _, rfl, hbo.out⟩, hbo.out.low⟩
                · have hd5 : decide ((i : Int) < (n : Int)) = false := by simp; omega
                  go_wp2_with fail
                  go_ret2
                  exact ⟨⟨_, _, rfl, hbo.out⟩, hbo.out.low⟩
end Go.Proofs.Ytbbfgcekjelmkaa
