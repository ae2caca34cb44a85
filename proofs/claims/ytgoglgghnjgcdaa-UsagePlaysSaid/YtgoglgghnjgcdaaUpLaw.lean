/- UsagePlays' walk: each call does what the document says. -/
import Derived.Test.YtgoglgghnjgcdaaUpP
import Derived.Test.YtgoglgghnjgcdaaUsgS
namespace Go.Proofs.Ytgoglgghnjgcdaa
open Go.RowKit Go.Maps

theorem op14_cells (o : OpU) : ∀ v ∈ o.cells, v.oneCell' = true := by
  intro v hv
  simp [OpU.cells] at hv
  rcases hv with rfl | rfl | rfl | rfl | rfl <;> rfl
set_option maxRecDepth 100000 in
set_option maxHeartbeats 8000000 in
theorem usagePlays_walk (A : Option Addr) (n c : Nat) (f : Nat → OpU) (w : World) (hr : OpsU w w.heap.size A n f) :
    Calls Try.prog 3 #[.slice A n c] w fun e w' => e = .returned (.bool true) ∧ Below w.heap.size w w' := by
  have HSH := hide shown14_any
  have HR := hide hr
  have hnl := run_eql_tab
  have hnr := run_eql_rtab
  have hnn := run_eql_rnil
  clear hr
  go_enter Try.func3, Try.ntmps3
  go_upto_block 0 with (first
    | (go_at_call 9; refine (HSH.out w).mono ?_; rintro _ w1 ⟨rfl, hl1⟩)
    | (go_at_call 10; refine (Tbl.make w w1 hl1).mono ?_; rintro _ w2 ⟨t, lo, rfl, ht2, _, _⟩; have HT2 := hide ht2; clear ht2 hl1)
    | (go_at_call 11; refine (rnew_any w2).mono ?_; rintro _ w3 ⟨rfl, hr3, hl3, _⟩; have HT3 := hide (TwoU.start HT2.out hr3 hl3); clear hr3 hl3))
  obtain ⟨r, hre⟩ : ∃ r, r = w2.heap.size := ⟨_, rfl⟩
  rw [← hre] at HT3 ⊢
  clear hre HT2
  go_cut [4, 6, 7, 8, 9, 10, 11] (fun _ s6 s7 _ _ _ _ wx => ∃ O : Nat → Prop, Hid (OldP w wx s6 s7 O) ∧ Hid (Below w.heap.size w wx))
  case first =>
    go_wp2_with fail
    go_loopw [4, 6, 7, 8, 9, 10, 11] (fun s4 s6 s7 s8 _ _ _ wr => ∃ (k t lo : Nat) (S : Us) (O : Nat → Prop), s4 = .pointer (some ⟨t, 0, none⟩) ∧ s8 = .int .i64 (k : Int) ∧ k ≤ n ∧ k ≤ 150 ∧ Hid (TwoU w wr t lo r (2 * k) S S O) ∧ Hid (OldP w wr s6 s7 O)) (fun _ _ _ s8 _ _ _ _ => 150 - (intOf s8).toNat)
    case atStart => exact ⟨0, t, lo, _, _, rfl, rfl, Nat.zero_le _, Nat.zero_le _, HT3, hide (.inl ⟨rfl, rfl⟩)⟩
    case round =>
      obtain ⟨k, t, lo, S, O, rfl, rfl, hkn, hk150, HTr, HPr⟩ := hrel
      obtain ⟨wz, rfl⟩ : ∃ wz, wz = wr := ⟨_, rfl⟩
      by_cases hn' : (k : Int) < (n : Int)
      · by_cases h150 : (k : Int) < 150
        · obtain ⟨ad, hA, hab, hcells⟩ := (HR.out.below HTr.out.tbl.low) (by omega)
          subst hA
          obtain ⟨hcl, hft⟩ := hcells k (by omega)
          obtain ⟨o, ho⟩ : ∃ o, f k = o := ⟨_, rfl⟩
          rw [ho] at hcl hft
          clear ho
          obtain ⟨kk, gg, ss, bb, nn⟩ := o
          obtain ⟨_, hgg, hss, hbb, _⟩ := hft
          have HCL := hide hcl
          have HG : Hid (okI64 gg) := hide hgg
          have HSS : Hid (okI64 ss) := hide hss
          have HBB : Hid (okI64 bb) := hide hbb
          obtain ⟨mn, hmn⟩ : ∃ mn : Int, (if (60 : Int) < nn then 60 else nn) = mn := ⟨_, rfl⟩
          have hmin : ∀ ts t (W : World), (Builtin.min_ ts t #[.int .i64 nn, .int .i64 60]).run Try.prog W = .ok (.int .i64 mn) W := by
            intro ts t W
            rw [run_min_int2, hmn]
          clear hcells hcl hgg hss hbb hmn
          go_upto_region 13 with (first
            | (refine wpList_alloc_blk rfl 29 rfl _ (op14_zero _) ?_; intro y1 hb1 hl1 hs1; have HB1 := hide hb1; clear hb1)
            | ((with_reducible refine at_slot 30 ?_); refine wpList_load_at rfl 29 (.tmp 29) rfl (ad.add (k * 5)) rfl (OpU.mk kk gg ss bb nn).cells _ HCL.out Try.underlying29 rfl op14_info ?_)
            | (refine wpList_store_all rfl 29 (.tmp 9) (.tmp 30) rfl wz.heap.size 29 _ HB1.out rfl (OpU.mk kk gg ss bb nn).cells rfl op14_info rfl (op14_cells _) ?_; intro y2 hb2 hg2 hs2; have HB2 := hide hb2; have hc4 : y2.cell? ⟨wz.heap.size, 4, none⟩ = some (.int .i64 nn) := hb2.cell 4; clear hb2)
            | (refine wpList_poke rfl 3 (.tmp 34) (.tmp 33) rfl wz.heap.size 4 29 _ HB2.out rfl (.int .i64 mn) rfl rfl int14_one (by simp [OpU.cells]) ?_; intro y3 hb3 hg3 hs3; have HB3 : Hid (Blk y3 wz.heap.size 29 #[.int .i64 kk, .int .i64 gg, .int .i64 ss, .int .i64 bb, .int .i64 mn]) := hide hb3; clear hb3))
          have hl2 : Below wz.heap.size wz y3 := (hl1.grown hg2 (by omega) (fun g e => by injection e with e; omega)).grown hg3 (by omega) (fun g e => by injection e with e; omega)
          have HTb := hide (HTr.out.fresh hl2 (Nat.le_refl _) HB3.out.lt)
          have HPb := hide ((HPr.out.later hl2).more (O2 := fun i => O i ∨ i = wz.heap.size) (fun _ => .inl))
          obtain ⟨ob, hob⟩ : ∃ ob, ob = wz.heap.size := ⟨_, rfl⟩
          rw [← hob] at HTb HPb HB3 ⊢
          have hck : y3.cell? ⟨ob, 0, none⟩ = some (.int .i64 kk) := HB3.out.cell 0
          clear hl1 hg2 hg3 hs1 hs2 hs3 hc4 hmin HB1 HB2 hl2 hob
          by_cases hk5 : kk = 5
          · subst hk5
            go_upto_region 20 with (first
              | (go_at_call 12; refine HTb.out.rclone.mono ?_; rintro _ y4 ⟨r1, AG, cG, AL, cL, rfl, hrd, hft, hl4⟩; have HRD := hide hrd; have HFT := hide hft; have HL4 := hide hl4; clear hrd hft hl4)
              | (go_at_call 13; refine (HTb.out.tbl.later HL4.out).twin.mono ?_; rintro _ y5 ⟨t2, lo2, rfl, ht5, hz5, hl5⟩; have hcc := HTb.out.cloned HRD.out HFT.out HL4.out ht5 hz5 hl5; have HTn := hide hcc.1; have HPn := hide (show OldP w y5 (.pointer (some ⟨t, 0, none⟩)) (.pointer (some ⟨r1, 0, none⟩)) _ from .inr ⟨t, r1, rfl, rfl, hcc.2⟩); have HBn := hide (HB3.out.of_block ((hl5.block ob (Nat.lt_of_lt_of_le HB3.out.lt HL4.out.size)).trans (HL4.out.block ob HB3.out.lt))); clear hcc ht5 hz5 hl5))
            clear hck HTb HPb HTr HPr HB3
            go_wp2_with (first
              | ((with_reducible refine at_slot 53 ?_); refine wpList_load_blk rfl 29 (.tmp 9) rfl ob 0 29 _ HBn.out rfl [.int .i64 5, .int .i64 gg, .int .i64 ss, .int .i64 bb, .int .i64 mn] _ (fun j v hv => (by rw [Nat.zero_add]; exact (List.getElem?_toArray ..).trans hv)) Try.underlying29 rfl op14_info ?_)
              | (go_at_call 15; refine (HTn.out.same 5 gg ss bb mn HG.out HSS.out).mono ?_; rintro _ y9 ⟨rfl, hl9⟩; have HT9 := hide (HTn.out.later hl9); have HP9 := hide (HPn.out.later hl9); clear hl9))
            go_roundw
            case rel => exact ⟨k + 1, _, _, _, _, rfl, by go_num, by omega, by omega, hide (HT9.out.wider (by omega) (by omega)), HP9⟩
            case measure => simp [intOf]; omega
          · have hk5b : (kk == 5) = false := by simpa using hk5
            have hk5d : decide (kk = 5) = false := by simpa using hk5
            go_upto_region 18 with (first
              | ((with_reducible refine at_slot 45 ?_); refine wpList_load_blk rfl 29 (.tmp 9) rfl ob 0 29 _ HB3.out rfl [.int .i64 kk, .int .i64 gg, .int .i64 ss, .int .i64 bb, .int .i64 mn] _ (fun j v hv => (by rw [Nat.zero_add]; exact (List.getElem?_toArray ..).trans hv)) Try.underlying29 rfl op14_info ?_)
              | (go_at_call 14; refine (does14_any HTb.out (by omega) kk gg ss bb mn HG.out HSS.out HBB.out).mono ?_; rintro _ y5 ⟨rfl, S5, ht5, hk5k⟩; have HTn := hide ht5; have HPn := hide (HPb.out.kept hk5k ht5.tbl.low); have HBn := hide (HB3.out.of_block (hk5k.2 ob (.inr rfl))); clear ht5 hk5k))
            clear hck HTb HPb HTr HPr HB3 hk5b hk5d hk5
            go_wp2_with (first
              | ((with_reducible refine at_slot 53 ?_); refine wpList_load_blk rfl 29 (.tmp 9) rfl ob 0 29 _ HBn.out rfl [.int .i64 kk, .int .i64 gg, .int .i64 ss, .int .i64 bb, .int .i64 mn] _ (fun j v hv => (by rw [Nat.zero_add]; exact (List.getElem?_toArray ..).trans hv)) Try.underlying29 rfl op14_info ?_)
              | (go_at_call 15; refine (HTn.out.same kk gg ss bb mn HG.out HSS.out).mono ?_; rintro _ y9 ⟨rfl, hl9⟩; have HT9 := hide (HTn.out.later hl9); have HP9 := hide (HPn.out.later hl9); clear hl9))
            go_roundw
            case rel => exact ⟨k + 1, _, _, _, _, rfl, by go_num, by omega, by omega, hide (HT9.out.wider (by omega) (by omega)), HP9⟩
            case measure => simp [intOf]; omega
        · have hd : decide ((k : Int) < 150) = false := by simp; omega
          have hlo := hide HTr.out.tbl.low
          go_wp2_with fail
          go_meet
          exact ⟨O, HPr, hlo⟩
      · have hlo := hide HTr.out.tbl.low
        go_wp2_with fail
        go_meet
        exact ⟨O, HPr, hlo⟩
  case rest =>
    obtain ⟨O, HPc, HLc⟩ := hcut
    obtain ⟨z1, rfl⟩ : ∃ z1, z1 = wc := ⟨_, rfl⟩
    rcases HPc.out with ⟨rfl, rfl⟩ | ⟨t1, r1, rfl, rfl, ho⟩
    · go_wp2_with fail
      go_ret
      exact ⟨rfl, HLc.out⟩
    · have HO := hide ho
      have H0 : Hid (okI64 0) := hide (by unfold okI64; omega)
      clear ho
      go_wp2_with (first
        | (refine when_build rfl 29 #[] rfl [] (by simp) _ op14_built ?_)
        | (go_at_call 15; refine (HO.out.same 0 0 0 0 0 H0.out H0.out).mono ?_; rintro _ z2 ⟨rfl, hl2⟩; have HL2 := hide (HLc.out.trans (hl2.mono HLc.out.size)); clear hl2))
      go_ret
      exact ⟨rfl, HL2.out⟩

#print axioms usagePlays_walk
end Go.Proofs.Ytgoglgghnjgcdaa
