/- QuorumLost: a second member may not be lost ahead of the first one's being gone; whatever label and numbers come in. -/
import Derived.Test.YtjdfeidakmkchaaLosts
import Derived.Test.YtjdfeidakmkchaaTwoRows
import Derived.Deep.DeepCutAuto
import Derived.Deep.CutBlock
import Derived.Deep.CutRange
import Derived.Deep.RegionWith
import Derived.Outline
import Derived.Deep.QuietTactic
import Derived.BigQuiet
namespace Go.Proofs.Ytjdfeidakmkchaa.QuorumLost
open Go.ChangeShapes Go.WideShapes Go.ChangeAt Go.RowKit Go.Proofs.Ytjdfeidakmkchaa

set_option maxRecDepth 100000 in
set_option maxHeartbeats 16000000 in
theorem walk (l : Lab) (A : Option Addr) (n c : Nat) (a b : Int) (w : World) (hx : MbIn w w.heap.size A n c l.members) (_ha1 : -9223372036854775808 ≤ a) (_ha2 : a ≤ 9223372036854775807) (_hb1 : -9223372036854775808 ≤ b) (_hb2 : b ≤ 9223372036854775807) :
    Calls Try.prog 4 #[labV l A n c, .int .i64 a, .int .i64 b] w fun e w' => e = .returned (.bool true) ∧ Below w.heap.size w w' := by
  have HShown := hide shown5_any
  have HCut := hide (fun (w1 : World) (hl : Below w.heap.size w w1) => cut5_any l A n c w.heap.size w1 (hx.below hl) hl.size)
  obtain ⟨Q, hQ⟩ : ∃ Q, Q = (cutL l).members := ⟨_, rfl⟩
  have hQ20 : Q.length ≤ 20 := by rw [hQ]; simp [cutL]; omega
  obtain ⟨K, hK⟩ : ∃ K, K = liveK l := ⟨_, rfl⟩
  have hKm : K.members = Q.map liveM := by rw [hK, hQ]; rfl
  have hKc : ∀ A n c, labC (cutL l) A n c = labC K A n c := by rw [hK]; exact fun _ _ _ => rfl
  have hAll : rightB K = true → AllLive K := by rw [hK]; exact fun h => liveK_all l h
  have HKm := hide hKm
  have HKc := hide hKc
  have HAll := hide hAll
  have HQ := hide hQ
  clear hx hKm hKc hAll hK hQ
  go_enter Try.func4, Try.ntmps4
  go_wp2_with (refine wpList_box_blk rfl 24 (.tmp 0) rfl (.agg (labC l A n c).toArray) rfl ?_; intro w1 hb1q hl1 hs1; clear hs1; have hb1 : Blk w1 w.heap.size 24 (labC l A n c).toArray := hb1q; clear hb1q)
  refine (HShown.out w1).mono ?_
  rintro _ w2 ⟨rfl, hl2⟩
  have hz1 := hb1.lt
  have hz2 := hl2.size
  have HB2 := hide (hb1.below hl2 hz1)
  have HL2 := hide (hl1.trans (hl2.mono (by omega)))
  clear hb1 hl1 hl2
  go_wp2_with ((with_reducible refine at_slot 19 ?_); refine wpList_load_blk (o := ⟨some 19, _, _, _, _, _⟩) rfl 24 (.tmp 3) rfl w.heap.size 0 24 _ HB2.out rfl (labC l A n c) _ (fun j v hj => by rw [Nat.zero_add]; simpa using hj) Try.underlying24 rfl lab_info ?_)
  refine (HCut.out w2 HL2.out).mono ?_
  rintro _ w3 ⟨⟨A3, n3, c3, rfl, hn3, hc3, ho3⟩, hl3⟩
  rw [← HQ.out] at ho3
  have hz3 := hl3.size
  have hn3Q : n3 = Q.length := by have := ho3.1; rw [mbL_length] at this; omega
  have HB3 := hide (HB2.out.below hl3 (by omega))
  have HL3 := hide (HL2.out.trans (hl3.mono (by omega)))
  have HO3 := hide ho3
  have HN3 := hide hn3Q
  have hn20 : n3 ≤ 20 := by omega
  clear ho3 hl3 hn3Q hQ20
  go_wp2_with ((with_reducible refine at_store 3 ?_); refine wpList_store_all (o := ⟨_, .store _ (.tmp 3) _, _, _, _, _⟩) rfl 24 (.tmp 3) (.tmp 20) rfl w.heap.size 24 _ HB3.out rfl (labC (cutL l) A3 n3 c3) rfl lab_info rfl (labC_one _ _ _ _) ?_; intro w4 hb4 hg4 hs4; clear hs4)
  have hne4 : ∀ g, (Value.slice A3 n3 c3).ownBlock = some g → w2.heap.size ≤ g := fun g e => (HO3.out.lt g e).1
  have HO4 : Hid (w4.ownsRow w2.heap.size 28 3 (.slice A3 n3 c3) n3 (mbL (liveL Q 0))) := hide (by rw [live_zero]; exact HO3.out.kept hg4 (.inr (fun e => by have := hne4 _ e; omega)))
  have HB4 : Hid (Blk w4 w.heap.size 24 (labC K A3 n3 c3).toArray) := hide (by rw [← HKc.out]; exact hb4)
  have HL4 := hide (HL3.out.grown hg4 (by omega) (fun g e => by injection e with e; omega))
  clear hne4 hb4 hg4
  go_loopw [8] (fun i wr => ∃ k : Nat, k ≤ n3 ∧ i = .int .i64 k ∧ Hid (wr.ownsRow w2.heap.size 28 3 (.slice A3 n3 c3) n3 (mbL (liveL Q k))) ∧ Hid (Blk wr w.heap.size 24 (labC K A3 n3 c3).toArray) ∧ Hid (Below w.heap.size w wr)) (fun i _ => n3 - (intOf i).toNat)
  case atStart => exact ⟨0, Nat.zero_le _, rfl, HO4, HB4, HL4⟩
  case round =>
    obtain ⟨k, hk, rfl, HO, HB, HL⟩ := hrel
    by_cases hkn : k < n3
    · have hkQ : k < Q.length := by have := HN3.out; omega
      obtain ⟨g, rfl, hgb, hgs⟩ := own_some HO.out (by omega)
      obtain ⟨y0, y1⟩ := own_at HO.out (live_at hkQ)
      have x4 := lab_c4 HB.out
      have HO' := hide (own_poke 0 HO.out (live_at hkQ))
      rw [← live_succ hkQ] at HO'
      have HB' := hide (HB.out.far (p := ⟨g, k * 3 + 2, none⟩) (by show w.heap.size ≠ g; omega) (.int .i64 0))
      have HL' := hide (HL.out.setCell (p := ⟨g, k * 3 + 2, none⟩) (by show w.heap.size ≤ g; omega) (.int .i64 0))
      go_wp2
      go_roundw
      case rel => exact ⟨k + 1, by omega, by go_num, HO', HB', HL'⟩
      case measure => simp [intOf]; omega
    · obtain rfl : k = n3 := by omega
      obtain ⟨w5, rfl⟩ : ∃ w5, w5 = wr := ⟨_, rfl⟩
      have hO5 : w5.ownsRow w2.heap.size 28 3 (.slice A3 k c3) k (mbL K.members) := by
        have h := HO.out
        rw [HN3.out, live_all, ← HN3.out, ← HKm.out] at h
        exact h
      have HO5 := hide hO5
      have hKl : K.members.length = k := by have := hO5.1; rw [mbL_length] at this; omega
      have HKl := hide hKl
      have x4 := lab_c4 HB.out
      have x1 := lab_c1 HB.out
      have hz5 := HL.out.size
      have hlt5 := HB.out.lt
      have HRt := hide (fun (w6 : World) (hl : Below w5.heap.size w5 w6) => right_any K A3 k c3 w5.heap.size w6 ((own_in HO5.out hn3 hc3).below hl) hl.size)
      clear hO5 hKl HO HB4 HO4 HL4 HB3 HO3 HL3 HB2 HL2 HKc HKm HN3 HCut HShown hkn hk
      cases hrt : rightB K with
      | false =>
        have HRv := hide hrt
        clear hrt
        go_wp2_with (first
          | ((with_reducible refine at_slot 33 ?_); refine wpList_load_blk (o := ⟨some 33, _, _, _, _, _⟩) rfl 24 (.tmp 3) rfl w.heap.size 0 24 _ HB.out rfl (labC K A3 k c3) _ (fun j v hj => by rw [Nat.zero_add]; simpa using hj) Try.underlying24 rfl lab_info ?_)
          | (go_at_call 10; refine (HRt.out w5 (Below.refl _ _)).mono ?_; rw [HRv.out]; rintro _ w6 ⟨rfl, hl6⟩; have HB6 := hide (HB.out.below hl6 hlt5); have x4 := lab_c4 HB6.out; have x1 := lab_c1 HB6.out; have hz6 := hl6.size; have HL6 := hide (HL.out.trans (hl6.mono hz5)); have HO6 := hide (own_later HO5.out hl6); clear hl6))
        go_ret
        exact ⟨rfl, HL6.out⟩
      | true =>
        have HRv := hide hrt
        have HA := hide (HAll.out hrt)
        have h12 := HA.out.len
        have hgen := (right_parts hrt).2.1
        rw [HKl.out] at h12
        clear hrt HAll
        cases hbig : decide (2147483648 < K.gen) with
        | true =>
          go_wp2_with (first
            | ((with_reducible refine at_slot 33 ?_); refine wpList_load_blk (o := ⟨some 33, _, _, _, _, _⟩) rfl 24 (.tmp 3) rfl w.heap.size 0 24 _ HB.out rfl (labC K A3 k c3) _ (fun j v hj => by rw [Nat.zero_add]; simpa using hj) Try.underlying24 rfl lab_info ?_)
            | (go_at_call 10; refine (HRt.out w5 (Below.refl _ _)).mono ?_; rw [HRv.out]; rintro _ w6 ⟨rfl, hl6⟩; have HB6 := hide (HB.out.below hl6 hlt5); have x4 := lab_c4 HB6.out; have x1 := lab_c1 HB6.out; have hz6 := hl6.size; have HL6 := hide (HL.out.trans (hl6.mono hz5)); have HO6 := hide (own_later HO5.out hl6); clear hl6))
          go_ret
          exact ⟨rfl, HL6.out⟩
        | false =>
          have hsm : K.gen ≤ 2147483648 := by have := of_decide_eq_false hbig; omega
          obtain ⟨ma, hma, hma2⟩ := mask255 a
          obtain ⟨mb, hmb, hmb2⟩ := mask255 b
          obtain ⟨i, hi⟩ : ∃ i, i = ma % k := ⟨_, rfl⟩
          obtain ⟨j, hj⟩ : ∃ j, j = mb % k := ⟨_, rfl⟩
          have hik : i < k := by rw [hi]; exact Nat.mod_lt _ (by omega)
          have hjk : j < k := by rw [hj]; exact Nat.mod_lt _ (by omega)
          have hri : (ma : Int) % (k : Int) = (i : Int) := by rw [hi]; simp
          have hrj : (mb : Int) % (k : Int) = (j : Int) := by rw [hj]; simp
          have hnz : ((k : Int) == 0) = false := by simp; omega
          obtain ⟨x, hxi, hxid, _⟩ := HA.out.get (k := i) (by rw [HKl.out]; exact hik)
          obtain ⟨y, hyj, hyid, _⟩ := HA.out.get (k := j) (by rw [HKl.out]; exact hjk)
          obtain ⟨g, rfl, hgs, hci⟩ := own_id HO5.out hn3 hc3 hxi hik
          obtain ⟨g2, he2, _, hcj⟩ := own_id HO5.out hn3 hc3 hyj hjk
          obtain rfl : g = g2 := by injection he2 with he2; injection he2
          have HX := hide hxi
          have HY := hide hyj
          have HCI := hide (fun (w6 : World) (hl : Below w5.heap.size w5 w6) => (hl.cell (p := ⟨g, i * 3, none⟩) hgs).trans hci)
          have HCJ := hide (fun (w6 : World) (hl : Below w5.heap.size w5 w6) => (hl.cell (p := ⟨g, j * 3, none⟩) hgs).trans hcj)
          clear hi hj hxi hyj hxid hyid hci hcj he2
          go_upto_region 9 with (first
            | ((with_reducible refine at_slot 33 ?_); refine wpList_load_blk (o := ⟨some 33, _, _, _, _, _⟩) rfl 24 (.tmp 3) rfl w.heap.size 0 24 _ HB.out rfl (labC K (some ⟨g, 0, none⟩) k c3) _ (fun j v hj => by rw [Nat.zero_add]; simpa using hj) Try.underlying24 rfl lab_info ?_)
            | (go_at_call 10; refine (HRt.out w5 (Below.refl _ _)).mono ?_; rw [HRv.out]; rintro _ w6 ⟨rfl, hl6⟩; have HB6 := hide (HB.out.below hl6 hlt5); have x4 := lab_c4 HB6.out; have x1 := lab_c1 HB6.out; have hz6 := hl6.size; have HL6 := hide (HL.out.trans (hl6.mono hz5)); have HO6 := hide (own_later HO5.out hl6); have yi := HCI.out w6 hl6; have yj := HCJ.out w6 hl6; have HCI6 : Hid (w6.cell? ⟨g, i * 3, none⟩ = some (.int .i64 x.1)) := hide yi; have HCJ6 : Hid (w6.cell? ⟨g, j * 3, none⟩ = some (.int .i64 y.1)) := hide yj; clear hl6))
          go_upto_region 11 with fail
          rw [hri, hrj]
          have HF1 := hide (fun (W : World) (hl : Below w6.heap.size w6 W) => lost_first HA.out hsm HX.out (some ⟨g, 0, none⟩) k c3 w6.heap.size W ((own_in HO6.out hn3 hc3).below hl) hl.size)
          have d := HB6.out.drew
          have z0 := lab_c0 HB6.out
          have z2 := lab_c2 HB6.out
          have z3 := lab_c3 HB6.out
          clear yj
          have x0 := lab_c0 d
          have x1d := lab_c1 d
          have x2 := lab_c2 d
          have x3 := lab_c3 d
          have x4d := lab_c4 d
          have yid : w6.drew.cell? ⟨g, i * 3, none⟩ = some (.int .i64 x.1) := HCI6.out
          have hlt6 := HB6.out.lt
          have hgs6 : g < w6.heap.size := by omega
          have hgn6 : g ≠ w6.heap.size := by omega
          have hwn6 : w.heap.size ≠ w6.heap.size := by omega
          go_cut [11, 12] (fun s11 s12 wx => After w6 (failL K i) s11 wx ∧ s12 = .int .i64 0)
          case first =>
            go_region_with ((first
              | (go_at_call 11; refine (HF1.out _ ((Below.refl _ _).drew)).mono ?_; rintro _ w7 ⟨⟨A7, n7, c7, rfl, hG7⟩, hl7⟩; have tokA : True := trivial)
              | (go_at_call 11; refine (HF1.out _ (((Below.refl _ _).drew).alloc (Nat.le_refl _) _)).mono ?_; rintro _ w7 ⟨⟨A7, n7, c7, rfl, hG7⟩, hl7⟩; have tokB : True := trivial; have hbN : Blk (w6.drew.alloc (.cells (labC Lab.none_ none 0 0).toArray 24)) w6.heap.size 24 (labC Lab.none_ none 0 0).toArray := Blk.new _ _ _; have hbN7 := hbN.below hl7 hbN.lt; have c0 : w7.cell? ⟨w6.heap.size, 0, none⟩ = some (.int .i64 0) := lab_c0 hbN7; have f0 := hbN7.frozen 0; have c1 : w7.cell? ⟨w6.heap.size, 1, none⟩ = some (.int .i64 0) := lab_c1 hbN7; have f1 := hbN7.frozen 1; have c2 : w7.cell? ⟨w6.heap.size, 2, none⟩ = some (.int .i64 0) := lab_c2 hbN7; have f2 := hbN7.frozen 2; have c3' : w7.cell? ⟨w6.heap.size, 3, none⟩ = some (.int .i64 0) := lab_c3 hbN7; have f3 := hbN7.frozen 3; have c4 : w7.cell? ⟨w6.heap.size, 4, none⟩ = some (.slice none 0 0) := lab_c4 hbN7; have f4 := hbN7.frozen 4)))
            all_goals
              go_wp2
              go_meet
              first | (have _t := tokA; exact ⟨after_call ((Below.refl _ _).drew) hG7 hl7, rfl⟩) | (have _t := tokB; exact ⟨after_alloc hG7 hl7, rfl⟩)
          case rest =>
            clear d x0 x1d x2 x3 x4d yid z0 z2 z3 x1 x4 yi HF1
            obtain ⟨hAf, rfl⟩ := hcut
            obtain ⟨gb, n8, c8, A8, rfl, HBF, hgb, HMF, HLF⟩ := after_ends _ _ _ _ hAf
            have hz8 := HLF.out.size
            have HB8 := hide (HB6.out.below HLF.out hlt6)
            have HL8 := hide (HL6.out.trans (HLF.out.mono (by omega)))
            have HM8 := hide (((own_in HO6.out hn3 hc3).below HLF.out).more hz8)
            have yj : wc.cell? ⟨g, j * 3, none⟩ = some (.int .i64 y.1) := (HLF.out.cell (p := ⟨g, j * 3, none⟩) hgs6).trans HCJ6.out
            have hgbl := HBF.out.lt
            obtain ⟨ev, hev⟩ : ∃ ev : Int, ev = if i = j then 9 else 5 := ⟨_, rfl⟩
            have hF2 := fun (W : World) (hl : Below wc.heap.size wc W) => lost_second HA.out hsm (by rw [HKl.out]; exact hik) HY.out A8 n8 c8 wc.heap.size W (HMF.out.below hl) hl.size
            rw [← hev] at hF2
            have HF2 := hide hF2
            have HF3 := hide (fun (W : World) (hl : Below wc.heap.size wc W) => lost_third HA.out (some ⟨g, 0, none⟩) k c3 wc.heap.size W (HM8.out.below hl) hl.size)
            have hFR : rightB (failL K i) = true := fail_right HA.out (by omega) (by rw [HKl.out]; exact hik)
            have HFR := hide (fun (W : World) (hl : Below wc.heap.size wc W) => right_any (failL K i) A8 n8 c8 wc.heap.size W (HMF.out.below hl) hl.size)
            rw [hFR] at HFR
            have HEV := hide hev
            clear hF2 hFR hev hAf HMF HO6 HO5 HRt HX HCI HCJ HCI6 HCJ6 HLF hri hrj hma hmb
            go_upto_region 12 with fail
            have a0 := lab_c0 HBF.out
            have a1 := lab_c1 HBF.out
            have a2 := lab_c2 HBF.out
            have a3 := lab_c3 HBF.out
            have a4 := lab_c4 HBF.out
            have b0 := lab_c0 HBF.out.drew
            have b1 := lab_c1 HBF.out.drew
            have b2 := lab_c2 HBF.out.drew
            have b3 := lab_c3 HBF.out.drew
            have b4 := lab_c4 HBF.out.drew
            have x4 := lab_c4 HB8.out
            have x4d := lab_c4 HB8.out.drew
            have yjd : wc.drew.cell? ⟨g, j * 3, none⟩ = some (.int .i64 y.1) := yj
            have hwc : w.heap.size < wc.heap.size := by omega
            have hgc : g < wc.heap.size := by omega
            have hgcn : g ≠ wc.heap.size := by omega
            have hwcn : w.heap.size ≠ wc.heap.size := by omega
            have hgbn : gb ≠ wc.heap.size := by omega
            go_cut [13, 14] (fun s13 s14 wx => After wc Lab.none_ s13 wx ∧ s14 = .int .i64 ev)
            case first =>
              go_region_with ((first
                | (go_at_call 11; refine (HF2.out _ ((Below.refl _ _).drew)).mono ?_; rintro _ w7 ⟨⟨A7, n7, c7, rfl, hG7⟩, hl7⟩; have tokA : True := trivial)
                | (go_at_call 11; refine (HF2.out _ (((Below.refl _ _).drew).alloc (Nat.le_refl _) _)).mono ?_; rintro _ w7 ⟨⟨A7, n7, c7, rfl, hG7⟩, hl7⟩; have tokB : True := trivial; have hbN : Blk (wc.drew.alloc (.cells (labC Lab.none_ none 0 0).toArray 24)) wc.heap.size 24 (labC Lab.none_ none 0 0).toArray := Blk.new _ _ _; have hbN7 := hbN.below hl7 hbN.lt; have c0 : w7.cell? ⟨wc.heap.size, 0, none⟩ = some (.int .i64 0) := lab_c0 hbN7; have f0 := hbN7.frozen 0; have c1 : w7.cell? ⟨wc.heap.size, 1, none⟩ = some (.int .i64 0) := lab_c1 hbN7; have f1 := hbN7.frozen 1; have c2 : w7.cell? ⟨wc.heap.size, 2, none⟩ = some (.int .i64 0) := lab_c2 hbN7; have f2 := hbN7.frozen 2; have c3' : w7.cell? ⟨wc.heap.size, 3, none⟩ = some (.int .i64 0) := lab_c3 hbN7; have f3 := hbN7.frozen 3; have c4 : w7.cell? ⟨wc.heap.size, 4, none⟩ = some (.slice none 0 0) := lab_c4 hbN7; have f4 := hbN7.frozen 4)))
              all_goals
                go_wp2
                go_meet
                first | (have _t := tokA; exact ⟨after_call ((Below.refl _ _).drew) hG7 hl7, rfl⟩) | (have _t := tokB; exact ⟨after_alloc hG7 hl7, rfl⟩)
            case rest =>
              clear a0 a1 a2 a3 a4 b0 b1 b2 b3 b4 x4 x4d yj yjd
              obtain ⟨hAf, rfl⟩ := hcut
              obtain ⟨gb2, n9, c9, A9, rfl, _, _, _, HLG⟩ := after_ends _ _ _ _ hAf
              have hz9 := HLG.out.size
              have hwl := HB8.out.lt
              have hgl := HBF.out.lt
              have HB9 := hide (HB8.out.below HLG.out hwl)
              have HL9 := hide (HL8.out.trans (HLG.out.mono (by omega)))
              have HBF9 := hide (HBF.out.below HLG.out hgl)
              have hgb9 := HBF9.out.lt
              have HF3c := hide (HF3.out wc HLG.out)
              clear HF3 HF2 HB8 HBF HB6 HL6 HL HL8 HM8 HA hAf
              by_cases hij : i = j
              · obtain rfl : ev = 9 := by rw [HEV.out, if_pos hij]
                have heq : ((i : Int) == (j : Int)) = true := by simp [hij]
                clear hij
                go_wp2_with (first
                  | ((with_reducible refine at_slot 80 ?_); refine wpList_load_blk (o := ⟨some 80, _, _, _, _, _⟩) rfl 24 (.tmp 3) rfl w.heap.size 0 24 _ HB9.out rfl (labC K (some ⟨g, 0, none⟩) k c3) _ (fun j v hj => by rw [Nat.zero_add]; simpa using hj) Try.underlying24 rfl lab_info ?_)
                  | (go_at_call 11; refine HF3c.out.mono ?_; rintro _ w10 ⟨⟨A10, n10, c10, rfl, _⟩, hl10⟩; have hz10 := hl10.size; have HL10 := hide hl10; clear hl10)
                  | ((with_reducible refine at_slot 16 ?_); refine wpList_alloc_blk (o := ⟨some 16, _, _, _, _, _⟩) rfl 24 rfl _ (lab_zero _) ?_; intro w11 hb11 hl11 hs11; clear hs11)
                  | ((with_reducible refine at_store 16 ?_); refine wpList_store_all (o := ⟨_, .store _ (.tmp 16) _, _, _, _, _⟩) rfl 24 (.tmp 16) (.tmp 82) rfl w10.heap.size 24 _ hb11 rfl (labC Lab.none_ A10 n10 c10) rfl lab_info rfl (labC_one _ _ _ _) ?_; intro w12 hb12 hg12 hs12; clear hs12; have hl12 : Below w10.heap.size w10 w12 := hl11.grown hg12 hl11.size (fun g e => by injection e with e; omega); have HLc12 := hide (HL10.out.trans (hl12.mono hz10)); have HBF12 := hide (HBF9.out.below HLc12.out hgb9); have HL12 := hide (HL9.out.trans (HLc12.out.mono (by omega))); clear hb11 hl11 hb12 hg12 hl12)
                  | (refine when_load rfl 24 (.tmp 11) rfl gb 0 24 _ HBF12.out rfl (labC (failL K i) A8 n8 c8) _ (fun j v hj => by rw [Nat.zero_add]; simpa using hj) Try.underlying24 rfl lab_info ?_)
                  | (go_at_call 10; refine (HFR.out w12 (HLG.out.trans (HLc12.out.mono hz9))).mono ?_; rintro _ w13 ⟨rfl, hl13⟩))
                go_ret
                exact ⟨rfl, HL12.out.trans (hl13.mono HL12.out.size)⟩
              · obtain rfl : ev = 5 := by rw [HEV.out, if_neg hij]
                have heq : ((i : Int) == (j : Int)) = false := by simp; omega
                clear hij
                go_wp2_with (first
                  | ((with_reducible refine at_slot 80 ?_); refine wpList_load_blk (o := ⟨some 80, _, _, _, _, _⟩) rfl 24 (.tmp 3) rfl w.heap.size 0 24 _ HB9.out rfl (labC K (some ⟨g, 0, none⟩) k c3) _ (fun j v hj => by rw [Nat.zero_add]; simpa using hj) Try.underlying24 rfl lab_info ?_)
                  | (go_at_call 11; refine HF3c.out.mono ?_; rintro _ w10 ⟨⟨A10, n10, c10, rfl, _⟩, hl10⟩; have hz10 := hl10.size; have HL10 := hide hl10; clear hl10)
                  | ((with_reducible refine at_slot 16 ?_); refine wpList_alloc_blk (o := ⟨some 16, _, _, _, _, _⟩) rfl 24 rfl _ (lab_zero _) ?_; intro w11 hb11 hl11 hs11; clear hs11)
                  | ((with_reducible refine at_store 16 ?_); refine wpList_store_all (o := ⟨_, .store _ (.tmp 16) _, _, _, _, _⟩) rfl 24 (.tmp 16) (.tmp 82) rfl w10.heap.size 24 _ hb11 rfl (labC Lab.none_ A10 n10 c10) rfl lab_info rfl (labC_one _ _ _ _) ?_; intro w12 hb12 hg12 hs12; clear hs12; have hl12 : Below w10.heap.size w10 w12 := hl11.grown hg12 hl11.size (fun g e => by injection e with e; omega); have HLc12 := hide (HL10.out.trans (hl12.mono hz10)); have HBF12 := hide (HBF9.out.below HLc12.out hgb9); have HL12 := hide (HL9.out.trans (HLc12.out.mono (by omega))); clear hb11 hl11 hb12 hg12 hl12)
                  | (refine when_load rfl 24 (.tmp 11) rfl gb 0 24 _ HBF12.out rfl (labC (failL K i) A8 n8 c8) _ (fun j v hj => by rw [Nat.zero_add]; simpa using hj) Try.underlying24 rfl lab_info ?_)
                  | (go_at_call 10; refine (HFR.out w12 (HLG.out.trans (HLc12.out.mono hz9))).mono ?_; rintro _ w13 ⟨rfl, hl13⟩))
                go_ret
                exact ⟨rfl, HL12.out.trans (hl13.mono HL12.out.size)⟩

/-! The row's frame, by program: how the walk above proves the statement. -/
set_option maxRecDepth 100000 in
theorem lifted (os : Os) (started : os.Started) (H : Type) (enc : TypeId × Value → H) :
    ReturnsInHanded {} Try.checked os 4 .any (Rows.quorumLostSpec.pre6 enc Try.prog Try.f4 Rows.quorumLostRow.domain false) (Rows.quorumLostSpec.post enc Try.prog Try.f4 false true false false) := by
  refine returnsInHanded_of_change (C := Try.checked) own started (by kernel_rfl) Try.func4
    (ChangeSpec.witness6 (enc := enc) (C := Try.checked) false ⟨#[], #[labV Lab.none_ none 0 0, .int .i64 0, .int .i64 0], []⟩ 8 (by kernel_rfl) (by kernel_rfl) (by kernel_rfl) (by kernel_rfl)) ?_
  intro W base args ds gs before hval0 hW hcnd _
  have hval : ∀ (j : Nat) t v, Try.f4.params[j]? = some t → args[j]? = some v → Value.okWide Try.prog W .any base t v := hval0
  have hW' := hW
  obtain ⟨p, q, hA0, hV, rfl, hfz, hnd⟩ := hW
  have hA : DataW.TrodAll enc Try.prog W 0 (fun _ => true) true Try.f4.params.toList args.toList ds p := hA0
  rw [Try.params4] at hA hval
  obtain ⟨v0, vs0, d0, ds0, p0, q0, hargs, rfl, rfl, h0, r0⟩ := trodAll_cons hA
  obtain ⟨v1, vs1, d1, ds1, p1, q1, rfl, rfl, rfl, h1, r1⟩ := trodAll_cons r0
  obtain ⟨v2, vs2, d2, ds2, p2, q2, rfl, rfl, rfl, h2, r2⟩ := trodAll_cons r1
  obtain ⟨rfl, rfl, rfl⟩ := trodAll_nil r2
  obtain rfl : args = #[v0, v1, v2] := by cases args; simp_all
  obtain ⟨rfl, rfl⟩ := trodVars_none hV
  have k0 := h0
  have lt0 : ∀ x ∈ p0, x.block < W.heap.size := by obtain ⟨m, hm⟩ := k0; exact DataW.trod_lt m _ _ _ hm
  obtain ⟨l0, A0, n0, c0, rfl, x0⟩ := arg_label (hval 0 24 v0 rfl rfl) h0
  obtain ⟨a1, rfl, rfl, rfl, w1⟩ := open_int Try.underlying3 (hval 1 3 v1 rfl rfl) h1
  have b1 := bounds_i64 w1
  obtain ⟨a2, rfl, rfl, rfl, w2⟩ := open_int Try.underlying3 (hval 2 3 v2 rfl rfl) h2
  have b2 := bounds_i64 w2
  clear hA0 hval0
  refine (walk l0 A0 n0 c0 a1 a2 W x0 b1.1 b1.2 b2.1 b2.2).mono fun e W' ⟨he, bel⟩ => ?_
  subst he
  exact ⟨_, rfl, _, _, _, [], _, [], hW', trodAll_mk1 (shut_bool Try.underlying4 _), (trodAll_cons_mk (Below.trod laidOut (by kernel_rfl) (of_decide_eq_true (by kernel_rfl)) k0 bel lt0) (trodAll_cons_mk (shut_int Try.underlying3 w1) (trodAll_cons_mk (shut_int Try.underlying3 w2) trodAll_mk0))), rfl, bel.frame _, fun h => by cases h⟩

theorem over : Rows.quorumLostRow.holds Try.pinned (OpenSpec.ofChange Rows.quorumLostSpec) :=
  OpenClaim.holds_of_wide 4 Try.f4 rfl rfl rfl rfl rfl rfl rfl ⟨rfl, rfl, rfl, rfl, rfl⟩ rfl rfl rfl rfl rfl (by kernel_rfl) Try.func4 (by kernel_rfl)
    (of_decide_eq_true (by kernel_rfl)) (by unfold Func.isWrapper; first | (rw [if_pos (by decide +kernel)]; kernel_rfl) | (rw [if_neg (by decide +kernel)]; exact ⟨rfl, rfl⟩))
    (fun os started H enc _ => lifted os started H enc)

/-- The statement. -/
theorem proved : Rows.QuorumLostSaid := over
#print axioms proved
end Go.Proofs.Ytjdfeidakmkchaa.QuorumLost
