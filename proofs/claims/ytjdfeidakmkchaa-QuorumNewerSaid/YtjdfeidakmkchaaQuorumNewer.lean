/- QuorumNewer: the newer configuration counts, however many have the older one; whatever label, member and mask come in. -/
import Derived.Test.YtjdfeidakmkchaaLosts
import Derived.Test.YtjdfeidakmkchaaQuorN
import Derived.Test.YtjdfeidakmkchaaTwoRows
import Derived.Deep.DeepCutAuto
import Derived.Deep.CutBlock
import Derived.Deep.CutRange
import Derived.Deep.RegionWith
import Derived.Outline
import Derived.Deep.QuietTactic
import Derived.BigQuiet
namespace Go.Proofs.Ytjdfeidakmkchaa.QuorumNewer
open Go.ChangeShapes Go.WideShapes Go.ChangeAt Go.RowKit Go.Proofs.Ytjdfeidakmkchaa

set_option maxRecDepth 100000 in
set_option maxHeartbeats 16000000 in
theorem walk (l : Lab) (A : Option Addr) (n c : Nat) (a mask : Int) (w : World) (hx : MbIn w w.heap.size A n c l.members) (_ha1 : -9223372036854775808 ≤ a) (_ha2 : a ≤ 9223372036854775807) (_hmask1 : -9223372036854775808 ≤ mask) (_hmask2 : mask ≤ 9223372036854775807) :
    Calls Try.prog 3 #[labV l A n c, .int .i64 a, .int .i64 mask] w fun e w' => e = .returned (.bool true) ∧ Below w.heap.size w w' := by
  have HShown := hide shown5_any
  have HCut := hide (fun (w1 : World) (hl : Below w.heap.size w w1) => cut5_any l A n c w.heap.size w1 (hx.below hl) hl.size)
  obtain ⟨Q, hQ⟩ : ∃ Q, Q = (cutL l).members := ⟨_, rfl⟩
  have hQ20 : Q.length ≤ 20 := by rw [hQ]; simp [cutL]; omega
  obtain ⟨K, hK⟩ : ∃ K, K = liveK l := ⟨_, rfl⟩
  have hKm : K.members = Q.map liveM := by rw [hK, hQ]; rfl
  have hKc : ∀ A n c, labC (cutL l) A n c = labC K A n c := by rw [hK]; exact fun _ _ _ => rfl
  have hAll : rightB K = true → AllLive K := by rw [hK]; exact fun h => liveK_all l h
  have HKm := hide hKm
  have HKc := hide hKc
  have HAll := hide hAll
  have HQ := hide hQ
  clear hx hKm hKc hAll hK hQ
  go_enter Try.func3, Try.ntmps3
  go_wp2_with (refine wpList_box_blk rfl 24 (.tmp 0) rfl (.agg (labC l A n c).toArray) rfl ?_; intro w1 hb1q hl1 hs1; clear hs1; have hb1 : Blk w1 w.heap.size 24 (labC l A n c).toArray := hb1q; clear hb1q)
  refine (HShown.out w1).mono ?_
  rintro _ w2 ⟨rfl, hl2⟩
  have hz1 := hb1.lt
  have hz2 := hl2.size
  have HB2 := hide (hb1.below hl2 hz1)
  have HL2 := hide (hl1.trans (hl2.mono (by omega)))
  clear hb1 hl1 hl2
  go_wp2_with ((with_reducible refine at_slot 21 ?_); refine wpList_load_blk (o := ⟨some 21, _, _, _, _, _⟩) rfl 24 (.tmp 3) rfl w.heap.size 0 24 _ HB2.out rfl (labC l A n c) _ (fun j v hj => by rw [Nat.zero_add]; simpa using hj) Try.underlying24 rfl lab_info ?_)
  refine (HCut.out w2 HL2.out).mono ?_
  rintro _ w3 ⟨⟨A3, n3, c3, rfl, hn3, hc3, ho3⟩, hl3⟩
  rw [← HQ.out] at ho3
  have hz3 := hl3.size
  have hn3Q : n3 = Q.length := by have := ho3.1; rw [mbL_length] at this; omega
  have HB3 := hide (HB2.out.below hl3 (by omega))
  have HL3 := hide (HL2.out.trans (hl3.mono (by omega)))
  have HO3 := hide ho3
  have HN3 := hide hn3Q
  have hn20 : n3 ≤ 20 := by omega
  clear ho3 hl3 hn3Q hQ20
  go_wp2_with ((with_reducible refine at_store 3 ?_); refine wpList_store_all (o := ⟨_, .store _ (.tmp 3) _, _, _, _, _⟩) rfl 24 (.tmp 3) (.tmp 22) rfl w.heap.size 24 _ HB3.out rfl (labC (cutL l) A3 n3 c3) rfl lab_info rfl (labC_one _ _ _ _) ?_; intro w4 hb4 hg4 hs4; clear hs4)
  have hne4 : ∀ g, (Value.slice A3 n3 c3).ownBlock = some g → w2.heap.size ≤ g := fun g e => (HO3.out.lt g e).1
  have HO4 : Hid (w4.ownsRow w2.heap.size 28 3 (.slice A3 n3 c3) n3 (mbL (liveL Q 0))) := hide (by rw [live_zero]; exact HO3.out.kept hg4 (.inr (fun e => by have := hne4 _ e; omega)))
  have HB4 : Hid (Blk w4 w.heap.size 24 (labC K A3 n3 c3).toArray) := hide (by rw [← HKc.out]; exact hb4)
  have HL4 := hide (HL3.out.grown hg4 (by omega) (fun g e => by injection e with e; omega))
  clear hne4 hb4 hg4
  go_loopw [8] (fun i wr => ∃ k : Nat, k ≤ n3 ∧ i = .int .i64 k ∧ Hid (wr.ownsRow w2.heap.size 28 3 (.slice A3 n3 c3) n3 (mbL (liveL Q k))) ∧ Hid (Blk wr w.heap.size 24 (labC K A3 n3 c3).toArray) ∧ Hid (Below w.heap.size w wr)) (fun i _ => n3 - (intOf i).toNat)
  case atStart => exact ⟨0, Nat.zero_le _, rfl, HO4, HB4, HL4⟩
  case round =>
    obtain ⟨k, hk, rfl, HO, HB, HL⟩ := hrel
    by_cases hkn : k < n3
    · have hkQ : k < Q.length := by have := HN3.out; omega
      obtain ⟨g, rfl, hgb, hgs⟩ := own_some HO.out (by omega)
      obtain ⟨y0, y1⟩ := own_at HO.out (live_at hkQ)
      have x4 := lab_c4 HB.out
      have HO' := hide (own_poke 0 HO.out (live_at hkQ))
      rw [← live_succ hkQ] at HO'
      have HB' := hide (HB.out.far (p := ⟨g, k * 3 + 2, none⟩) (by show w.heap.size ≠ g; omega) (.int .i64 0))
      have HL' := hide (HL.out.setCell (p := ⟨g, k * 3 + 2, none⟩) (by show w.heap.size ≤ g; omega) (.int .i64 0))
      go_wp2
      go_roundw
      case rel => exact ⟨k + 1, by omega, by go_num, HO', HB', HL'⟩
      case measure => simp [intOf]; omega
    · obtain rfl : k = n3 := by omega
      obtain ⟨w5, rfl⟩ : ∃ w5, w5 = wr := ⟨_, rfl⟩
      have hO5 : w5.ownsRow w2.heap.size 28 3 (.slice A3 k c3) k (mbL K.members) := by
        have h := HO.out
        rw [HN3.out, live_all, ← HN3.out, ← HKm.out] at h
        exact h
      have HO5 := hide hO5
      have hKl : K.members.length = k := by have := hO5.1; rw [mbL_length] at this; omega
      have HKl := hide hKl
      have x4 := lab_c4 HB.out
      have x1 := lab_c1 HB.out
      have hz5 := HL.out.size
      have hlt5 := HB.out.lt
      have HRt := hide (fun (w6 : World) (hl : Below w5.heap.size w5 w6) => right_any K A3 k c3 w5.heap.size w6 ((own_in HO5.out hn3 hc3).below hl) hl.size)
      clear hO5 hKl HO HB4 HO4 HL4 HB3 HO3 HL3 HB2 HL2 HKc HKm HN3 HCut HShown hkn hk
      cases hrt : rightB K with
      | false =>
        have HRv := hide hrt
        clear hrt
        go_wp2_with (first
          | ((with_reducible refine at_slot 35 ?_); refine wpList_load_blk (o := ⟨some 35, _, _, _, _, _⟩) rfl 24 (.tmp 3) rfl w.heap.size 0 24 _ HB.out rfl (labC K A3 k c3) _ (fun j v hj => by rw [Nat.zero_add]; simpa using hj) Try.underlying24 rfl lab_info ?_)
          | (go_at_call 10; refine (HRt.out w5 (Below.refl _ _)).mono ?_; rw [HRv.out]; rintro _ w6 ⟨rfl, hl6⟩; have HB6 := hide (HB.out.below hl6 hlt5); have x4 := lab_c4 HB6.out; have x1 := lab_c1 HB6.out; have hz6 := hl6.size; have HL6 := hide (HL.out.trans (hl6.mono hz5)); have HO6 := hide (own_later HO5.out hl6); clear hl6))
        go_ret
        exact ⟨rfl, HL6.out⟩
      | true =>
        have HRv := hide hrt
        have HA := hide (HAll.out hrt)
        have h12 := HA.out.len
        have hgen := (right_parts hrt).2.1
        rw [HKl.out] at h12
        clear hrt HAll
        cases hbig : decide (2147483648 < K.gen) with
        | true =>
          go_wp2_with (first
            | ((with_reducible refine at_slot 35 ?_); refine wpList_load_blk (o := ⟨some 35, _, _, _, _, _⟩) rfl 24 (.tmp 3) rfl w.heap.size 0 24 _ HB.out rfl (labC K A3 k c3) _ (fun j v hj => by rw [Nat.zero_add]; simpa using hj) Try.underlying24 rfl lab_info ?_)
            | (go_at_call 10; refine (HRt.out w5 (Below.refl _ _)).mono ?_; rw [HRv.out]; rintro _ w6 ⟨rfl, hl6⟩; have HB6 := hide (HB.out.below hl6 hlt5); have x4 := lab_c4 HB6.out; have x1 := lab_c1 HB6.out; have hz6 := hl6.size; have HL6 := hide (HL.out.trans (hl6.mono hz5)); have HO6 := hide (own_later HO5.out hl6); clear hl6))
          go_ret
          exact ⟨rfl, HL6.out⟩
        | false =>
          have hsm : K.gen ≤ 2147483648 := by have := of_decide_eq_false hbig; omega
          obtain ⟨ma, hma, hma2⟩ := mask255 a
          obtain ⟨i, hi⟩ : ∃ i, i = ma % k := ⟨_, rfl⟩
          have hik : i < k := by rw [hi]; exact Nat.mod_lt _ (by omega)
          have hri : (ma : Int) % (k : Int) = (i : Int) := by rw [hi]; simp
          have hnz : ((k : Int) == 0) = false := by simp; omega
          obtain ⟨x, hxi, hxid, _⟩ := HA.out.get (k := i) (by rw [HKl.out]; exact hik)
          obtain ⟨g, rfl, hgs, hci⟩ := own_id HO5.out hn3 hc3 hxi hik
          have HX := hide hxi
          have HCI := hide (fun (w6 : World) (hl : Below w5.heap.size w5 w6) => (hl.cell (p := ⟨g, i * 3, none⟩) hgs).trans hci)
          clear hi hxi hxid hci
          go_upto_region 9 with (first
            | ((with_reducible refine at_slot 35 ?_); refine wpList_load_blk (o := ⟨some 35, _, _, _, _, _⟩) rfl 24 (.tmp 3) rfl w.heap.size 0 24 _ HB.out rfl (labC K (some ⟨g, 0, none⟩) k c3) _ (fun j v hj => by rw [Nat.zero_add]; simpa using hj) Try.underlying24 rfl lab_info ?_)
            | (go_at_call 10; refine (HRt.out w5 (Below.refl _ _)).mono ?_; rw [HRv.out]; rintro _ w6 ⟨rfl, hl6⟩; have HB6 := hide (HB.out.below hl6 hlt5); have x4 := lab_c4 HB6.out; have x1 := lab_c1 HB6.out; have hz6 := hl6.size; have HL6 := hide (HL.out.trans (hl6.mono hz5)); have HO6 := hide (own_later HO5.out hl6); have yi := HCI.out w6 hl6; have HCI6 : Hid (w6.cell? ⟨g, i * 3, none⟩ = some (.int .i64 x.1)) := hide yi; clear hl6))
          go_upto_region 10 with fail
          rw [hri]
          have HF1 := hide (fun (W : World) (hl : Below w6.heap.size w6 W) => lost_first HA.out hsm HX.out (some ⟨g, 0, none⟩) k c3 w6.heap.size W ((own_in HO6.out hn3 hc3).below hl) hl.size)
          have d := HB6.out.drew
          have z0 := lab_c0 HB6.out
          have z2 := lab_c2 HB6.out
          have z3 := lab_c3 HB6.out
          have x0 := lab_c0 d
          have x1d := lab_c1 d
          have x2 := lab_c2 d
          have x3 := lab_c3 d
          have x4d := lab_c4 d
          have yid : w6.drew.cell? ⟨g, i * 3, none⟩ = some (.int .i64 x.1) := HCI6.out
          have hlt6 := HB6.out.lt
          have hgs6 : g < w6.heap.size := by omega
          have hgn6 : g ≠ w6.heap.size := by omega
          have hwn6 : w.heap.size ≠ w6.heap.size := by omega
          go_cut [10, 11] (fun s11 s12 wx => After w6 (failL K i) s11 wx ∧ s12 = .int .i64 0)
          case first =>
            go_region_with ((first
              | (go_at_call 11; refine (HF1.out _ ((Below.refl _ _).drew)).mono ?_; rintro _ w7 ⟨⟨A7, n7, c7, rfl, hG7⟩, hl7⟩; have tokA : True := trivial)
              | (go_at_call 11; refine (HF1.out _ (((Below.refl _ _).drew).alloc (Nat.le_refl _) _)).mono ?_; rintro _ w7 ⟨⟨A7, n7, c7, rfl, hG7⟩, hl7⟩; have tokB : True := trivial; have hbN : Blk (w6.drew.alloc (.cells (labC Lab.none_ none 0 0).toArray 24)) w6.heap.size 24 (labC Lab.none_ none 0 0).toArray := Blk.new _ _ _; have hbN7 := hbN.below hl7 hbN.lt; have c0 : w7.cell? ⟨w6.heap.size, 0, none⟩ = some (.int .i64 0) := lab_c0 hbN7; have f0 := hbN7.frozen 0; have c1 : w7.cell? ⟨w6.heap.size, 1, none⟩ = some (.int .i64 0) := lab_c1 hbN7; have f1 := hbN7.frozen 1; have c2 : w7.cell? ⟨w6.heap.size, 2, none⟩ = some (.int .i64 0) := lab_c2 hbN7; have f2 := hbN7.frozen 2; have c3' : w7.cell? ⟨w6.heap.size, 3, none⟩ = some (.int .i64 0) := lab_c3 hbN7; have f3 := hbN7.frozen 3; have c4 : w7.cell? ⟨w6.heap.size, 4, none⟩ = some (.slice none 0 0) := lab_c4 hbN7; have f4 := hbN7.frozen 4)))
            all_goals
              go_wp2
              go_meet
              first | (have _t := tokA; exact ⟨after_call ((Below.refl _ _).drew) hG7 hl7, rfl⟩) | (have _t := tokB; exact ⟨after_alloc hG7 hl7, rfl⟩)
          case rest =>
            clear d x0 x1d x2 x3 x4d yid z0 z2 z3 x1 x4 yi HF1
            obtain ⟨hAf, rfl⟩ := hcut
            obtain ⟨gb, n8, c8, A8, rfl, HBF, hgb, HMF, HLF⟩ := after_ends _ _ _ _ hAf
            have hz8 := HLF.out.size
            have HB8 := hide (HB6.out.below HLF.out hlt6)
            have HL8 := hide (HL6.out.trans (HLF.out.mono (by omega)))
            have HM8 := hide (((own_in HO6.out hn3 hc3).below HLF.out).more hz8)
            have hgbl := HBF.out.lt
            obtain ⟨ws, rfl⟩ : ∃ ws, ws = wc := ⟨_, rfl⟩
            have hsz8 : w.heap.size < ws.heap.size := HB8.out.lt
            obtain ⟨hgen1, hgen2⟩ := hgen
            have hFg : (failL K i).gen = K.gen + 1 := rfl
            have HFg := hide hFg
            have x4 := lab_c4 HB8.out
            have x1 := lab_c1 HB8.out
            have t1 : ws.cell? ⟨gb, 1, none⟩ = some (.int .i64 (K.gen + 1)) := lab_c1 HBF.out
            clear hma hri hFg
            obtain ⟨i1, hi1, hy0, hy1i, hy2i⟩ := info_parts lab_parts
            obtain ⟨sel, hsel⟩ : ∃ sel : Nat → Bool, sel = fun j => (bits .and .i64 (mask / 2 ^ j) 1 == 1) := ⟨_, rfl⟩
            go_wp2_with fail
            clear x1 t1
            go_loopw [12, 13, 14, 15] (fun s12 s13 i' _ wr => ∃ (q ma : Nat), q ≤ k ∧ i' = .int .i64 q ∧ s13 = .bool (newS k i sel q) ∧ Hid (wr.ownsRow ws.heap.size 24 5 s12 ma (lvL ((newA K (failL K i) k i sel q).map (fun L => if L.gen = K.gen then (L, some ⟨g, 0, none⟩, k, c3) else (L, A8, n8, c8))))) ∧ ma ≤ q ∧ Hid (Below ws.heap.size ws wr)) (fun _ _ i' _ _ => k - (intOf i').toNat)
            case atStart => exact ⟨0, 0, Nat.zero_le _, rfl, rfl, hide (World.ownsRow_nil _ _ _ _), Nat.le_refl _, hide (Below.refl _ _)⟩
            case round =>
              obtain ⟨q, ma, hq, rfl, rfl, HSA, hma, HBW⟩ := hrel
              have HBr := hide (HB8.out.below HBW.out hsz8)
              have HFr := hide (HBF.out.below HBW.out hgbl)
              have x4 := lab_c4 HBr.out
              have hzr := HBW.out.size
              have hgw : g < ws.heap.size := by omega
              by_cases hqk : q < k
              · obtain ⟨z, hzq, hzid, _⟩ := HA.out.get (k := q) (by rw [HKl.out]; exact hqk)
                obtain ⟨g2, he2, _, hcz⟩ := own_id HO6.out hn3 hc3 hzq hqk
                obtain rfl : g = g2 := by injection he2 with he2; injection he2
                have yz : wr.cell? ⟨g, q * 3, none⟩ = some (.int .i64 z.1) := (HBW.out.cell (p := ⟨g, q * 3, none⟩) hgw).trans ((HLF.out.cell (p := ⟨g, q * 3, none⟩) hgs6).trans hcz)
                have HZid : Hid (idM (failL K i).members q = z.1) := hide (by rw [← hzid]; exact fail_id _ _ _)
                have HZidK := hide hzid
                have hAa : ma + 1 ≤ maxLen := by simp only [maxLen]; omega
                have hBa : (ma + 1) * 56 ≤ 140737488355328 := by omega
                clear hzq hzid hcz he2
                by_cases hqi : q = i
                · have h1 : ((q : Int) == (i : Int)) = true := by simp [hqi]
                  have HS1 : Hid (newS k i sel (q + 1) = newS k i sel q) := hide (by rw [newS, if_pos hqi])
                  have HAL : Hid (newA K (failL K i) k i sel (q + 1) = newA K (failL K i) k i sel q) := hide (by rw [newA, if_pos hqi])
                  have HSA2 := hide HSA.out
                  rw [← HAL.out] at HSA2
                  clear hqi yz
                  go_wp2
                  go_roundw
                  case rel => exact ⟨q + 1, ma, by omega, by go_num, by rw [HS1.out], HSA2, by omega, HBW⟩
                  case measure => simp [intOf]; omega
                · have h1 : ((q : Int) == (i : Int)) = false := by simp; omega
                  obtain ⟨dq, hdq⟩ : ∃ dq : Int, mask / 2 ^ q = dq := ⟨_, rfl⟩
                  obtain ⟨bq, hbq⟩ : ∃ bq : Int, bits .and .i64 dq 1 = bq := ⟨_, rfl⟩
                  have hselq : sel q = (bq == 1) := by rw [hsel, ← hbq, ← hdq]
                  obtain ⟨s0, hs0⟩ : ∃ s0, s0 = newS k i sel q := ⟨_, rfl⟩
                  have hS1 : newS k i sel (q + 1) = (s0 || takeN k sel s0 q) := by rw [newS, if_neg hqi, hs0]
                  have hA1 : newA K (failL K i) k i sel (q + 1) = newA K (failL K i) k i sel q ++ [byL (if takeN k sel s0 q then failL K i else K) q] := by rw [newA, if_neg hqi, hs0]
                  have hle2 : decide (k ≤ q + 2) = decide ((k : Int) - 2 ≤ (q : Int)) := by
                    rw [Bool.eq_iff_iff]
                    simp
                    omega
                  have HS1 := hide hS1
                  have HA1 := hide hA1
                  have HSel := hide hselq
                  have HLe := hide hle2
                  have HS0 := hide hs0
                  rw [← hs0]
                  clear hselq hS1 hA1 hle2 hs0 hqi
                  have hk2 : 2 ≤ k := by omega
                  cases hb1 : (bq == 1) with
                  | true =>
                    have htk : takeN k sel s0 q = true := by rw [takeN, HSel.out, hb1]; rfl
                    have HSv : Hid (newS k i sel (q + 1) = true) := hide (by rw [HS1.out, htk, Bool.or_true])
                    have HAL : Hid ((newA K (failL K i) k i sel (q + 1)).map (fun L => if L.gen = K.gen then (L, some (⟨g, 0, none⟩ : Addr), k, c3) else (L, A8, n8, c8)) = (newA K (failL K i) k i sel q).map (fun L => if L.gen = K.gen then (L, some (⟨g, 0, none⟩ : Addr), k, c3) else (L, A8, n8, c8)) ++ [({ failL K i with member := z.1 }, A8, n8, c8)]) := hide (by
                      rw [HA1.out, htk, if_pos rfl, List.map_append]
                      congr 1
                      show [if (byL (failL K i) q).gen = K.gen then _ else _] = _
                      rw [if_neg (show ¬ (byL (failL K i) q).gen = K.gen by show ¬ (failL K i).gen = K.gen; rw [HFg.out]; omega), byL, HZid.out])
                    clear htk
                    go_wp2_with (first
                      | ((with_reducible refine at_slot 81 ?_); refine wpList_load_blk (o := ⟨some 81, _, _, _, _, _⟩) rfl 24 (.tmp 3) rfl w.heap.size 0 24 _ HBr.out rfl (labC K (some ⟨g, 0, none⟩) k c3) _ (fun j v hj => by rw [Nat.zero_add]; simpa using hj) Try.underlying24 rfl lab_info ?_)
                      | ((with_reducible refine at_slot 15 ?_); refine wpList_alloc_blk (o := ⟨some 15, _, _, _, _, _⟩) rfl 24 rfl _ (lab_zero _) ?_; intro w7 hb7 hl7 hs7; clear hs7)
                      | ((with_reducible refine at_store 15 ?_); refine wpList_store_all (o := ⟨_, .store _ (.tmp 15) _, _, _, _, _⟩) rfl 24 (.tmp 15) (.tmp 81) rfl wr.heap.size 24 _ hb7 rfl (labC K (some ⟨g, 0, none⟩) k c3) rfl lab_info rfl (labC_one _ _ _ _) ?_; intro w80 hb80 hg80 hs80; clear hs80; have hl80 : Below wr.heap.size wr w80 := hl7.grown hg80 hl7.size (fun g e => by injection e with e; omega); have HL80 := hide hl80; have HV8 := hide hb80; have HF8 := hide (HFr.out.below hl80 HFr.out.lt); have x480 := lab_c4 (HBr.out.below hl80 HBr.out.lt); clear hb7 hl7 hb80 hg80 hl80)
                      | ((with_reducible refine at_slot 100 ?_); refine wpList_load_blk (o := ⟨some 100, _, _, _, _, _⟩) rfl 24 (.tmp 10) rfl gb 0 24 _ HF8.out rfl (labC (failL K i) A8 n8 c8) _ (fun j v hj => by rw [Nat.zero_add]; simpa using hj) Try.underlying24 rfl lab_info ?_)
                      | ((with_reducible refine at_store 15 ?_); refine wpList_store_all (o := ⟨_, .store _ (.tmp 15) _, _, _, _, _⟩) rfl 24 (.tmp 15) (.tmp 100) rfl wr.heap.size 24 _ HV8.out rfl (labC (failL K i) A8 n8 c8) rfl lab_info rfl (labC_one _ _ _ _) ?_; intro w8 hb8 hg8 hs8; clear hs8; have hl8 : Below wr.heap.size wr w8 := HL80.out.grown hg8 (by have := HL80.out.size; omega) (fun g e => by injection e with e; omega); clear hg8; have hB8 := HBr.out.below hl8 HBr.out.lt; have x48 := lab_c4 hB8; have yx8 := (hl8.cell (p := ⟨g, q * 3, none⟩) (by show g < wr.heap.size; omega)).trans yz; have z2 := lab_c2 hb8; have f2 := hb8.frozen 2; have HB9 : Hid (Blk (w8.setCell ⟨wr.heap.size, 2, none⟩ (.int .i64 z.1)) wr.heap.size 24 (labC { failL K i with member := z.1 } A8 n8 c8).toArray) := hide (hb8.set_ 2 _); have HL8w := hide hl8; have hz8w := hl8.size; clear hb8 hl8 hB8)
                      | ((with_reducible refine at_slot 109 ?_); refine wpList_load_blk (o := ⟨some 109, _, _, _, _, _⟩) rfl 24 (.tmp 15) rfl wr.heap.size 0 24 _ HB9.out rfl (labC { failL K i with member := z.1 } A8 n8 c8) _ (fun j v hj => by rw [Nat.zero_add]; simpa using hj) Try.underlying24 rfl lab_info ?_; generalize hW9 : w8.setCell ⟨wr.heap.size, 2, none⟩ (.int .i64 z.1) = w9; have hl9 : Below wr.heap.size wr w9 := (by rw [← hW9]; exact HL8w.out.setCell (p := ⟨wr.heap.size, 2, none⟩) (Nat.le_refl _) _); have hz9 := hl9.size; have HL9 := hide hl9; have hs69 : ws.heap.size ≤ w9.heap.size := (by omega); clear hW9 hl9 HB9 x48 yx8 z2 f2)
                      | ((with_reducible refine at_slot 110 ?_); refine wpList_build_agg _ rfl (.tmp 109) 33 rfl 24 i1 _ 5 Try.underlying33 hi1 (lab_zero _) hy1i (by omega) (by omega) (labC { failL K i with member := z.1 } A8 n8 c8).toArray rfl rfl ?_)
                      | (at_builtin; refine wpList_append_any _ rfl (.tmp 108) (.tmp 110) _ rfl ws.heap.size 24 i1 _ 5 56 Try.underlying33 hi1 hy0 hy1i hy2i rfl (by omega) _ ma _ rfl ((own_later HSA.out HL9.out).alloc _) (w9.heap.size + 1) (some ⟨w9.heap.size, 0, none⟩) 1 1 (labC { failL K i with member := z.1 } A8 n8 c8) rfl (Reads.lump w9 (labC { failL K i with member := z.1 } A8 n8 c8) 24 (w9.heap.size + 1) 5 (by omega) rfl) (labC_one _ _ _ _) hAa hBa (le_alloc hs69 _) ?_; intro v10 w10 hown10 hb10))
                    have HSA10 : Hid (w10.ownsRow ws.heap.size 24 5 v10 (ma + 1) (lvL ((newA K (failL K i) k i sel (q + 1)).map (fun L => if L.gen = K.gen then (L, some (⟨g, 0, none⟩ : Addr), k, c3) else (L, A8, n8, c8))))) := hide (by rw [HAL.out, lvL_append, lvL_one]; exact hown10)
                    have HBW10 := hide (((HBW.out.trans (HL9.out.mono hzr)).alloc hs69 _).trans hb10)
                    clear hown10 hb10 yz
                    go_roundw
                    case rel => exact ⟨q + 1, ma + 1, by omega, by go_num, by rw [HSv.out], HSA10, by omega, HBW10⟩
                    case measure => simp [intOf]; omega
                  | false =>
                    cases s0 with
                    | true =>
                      have htk : takeN k sel true q = false := by rw [takeN, HSel.out, hb1]; rfl
                      have HSv : Hid (newS k i sel (q + 1) = true) := hide (by rw [HS1.out, htk]; rfl)
                      have HAL : Hid ((newA K (failL K i) k i sel (q + 1)).map (fun L => if L.gen = K.gen then (L, some (⟨g, 0, none⟩ : Addr), k, c3) else (L, A8, n8, c8)) = (newA K (failL K i) k i sel q).map (fun L => if L.gen = K.gen then (L, some (⟨g, 0, none⟩ : Addr), k, c3) else (L, A8, n8, c8)) ++ [({ K with member := z.1 }, (some (⟨g, 0, none⟩ : Addr)), k, c3)]) := hide (by
                        rw [HA1.out, htk, if_neg (by decide), List.map_append]
                        congr 1
                        show [if (byL (K) q).gen = K.gen then _ else _] = _
                        rw [if_pos (show (byL K q).gen = K.gen from rfl), byL, HZidK.out])
                      clear htk
                      go_wp2_with (first
                        | ((with_reducible refine at_slot 81 ?_); refine wpList_load_blk (o := ⟨some 81, _, _, _, _, _⟩) rfl 24 (.tmp 3) rfl w.heap.size 0 24 _ HBr.out rfl (labC K (some ⟨g, 0, none⟩) k c3) _ (fun j v hj => by rw [Nat.zero_add]; simpa using hj) Try.underlying24 rfl lab_info ?_)
                        | ((with_reducible refine at_slot 15 ?_); refine wpList_alloc_blk (o := ⟨some 15, _, _, _, _, _⟩) rfl 24 rfl _ (lab_zero _) ?_; intro w7 hb7 hl7 hs7; clear hs7)
                        | ((with_reducible refine at_store 15 ?_); refine wpList_store_all (o := ⟨_, .store _ (.tmp 15) _, _, _, _, _⟩) rfl 24 (.tmp 15) (.tmp 81) rfl wr.heap.size 24 _ hb7 rfl (labC K (some ⟨g, 0, none⟩) k c3) rfl lab_info rfl (labC_one _ _ _ _) ?_; intro w8 hb8 hg8 hs8; clear hs8; have hl8 : Below wr.heap.size wr w8 := hl7.grown hg8 hl7.size (fun g e => by injection e with e; omega); clear hb7 hl7 hg8; have hB8 := HBr.out.below hl8 HBr.out.lt; have x48 := lab_c4 hB8; have yx8 := (hl8.cell (p := ⟨g, q * 3, none⟩) (by show g < wr.heap.size; omega)).trans yz; have z2 := lab_c2 hb8; have f2 := hb8.frozen 2; have HB9 : Hid (Blk (w8.setCell ⟨wr.heap.size, 2, none⟩ (.int .i64 z.1)) wr.heap.size 24 (labC { K with member := z.1 } (some ⟨g, 0, none⟩) k c3).toArray) := hide (hb8.set_ 2 _); have HL8w := hide hl8; have hz8w := hl8.size; clear hb8 hl8 hB8)
                        | ((with_reducible refine at_slot 109 ?_); refine wpList_load_blk (o := ⟨some 109, _, _, _, _, _⟩) rfl 24 (.tmp 15) rfl wr.heap.size 0 24 _ HB9.out rfl (labC { K with member := z.1 } (some ⟨g, 0, none⟩) k c3) _ (fun j v hj => by rw [Nat.zero_add]; simpa using hj) Try.underlying24 rfl lab_info ?_; generalize hW9 : w8.setCell ⟨wr.heap.size, 2, none⟩ (.int .i64 z.1) = w9; have hl9 : Below wr.heap.size wr w9 := (by rw [← hW9]; exact HL8w.out.setCell (p := ⟨wr.heap.size, 2, none⟩) (Nat.le_refl _) _); have hz9 := hl9.size; have HL9 := hide hl9; have hs69 : ws.heap.size ≤ w9.heap.size := (by omega); clear hW9 hl9 HB9 x48 yx8 z2 f2)
                        | ((with_reducible refine at_slot 110 ?_); refine wpList_build_agg _ rfl (.tmp 109) 33 rfl 24 i1 _ 5 Try.underlying33 hi1 (lab_zero _) hy1i (by omega) (by omega) (labC { K with member := z.1 } (some ⟨g, 0, none⟩) k c3).toArray rfl rfl ?_)
                        | (at_builtin; refine wpList_append_any _ rfl (.tmp 108) (.tmp 110) _ rfl ws.heap.size 24 i1 _ 5 56 Try.underlying33 hi1 hy0 hy1i hy2i rfl (by omega) _ ma _ rfl ((own_later HSA.out HL9.out).alloc _) (w9.heap.size + 1) (some ⟨w9.heap.size, 0, none⟩) 1 1 (labC { K with member := z.1 } (some ⟨g, 0, none⟩) k c3) rfl (Reads.lump w9 (labC { K with member := z.1 } (some ⟨g, 0, none⟩) k c3) 24 (w9.heap.size + 1) 5 (by omega) rfl) (labC_one _ _ _ _) hAa hBa (le_alloc hs69 _) ?_; intro v10 w10 hown10 hb10))
                      have HSA10 : Hid (w10.ownsRow ws.heap.size 24 5 v10 (ma + 1) (lvL ((newA K (failL K i) k i sel (q + 1)).map (fun L => if L.gen = K.gen then (L, some (⟨g, 0, none⟩ : Addr), k, c3) else (L, A8, n8, c8))))) := hide (by rw [HAL.out, lvL_append, lvL_one]; exact hown10)
                      have HBW10 := hide (((HBW.out.trans (HL9.out.mono hzr)).alloc hs69 _).trans hb10)
                      clear hown10 hb10 yz
                      go_roundw
                      case rel => exact ⟨q + 1, ma + 1, by omega, by go_num, by rw [HSv.out], HSA10, by omega, HBW10⟩
                      case measure => simp [intOf]; omega
                    | false =>
                      cases hle : decide ((k : Int) - 2 ≤ (q : Int)) with
                      | true =>
                        have htk : takeN k sel false q = true := by rw [takeN, HSel.out, hb1, HLe.out, hle]; rfl
                        have HSv : Hid (newS k i sel (q + 1) = true) := hide (by rw [HS1.out, htk]; rfl)
                        have HAL : Hid ((newA K (failL K i) k i sel (q + 1)).map (fun L => if L.gen = K.gen then (L, some (⟨g, 0, none⟩ : Addr), k, c3) else (L, A8, n8, c8)) = (newA K (failL K i) k i sel q).map (fun L => if L.gen = K.gen then (L, some (⟨g, 0, none⟩ : Addr), k, c3) else (L, A8, n8, c8)) ++ [({ failL K i with member := z.1 }, A8, n8, c8)]) := hide (by
                          rw [HA1.out, htk, if_pos rfl, List.map_append]
                          congr 1
                          show [if (byL (failL K i) q).gen = K.gen then _ else _] = _
                          rw [if_neg (show ¬ (byL (failL K i) q).gen = K.gen by show ¬ (failL K i).gen = K.gen; rw [HFg.out]; omega), byL, HZid.out])
                        clear htk
                        go_wp2_with (first
                          | ((with_reducible refine at_slot 81 ?_); refine wpList_load_blk (o := ⟨some 81, _, _, _, _, _⟩) rfl 24 (.tmp 3) rfl w.heap.size 0 24 _ HBr.out rfl (labC K (some ⟨g, 0, none⟩) k c3) _ (fun j v hj => by rw [Nat.zero_add]; simpa using hj) Try.underlying24 rfl lab_info ?_)
                          | ((with_reducible refine at_slot 15 ?_); refine wpList_alloc_blk (o := ⟨some 15, _, _, _, _, _⟩) rfl 24 rfl _ (lab_zero _) ?_; intro w7 hb7 hl7 hs7; clear hs7)
                          | ((with_reducible refine at_store 15 ?_); refine wpList_store_all (o := ⟨_, .store _ (.tmp 15) _, _, _, _, _⟩) rfl 24 (.tmp 15) (.tmp 81) rfl wr.heap.size 24 _ hb7 rfl (labC K (some ⟨g, 0, none⟩) k c3) rfl lab_info rfl (labC_one _ _ _ _) ?_; intro w80 hb80 hg80 hs80; clear hs80; have hl80 : Below wr.heap.size wr w80 := hl7.grown hg80 hl7.size (fun g e => by injection e with e; omega); have HL80 := hide hl80; have HV8 := hide hb80; have HF8 := hide (HFr.out.below hl80 HFr.out.lt); have x480 := lab_c4 (HBr.out.below hl80 HBr.out.lt); clear hb7 hl7 hb80 hg80 hl80)
                          | ((with_reducible refine at_slot 100 ?_); refine wpList_load_blk (o := ⟨some 100, _, _, _, _, _⟩) rfl 24 (.tmp 10) rfl gb 0 24 _ HF8.out rfl (labC (failL K i) A8 n8 c8) _ (fun j v hj => by rw [Nat.zero_add]; simpa using hj) Try.underlying24 rfl lab_info ?_)
                          | ((with_reducible refine at_store 15 ?_); refine wpList_store_all (o := ⟨_, .store _ (.tmp 15) _, _, _, _, _⟩) rfl 24 (.tmp 15) (.tmp 100) rfl wr.heap.size 24 _ HV8.out rfl (labC (failL K i) A8 n8 c8) rfl lab_info rfl (labC_one _ _ _ _) ?_; intro w8 hb8 hg8 hs8; clear hs8; have hl8 : Below wr.heap.size wr w8 := HL80.out.grown hg8 (by have := HL80.out.size; omega) (fun g e => by injection e with e; omega); clear hg8; have hB8 := HBr.out.below hl8 HBr.out.lt; have x48 := lab_c4 hB8; have yx8 := (hl8.cell (p := ⟨g, q * 3, none⟩) (by show g < wr.heap.size; omega)).trans yz; have z2 := lab_c2 hb8; have f2 := hb8.frozen 2; have HB9 : Hid (Blk (w8.setCell ⟨wr.heap.size, 2, none⟩ (.int .i64 z.1)) wr.heap.size 24 (labC { failL K i with member := z.1 } A8 n8 c8).toArray) := hide (hb8.set_ 2 _); have HL8w := hide hl8; have hz8w := hl8.size; clear hb8 hl8 hB8)
                          | ((with_reducible refine at_slot 109 ?_); refine wpList_load_blk (o := ⟨some 109, _, _, _, _, _⟩) rfl 24 (.tmp 15) rfl wr.heap.size 0 24 _ HB9.out rfl (labC { failL K i with member := z.1 } A8 n8 c8) _ (fun j v hj => by rw [Nat.zero_add]; simpa using hj) Try.underlying24 rfl lab_info ?_; generalize hW9 : w8.setCell ⟨wr.heap.size, 2, none⟩ (.int .i64 z.1) = w9; have hl9 : Below wr.heap.size wr w9 := (by rw [← hW9]; exact HL8w.out.setCell (p := ⟨wr.heap.size, 2, none⟩) (Nat.le_refl _) _); have hz9 := hl9.size; have HL9 := hide hl9; have hs69 : ws.heap.size ≤ w9.heap.size := (by omega); clear hW9 hl9 HB9 x48 yx8 z2 f2)
                          | ((with_reducible refine at_slot 110 ?_); refine wpList_build_agg _ rfl (.tmp 109) 33 rfl 24 i1 _ 5 Try.underlying33 hi1 (lab_zero _) hy1i (by omega) (by omega) (labC { failL K i with member := z.1 } A8 n8 c8).toArray rfl rfl ?_)
                          | (at_builtin; refine wpList_append_any _ rfl (.tmp 108) (.tmp 110) _ rfl ws.heap.size 24 i1 _ 5 56 Try.underlying33 hi1 hy0 hy1i hy2i rfl (by omega) _ ma _ rfl ((own_later HSA.out HL9.out).alloc _) (w9.heap.size + 1) (some ⟨w9.heap.size, 0, none⟩) 1 1 (labC { failL K i with member := z.1 } A8 n8 c8) rfl (Reads.lump w9 (labC { failL K i with member := z.1 } A8 n8 c8) 24 (w9.heap.size + 1) 5 (by omega) rfl) (labC_one _ _ _ _) hAa hBa (le_alloc hs69 _) ?_; intro v10 w10 hown10 hb10))
                        have HSA10 : Hid (w10.ownsRow ws.heap.size 24 5 v10 (ma + 1) (lvL ((newA K (failL K i) k i sel (q + 1)).map (fun L => if L.gen = K.gen then (L, some (⟨g, 0, none⟩ : Addr), k, c3) else (L, A8, n8, c8))))) := hide (by rw [HAL.out, lvL_append, lvL_one]; exact hown10)
                        have HBW10 := hide (((HBW.out.trans (HL9.out.mono hzr)).alloc hs69 _).trans hb10)
                        clear hown10 hb10 yz
                        go_roundw
                        case rel => exact ⟨q + 1, ma + 1, by omega, by go_num, by rw [HSv.out], HSA10, by omega, HBW10⟩
                        case measure => simp [intOf]; omega
                      | false =>
                        have htk : takeN k sel false q = false := by rw [takeN, HSel.out, hb1, HLe.out, hle]; rfl
                        have HSv : Hid (newS k i sel (q + 1) = false) := hide (by rw [HS1.out, htk]; rfl)
                        have HAL : Hid ((newA K (failL K i) k i sel (q + 1)).map (fun L => if L.gen = K.gen then (L, some (⟨g, 0, none⟩ : Addr), k, c3) else (L, A8, n8, c8)) = (newA K (failL K i) k i sel q).map (fun L => if L.gen = K.gen then (L, some (⟨g, 0, none⟩ : Addr), k, c3) else (L, A8, n8, c8)) ++ [({ K with member := z.1 }, (some (⟨g, 0, none⟩ : Addr)), k, c3)]) := hide (by
                          rw [HA1.out, htk, if_neg (by decide), List.map_append]
                          congr 1
                          show [if (byL (K) q).gen = K.gen then _ else _] = _
                          rw [if_pos (show (byL K q).gen = K.gen from rfl), byL, HZidK.out])
                        clear htk
                        go_wp2_with (first
                          | ((with_reducible refine at_slot 81 ?_); refine wpList_load_blk (o := ⟨some 81, _, _, _, _, _⟩) rfl 24 (.tmp 3) rfl w.heap.size 0 24 _ HBr.out rfl (labC K (some ⟨g, 0, none⟩) k c3) _ (fun j v hj => by rw [Nat.zero_add]; simpa using hj) Try.underlying24 rfl lab_info ?_)
                          | ((with_reducible refine at_slot 15 ?_); refine wpList_alloc_blk (o := ⟨some 15, _, _, _, _, _⟩) rfl 24 rfl _ (lab_zero _) ?_; intro w7 hb7 hl7 hs7; clear hs7)
                          | ((with_reducible refine at_store 15 ?_); refine wpList_store_all (o := ⟨_, .store _ (.tmp 15) _, _, _, _, _⟩) rfl 24 (.tmp 15) (.tmp 81) rfl wr.heap.size 24 _ hb7 rfl (labC K (some ⟨g, 0, none⟩) k c3) rfl lab_info rfl (labC_one _ _ _ _) ?_; intro w8 hb8 hg8 hs8; clear hs8; have hl8 : Below wr.heap.size wr w8 := hl7.grown hg8 hl7.size (fun g e => by injection e with e; omega); clear hb7 hl7 hg8; have hB8 := HBr.out.below hl8 HBr.out.lt; have x48 := lab_c4 hB8; have yx8 := (hl8.cell (p := ⟨g, q * 3, none⟩) (by show g < wr.heap.size; omega)).trans yz; have z2 := lab_c2 hb8; have f2 := hb8.frozen 2; have HB9 : Hid (Blk (w8.setCell ⟨wr.heap.size, 2, none⟩ (.int .i64 z.1)) wr.heap.size 24 (labC { K with member := z.1 } (some ⟨g, 0, none⟩) k c3).toArray) := hide (hb8.set_ 2 _); have HL8w := hide hl8; have hz8w := hl8.size; clear hb8 hl8 hB8)
                          | ((with_reducible refine at_slot 109 ?_); refine wpList_load_blk (o := ⟨some 109, _, _, _, _, _⟩) rfl 24 (.tmp 15) rfl wr.heap.size 0 24 _ HB9.out rfl (labC { K with member := z.1 } (some ⟨g, 0, none⟩) k c3) _ (fun j v hj => by rw [Nat.zero_add]; simpa using hj) Try.underlying24 rfl lab_info ?_; generalize hW9 : w8.setCell ⟨wr.heap.size, 2, none⟩ (.int .i64 z.1) = w9; have hl9 : Below wr.heap.size wr w9 := (by rw [← hW9]; exact HL8w.out.setCell (p := ⟨wr.heap.size, 2, none⟩) (Nat.le_refl _) _); have hz9 := hl9.size; have HL9 := hide hl9; have hs69 : ws.heap.size ≤ w9.heap.size := (by omega); clear hW9 hl9 HB9 x48 yx8 z2 f2)
                          | ((with_reducible refine at_slot 110 ?_); refine wpList_build_agg _ rfl (.tmp 109) 33 rfl 24 i1 _ 5 Try.underlying33 hi1 (lab_zero _) hy1i (by omega) (by omega) (labC { K with member := z.1 } (some ⟨g, 0, none⟩) k c3).toArray rfl rfl ?_)
                          | (at_builtin; refine wpList_append_any _ rfl (.tmp 108) (.tmp 110) _ rfl ws.heap.size 24 i1 _ 5 56 Try.underlying33 hi1 hy0 hy1i hy2i rfl (by omega) _ ma _ rfl ((own_later HSA.out HL9.out).alloc _) (w9.heap.size + 1) (some ⟨w9.heap.size, 0, none⟩) 1 1 (labC { K with member := z.1 } (some ⟨g, 0, none⟩) k c3) rfl (Reads.lump w9 (labC { K with member := z.1 } (some ⟨g, 0, none⟩) k c3) 24 (w9.heap.size + 1) 5 (by omega) rfl) (labC_one _ _ _ _) hAa hBa (le_alloc hs69 _) ?_; intro v10 w10 hown10 hb10))
                        have HSA10 : Hid (w10.ownsRow ws.heap.size 24 5 v10 (ma + 1) (lvL ((newA K (failL K i) k i sel (q + 1)).map (fun L => if L.gen = K.gen then (L, some (⟨g, 0, none⟩ : Addr), k, c3) else (L, A8, n8, c8))))) := hide (by rw [HAL.out, lvL_append, lvL_one]; exact hown10)
                        have HBW10 := hide (((HBW.out.trans (HL9.out.mono hzr)).alloc hs69 _).trans hb10)
                        clear hown10 hb10 yz
                        go_roundw
                        case rel => exact ⟨q + 1, ma + 1, by omega, by go_num, by rw [HSv.out], HSA10, by omega, HBW10⟩
                        case measure => simp [intOf]; omega
              · obtain rfl : q = k := by omega
                obtain ⟨wf, rfl⟩ : ∃ wf, wf = wr := ⟨_, rfl⟩
                have hO := HSA.out
                obtain ⟨A7, c7, rfl, hc71, hc72⟩ := own_shape hO
                have hLb : LbIn wf wf.heap.size A7 ma c7 ((newA K (failL K i) q i sel q).map (fun L => if L.gen = K.gen then (L, some (⟨g, 0, none⟩ : Addr), q, c3) else (L, A8, n8, c8))) := LbIn.of_own hO hc71 hc72 (fun y hy => by
                  obtain ⟨L, hL, rfl⟩ := List.mem_map.1 hy
                  obtain ⟨j', _, _, rfl | rfl⟩ := newA_mem hL
                  · rw [if_pos (show (byL K j').gen = K.gen from rfl)]
                    exact (HM8.out.below HBW.out).more hzr
                  · rw [if_neg (show ¬ (byL (failL K i) j').gen = K.gen by show ¬ (failL K i).gen = K.gen; rw [HFg.out]; omega)]
                    exact (HMF.out.below HBW.out).more hzr)
                have hmap : ((newA K (failL K i) q i sel q).map (fun L => if L.gen = K.gen then (L, some (⟨g, 0, none⟩ : Addr), q, c3) else (L, A8, n8, c8))).map (fun x => x.1) = newA K (failL K i) q i sel q := by
                  rw [List.map_map]
                  refine (List.map_congr_left (g := id) (fun L _ => ?_)).trans (List.map_id _)
                  show (if L.gen = K.gen then (L, some (⟨g, 0, none⟩ : Addr), q, c3) else (L, A8, n8, c8)).1 = L
                  split <;> rfl
                have hCh := choose_any A7 ma c7 _ wf.heap.size wf hLb (Nat.le_refl _) (by omega)
                rw [hmap] at hCh
                have hch := chosen_newer HA.out hsm (i := i) (by rw [HKl.out]; exact hik) sel
                rw [HKl.out] at hch
                obtain ⟨e1, e2, q0, e3⟩ := hch
                obtain ⟨V, hV⟩ : ∃ V, V = chosenL (newA K (failL K i) q i sel q) := ⟨_, rfl⟩
                rw [← hV] at e3
                have hCh2 : Calls Try.prog 12 #[.slice A7 ma c7] wf fun e w' => (∃ A n c M m d, e = .returned (.tuple #[.agg (labC V A n c).toArray, .slice M m d, .int .i64 0]) ∧ Gave V wf w' A n c ∧ Reads w' w'.heap.size 1 M m (I64 [])) ∧ Below wf.heap.size wf w' := hCh.mono (fun e w' ⟨⟨A, n, c, M, m, d, he, hG, hM, _, _⟩, hb⟩ => ⟨⟨A, n, c, M, m, d, by rw [hV, ← e1]; exact he, by rw [hV]; exact hG, by rw [← e2]; exact hM⟩, hb⟩)
                have HCh := hide hCh2
                have HVg := hide e3
                have hS : newS q i sel q = true := newS_end (by omega)
                have HLf := hide (HL8.out.trans (HBW.out.mono (by omega)))
                have hlt3 := HFr.out.lt
                have HMFf := hide ((HMF.out.below HBW.out).more hzr)
                rw [hS]
                clear hCh hCh2 hV hmap hLb hO HSA e1 e2 e3 hS
                go_wp2_with fail
                refine HCh.out.mono ?_
                rintro _ w8 ⟨⟨A9, n9, c9, M9, m9, d9, rfl, hG9, hM9⟩, hl8⟩
                obtain rfl : m9 = 0 := by have := hM9.1; simp [I64] at this; omega
                have HF8' := hide (HFr.out.below hl8 hlt3)
                have HMF8 := hide ((HMFf.out.below hl8).more hl8.size)
                have HG9 := hide hG9
                have hz8' := hl8.size
                have HL8' := hide (HLf.out.trans (hl8.mono (by omega)))
                clear hM9 hl8 HCh x4 hG9
                go_upto_region 26 with (first
                  | ((with_reducible refine at_slot 16 ?_); refine wpList_alloc_blk (o := ⟨some 16, _, _, _, _, _⟩) rfl 24 rfl _ (lab_zero _) ?_; intro w9 hb9 hl9 hs9; clear hs9)
                  | ((with_reducible refine at_store 16 ?_); refine wpList_store_all (o := ⟨_, .store _ (.tmp 16) _, _, _, _, _⟩) rfl 24 (.tmp 16) (.tmp 115) rfl w8.heap.size 24 _ hb9 rfl (labC V A9 n9 c9) rfl lab_info rfl (labC_one _ _ _ _) ?_; intro w10 hb10 hg10 hs10; clear hs10))
                have hl10 : Below w8.heap.size w8 w10 := hl9.grown hg10 hl9.size (fun g e => by injection e with e; omega)
                have HL10 := hide (HL8'.out.trans (hl10.mono (by omega)))
                have hF10 := HF8'.out.below hl10 HF8'.out.lt
                have HF10 := hide hF10
                have hn1 : w8.heap.size ≠ gb := by have := HF8'.out.lt; omega
                have t2 := lab_c2 hF10
                have v2 := lab_c2 hb10
                have fz := hb10.frozen 2
                have hB11 : Blk (w10.setCell ⟨w8.heap.size, 2, none⟩ (.int .i64 (failL K i).member)) w8.heap.size 24 (labC (failL K i) A9 n9 c9).toArray := by
                  have h := hb10.set_ 2 (.int .i64 (failL K i).member)
                  rw [HVg.out] at h
                  exact h
                have hF11 := HF10.out.far (p := ⟨w8.heap.size, 2, none⟩) (fun e => hn1 e.symm) (.int .i64 (failL K i).member)
                have hl11 : Below w8.heap.size w8 (w10.setCell ⟨w8.heap.size, 2, none⟩ (.int .i64 (failL K i).member)) := hl10.setCell (p := ⟨w8.heap.size, 2, none⟩) (Nat.le_refl _) _
                have HB11 := hide hB11
                have HF11 := hide hF11
                have HL11 := hide hl11
                clear hl9 hg10 hl10 hF10 hb9 hb10 hB11 hF11 hl11
                go_upto_region 27 with fail
                generalize w10.setCell ⟨w8.heap.size, 2, none⟩ (.int .i64 (failL K i).member) = w11 at HB11 HF11 HL11 ⊢
                have hMV : MbIn w11 w8.heap.size A9 n9 c9 (failL K i).members := by
                  have h := HG9.out.1.below HL11.out
                  rw [HVg.out] at h
                  exact h
                have hSame := same_any (failL K i) (failL K i) A9 A8 n9 c9 n8 c8 w8.heap.size w8.heap.size w11 hMV (HMF8.out.below HL11.out) HL11.out.size HL11.out.size
                rw [sameB_self] at hSame
                have HSame := hide hSame
                clear hMV hSame t2 v2 fz hn1
                go_wp2_with (first
                  | ((with_reducible refine at_slot 121 ?_); refine wpList_load_blk (o := ⟨some 121, _, _, _, _, _⟩) rfl 24 (.tmp 16) rfl w8.heap.size 0 24 _ HB11.out rfl (labC (failL K i) A9 n9 c9) _ (fun j v hj => by rw [Nat.zero_add]; simpa using hj) Try.underlying24 rfl lab_info ?_)
                  | ((with_reducible refine at_slot 122 ?_); refine wpList_load_blk (o := ⟨some 122, _, _, _, _, _⟩) rfl 24 (.tmp 10) rfl gb 0 24 _ HF11.out rfl (labC (failL K i) A8 n8 c8) _ (fun j v hj => by rw [Nat.zero_add]; simpa using hj) Try.underlying24 rfl lab_info ?_)
                  | (go_at_call 13; refine HSame.out.mono ?_; rintro _ w12 ⟨rfl, hl12⟩))
                go_ret
                exact ⟨rfl, (HL8'.out.trans (HL11.out.mono (by omega))).trans (hl12.mono (by have := HL8'.out.size; have := HL11.out.size; omega))⟩

/-! The row's frame, by program: how the walk above proves the statement. -/
set_option maxRecDepth 100000 in
theorem lifted (os : Os) (started : os.Started) (H : Type) (enc : TypeId × Value → H) :
    ReturnsInHanded {} Try.checked os 3 .any (Rows.quorumNewerSpec.pre6 enc Try.prog Try.f3 Rows.quorumNewerRow.domain false) (Rows.quorumNewerSpec.post enc Try.prog Try.f3 false true false false) := by
  refine returnsInHanded_of_change (C := Try.checked) own started (by kernel_rfl) Try.func3
    (ChangeSpec.witness6 (enc := enc) (C := Try.checked) false ⟨#[], #[labV Lab.none_ none 0 0, .int .i64 0, .int .i64 0], []⟩ 8 (by kernel_rfl) (by kernel_rfl) (by kernel_rfl) (by kernel_rfl)) ?_
  intro W base args ds gs before hval0 hW hcnd _
  have hval : ∀ (j : Nat) t v, Try.f3.params[j]? = some t → args[j]? = some v → Value.okWide Try.prog W .any base t v := hval0
  have hW' := hW
  obtain ⟨p, q, hA0, hV, rfl, hfz, hnd⟩ := hW
  have hA : DataW.TrodAll enc Try.prog W 0 (fun _ => true) true Try.f3.params.toList args.toList ds p := hA0
  rw [Try.params3] at hA hval
  obtain ⟨v0, vs0, d0, ds0, p0, q0, hargs, rfl, rfl, h0, r0⟩ := trodAll_cons hA
  obtain ⟨v1, vs1, d1, ds1, p1, q1, rfl, rfl, rfl, h1, r1⟩ := trodAll_cons r0
  obtain ⟨v2, vs2, d2, ds2, p2, q2, rfl, rfl, rfl, h2, r2⟩ := trodAll_cons r1
  obtain ⟨rfl, rfl, rfl⟩ := trodAll_nil r2
  obtain rfl : args = #[v0, v1, v2] := by cases args; simp_all
  obtain ⟨rfl, rfl⟩ := trodVars_none hV
  have k0 := h0
  have lt0 : ∀ x ∈ p0, x.block < W.heap.size := by obtain ⟨m, hm⟩ := k0; exact DataW.trod_lt m _ _ _ hm
  obtain ⟨l0, A0, n0, c0, rfl, x0⟩ := arg_label (hval 0 24 v0 rfl rfl) h0
  obtain ⟨a1, rfl, rfl, rfl, w1⟩ := open_int Try.underlying3 (hval 1 3 v1 rfl rfl) h1
  have b1 := bounds_i64 w1
  obtain ⟨a2, rfl, rfl, rfl, w2⟩ := open_int Try.underlying3 (hval 2 3 v2 rfl rfl) h2
  have b2 := bounds_i64 w2
  clear hA0 hval0
  refine (walk l0 A0 n0 c0 a1 a2 W x0 b1.1 b1.2 b2.1 b2.2).mono fun e W' ⟨he, bel⟩ => ?_
  subst he
  exact ⟨_, rfl, _, _, _, [], _, [], hW', trodAll_mk1 (shut_bool Try.underlying4 _), (trodAll_cons_mk (Below.trod laidOut (by kernel_rfl) (of_decide_eq_true (by kernel_rfl)) k0 bel lt0) (trodAll_cons_mk (shut_int Try.underlying3 w1) (trodAll_cons_mk (shut_int Try.underlying3 w2) trodAll_mk0))), rfl, bel.frame _, fun h => by cases h⟩

theorem over : Rows.quorumNewerRow.holds Try.pinned (OpenSpec.ofChange Rows.quorumNewerSpec) :=
  OpenClaim.holds_of_wide 3 Try.f3 rfl rfl rfl rfl rfl rfl rfl ⟨rfl, rfl, rfl, rfl, rfl⟩ rfl rfl rfl rfl rfl (by kernel_rfl) Try.func3 (by kernel_rfl)
    (of_decide_eq_true (by kernel_rfl)) (by unfold Func.isWrapper; first | (rw [if_pos (by decide +kernel)]; kernel_rfl) | (rw [if_neg (by decide +kernel)]; exact ⟨rfl, rfl⟩))
    (fun os started H enc _ => lifted os started H enc)

/-- The statement. -/
theorem proved : Rows.QuorumNewerSaid := over
#print axioms proved
end Go.Proofs.Ytjdfeidakmkchaa.QuorumNewer
