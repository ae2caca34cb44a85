/- QuorumMissing: one member may be missed, two may not; whatever label and mask come in. -/
import Derived.Test.YtjdfeidakmkchaaLosts
import Derived.Test.YtjdfeidakmkchaaQuorM
import Derived.Test.YtjdfeidakmkchaaTwoRows
import Derived.Deep.DeepCutAuto
import Derived.Deep.CutBlock
import Derived.Deep.CutRange
import Derived.Deep.RegionWith
import Derived.Outline
import Derived.Deep.QuietTactic
import Derived.BigQuiet
namespace Go.Proofs.Ytjdfeidakmkchaa.QuorumMissing
open Go.ChangeShapes Go.WideShapes Go.ChangeAt Go.RowKit Go.Proofs.Ytjdfeidakmkchaa

set_option maxRecDepth 100000 in
set_option maxHeartbeats 16000000 in
theorem walk (l : Lab) (A : Option Addr) (n c : Nat) (mask : Int) (w : World) (hx : MbIn w w.heap.size A n c l.members) (_hmask1 : -9223372036854775808 ≤ mask) (_hmask2 : mask ≤ 9223372036854775807) :
    Calls Try.prog 6 #[labV l A n c, .int .i64 mask] w fun e w' => e = .returned (.bool true) ∧ Below w.heap.size w w' := by
  have HShown := hide shown5_any
  have HCut := hide (fun (w1 : World) (hl : Below w.heap.size w w1) => cut5_any l A n c w.heap.size w1 (hx.below hl) hl.size)
  obtain ⟨Q, hQ⟩ : ∃ Q, Q = (cutL l).members := ⟨_, rfl⟩
  have hQ20 : Q.length ≤ 20 := by rw [hQ]; simp [cutL]; omega
  obtain ⟨K, hK⟩ : ∃ K, K = liveK l := ⟨_, rfl⟩
  have hKm : K.members = Q.map liveM := by rw [hK, hQ]; rfl
  have hKc : ∀ A n c, labC (cutL l) A n c = labC K A n c := by rw [hK]; exact fun _ _ _ => rfl
  have hAll : rightB K = true → AllLive K := by rw [hK]; exact fun h => liveK_all l h
  have HKm := hide hKm
  have HKc := hide hKc
  have HAll := hide hAll
  have HQ := hide hQ
  clear hx hKm hKc hAll hK hQ
  go_enter Try.func6, Try.ntmps6
  go_wp2_with (refine wpList_box_blk rfl 24 (.tmp 0) rfl (.agg (labC l A n c).toArray) rfl ?_; intro w1 hb1q hl1 hs1; clear hs1; have hb1 : Blk w1 w.heap.size 24 (labC l A n c).toArray := hb1q; clear hb1q)
  refine (HShown.out w1).mono ?_
  rintro _ w2 ⟨rfl, hl2⟩
  have hz1 := hb1.lt
  have hz2 := hl2.size
  have HB2 := hide (hb1.below hl2 hz1)
  have HL2 := hide (hl1.trans (hl2.mono (by omega)))
  clear hb1 hl1 hl2
  go_wp2_with ((with_reducible refine at_slot 15 ?_); refine wpList_load_blk (o := ⟨some 15, _, _, _, _, _⟩) rfl 24 (.tmp 2) rfl w.heap.size 0 24 _ HB2.out rfl (labC l A n c) _ (fun j v hj => by rw [Nat.zero_add]; simpa using hj) Try.underlying24 rfl lab_info ?_)
  refine (HCut.out w2 HL2.out).mono ?_
  rintro _ w3 ⟨⟨A3, n3, c3, rfl, hn3, hc3, ho3⟩, hl3⟩
  rw [← HQ.out] at ho3
  have hz3 := hl3.size
  have hn3Q : n3 = Q.length := by have := ho3.1; rw [mbL_length] at this; omega
  have HB3 := hide (HB2.out.below hl3 (by omega))
  have HL3 := hide (HL2.out.trans (hl3.mono (by omega)))
  have HO3 := hide ho3
  have HN3 := hide hn3Q
  have hn20 : n3 ≤ 20 := by omega
  clear ho3 hl3 hn3Q hQ20
  go_wp2_with ((with_reducible refine at_store 2 ?_); refine wpList_store_all (o := ⟨_, .store _ (.tmp 2) _, _, _, _, _⟩) rfl 24 (.tmp 2) (.tmp 16) rfl w.heap.size 24 _ HB3.out rfl (labC (cutL l) A3 n3 c3) rfl lab_info rfl (labC_one _ _ _ _) ?_; intro w4 hb4 hg4 hs4; clear hs4)
  have hne4 : ∀ g, (Value.slice A3 n3 c3).ownBlock = some g → w2.heap.size ≤ g := fun g e => (HO3.out.lt g e).1
  have HO4 : Hid (w4.ownsRow w2.heap.size 28 3 (.slice A3 n3 c3) n3 (mbL (liveL Q 0))) := hide (by rw [live_zero]; exact HO3.out.kept hg4 (.inr (fun e => by have := hne4 _ e; omega)))
  have HB4 : Hid (Blk w4 w.heap.size 24 (labC K A3 n3 c3).toArray) := hide (by rw [← HKc.out]; exact hb4)
  have HL4 := hide (HL3.out.grown hg4 (by omega) (fun g e => by injection e with e; omega))
  clear hne4 hb4 hg4
  go_loopw [6] (fun i wr => ∃ k : Nat, k ≤ n3 ∧ i = .int .i64 k ∧ Hid (wr.ownsRow w2.heap.size 28 3 (.slice A3 n3 c3) n3 (mbL (liveL Q k))) ∧ Hid (Blk wr w.heap.size 24 (labC K A3 n3 c3).toArray) ∧ Hid (Below w.heap.size w wr)) (fun i _ => n3 - (intOf i).toNat)
  case atStart => exact ⟨0, Nat.zero_le _, rfl, HO4, HB4, HL4⟩
  case round =>
    obtain ⟨k, hk, rfl, HO, HB, HL⟩ := hrel
    by_cases hkn : k < n3
    · have hkQ : k < Q.length := by have := HN3.out; omega
      obtain ⟨g, rfl, hgb, hgs⟩ := own_some HO.out (by omega)
      obtain ⟨y0, y1⟩ := own_at HO.out (live_at hkQ)
      have x4 := lab_c4 HB.out
      have HO' := hide (own_poke 0 HO.out (live_at hkQ))
      rw [← live_succ hkQ] at HO'
      have HB' := hide (HB.out.far (p := ⟨g, k * 3 + 2, none⟩) (by show w.heap.size ≠ g; omega) (.int .i64 0))
      have HL' := hide (HL.out.setCell (p := ⟨g, k * 3 + 2, none⟩) (by show w.heap.size ≤ g; omega) (.int .i64 0))
      go_wp2
      go_roundw
      case rel => exact ⟨k + 1, by omega, by go_num, HO', HB', HL'⟩
      case measure => simp [intOf]; omega
    · obtain rfl : k = n3 := by omega
      obtain ⟨w5, rfl⟩ : ∃ w5, w5 = wr := ⟨_, rfl⟩
      have hO5 : w5.ownsRow w2.heap.size 28 3 (.slice A3 k c3) k (mbL K.members) := by
        have h := HO.out
        rw [HN3.out, live_all, ← HN3.out, ← HKm.out] at h
        exact h
      have HO5 := hide hO5
      have hKl : K.members.length = k := by have := hO5.1; rw [mbL_length] at this; omega
      have HKl := hide hKl
      have x4 := lab_c4 HB.out
      have x1 := lab_c1 HB.out
      have hz5 := HL.out.size
      have hlt5 := HB.out.lt
      have HRt := hide (fun (w6 : World) (hl : Below w5.heap.size w5 w6) => right_any K A3 k c3 w5.heap.size w6 ((own_in HO5.out hn3 hc3).below hl) hl.size)
      clear hO5 hKl HO HB4 HO4 HL4 HB3 HO3 HL3 HB2 HL2 HKc HKm HN3 HCut HShown hkn hk
      cases hrt : rightB K with
      | false =>
        have HRv := hide hrt
        clear hrt
        go_wp2_with (first
          | ((with_reducible refine at_slot 29 ?_); refine wpList_load_blk (o := ⟨some 29, _, _, _, _, _⟩) rfl 24 (.tmp 2) rfl w.heap.size 0 24 _ HB.out rfl (labC K A3 k c3) _ (fun j v hj => by rw [Nat.zero_add]; simpa using hj) Try.underlying24 rfl lab_info ?_)
          | (go_at_call 10; refine (HRt.out w5 (Below.refl _ _)).mono ?_; rw [HRv.out]; rintro _ w6 ⟨rfl, hl6⟩; have HB6 := hide (HB.out.below hl6 hlt5); have x4 := lab_c4 HB6.out; have x1 := lab_c1 HB6.out; have hz6 := hl6.size; have HL6 := hide (HL.out.trans (hl6.mono hz5)); have HO6 := hide (own_later HO5.out hl6); clear hl6))
        go_ret
        exact ⟨rfl, HL6.out⟩
      | true =>
        have HRv := hide hrt
        have HA := hide (HAll.out hrt)
        have h12 := HA.out.len
        rw [HKl.out] at h12
        clear hrt HAll
        obtain ⟨g, rfl, hgb, hgs5⟩ := own_some HO5.out (by omega)
        go_wp2_with (first
          | ((with_reducible refine at_slot 29 ?_); refine wpList_load_blk (o := ⟨some 29, _, _, _, _, _⟩) rfl 24 (.tmp 2) rfl w.heap.size 0 24 _ HB.out rfl (labC K (some ⟨g, 0, none⟩) k c3) _ (fun j v hj => by rw [Nat.zero_add]; simpa using hj) Try.underlying24 rfl lab_info ?_)
          | (go_at_call 10; refine (HRt.out w5 (Below.refl _ _)).mono ?_; rw [HRv.out]; rintro _ w6 ⟨rfl, hl6⟩; have HB6 := hide (HB.out.below hl6 hlt5); have x4 := lab_c4 HB6.out; have x1 := lab_c1 HB6.out; have hz6 := hl6.size; have HL6 := hide (HL.out.trans (hl6.mono hz5)); have HO6 := hide (own_later HO5.out hl6); clear hl6))
        clear HRt HO5 HB HL
        obtain ⟨i0, hi0, hz0, hz1i, hz2i⟩ := info_parts int_parts
        obtain ⟨i1, hi1, hy0, hy1i, hy2i⟩ := info_parts lab_parts
        obtain ⟨sel, hsel⟩ : ∃ sel : Nat → Bool, sel = fun j => (bits .and .i64 (mask / 2 ^ j) 1 == 1) := ⟨_, rfl⟩
        go_loopw [7, 8, 9, 10] (fun s7 s8 i _ wr => ∃ (q ma mo : Nat), q ≤ k ∧ i = .int .i64 q ∧ Hid (wr.ownsRow w6.heap.size 24 5 s7 ma (lvL ((allB K sel q).map (fun L => (L, some ⟨g, 0, none⟩, k, c3))))) ∧ Hid (wr.ownsRow w6.heap.size 3 1 s8 mo (I64 (atL K.members sel q))) ∧ Hid (Apart s7 s8) ∧ ma ≤ q ∧ mo ≤ q ∧ Hid (Below w6.heap.size w6 wr)) (fun _ _ i _ _ => k - (intOf i).toNat)
        case atStart => exact ⟨0, 0, 0, Nat.zero_le _, rfl, hide (World.ownsRow_nil _ _ _ _), hide (World.ownsRow_nil _ _ _ _), hide Apart.nil, Nat.le_refl _, Nat.le_refl _, hide (Below.refl _ _)⟩
        case round =>
          obtain ⟨q, ma, mo, hq, rfl, HSA, HSO, HAP, hma, hmo, HBW⟩ := hrel
          have HBr := hide (HB6.out.below HBW.out HB6.out.lt)
          have x4 := lab_c4 HBr.out
          have hzr := HBW.out.size
          by_cases hqk : q < k
          · obtain ⟨x, hxq, hxid, _⟩ := HA.out.get (k := q) (by rw [HKl.out]; exact hqk)
            obtain ⟨g2, he2, hg2s, hcx⟩ := own_id HO6.out hn3 hc3 hxq hqk
            obtain rfl : g = g2 := by injection he2 with he2; injection he2
            have yx : wr.cell? ⟨g, q * 3, none⟩ = some (.int .i64 x.1) := (HBW.out.cell (p := ⟨g, q * 3, none⟩) hg2s).trans hcx
            have hAo : mo + 1 ≤ maxLen := by simp only [maxLen]; omega
            have hBo : (mo + 1) * 8 ≤ 140737488355328 := by omega
            have hAa : ma + 1 ≤ maxLen := by simp only [maxLen]; omega
            have hBa : (ma + 1) * 56 ≤ 140737488355328 := by omega
            have HX := hide hxq
            have HXid := hide hxid
            clear hxq hxid hcx he2
            obtain ⟨dq, hdq⟩ : ∃ dq : Int, mask / 2 ^ q = dq := ⟨_, rfl⟩
            obtain ⟨bq, hbq⟩ : ∃ bq : Int, bits .and .i64 dq 1 = bq := ⟨_, rfl⟩
            have hselq : sel q = (bq == 1) := by rw [hsel, ← hbq, ← hdq]
            have HSel := hide hselq
            clear hselq
            cases hs : sel q with
            | true =>
              have hsq : (bq == 1) = true := by rw [← HSel.out]; exact hs
              have HAT : Hid (atL K.members sel (q + 1) = atL K.members sel q ++ [x.1]) := hide (by rw [atL, hs, if_pos rfl, HXid.out])
              have HAL : Hid (allB K sel (q + 1) = allB K sel q) := hide (by rw [allB, hs, if_pos rfl])
              clear hs
              go_wp2_with (at_builtin; refine wpList_append_two _ rfl (.tmp 46) (.tmp 53) _ rfl w6.heap.size 3 i0 _ 1 8 Try.underlying35 hi0 hz0 hz1i hz2i rfl (by omega) _ mo _ rfl (HSO.out.alloc _) (wr.heap.size + 1) (some ⟨wr.heap.size, 0, none⟩) 1 1 [.int .i64 x.1] rfl (Reads.one _ _ _ _ (by omega)) (one_i64 _) hAo hBo (le_alloc hzr _) ?_; intro v7 w7 hown7 hg7 hb7)
              have HSA7 : Hid (w7.ownsRow w6.heap.size 24 5 u7 ma (lvL ((allB K sel (q + 1)).map (fun L => (L, some ⟨g, 0, none⟩, k, c3))))) := hide (by rw [HAL.out]; exact own_other (HSA.out.alloc _) hg7 HAP.out.symm)
              have HSO7 : Hid (w7.ownsRow w6.heap.size 3 1 v7 (mo + 1) (I64 (atL K.members sel (q + 1)))) := hide (by rw [HAT.out, I64_append]; exact hown7)
              have HAP7 := hide (Apart.next HAP.out.symm (HSA.out.alloc _) hb7).symm
              have HBW7 := hide ((HBW.out.alloc hzr _).grown hg7 (le_alloc hzr _) (fun g' e => (HSO.out.lt g' e).1))
              clear hown7 hg7 hb7 yx
              go_roundw
              case rel => exact ⟨q + 1, ma, mo + 1, by omega, by go_num, HSA7, HSO7, HAP7, by omega, by omega, HBW7⟩
              case measure => simp [intOf]; omega
            | false =>
              have hsq : (bq == 1) = false := by rw [← HSel.out]; exact hs
              have HAT : Hid (atL K.members sel (q + 1) = atL K.members sel q) := hide (by rw [atL, hs]; rfl)
              have HAL : Hid ((allB K sel (q + 1)).map (fun L => (L, some (⟨g, 0, none⟩ : Addr), k, c3)) = (allB K sel q).map (fun L => (L, some (⟨g, 0, none⟩ : Addr), k, c3)) ++ [({ K with member := x.1 }, some (⟨g, 0, none⟩ : Addr), k, c3)]) := hide (by rw [allB, hs, if_neg (by decide), List.map_append, byL, HXid.out]; rfl)
              clear hs
              go_wp2_with (first
                | ((with_reducible refine at_slot 55 ?_); refine wpList_load_blk (o := ⟨some 55, _, _, _, _, _⟩) rfl 24 (.tmp 2) rfl w.heap.size 0 24 _ HBr.out rfl (labC K (some ⟨g, 0, none⟩) k c3) _ (fun j v hj => by rw [Nat.zero_add]; simpa using hj) Try.underlying24 rfl lab_info ?_)
                | ((with_reducible refine at_slot 10 ?_); refine wpList_alloc_blk (o := ⟨some 10, _, _, _, _, _⟩) rfl 24 rfl _ (lab_zero _) ?_; intro w7 hb7 hl7 hs7; clear hs7)
                | ((with_reducible refine at_store 10 ?_); refine wpList_store_all (o := ⟨_, .store _ (.tmp 10) _, _, _, _, _⟩) rfl 24 (.tmp 10) (.tmp 55) rfl wr.heap.size 24 _ hb7 rfl (labC K (some ⟨g, 0, none⟩) k c3) rfl lab_info rfl (labC_one _ _ _ _) ?_; intro w8 hb8 hg8 hs8; clear hs8; have hl8 : Below wr.heap.size wr w8 := hl7.grown hg8 hl7.size (fun g e => by injection e with e; omega); have hB8 := HBr.out.below hl8 HBr.out.lt; have x48 := lab_c4 hB8; have yx8 := (hl8.cell (p := ⟨g, q * 3, none⟩) (by show g < wr.heap.size; omega)).trans yx; have z2 := lab_c2 hb8; have f2 := hb8.frozen 2; have HB9 : Hid (Blk (w8.setCell ⟨wr.heap.size, 2, none⟩ (.int .i64 x.1)) wr.heap.size 24 (labC { K with member := x.1 } (some ⟨g, 0, none⟩) k c3).toArray) := hide (hb8.set_ 2 _); have HL8 := hide hl8; have hz8 := hl8.size; clear hb7 hl7 hb8 hg8 hl8 hB8)
                | ((with_reducible refine at_slot 64 ?_); refine wpList_load_blk (o := ⟨some 64, _, _, _, _, _⟩) rfl 24 (.tmp 10) rfl wr.heap.size 0 24 _ HB9.out rfl (labC { K with member := x.1 } (some ⟨g, 0, none⟩) k c3) _ (fun j v hj => by rw [Nat.zero_add]; simpa using hj) Try.underlying24 rfl lab_info ?_; generalize hW9 : w8.setCell ⟨wr.heap.size, 2, none⟩ (.int .i64 x.1) = w9; have hl9 : Below wr.heap.size wr w9 := (by rw [← hW9]; exact HL8.out.setCell (p := ⟨wr.heap.size, 2, none⟩) (Nat.le_refl _) _); have hz9 := hl9.size; have HL9 := hide hl9; have hs69 : w6.heap.size ≤ w9.heap.size := (by omega); clear hW9 hl9 HB9 x48 yx8 z2 f2)
                | ((with_reducible refine at_slot 65 ?_); refine wpList_build_agg _ rfl (.tmp 64) 33 rfl 24 i1 _ 5 Try.underlying33 hi1 (lab_zero _) hy1i (by omega) (by omega) (labC { K with member := x.1 } (some ⟨g, 0, none⟩) k c3).toArray rfl rfl ?_)
                | (at_builtin; refine wpList_append_two _ rfl (.tmp 63) (.tmp 65) _ rfl w6.heap.size 24 i1 _ 5 56 Try.underlying33 hi1 hy0 hy1i hy2i rfl (by omega) _ ma _ rfl ((own_later HSA.out HL9.out).alloc _) (w9.heap.size + 1) (some ⟨w9.heap.size, 0, none⟩) 1 1 (labC { K with member := x.1 } (some ⟨g, 0, none⟩) k c3) rfl (Reads.lump w9 (labC { K with member := x.1 } (some ⟨g, 0, none⟩) k c3) 24 (w9.heap.size + 1) 5 (by omega) rfl) (labC_one _ _ _ _) hAa hBa (le_alloc hs69 _) ?_; intro v10 w10 hown10 hg10 hb10))
              have HSO9 := own_later HSO.out HL9.out
              have HSA10 : Hid (w10.ownsRow w6.heap.size 24 5 v10 (ma + 1) (lvL ((allB K sel (q + 1)).map (fun L => (L, some ⟨g, 0, none⟩, k, c3))))) := hide (by rw [HAL.out, lvL_append, lvL_one]; exact hown10)
              have HSO10 : Hid (w10.ownsRow w6.heap.size 3 1 u8 mo (I64 (atL K.members sel (q + 1)))) := hide (by rw [HAT.out]; exact own_other (HSO9.alloc _) hg10 HAP.out)
              have HAP10 := hide (Apart.next HAP.out (HSO9.alloc _) hb10)
              have HBW10 := hide (((HBW.out.trans (HL9.out.mono hzr)).alloc hs69 _).grown hg10 (le_alloc hs69 _) (fun g' e => ((own_later HSA.out HL9.out).lt g' e).1))
              clear hown10 hg10 hb10 HSO9 yx
              go_roundw
              case rel => exact ⟨q + 1, ma + 1, mo, by omega, by go_num, HSA10, HSO10, HAP10, by omega, by omega, HBW10⟩
              case measure => simp [intOf]; omega
          · obtain rfl : q = k := by omega
            obtain ⟨wf, rfl⟩ : ∃ wf, wf = wr := ⟨_, rfl⟩
            have hKl := HKl.out
            have hO := HSA.out
            have hU := HSO.out
            have hmaL : ma = (allB K sel q).length := by have := own_count hO; rw [List.length_map] at this; exact this
            have hmoL : mo = (atL K.members sel q).length := own_len64 hU
            obtain ⟨A7, c7, rfl, hc71, hc72⟩ := own_shape hO
            obtain ⟨A8, c8, rfl, hc81, hc82⟩ := own_shape hU
            have hLb : LbIn wf wf.heap.size A7 ma c7 ((allB K sel q).map (fun L => (L, some (⟨g, 0, none⟩ : Addr), q, c3))) := LbIn.of_own hO hc71 hc72 (fun y hy => by
              obtain ⟨L, hL, rfl⟩ := List.mem_map.1 hy
              obtain ⟨j, _, _, rfl⟩ := allB_mem.1 hL
              exact ((own_in HO6.out hn3 hc3).below HBW.out).more hzr)
            have hmap : ((allB K sel q).map (fun L => (L, some (⟨g, 0, none⟩ : Addr), q, c3))).map (fun x => x.1) = allB K sel q := by rw [List.map_map]; exact List.map_id _
            have hCh := choose_any A7 ma c7 _ wf.heap.size wf hLb (Nat.le_refl _) (by omega)
            rw [hmap] at hCh
            obtain ⟨E, hE⟩ : ∃ E, E = chosenE (allB K sel q) := ⟨_, rfl⟩
            obtain ⟨V, hV⟩ : ∃ V, V = chosenL (allB K sel q) := ⟨_, rfl⟩
            obtain ⟨Ms, hMs⟩ : ∃ Ms, Ms = chosenM (allB K sel q) := ⟨_, rfl⟩
            have hCh2 : Calls Try.prog 12 #[.slice A7 ma c7] wf fun e w' => (∃ A n c M m d, e = .returned (.tuple #[.agg (labC V A n c).toArray, .slice M m d, .int .i64 E]) ∧ Gave V wf w' A n c ∧ Reads w' w'.heap.size 1 M m (I64 Ms)) ∧ Below wf.heap.size wf w' := hCh.mono (fun e w' ⟨⟨A, n, c, M, m, d, he, hG, hM, _, _⟩, hb⟩ => ⟨⟨A, n, c, M, m, d, by rw [hE, hV]; exact he, by rw [hV]; exact hG, by rw [hMs]; exact hM⟩, hb⟩)
            have HCh := hide hCh2
            have HU := hide (Reads.of_own hU)
            have hfact : (ma = 0 ∧ E = 8) ∨ (0 < ma ∧ 1 < mo ∧ E = 5 ∧ V = Lab.none_ ∧ Ms = []) ∨ (0 < ma ∧ mo ≤ 1 ∧ E = 0 ∧ V.gen = K.gen ∧ Ms = atL K.members sel q) := by
              by_cases h0 : allB K sel q = []
              · exact .inl ⟨by rw [hmaL, h0]; rfl, by rw [hE, h0]; exact chosen_nil.1⟩
              · have hpos : 0 < ma := by rw [hmaL]; exact List.length_pos_iff.2 h0
                rw [← hKl] at h0
                obtain ⟨e1, e2, e3⟩ := chosen_all HA.out sel h0
                rw [hKl, ← hmoL, ← hE] at e1
                rw [hKl, ← hmoL, ← hV, ← hMs] at e2 e3
                by_cases h1 : 1 < mo
                · rw [if_pos h1] at e1
                  exact .inr (.inl ⟨hpos, h1, e1, e2 h1⟩)
                · rw [if_neg h1] at e1
                  obtain ⟨f1, z, f2⟩ := e3 (by omega)
                  exact .inr (.inr ⟨hpos, by omega, e1, by rw [f2], f1⟩)
            have HFact := hide hfact
            have hle := HBW.out.size
            have HLf := hide (HL6.out.trans (HBW.out.mono (by omega)))
            have hlt2 := HBr.out.lt
            have HMo := hide hmoL
            clear hfact hCh hCh2 hE hV hMs hmap hLb hO hU HSA HSO HAP hKl hmaL hmoL
            go_wp2_with fail
            refine HCh.out.mono ?_
            rintro _ w8 ⟨⟨A9, n9, c9, M9, m9, d9, rfl, hG9, hM9⟩, hl8⟩
            have hn9 : n9 = V.members.length := hG9.1.len.symm
            have hm9 : m9 = Ms.length := by have := hM9.1; simp [I64] at this; omega
            have HN9 := hide hn9
            have HM9 := hide hm9
            have HMR := hide hM9
            have HB8 := hide (HBr.out.below hl8 hlt2)
            have HU8 := hide (HU.out.later hl8)
            have hz8 := hl8.size
            have HL8 := hide (HLf.out.trans (hl8.mono (by omega)))
            clear hn9 hm9 hM9 hG9 hl8 HCh x4
            go_upto_region 20 with (first
              | ((with_reducible refine at_slot 11 ?_); refine wpList_alloc_blk (o := ⟨some 11, _, _, _, _, _⟩) rfl 24 rfl _ (lab_zero _) ?_; intro w9 hb9 hl9 hs9; clear hs9)
              | ((with_reducible refine at_store 11 ?_); refine wpList_store_all (o := ⟨_, .store _ (.tmp 11) _, _, _, _, _⟩) rfl 24 (.tmp 11) (.tmp 70) rfl w8.heap.size 24 _ hb9 rfl (labC V A9 n9 c9) rfl lab_info rfl (labC_one _ _ _ _) ?_; intro w10 hb10 hg10 hs10; clear hs10))
            have hl10 : Below w8.heap.size w8 w10 := hl9.grown hg10 hl9.size (fun g e => by injection e with e; omega)
            have HL10 := hide (HL8.out.trans (hl10.mono (by omega)))
            have hB10 := HB8.out.below hl10 HB8.out.lt
            have HU10 := hide (HU8.out.later hl10)
            have HMR10 := hide (HMR.out.later hl10)
            have x1 := lab_c1 hB10
            have v1 := lab_c1 hb10
            have v4 := lab_c4 hb10
            clear hl9 hg10 hl10 hB10 hb9 hb10 HB8 HU8 HMR HU
            rcases HFact.out with ⟨rfl, rfl⟩ | ⟨hpos, hmo2, rfl, rfl, rfl⟩ | ⟨hpos, hmo2, rfl, hVg, rfl⟩
            · clear v1 v4 x1
              go_wp2
              go_ret
              exact ⟨rfl, HL10.out⟩
            · obtain rfl : n9 = 0 := by rw [HN9.out]; rfl
              obtain rfl : m9 = 0 := by rw [HM9.out]; rfl
              have hma0 : ((ma : Int) == 0) = false := by simp; omega
              have hmo1 : (1 : Int) < (mo : Int) := by omega
              go_wp2
              go_ret
              exact ⟨rfl, HL10.out⟩
            · have hma0 : ((ma : Int) == 0) = false := by simp; omega
              have hmo1 : ¬ (1 : Int) < (mo : Int) := by omega
              have hmm : m9 = mo := by rw [HM9.out, HMo.out]
              rw [hVg] at v1
              clear hVg
              subst hmm
              have HR1 := hide HMR10.out
              have HR2 := hide HU10.out
              by_cases h0 : m9 = 0
              · subst h0
                go_wp2_with fail
                go_quiet (fail)
                go_wp2
                go_ret
                exact ⟨rfl, below_drewN HL10.out _⟩
              · obtain rfl : m9 = 1 := by omega
                obtain ⟨ad9, v9, rfl, _, hv9, hc9⟩ := HR1.out.i64_at (k := 0) (by omega)
                obtain ⟨ad8, v8, rfl, _, hv8, hc8⟩ := HR2.out.i64_at (k := 0) (by omega)
                obtain rfl : v9 = v8 := by rw [hv9] at hv8; injection hv8
                have e9 : ad9.add 0 = ad9 := by unfold Addr.add; split <;> simp_all
                have e8 : ad8.add 0 = ad8 := by unfold Addr.add; split <;> simp_all
                rw [e9] at hc9
                rw [e8] at hc8
                clear e8 e9 hv9 hv8
                go_wp2_with fail
                go_quiet (fail)
                go_wp2
                go_ret
                exact ⟨by simp, below_drewN HL10.out _⟩

/-! The row's frame, by program: how the walk above proves the statement. -/
set_option maxRecDepth 100000 in
theorem lifted (os : Os) (started : os.Started) (H : Type) (enc : TypeId × Value → H) :
    ReturnsInHanded {} Try.checked os 6 .any (Rows.quorumMissingSpec.pre6 enc Try.prog Try.f6 Rows.quorumMissingRow.domain false) (Rows.quorumMissingSpec.post enc Try.prog Try.f6 false true false false) := by
  refine returnsInHanded_of_change (C := Try.checked) own started (by kernel_rfl) Try.func6
    (ChangeSpec.witness6 (enc := enc) (C := Try.checked) false ⟨#[], #[labV Lab.none_ none 0 0, .int .i64 0], []⟩ 8 (by kernel_rfl) (by kernel_rfl) (by kernel_rfl) (by kernel_rfl)) ?_
  intro W base args ds gs before hval0 hW hcnd _
  have hval : ∀ (j : Nat) t v, Try.f6.params[j]? = some t → args[j]? = some v → Value.okWide Try.prog W .any base t v := hval0
  have hW' := hW
  obtain ⟨p, q, hA0, hV, rfl, hfz, hnd⟩ := hW
  have hA : DataW.TrodAll enc Try.prog W 0 (fun _ => true) true Try.f6.params.toList args.toList ds p := hA0
  rw [Try.params6] at hA hval
  obtain ⟨v0, vs0, d0, ds0, p0, q0, hargs, rfl, rfl, h0, r0⟩ := trodAll_cons hA
  obtain ⟨v1, vs1, d1, ds1, p1, q1, rfl, rfl, rfl, h1, r1⟩ := trodAll_cons r0
  obtain ⟨rfl, rfl, rfl⟩ := trodAll_nil r1
  obtain rfl : args = #[v0, v1] := by cases args; simp_all
  obtain ⟨rfl, rfl⟩ := trodVars_none hV
  have k0 := h0
  have lt0 : ∀ x ∈ p0, x.block < W.heap.size := by obtain ⟨m, hm⟩ := k0; exact DataW.trod_lt m _ _ _ hm
  obtain ⟨l0, A0, n0, c0, rfl, x0⟩ := arg_label (hval 0 24 v0 rfl rfl) h0
  obtain ⟨a1, rfl, rfl, rfl, w1⟩ := open_int Try.underlying3 (hval 1 3 v1 rfl rfl) h1
  have b1 := bounds_i64 w1
  clear hA0 hval0
  refine (walk l0 A0 n0 c0 a1 W x0 b1.1 b1.2).mono fun e W' ⟨he, bel⟩ => ?_
  subst he
  exact ⟨_, rfl, _, _, _, [], _, [], hW', trodAll_mk1 (shut_bool Try.underlying4 _), (trodAll_cons_mk (Below.trod laidOut (by kernel_rfl) (of_decide_eq_true (by kernel_rfl)) k0 bel lt0) (trodAll_cons_mk (shut_int Try.underlying3 w1) trodAll_mk0)), rfl, bel.frame _, fun h => by cases h⟩

theorem over : Rows.quorumMissingRow.holds Try.pinned (OpenSpec.ofChange Rows.quorumMissingSpec) :=
  OpenClaim.holds_of_wide 6 Try.f6 rfl rfl rfl rfl rfl rfl rfl ⟨rfl, rfl, rfl, rfl, rfl⟩ rfl rfl rfl rfl rfl (by kernel_rfl) Try.func6 (by kernel_rfl)
    (of_decide_eq_true (by kernel_rfl)) (by unfold Func.isWrapper; first | (rw [if_pos (by decide +kernel)]; kernel_rfl) | (rw [if_neg (by decide +kernel)]; exact ⟨rfl, rfl⟩))
    (fun os started H enc _ => lifted os started H enc)

/-- The statement. -/
theorem proved : Rows.QuorumMissingSaid := over
#print axioms proved
end Go.Proofs.Ytjdfeidakmkchaa.QuorumMissing
