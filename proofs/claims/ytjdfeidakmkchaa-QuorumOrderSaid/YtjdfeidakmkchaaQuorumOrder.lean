/- QuorumOrder: it does not matter in which order labels come, but for whose label is told; whatever labels come in. -/
import Derived.Test.YtjdfeidakmkchaaOrderQ
import Derived.Deep.DeepCutAuto
import Derived.Deep.CutBlock
import Derived.Deep.CutRange
import Derived.Deep.RegionWith
import Derived.Outline
import Derived.Deep.QuietTactic
import Derived.BigQuiet
namespace Go.Proofs.Ytjdfeidakmkchaa.QuorumOrder
open Go.ChangeShapes Go.WideShapes Go.ChangeAt Go.RowKit Go.Proofs.Ytjdfeidakmkchaa
set_option maxRecDepth 100000 in
set_option maxHeartbeats 16000000 in
theorem walk (A : Option Addr) (n c : Nat) (f : Nat → LabV) (w : World) (hx : LabsIn w w.heap.size A n c f) :
    Calls Try.prog 5 #[.slice A n c] w fun e w' => e = .returned (.bool true) ∧ Below w.heap.size w w' := by
  obtain ⟨i1, hi1, hy0, hy1i, hy2i⟩ := info_parts lab_parts
  have HShown := hide shown5_any
  have hL := LbIn.of_labs hx
  have hnc := hx.1
  have hcm := hx.2.1
  have HIn := hide hL
  clear hx hL
  go_enter Try.func5, Try.ntmps5
  go_wp2_with fail
  refine (HShown.out w).mono ?_
  rintro _ w1 ⟨rfl, hl1⟩
  have hz1 := hl1.size
  have HL1 := hide hl1
  clear hl1
  go_wp2_with fail
  go_loopw [4, 5, 6] (fun s4 s5 i wr => ∃ (k : Nat) (La Lb : List LabV), k ≤ n ∧ k ≤ 10 ∧ i = .int .i64 k ∧ Hid (wr.ownsRow w1.heap.size 24 5 s4 k (lvL La)) ∧ Hid (wr.ownsRow w1.heap.size 24 5 s5 k (lvL Lb)) ∧ Hid (Apart s4 s5) ∧ Hid (∀ x ∈ La ++ Lb, MemO wr w1.heap.size x) ∧ Hid (La.map (fun x => x.1) = cutsL f k) ∧ Hid (Lb.map (fun x => x.1) = (cutsL f k).reverse) ∧ Hid (Below w1.heap.size w1 wr)) (fun _ _ i _ => n - (intOf i).toNat)
  case atStart => exact ⟨0, [], [], Nat.zero_le _, by omega, rfl, hide (World.ownsRow_nil _ _ _ _), hide (World.ownsRow_nil _ _ _ _), hide Apart.nil, hide (fun x hx => by cases hx), hide rfl, hide rfl, hide (Below.refl _ _)⟩
  case round =>
    obtain ⟨k, La, Lb, hkn, hk10, rfl, HA, HB, HAP, HM, HLa, HLb, HBW⟩ := hrel
    have hzr := HBW.out.size
    have HLr := hide (HL1.out.trans (HBW.out.mono hz1))
    by_cases h1 : k < n
    · by_cases h2 : k < 10
      · have h10 : decide ((k : Int) < 10) = true := by simp; omega
        obtain ⟨ad, x, rfl, hab, hxk, hlv, hcs⟩ := (HIn.out.below HLr.out).at_ h1
        obtain rfl : f k = x := by simpa [h1] using hxk
        have HS := hide (fun (w2 : World) (hl : Below wr.heap.size wr w2) (j : Nat) v (hj : (lvC (f k))[j]? = some v) => (hl.cell (p := (ad.add (k * 5)).add j) (by rw [block_of_add, block_of_add]; omega)).trans (hcs j v hj))
        have HCut := hide (fun (w2 : World) (hl : Below wr.heap.size wr w2) => cut5_any (f k).1 (f k).2.1 (f k).2.2.1 (f k).2.2.2 w.heap.size w2 (hlv.below (hl.mono (by omega))) (by have := hl.size; omega))
        have hAa : k + 1 ≤ maxLen := by simp only [maxLen]; omega
        have hBa : (k + 1) * 56 ≤ 140737488355328 := by omega
        have hAb : 1 + k ≤ maxLen := by simp only [maxLen]; omega
        have hBb : (1 + k) * 56 ≤ 140737488355328 := by omega
        have HC1 : Hid (∀ (j : Nat) v, (lvC (f k))[j]? = some v → w1.cell? ((ad.add (k * 5)).add j) = some v) := hide (fun j v hj => (HBW.out.cell (p := (ad.add (k * 5)).add j) (by rw [block_of_add, block_of_add]; omega)).symm.trans (hcs j v hj))
        have HLV : Hid (LvIn w1 w.heap.size (f k)) := hide ((HIn.out.below HL1.out).mem (f k) (List.mem_of_getElem? hxk))
        clear hxk hlv hcs
        go_wp2_with ((with_reducible refine at_slot 29 ?_); refine wpList_load_at rfl 24 (.tmp 28) rfl (ad.add (k * 5)) rfl (lvC (f k)) _ (HS.out wr (Below.refl _ _)) Try.underlying24 rfl lab_info ?_)
        refine (HCut.out wr (Below.refl _ _)).mono ?_
        rintro _ w2 ⟨⟨A2, n2, c2, rfl, hn2, hc2, ho2⟩, hl2⟩
        have hz2 := hl2.size
        have HX2 : Hid (MemO w2 w1.heap.size (cutL (f k).1, A2, n2, c2)) := hide ⟨own_base ho2 hzr, hn2, hc2⟩
        have HA2 := hide (own_later HA.out hl2)
        have HB2 := hide (own_later HB.out hl2)
        have HM2 := hide (fun y hy => (HM.out y hy).later hl2)
        have HW2 := hide hl2
        have hs2 : w1.heap.size ≤ w2.heap.size := by omega
        clear ho2 hl2 HA HB HM
        go_upto_region 8 with (first
          | ((with_reducible refine at_slot 31 ?_); refine wpList_build_agg _ rfl (.tmp 30) 33 rfl 24 i1 _ 5 Try.underlying33 hi1 (lab_zero _) hy1i (by omega) (by omega) (labC (cutL (f k).1) A2 n2 c2).toArray rfl rfl ?_)
          | (at_builtin; refine wpList_append_two _ rfl (.tmp 25) (.tmp 31) _ rfl w1.heap.size 24 i1 _ 5 56 Try.underlying33 hi1 hy0 hy1i hy2i rfl (by omega) _ k _ rfl (HA2.out.alloc _) (w2.heap.size + 1) (some ⟨w2.heap.size, 0, none⟩) 1 1 (labC (cutL (f k).1) A2 n2 c2) rfl (Reads.lump w2 (labC (cutL (f k).1) A2 n2 c2) 24 (w2.heap.size + 1) 5 (by omega) rfl) (labC_one _ _ _ _) hAa hBa (le_alloc hs2 _) ?_; intro v3 w3 hown3 hg3 hb3))
        have HA3 : Hid (w3.ownsRow w1.heap.size 24 5 v3 (k + 1) (lvL (La ++ [(cutL (f k).1, A2, n2, c2)]))) := hide (by rw [lvL_append, lvL_one]; exact hown3)
        have HB3 := hide (own_other (HB2.out.alloc _) hg3 HAP.out)
        have HAP3 := hide (Apart.next HAP.out (HB2.out.alloc _) hb3)
        have HX3 := hide ((HX2.out.later ((Below.refl _ _).alloc (Nat.le_refl _) _)).app (HA2.out.alloc _) hg3)
        have HM3 := hide (fun y hy => ((HM2.out y hy).later ((Below.refl _ _).alloc (Nat.le_refl _) _)).app (HA2.out.alloc _) hg3)
        have HBW3 := hide (((HBW.out.trans (HW2.out.mono hzr)).alloc hs2 _).grown hg3 (le_alloc hs2 _) (fun g' e => (HA2.out.lt g' e).1))
        have hz3 := hg3.size
        rw [World.size_alloc] at hz3
        have hcx : ∀ (j : Nat) v, (lvC (f k))[j]? = some v → w3.cell? ((ad.add (k * 5)).add j) = some v := fun j v hj => (HBW3.out.cell (p := (ad.add (k * 5)).add j) (by rw [block_of_add, block_of_add]; omega)).trans (HC1.out j v hj)
        have HC3 := hide hcx
        have HCut3 := hide (cut5_any (f k).1 (f k).2.1 (f k).2.2.1 (f k).2.2.2 w.heap.size w3 (HLV.out.below (HBW3.out.mono hz1)) (by omega))
        clear hown3 hg3 hb3 HA2 HB2 HM2 HX2 hcx
        go_wp2_with ((with_reducible refine at_slot 36 ?_); refine wpList_load_at rfl 24 (.tmp 35) rfl (ad.add (k * 5)) rfl (lvC (f k)) _ HC3.out Try.underlying24 rfl lab_info ?_)
        refine HCut3.out.mono ?_
        rintro _ w4 ⟨⟨A4, n4, c4, rfl, hn4, hc4, ho4⟩, hl4⟩
        have hz4 := hl4.size
        have hs4 : w1.heap.size ≤ w4.heap.size := by omega
        have HX4 : Hid (MemO w4 w1.heap.size (cutL (f k).1, A4, n4, c4)) := hide ⟨own_base ho4 (by omega), hn4, hc4⟩
        have HY4 := hide (HX3.out.later hl4)
        have HA4 := hide (own_later HA3.out hl4)
        have HB4 := hide (own_later HB3.out hl4)
        have HM4 := hide (fun y hy => (HM3.out y hy).later hl4)
        have HBW4 := hide (HBW3.out.trans (hl4.mono (by omega)))
        obtain ⟨A5, c5, e5, hc51, hc52⟩ := own_shape HB4.out
        have HR4 : Hid (Reads w4 w4.heap.size 5 A5 k (lvL Lb)) := hide (by have h := HB4.out; rw [e5] at h; exact Reads.of_own h)
        have HE5 := hide e5
        clear ho4 hl4 HA3 HB3 HM3 HX3 e5
        rw [HE5.out]
        go_wp2_with (first
          | ((with_reducible refine at_slot 38 ?_); refine wpList_build_agg _ rfl (.tmp 37) 33 rfl 24 i1 _ 5 Try.underlying33 hi1 (lab_zero _) hy1i (by omega) (by omega) (labC (cutL (f k).1) A4 n4 c4).toArray rfl rfl ?_)
          | (at_builtin; refine wpList_append_two _ rfl (.tmp 38) (.tmp 39) _ rfl w1.heap.size 24 i1 _ 5 56 Try.underlying33 hi1 hy0 hy1i hy2i rfl (by omega) _ 1 _ rfl (own_lit (labC (cutL (f k).1) A4 n4 c4) hs4 rfl) w4.heap.size A5 k c5 (lvL Lb) rfl (HR4.out.alloc (Nat.le_refl _) _) (lvL_cell _) hAb hBb (le_alloc hs4 _) ?_; intro v6 w6 hown6 hg6 hb6))
        have hU4 : (w4.alloc (.cells (labC (cutL (f k).1) A4 n4 c4).toArray 24)).ownsRow w1.heap.size 24 5 (.slice (some ⟨w4.heap.size, 0, none⟩) 1 1) 1 (labC (cutL (f k).1) A4 n4 c4) := own_lit _ hs4 rfl
        have hap4 : Apart (.slice (some ⟨w4.heap.size, 0, none⟩) 1 1) v3 := fun g' e1 e2 => by
          have h3 := (HA4.out.lt g' e2).2
          have e1' : some w4.heap.size = some g' := e1
          injection e1' with e1'
          omega
        have HA6 := hide (own_other (HA4.out.alloc _) hg6 hap4)
        have HB6 : Hid (w6.ownsRow w1.heap.size 24 5 v6 (k + 1) (lvL ((cutL (f k).1, A4, n4, c4) :: Lb))) := hide (by rw [lvL_cons, Nat.add_comm]; exact hown6)
        have HAP6 := hide (Apart.next hap4 (HA4.out.alloc _) hb6).symm
        have HM6 : Hid (∀ y ∈ (La ++ [(cutL (f k).1, A2, n2, c2)]) ++ ((cutL (f k).1, A4, n4, c4) :: Lb), MemO w6 w1.heap.size y) := hide (fun y hy => by
          have hal : ∀ {y}, MemO w4 w1.heap.size y → MemO w6 w1.heap.size y := fun h => (h.later ((Below.refl _ _).alloc (Nat.le_refl _) _)).app hU4 hg6
          rcases List.mem_append.1 hy with hy | hy
          · rcases List.mem_append.1 hy with hy | hy
            · exact hal (HM4.out y (List.mem_append_left _ hy))
            · simp only [List.mem_singleton] at hy
              subst hy
              exact hal HY4.out
          · rcases List.mem_cons.1 hy with rfl | hy
            · exact hal HX4.out
            · exact hal (HM4.out y (List.mem_append_right _ hy)))
        have HLa6 : Hid ((La ++ [(cutL (f k).1, A2, n2, c2)]).map (fun x => x.1) = cutsL f (k + 1)) := hide (by rw [List.map_append, HLa.out, cutsL_succ]; rfl)
        have HLb6 : Hid (((cutL (f k).1, A4, n4, c4) :: Lb).map (fun x => x.1) = (cutsL f (k + 1)).reverse) := hide (by rw [List.map_cons, HLb.out, cutsL_rev])
        have HBW6 := hide ((HBW4.out.alloc hs4 _).grown hg6 (le_alloc hs4 _) (fun g' e => (hU4.lt g' e).1))
        clear hown6 hg6 hb6 hU4 hap4
        go_roundw
        case rel => exact ⟨k + 1, _, _, by omega, by omega, by go_num, HA6, HB6, HAP6, HM6, HLa6, HLb6, HBW6⟩
        case measure => simp [intOf]; omega
      · have h10 : decide ((k : Int) < 10) = false := by simp; omega
        obtain ⟨wf, rfl⟩ : ∃ wf, wf = wr := ⟨_, rfl⟩
        obtain ⟨A7, c7, rfl, hc71, hc72⟩ := own_shape HA.out
        obtain ⟨A8, c8, rfl, hc81, hc82⟩ := own_shape HB.out
        have hLa : LbIn wf wf.heap.size A7 k c7 La := LbIn.of_own HA.out hc71 hc72 (fun y hy => (HM.out y (List.mem_append_left _ hy)).in_)
        have hLb : LbIn wf wf.heap.size A8 k c8 Lb := LbIn.of_own HB.out hc81 hc82 (fun y hy => (HM.out y (List.mem_append_right _ hy)).in_)
        obtain ⟨q1, q2, q3⟩ := cuts_same f k
        obtain ⟨E, hE⟩ : ∃ E, E = chosenE (cutsL f k) := ⟨_, rfl⟩
        obtain ⟨V, hV⟩ : ∃ V, V = chosenL (cutsL f k) := ⟨_, rfl⟩
        obtain ⟨U, hU⟩ : ∃ U, U = chosenL (cutsL f k).reverse := ⟨_, rfl⟩
        obtain ⟨Ms, hMs⟩ : ∃ Ms, Ms = chosenM (cutsL f k) := ⟨_, rfl⟩
        rw [← hV, ← hU] at q3
        have hCa : Calls Try.prog 12 #[.slice A7 k c7] wf fun e w' => (∃ A n c M m d, e = .returned (.tuple #[.agg (labC V A n c).toArray, .slice M m d, .int .i64 E]) ∧ Gave V wf w' A n c ∧ Reads w' w'.heap.size 1 M m (I64 Ms) ∧ m ≤ d ∧ d ≤ maxLen) ∧ Below wf.heap.size wf w' := by
          have h := choose_any A7 k c7 La wf.heap.size wf hLa (Nat.le_refl _) (by omega)
          rw [HLa.out] at h
          exact h.mono (fun e w' ⟨⟨A, n, c, M, m, d, he, hG, hM, hd⟩, hb⟩ => ⟨⟨A, n, c, M, m, d, by rw [hV, hE]; exact he, by rw [hV]; exact hG, by rw [hMs]; exact hM, hd⟩, hb⟩)
        have hCb : ∀ w2 : World, Below wf.heap.size wf w2 → Calls Try.prog 12 #[.slice A8 k c8] w2 fun e w' => (∃ A n c M m d, e = .returned (.tuple #[.agg (labC U A n c).toArray, .slice M m d, .int .i64 E]) ∧ Gave U w2 w' A n c ∧ Reads w' w'.heap.size 1 M m (I64 Ms) ∧ m ≤ d ∧ d ≤ maxLen) ∧ Below w2.heap.size w2 w' := by
          intro w2 hl
          have h := choose_any A8 k c8 Lb wf.heap.size w2 (hLb.below hl) hl.size (by omega)
          rw [HLb.out] at h
          exact h.mono (fun e w' ⟨⟨A, n, c, M, m, d, he, hG, hM, hd⟩, hb⟩ => ⟨⟨A, n, c, M, m, d, by rw [hU, hE, q1]; exact he, by rw [hU]; exact hG, by rw [hMs, q2]; exact hM, hd⟩, hb⟩)
        have HCa := hide hCa
        have HCb := hide hCb
        have HUV := hide q3
        have hEE : (E != E) = false := by simp
        clear hCa hCb hLa hLb q1 q2 q3 hE hV hU hMs HA HB HAP HM HLa HLb HBW
        go_wp2_with fail
        refine HCa.out.mono ?_
        rintro _ w8 ⟨⟨A9, n9, c9, M9, m9, d9, rfl, hG9, hM9, hd9, hx9⟩, hl8⟩
        have hz8 := hl8.size
        have HG9 := hide hG9
        have HR9 := hide hM9
        have hm9 : m9 = Ms.length := by have := hM9.1; simp [I64] at this; omega
        have HM9 := hide hm9
        have HL8 := hide hl8
        clear hG9 hM9 hl8 hm9 HCa
        go_upto_region 10 with (first
          | ((with_reducible refine at_slot 7 ?_); refine wpList_alloc_blk (o := ⟨some 7, _, _, _, _, _⟩) rfl 24 rfl _ (lab_zero _) ?_; intro w9 hb9 hl9 hs9; clear hs9)
          | ((with_reducible refine at_store 7 ?_); refine wpList_store_all (o := ⟨_, .store _ (.tmp 7) _, _, _, _, _⟩) rfl 24 (.tmp 7) (.tmp 44) rfl w8.heap.size 24 _ hb9 rfl (labC V A9 n9 c9) rfl lab_info rfl (labC_one _ _ _ _) ?_; intro w10 hb10 hg10 hs10; clear hs10))
        have hl10 : Below w8.heap.size w8 w10 := hl9.grown hg10 hl9.size (fun g e => by injection e with e; omega)
        have hz10 := hl10.size
        have HB10 := hide hb10
        have HG10 := hide (HG9.out.later hl10)
        have HR10 := hide (HR9.out.later hl10)
        have HL10 := hide (HL8.out.trans (hl10.mono hz8))
        have hlt10 := hb10.lt
        clear hl9 hg10 hb9 hb10 hl10 HG9 HR9 HL8
        go_wp2_with fail
        refine (HCb.out w10 HL10.out).mono ?_
        rintro _ w11 ⟨⟨A11, n11, c11, M11, m11, d11, rfl, hG11, hM11, hd11, hx11⟩, hl11⟩
        have hz11 := hl11.size
        obtain rfl : m11 = m9 := by have := hM11.1; simp [I64] at this; have := HM9.out; omega
        have HG11 := hide hG11
        have HR11 := hide hM11
        have HB11 := hide (HB10.out.below hl11 hlt10)
        have HA11 := hide ((HG10.out.later hl11).1)
        have HS11 := hide (HR10.out.later hl11)
        have HL11 := hide (HLr.out.trans ((HL10.out.trans (hl11.mono (by omega))).mono (by have := HLr.out.size; omega)))
        clear hG11 hM11 hl11 HCb HG10 HR10 HB10
        go_upto_region 11 with (first
          | ((with_reducible refine at_slot 10 ?_); refine wpList_alloc_blk (o := ⟨some 10, _, _, _, _, _⟩) rfl 24 rfl _ (lab_zero _) ?_; intro w12 hb12 hl12 hs12; clear hs12)
          | ((with_reducible refine at_store 10 ?_); refine wpList_store_all (o := ⟨_, .store _ (.tmp 10) _, _, _, _, _⟩) rfl 24 (.tmp 10) (.tmp 50) rfl w11.heap.size 24 _ hb12 rfl (labC U A11 n11 c11) rfl lab_info rfl (labC_one _ _ _ _) ?_; intro w13 hb13 hg13 hs13; clear hs13))
        have hl13 : Below w11.heap.size w11 w13 := hl12.grown hg13 hl12.size (fun g e => by injection e with e; omega)
        have hz13 := hl13.size
        have HB13 := hide hb13
        have HC13 := hide (HB11.out.below hl13 HB11.out.lt)
        have HA13 := hide (HA11.out.below hl13)
        have HD13 := hide (HG11.out.1.below hl13)
        have HR13 := hide (HS11.out.later hl13)
        have HS13 := hide (HR11.out.later hl13)
        have HL13 := hide (HL11.out.trans (hl13.mono (by have := HL11.out.size; omega)))
        have hne : w8.heap.size < w11.heap.size := by omega
        unfold maxLen at hx9 hx11
        clear hl12 hg13 hb12 hb13 hl13 HR11 HB11 HA11 HS11 HG11
        go_wp2_with fail
        go_loopw [13] (fun i wr => ∃ q : Nat, q ≤ m11 ∧ i = .int .i64 q ∧ Hid (Blk wr w11.heap.size 24 (labC U A11 n11 c11).toArray) ∧ Hid (Blk wr w8.heap.size 24 (labC V A9 n9 c9).toArray) ∧ Hid (MbIn wr w11.heap.size A9 n9 c9 V.members) ∧ Hid (MbIn wr w11.heap.size A11 n11 c11 U.members) ∧ Hid (Reads wr wr.heap.size 1 M9 m11 (I64 Ms)) ∧ Hid (Reads wr wr.heap.size 1 M11 m11 (I64 Ms)) ∧ Hid (Below w.heap.size w wr) ∧ w11.heap.size ≤ wr.heap.size) (fun i _ => m11 - (intOf i).toNat)
        case atStart => exact ⟨0, Nat.zero_le _, rfl, HB13, HC13, HA13, HD13, HR13, HS13, HL13, hz13⟩
        case round =>
          obtain ⟨q, hq, rfl, HBx, HCx, HAx, HDx, HRx, HSx, HLx, hzx⟩ := hrel
          by_cases hqm : q < m11
          · obtain ⟨a9, v9, rfl, _, hv9, hc9⟩ := HRx.out.i64_at hqm
            obtain ⟨a8, v8, rfl, _, hv8, hc8⟩ := HSx.out.i64_at hqm
            obtain rfl : v9 = v8 := by rw [hv9] at hv8; injection hv8
            have hvv : (v9 != v9) = false := by simp
            clear hv9 hv8
            go_wp2_with fail
            go_quiet (fail)
            go_wp2
            go_roundw
            case rel => exact ⟨q + 1, by omega, by go_num, hide (HBx.out.drewN _), hide (HCx.out.drewN _), hide ⟨HAx.out.1.drewN _, HAx.out.2⟩, hide ⟨HDx.out.1.drewN _, HDx.out.2⟩, hide (HRx.out.drewN _), hide (HSx.out.drewN _), hide (below_drewN HLx.out _), hzx⟩
            case measure => simp [intOf]; omega
          · obtain rfl : q = m11 := by omega
            obtain ⟨wg, rfl⟩ : ∃ wg, wg = wr := ⟨_, rfl⟩
            have x2 := lab_c2 HCx.out
            have y2 := lab_c2 HBx.out
            have f2 := HBx.out.frozen 2
            have hlt11 := HBx.out.lt
            have hB14 : Blk (wg.setCell ⟨w11.heap.size, 2, none⟩ (.int .i64 V.member)) w11.heap.size 24 (labC V A11 n11 c11).toArray := by
              have h := HBx.out.set_ 2 (.int .i64 V.member)
              have e : (labC V A11 n11 c11).toArray = (labC { U with member := V.member } A11 n11 c11).toArray := by rw [HUV.out]
              rw [e]
              exact h
            have hC14 := HCx.out.far (p := ⟨w11.heap.size, 2, none⟩) (by show w8.heap.size ≠ w11.heap.size; omega) (.int .i64 V.member)
            have hb14 : Below w11.heap.size wg (wg.setCell ⟨w11.heap.size, 2, none⟩ (.int .i64 V.member)) := (Below.refl _ _).setCell (p := ⟨w11.heap.size, 2, none⟩) (Nat.le_refl _) _
            have hL14 : Below w.heap.size w (wg.setCell ⟨w11.heap.size, 2, none⟩ (.int .i64 V.member)) := HLx.out.setCell (p := ⟨w11.heap.size, 2, none⟩) (by show w.heap.size ≤ w11.heap.size; have := HL11.out.size; omega) _
            have hmem : U.members = V.members := by have h := congrArg Lab.members HUV.out; exact h
            have hSame := same_any V V A9 A11 n9 c9 n11 c11 w11.heap.size w11.heap.size (wg.setCell ⟨w11.heap.size, 2, none⟩ (.int .i64 V.member)) (HAx.out.below hb14) (by rw [← hmem]; exact HDx.out.below hb14) (by have := hb14.size; omega) (by have := hb14.size; omega)
            rw [sameB_self] at hSame
            have HSame := hide hSame
            have HB14 := hide hB14
            have HC14 := hide hC14
            have HL14 := hide hL14
            clear hB14 hC14 hL14 hSame hmem hb14
            go_upto_region 19 with fail
            generalize wg.setCell ⟨w11.heap.size, 2, none⟩ (.int .i64 V.member) = w14 at HB14 HC14 HL14 HSame ⊢
            clear x2 y2 f2
            go_wp2_with (first
              | (refine when_load rfl 24 (.tmp 7) rfl w8.heap.size 0 24 _ HC14.out rfl (labC V A9 n9 c9) _ (fun j v hj => by rw [Nat.zero_add]; simpa using hj) Try.underlying24 rfl lab_info ?_)
              | (refine when_load rfl 24 (.tmp 10) rfl w11.heap.size 0 24 _ HB14.out rfl (labC V A11 n11 c11) _ (fun j v hj => by rw [Nat.zero_add]; simpa using hj) Try.underlying24 rfl lab_info ?_)
              | (go_at_call 13; refine HSame.out.mono ?_; rintro _ w15 ⟨rfl, hl15⟩))
            go_ret
            exact ⟨rfl, HL14.out.trans (hl15.mono HL14.out.size)⟩
    · have hkk : k = n := by omega
      clear hkk
      obtain ⟨wf, rfl⟩ : ∃ wf, wf = wr := ⟨_, rfl⟩
      obtain ⟨A7, c7, rfl, hc71, hc72⟩ := own_shape HA.out
      obtain ⟨A8, c8, rfl, hc81, hc82⟩ := own_shape HB.out
      have hLa : LbIn wf wf.heap.size A7 k c7 La := LbIn.of_own HA.out hc71 hc72 (fun y hy => (HM.out y (List.mem_append_left _ hy)).in_)
      have hLb : LbIn wf wf.heap.size A8 k c8 Lb := LbIn.of_own HB.out hc81 hc82 (fun y hy => (HM.out y (List.mem_append_right _ hy)).in_)
      obtain ⟨q1, q2, q3⟩ := cuts_same f k
      obtain ⟨E, hE⟩ : ∃ E, E = chosenE (cutsL f k) := ⟨_, rfl⟩
      obtain ⟨V, hV⟩ : ∃ V, V = chosenL (cutsL f k) := ⟨_, rfl⟩
      obtain ⟨U, hU⟩ : ∃ U, U = chosenL (cutsL f k).reverse := ⟨_, rfl⟩
      obtain ⟨Ms, hMs⟩ : ∃ Ms, Ms = chosenM (cutsL f k) := ⟨_, rfl⟩
      rw [← hV, ← hU] at q3
      have hCa : Calls Try.prog 12 #[.slice A7 k c7] wf fun e w' => (∃ A n c M m d, e = .returned (.tuple #[.agg (labC V A n c).toArray, .slice M m d, .int .i64 E]) ∧ Gave V wf w' A n c ∧ Reads w' w'.heap.size 1 M m (I64 Ms) ∧ m ≤ d ∧ d ≤ maxLen) ∧ Below wf.heap.size wf w' := by
        have h := choose_any A7 k c7 La wf.heap.size wf hLa (Nat.le_refl _) (by omega)
        rw [HLa.out] at h
        exact h.mono (fun e w' ⟨⟨A, n, c, M, m, d, he, hG, hM, hd⟩, hb⟩ => ⟨⟨A, n, c, M, m, d, by rw [hV, hE]; exact he, by rw [hV]; exact hG, by rw [hMs]; exact hM, hd⟩, hb⟩)
      have hCb : ∀ w2 : World, Below wf.heap.size wf w2 → Calls Try.prog 12 #[.slice A8 k c8] w2 fun e w' => (∃ A n c M m d, e = .returned (.tuple #[.agg (labC U A n c).toArray, .slice M m d, .int .i64 E]) ∧ Gave U w2 w' A n c ∧ Reads w' w'.heap.size 1 M m (I64 Ms) ∧ m ≤ d ∧ d ≤ maxLen) ∧ Below w2.heap.size w2 w' := by
        intro w2 hl
        have h := choose_any A8 k c8 Lb wf.heap.size w2 (hLb.below hl) hl.size (by omega)
        rw [HLb.out] at h
        exact h.mono (fun e w' ⟨⟨A, n, c, M, m, d, he, hG, hM, hd⟩, hb⟩ => ⟨⟨A, n, c, M, m, d, by rw [hU, hE, q1]; exact he, by rw [hU]; exact hG, by rw [hMs, q2]; exact hM, hd⟩, hb⟩)
      have HCa := hide hCa
      have HCb := hide hCb
      have HUV := hide q3
      have hEE : (E != E) = false := by simp
      clear hCa hCb hLa hLb q1 q2 q3 hE hV hU hMs HA HB HAP HM HLa HLb HBW
      go_wp2_with fail
      refine HCa.out.mono ?_
      rintro _ w8 ⟨⟨A9, n9, c9, M9, m9, d9, rfl, hG9, hM9, hd9, hx9⟩, hl8⟩
      have hz8 := hl8.size
      have HG9 := hide hG9
      have HR9 := hide hM9
      have hm9 : m9 = Ms.length := by have := hM9.1; simp [I64] at this; omega
      have HM9 := hide hm9
      have HL8 := hide hl8
      clear hG9 hM9 hl8 hm9 HCa
      go_upto_region 10 with (first
        | ((with_reducible refine at_slot 7 ?_); refine wpList_alloc_blk (o := ⟨some 7, _, _, _, _, _⟩) rfl 24 rfl _ (lab_zero _) ?_; intro w9 hb9 hl9 hs9; clear hs9)
        | ((with_reducible refine at_store 7 ?_); refine wpList_store_all (o := ⟨_, .store _ (.tmp 7) _, _, _, _, _⟩) rfl 24 (.tmp 7) (.tmp 44) rfl w8.heap.size 24 _ hb9 rfl (labC V A9 n9 c9) rfl lab_info rfl (labC_one _ _ _ _) ?_; intro w10 hb10 hg10 hs10; clear hs10))
      have hl10 : Below w8.heap.size w8 w10 := hl9.grown hg10 hl9.size (fun g e => by injection e with e; omega)
      have hz10 := hl10.size
      have HB10 := hide hb10
      have HG10 := hide (HG9.out.later hl10)
      have HR10 := hide (HR9.out.later hl10)
      have HL10 := hide (HL8.out.trans (hl10.mono hz8))
      have hlt10 := hb10.lt
      clear hl9 hg10 hb9 hb10 hl10 HG9 HR9 HL8
      go_wp2_with fail
      refine (HCb.out w10 HL10.out).mono ?_
      rintro _ w11 ⟨⟨A11, n11, c11, M11, m11, d11, rfl, hG11, hM11, hd11, hx11⟩, hl11⟩
      have hz11 := hl11.size
      obtain rfl : m11 = m9 := by have := hM11.1; simp [I64] at this; have := HM9.out; omega
      have HG11 := hide hG11
      have HR11 := hide hM11
      have HB11 := hide (HB10.out.below hl11 hlt10)
      have HA11 := hide ((HG10.out.later hl11).1)
      have HS11 := hide (HR10.out.later hl11)
      have HL11 := hide (HLr.out.trans ((HL10.out.trans (hl11.mono (by omega))).mono (by have := HLr.out.size; omega)))
      clear hG11 hM11 hl11 HCb HG10 HR10 HB10
      go_upto_region 11 with (first
        | ((with_reducible refine at_slot 10 ?_); refine wpList_alloc_blk (o := ⟨some 10, _, _, _, _, _⟩) rfl 24 rfl _ (lab_zero _) ?_; intro w12 hb12 hl12 hs12; clear hs12)
        | ((with_reducible refine at_store 10 ?_); refine wpList_store_all (o := ⟨_, .store _ (.tmp 10) _, _, _, _, _⟩) rfl 24 (.tmp 10) (.tmp 50) rfl w11.heap.size 24 _ hb12 rfl (labC U A11 n11 c11) rfl lab_info rfl (labC_one _ _ _ _) ?_; intro w13 hb13 hg13 hs13; clear hs13))
      have hl13 : Below w11.heap.size w11 w13 := hl12.grown hg13 hl12.size (fun g e => by injection e with e; omega)
      have hz13 := hl13.size
      have HB13 := hide hb13
      have HC13 := hide (HB11.out.below hl13 HB11.out.lt)
      have HA13 := hide (HA11.out.below hl13)
      have HD13 := hide (HG11.out.1.below hl13)
      have HR13 := hide (HS11.out.later hl13)
      have HS13 := hide (HR11.out.later hl13)
      have HL13 := hide (HL11.out.trans (hl13.mono (by have := HL11.out.size; omega)))
      have hne : w8.heap.size < w11.heap.size := by omega
      unfold maxLen at hx9 hx11
      clear hl12 hg13 hb12 hb13 hl13 HR11 HB11 HA11 HS11 HG11
      go_wp2_with fail
      go_loopw [13] (fun i wr => ∃ q : Nat, q ≤ m11 ∧ i = .int .i64 q ∧ Hid (Blk wr w11.heap.size 24 (labC U A11 n11 c11).toArray) ∧ Hid (Blk wr w8.heap.size 24 (labC V A9 n9 c9).toArray) ∧ Hid (MbIn wr w11.heap.size A9 n9 c9 V.members) ∧ Hid (MbIn wr w11.heap.size A11 n11 c11 U.members) ∧ Hid (Reads wr wr.heap.size 1 M9 m11 (I64 Ms)) ∧ Hid (Reads wr wr.heap.size 1 M11 m11 (I64 Ms)) ∧ Hid (Below w.heap.size w wr) ∧ w11.heap.size ≤ wr.heap.size) (fun i _ => m11 - (intOf i).toNat)
      case atStart => exact ⟨0, Nat.zero_le _, rfl, HB13, HC13, HA13, HD13, HR13, HS13, HL13, hz13⟩
      case round =>
        obtain ⟨q, hq, rfl, HBx, HCx, HAx, HDx, HRx, HSx, HLx, hzx⟩ := hrel
        by_cases hqm : q < m11
        · obtain ⟨a9, v9, rfl, _, hv9, hc9⟩ := HRx.out.i64_at hqm
          obtain ⟨a8, v8, rfl, _, hv8, hc8⟩ := HSx.out.i64_at hqm
          obtain rfl : v9 = v8 := by rw [hv9] at hv8; injection hv8
          have hvv : (v9 != v9) = false := by simp
          clear hv9 hv8
          go_wp2_with fail
          go_quiet (fail)
          go_wp2
          go_roundw
          case rel => exact ⟨q + 1, by omega, by go_num, hide (HBx.out.drewN _), hide (HCx.out.drewN _), hide ⟨HAx.out.1.drewN _, HAx.out.2⟩, hide ⟨HDx.out.1.drewN _, HDx.out.2⟩, hide (HRx.out.drewN _), hide (HSx.out.drewN _), hide (below_drewN HLx.out _), hzx⟩
          case measure => simp [intOf]; omega
        · obtain rfl : q = m11 := by omega
          obtain ⟨wg, rfl⟩ : ∃ wg, wg = wr := ⟨_, rfl⟩
          have x2 := lab_c2 HCx.out
          have y2 := lab_c2 HBx.out
          have f2 := HBx.out.frozen 2
          have hlt11 := HBx.out.lt
          have hB14 : Blk (wg.setCell ⟨w11.heap.size, 2, none⟩ (.int .i64 V.member)) w11.heap.size 24 (labC V A11 n11 c11).toArray := by
            have h := HBx.out.set_ 2 (.int .i64 V.member)
            have e : (labC V A11 n11 c11).toArray = (labC { U with member := V.member } A11 n11 c11).toArray := by rw [HUV.out]
            rw [e]
            exact h
          have hC14 := HCx.out.far (p := ⟨w11.heap.size, 2, none⟩) (by show w8.heap.size ≠ w11.heap.size; omega) (.int .i64 V.member)
          have hb14 : Below w11.heap.size wg (wg.setCell ⟨w11.heap.size, 2, none⟩ (.int .i64 V.member)) := (Below.refl _ _).setCell (p := ⟨w11.heap.size, 2, none⟩) (Nat.le_refl _) _
          have hL14 : Below w.heap.size w (wg.setCell ⟨w11.heap.size, 2, none⟩ (.int .i64 V.member)) := HLx.out.setCell (p := ⟨w11.heap.size, 2, none⟩) (by show w.heap.size ≤ w11.heap.size; have := HL11.out.size; omega) _
          have hmem : U.members = V.members := by have h := congrArg Lab.members HUV.out; exact h
          have hSame := same_any V V A9 A11 n9 c9 n11 c11 w11.heap.size w11.heap.size (wg.setCell ⟨w11.heap.size, 2, none⟩ (.int .i64 V.member)) (HAx.out.below hb14) (by rw [← hmem]; exact HDx.out.below hb14) (by have := hb14.size; omega) (by have := hb14.size; omega)
          rw [sameB_self] at hSame
          have HSame := hide hSame
          have HB14 := hide hB14
          have HC14 := hide hC14
          have HL14 := hide hL14
          clear hB14 hC14 hL14 hSame hmem hb14
          go_upto_region 19 with fail
          generalize wg.setCell ⟨w11.heap.size, 2, none⟩ (.int .i64 V.member) = w14 at HB14 HC14 HL14 HSame ⊢
          clear x2 y2 f2
          go_wp2_with (first
            | (refine when_load rfl 24 (.tmp 7) rfl w8.heap.size 0 24 _ HC14.out rfl (labC V A9 n9 c9) _ (fun j v hj => by rw [Nat.zero_add]; simpa using hj) Try.underlying24 rfl lab_info ?_)
            | (refine when_load rfl 24 (.tmp 10) rfl w11.heap.size 0 24 _ HB14.out rfl (labC V A11 n11 c11) _ (fun j v hj => by rw [Nat.zero_add]; simpa using hj) Try.underlying24 rfl lab_info ?_)
            | (go_at_call 13; refine HSame.out.mono ?_; rintro _ w15 ⟨rfl, hl15⟩))
          go_ret
          exact ⟨rfl, HL14.out.trans (hl15.mono HL14.out.size)⟩

/-! The row's frame, by program: how the walk above proves the statement. -/
set_option maxRecDepth 100000 in
theorem lifted (os : Os) (started : os.Started) (H : Type) (enc : TypeId × Value → H) :
    ReturnsInHanded {} Try.checked os 5 .any (Rows.quorumOrderSpec.pre6 enc Try.prog Try.f5 Rows.quorumOrderRow.domain false) (Rows.quorumOrderSpec.post enc Try.prog Try.f5 false true false false) := by
  refine returnsInHanded_of_change (C := Try.checked) own started (by kernel_rfl) Try.func5
    (ChangeSpec.witness6 (enc := enc) (C := Try.checked) false ⟨#[], #[.slice none 0 0], []⟩ 8 (by kernel_rfl) (by kernel_rfl) (by kernel_rfl) (by kernel_rfl)) ?_
  intro W base args ds gs before hval0 hW hcnd _
  have hval : ∀ (j : Nat) t v, Try.f5.params[j]? = some t → args[j]? = some v → Value.okWide Try.prog W .any base t v := hval0
  have hW' := hW
  obtain ⟨p, q, hA0, hV, rfl, hfz, hnd⟩ := hW
  have hA : DataW.TrodAll enc Try.prog W 0 (fun _ => true) true Try.f5.params.toList args.toList ds p := hA0
  rw [Try.params5] at hA hval
  obtain ⟨v0, vs0, d0, ds0, p0, q0, hargs, rfl, rfl, h0, r0⟩ := trodAll_cons hA
  obtain ⟨rfl, rfl, rfl⟩ := trodAll_nil r0
  obtain rfl : args = #[v0] := by cases args; simp_all
  obtain ⟨rfl, rfl⟩ := trodVars_none hV
  obtain ⟨A0, n0, c0, rfl⟩ := okWide_slice Try.underlying33 (hval 0 33 v0 rfl rfl)
  have k0 := h0
  have lt0 : ∀ x ∈ p0, x.block < W.heap.size := by obtain ⟨m, hm⟩ := k0; exact DataW.trod_lt m _ _ _ hm
  obtain ⟨l0, x0⟩ := arg_labels h0
  clear hA0 hval0
  refine (walk A0 n0 c0 l0 W x0).mono fun e W' ⟨he, bel⟩ => ?_
  subst he
  exact ⟨_, rfl, _, _, _, [], _, [], hW', trodAll_mk1 (shut_bool Try.underlying4 _), (trodAll_cons_mk (Below.trod laidOut (by kernel_rfl) (of_decide_eq_true (by kernel_rfl)) k0 bel lt0) trodAll_mk0), rfl, bel.frame _, fun h => by cases h⟩

theorem over : Rows.quorumOrderRow.holds Try.pinned (OpenSpec.ofChange Rows.quorumOrderSpec) :=
  OpenClaim.holds_of_wide 5 Try.f5 rfl rfl rfl rfl rfl rfl rfl ⟨rfl, rfl, rfl, rfl, rfl⟩ rfl rfl rfl rfl rfl (by kernel_rfl) Try.func5 (by kernel_rfl)
    (of_decide_eq_true (by kernel_rfl)) (by unfold Func.isWrapper; first | (rw [if_pos (by decide +kernel)]; kernel_rfl) | (rw [if_neg (by decide +kernel)]; exact ⟨rfl, rfl⟩))
    (fun os started H enc _ => lifted os started H enc)

/-- The statement. -/
theorem proved : Rows.QuorumOrderSaid := over
#print axioms proved
end Go.Proofs.Ytjdfeidakmkchaa.QuorumOrder
