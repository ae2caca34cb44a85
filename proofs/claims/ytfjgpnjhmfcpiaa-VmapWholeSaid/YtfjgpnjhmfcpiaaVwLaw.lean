/- VmapWhole's walk over the contracts. -/
import Derived.Test.YtfjgpnjhmfcpiaaVmV
import Derived.Test.YtfjgpnjhmfcpiaaArgW
import Derived.Deep.DeepCutAuto
import Derived.Deep.CutBlock
namespace Go.Proofs.Ytfjgpnjhmfcpiaa
open Go.RowKit Go.Maps
set_option linter.unusedVariables false
/-- The first k places, each as a change. -/
def chK (V : List Wh) (k : Nat) : List Ch := (List.range k).map fun (i : Nat) => ((i : Int), V.getD i Wh.none_)
theorem chK_len (V : List Wh) (k : Nat) : (chK V k).length = k := by unfold chK; rw [List.length_map, List.length_range]
theorem chK_succ {V : List Wh} {k : Nat} {q : Wh} (h : V[k]? = some q) : chK V (k + 1) = chK V k ++ [((k : Int), q)] := by
  unfold chK
  rw [List.range_succ, List.map_append, List.map_singleton, getD_at h]
theorem chK_chgs {V v0 : List Wh} (hl : V.length = v0.length) : ∀ k, k ≤ V.length → chgs v0 (chK V k) = V.take k ++ v0.drop k
  | 0, _ => by simp [chK, chgs]
  | k + 1, hk => by
    obtain ⟨q, hq⟩ : ∃ q, V[k]? = some q := ⟨_, List.getElem?_eq_getElem (by omega)⟩
    rw [chK_succ hq, chgs_snoc, chK_chgs hl k (by omega), take_snoc hq]
    dsimp only
    rw [Int.toNat_natCast]
    have hlt : (V.take k).length = k := by rw [List.length_take]; omega
    rw [List.set_append_right _ _ (by omega), hlt, Nat.sub_self]
    have hk0 : k < v0.length := by omega
    rw [List.drop_eq_getElem_cons hk0, List.set_cons_zero, List.append_assoc]
    rfl
theorem chK_all {V v0 : List Wh} (h : OkV V) (hl : V.length = v0.length) : setE v0 (chK V V.length) = 0 ∧ setV v0 (chK V V.length) = V := by
  have hc : chgs v0 (chK V V.length) = V := by
    rw [chK_chgs hl _ (Nat.le_refl _), List.take_length, List.drop_of_length_le (by omega), List.append_nil]
  have hm : ∀ x ∈ chK V V.length, ∃ (i : Nat) (q : Wh), V[i]? = some q ∧ x = ((i : Int), q) := fun x hx => by
    unfold chK at hx
    obtain ⟨i, hi, rfl⟩ := List.mem_map.1 hx
    have hil := List.mem_range.1 hi
    have hq := List.getElem?_eq_getElem hil
    exact ⟨i, _, hq, by rw [getD_at hq]⟩
  have hb : badE v0.length (chK V V.length) = 0 := badE_ok (fun x hx => by
    obtain ⟨i, q, hq, rfl⟩ := hm x hx
    have := (List.getElem?_eq_some_iff.1 hq).1
    unfold inB
    exact decide_eq_true (by omega)) (fun x hx => by
    obtain ⟨i, q, hq, rfl⟩ := hm x hx
    exact h.ok q (List.mem_of_getElem? hq))
  have he : setE v0 (chK V V.length) = 0 := by
    unfold setE
    rw [if_pos hb, hc, if_pos h.dis]
  exact ⟨he, by rw [setV_yes he, hc]⟩
theorem chK_fits {V : List Wh} (h : OkV V) : ∀ x ∈ chK V V.length, okI64 x.1 ∧ x.2.fits := fun x hx => by
  unfold chK at hx
  obtain ⟨i, hi, rfl⟩ := List.mem_map.1 hx
  have hil := List.mem_range.1 hi
  have hq := List.getElem?_eq_getElem hil
  have := h.few
  refine ⟨by unfold okI64; omega, ?_⟩
  rw [getD_at hq]
  exact Wh.ok_fits (h.ok _ (List.mem_of_getElem? hq))
theorem chsL_append (a b : List Ch) : chsL (a ++ b) = chsL a ++ chsL b := by unfold chsL; rw [List.flatMap_append]
theorem chs_one (L : List Ch) : ∀ v ∈ chsL L, v.oneCell' = true := fun v hv => by
  obtain ⟨p, _, hp⟩ := List.mem_flatMap.1 hv
  exact ch_one p v hp
set_option maxRecDepth 100000 in
set_option maxHeartbeats 8000000 in
theorem vmapWhole_walk (ni : Int) (A : Option Addr) (n c : Nat) (L : List Ch) (w : World) (hx : ChsIn w w.heap.size ⟨A, n, c, L⟩) :
    Calls Try.prog 8 #[.int .i64 ni, .slice A n c] w fun e w' => e = .returned (.bool true) ∧ Below w.heap.size w w' := by
  have HS_w : Hid (Sta w w [] []) := hide (Sta.begin w)
  have HSH := hide shown15_any
  have HX := hide hx
  have HXL := hide (show L.length = n by have := hx.rd.1; rw [chsL_len] at this; dsimp only at this; omega)
  have hnc : n ≤ c := hx.le
  have hcm : c ≤ 9223372036854775807 := hx.lt
  have heq := run_eql_vm
  obtain ⟨v0, h0⟩ : ∃ v, newV ni = v := ⟨_, rfl⟩
  have HV0 := hide h0
  have HOK0 := hide (show OkV v0 by rw [← h0]; exact OkV.new ni)
  clear hx h0
  go_enter Try.func8, Try.ntmps8
  go_upto_region 2 with (first
    | (go_at_call 9; refine (HSH.out _).mono ?_; rintro _ y1 ⟨rfl, hlq⟩; have HS_y1 : Hid (Sta w y1 [] []) := hide (HS_w.out.later hlq); clear hlq))
  go_upto_region 3 with (first
    | (go_at_call 10; refine (HS_y1.out.mk_ ni).mono ?_; rintro _ y2 ⟨m, rfl, hsq⟩; rw [HV0.out] at hsq; have HS_y2 : Hid (Sta w y2 [vmT m v0] []) := hide hsq; clear hsq))
  go_upto_block 0 with (first
    | (go_at_call 10; refine (HS_y2.out.mk_ ni).mono ?_; rintro _ y3 ⟨mb, rfl, hsq⟩; rw [HV0.out] at hsq; have HS_y3 : Hid (Sta w y3 [vmT m v0, vmT mb v0] []) := hide hsq; clear hsq))
  go_cut [8] (fun _ wx => ∃ V : List Wh, Hid (V.length = v0.length) ∧ Hid (Sta w wx [vmT m V, vmT mb v0] []))
  case first =>
    go_wp2_with fail
    go_loopw [8] (fun s11 wr => ∃ (i : Nat) (V : List Wh), s11 = .int .i64 (i : Int) ∧ i ≤ 100 ∧ Hid (V.length = v0.length) ∧ Hid (Sta w wr [vmT m V, vmT mb v0] [])) (fun s11 _ => 100 - (intOf s11).toNat)
    case atStart => exact ⟨0, v0, rfl, by decide, hide rfl, HS_y3⟩
    case round =>
      obtain ⟨i, V, rfl, hi60, HLN, HS_z1⟩ := hrel
      obtain ⟨z1, rfl⟩ : ∃ z, z = wr := ⟨_, rfl⟩
      by_cases hin : (i : Int) < (n : Int)
      · by_cases h60 : (i : Int) < 100
        · obtain ⟨q, hq⟩ : ∃ q, L[i]? = some q := ⟨_, List.getElem?_eq_getElem (by rw [HXL.out]; omega)⟩
          obtain ⟨ad, hA, hone⟩ := HX.out.one HS_z1.out.low hq
          dsimp only at hA
          subst hA
          have HONE := hide hone
          have HLN2 := hide (show (setV V [q]).length = v0.length from (setV_len V [q]).trans HLN.out)
          clear hone hq
          go_wp2_with (first
            | (go_at_call 12; refine (HS_z1.out.set_ 0 rfl HONE.out).mono ?_; rintro _ z2 ⟨rfl, hsq⟩; have HS_z2 : Hid (Sta w z2 [vmT m (setV V [q]), vmT mb v0] []) := hide hsq; clear hsq))
          go_roundw
          case rel => exact ⟨i + 1, _, by go_num, by omega, HLN2, HS_z2⟩
          case measure => simp [intOf]; omega
        · have hd : decide ((i : Int) < 100) = false := by simpa using h60
          go_wp2_with fail
          go_meet
          exact ⟨V, HLN, HS_z1⟩
      · have hd : decide ((i : Int) < (n : Int)) = false := by simpa using hin
        go_wp2_with fail
        go_meet
        exact ⟨V, HLN, HS_z1⟩
  obtain ⟨V, HLN, HS_z⟩ := hcut
  obtain ⟨z, hz⟩ : ∃ z, z = wc := ⟨_, rfl⟩
  subst hz
  have HOKV := hide (HS_z.out.okV 0 rfl)
  obtain ⟨N, hN⟩ : ∃ N, V.length = N := ⟨_, rfl⟩
  have h1 := HOKV.out.one
  have h96 := HOKV.out.few
  rw [hN] at h1 h96
  have HN := hide hN
  clear hN
  obtain ⟨i0, hi0, hz0, hz1, hz2⟩ := info_parts ch_parts
  go_upto_block 2 with (first
    | (go_at_call 14; refine (HS_z.out.all_ 0 rfl).mono ?_; rintro _ z3 ⟨g, cg, cs, rfl, hcs, hsq⟩; have HCS := hide hcs; have HS_z3 : Hid (Sta w z3 [vmT m V, vmT mb v0] [(g, 24, cs)]) := hide hsq; clear hcs hsq; rw [HN.out]))
  go_cut [10, 11] (fun v10 _ wx => ∃ A c, v10 = .slice A N c ∧ Hid (wx.ownsRow z3.heap.size 34 4 (.slice A N c) N (chsL (chK V N))) ∧ Hid (Below z3.heap.size z3 wx))
  case first =>
    go_wp2_with fail
    go_loopw [10, 11] (fun v i wr => ∃ k : Nat, k ≤ N ∧ i = .int .i64 (k : Int) ∧ Hid (wr.ownsRow z3.heap.size 34 4 v k (chsL (chK V k))) ∧ Hid (Below z3.heap.size z3 wr)) (fun _ i _ => N - (intOf i).toNat)
    case atStart => exact ⟨0, Nat.zero_le _, rfl, hide ⟨rfl, .inl ⟨rfl, rfl⟩⟩, hide (Below.refl _ _)⟩
    case round =>
      obtain ⟨k, hk, rfl, HO, HB⟩ := hrel
      by_cases hkn : k < N
      · obtain ⟨q, hq⟩ : ∃ q, V[k]? = some q := ⟨_, List.getElem?_eq_getElem (by rw [HN.out]; exact hkn)⟩
        obtain ⟨ad, hA, _, hcell, _, _⟩ := wh_at ((HS_z3.out.later HB.out).reads 0 rfl HCS.out) hq
        injection hA with hA
        subst hA
        rw [add0] at hcell
        have HCL := hide hcell
        have HQ := hide hq
        have hkk : (k : Int) < (N : Int) := by omega
        have HE := hide (chK_succ hq)
        have HLK := hide (chK_len V k)
        have HF := hide (show ∀ x ∈ [((k : Int), q)], okI64 x.1 ∧ x.2.fits from one_fits (by unfold okI64; omega) (Wh.ok_fits (HOKV.out.ok q (List.mem_of_getElem? hq))))
        clear hcell hq
        go_wp2_with (first
          | ((with_reducible refine at_slot 58 ?_); refine when_loadW rfl (.tmp 57) rfl _ q HCL.out rfl ?_)
          | ((with_reducible refine at_slot 59 ?_); refine wpList_build_is rfl 34 _ rfl [(0, .int .i64 (k : Int)), (1, .agg (whC q).toArray)] (by first | (simp [Act.eval]; done) | (simp [Act.eval, Act.put]; done)) _ (ch_built (k : Int) q) ?_)
          | ((with_reducible refine at_slot 60 ?_); refine wpList_oneC rfl (.tmp 59) rfl ((k : Int), q) rfl ?_; intro w4 hb4 hl4; have HB4 := hide hb4; have HL4 := hide hl4; have hz4 := hl4.size; clear hb4 hl4)
          | ((with_reducible refine at_slot 61 ?_); refine wpList_append_any _ rfl (.tmp 53) (.tmp 60) 30 rfl z3.heap.size 34 i0 _ 4 32 Try.underlying30 hi0 hz0 hz1 hz2 rfl (by decide) _ k _ rfl (own_later HO.out HL4.out) w4.heap.size (some ⟨wr.heap.size, 0, none⟩) 1 1 (chsL [((k : Int), q)]) rfl (chIn_blk (L := [((k : Int), q)]) (c := 1) HB4.out HF.out (by simp) (by simp)).rd (chs_one _) (by simp only [maxLen]; omega) (by omega) (by have := HB.out.size; omega) ?_; intro v5 w5 ho5 hl5; have HO5 := hide ho5; have HL5 := hide hl5; clear ho5 hl5))
        have HO6 : Hid (w5.ownsRow z3.heap.size 34 4 v5 (k + 1) (chsL (chK V (k + 1)))) := hide (by rw [HE.out, chsL_append]; exact HO5.out)
        have HB6 : Hid (Below z3.heap.size z3 w5) := hide ((HB.out.trans (HL4.out.mono HB.out.size)).trans HL5.out)
        go_roundw
        case rel => exact ⟨k + 1, by omega, by go_num, HO6, HB6⟩
        case measure => simp [intOf]; omega
      · obtain rfl : k = N := by omega
        obtain ⟨A5, c5, hv, _, _⟩ := own_shape HO.out
        subst hv
        go_wp2_with fail
        go_meet
        exact ⟨A5, c5, rfl, HO, HB⟩
  obtain ⟨A5, c5, rfl, HO5, HB5⟩ := hcut
  obtain ⟨z5, hz5⟩ : ∃ z, z = wc := ⟨_, rfl⟩
  subst hz5
  have HS_z5 := hide (HS_z3.out.later HB5.out)
  have hca := chK_all HOKV.out HLN.out
  rw [HN.out] at hca
  have HCA := hide hca
  have HCI : Hid (ChIn z5 A5 N c5 (chK V N)) := hide (by
    obtain ⟨A6, c6, hv6, h7, _⟩ := own_shape HO5.out
    injection hv6 with _ _ hv6
    subst hv6
    exact ⟨own_rdW HO5.out, by have h8 := chK_fits HOKV.out; rw [HN.out] at h8; exact h8, by omega, h7⟩)
  clear hca
  go_upto_region 17 with (first
    | (go_at_call 12; refine (HS_z5.out.set_ 1 rfl HCI.out).mono ?_; rintro _ z6 ⟨rfl, hsq⟩; rw [HCA.out.1]; rw [HCA.out.2] at hsq; have HS_z6 : Hid (Sta w z6 [vmT m V, vmT mb V] [(g, 24, cs)]) := hide hsq; clear hsq))
  go_wp2_with (first
    | (go_at_call 14; refine (HS_z6.out.all_ 1 rfl).mono ?_; rintro _ z7 ⟨g2, cg2, cs2, rfl, hcs, hsq⟩; have HCS2 := hide hcs; have HS_z7 : Hid (Sta w z7 [vmT m V, vmT mb V] [(g, 24, cs), (g2, 24, cs2)]) := hide hsq; clear hcs hsq; rw [HN.out])
    | (go_at_call 15; refine (wsame_any (V := V) (L := V) (by have h8 := HS_z7.out.reads 1 rfl HCS2.out; rw [HN.out] at h8; exact h8) (by have h8 := HS_z7.out.reads 0 rfl HCS.out; rw [HN.out] at h8; exact h8) (by omega) (by omega)).mono ?_; rintro _ z8 ⟨rfl, hl8⟩; rw [show decide (V = V) = true from decide_eq_true rfl]; have HS_z8 := hide (HS_z7.out.later hl8); clear hl8))
  go_ret
  exact ⟨rfl, HS_z8.out.low⟩
#print axioms vmapWhole_walk
end Go.Proofs.Ytfjgpnjhmfcpiaa
