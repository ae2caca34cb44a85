/- The reference's only, Safe, AllSafe. -/
import Derived.Test.YtmaiikmgpeafkaaRefG
import Derived.Test.YtmaiikmgpeafkaaGrpH
namespace Go.Proofs.Ytmaiikmgpeafkaa
open Go.RowKit

def okAt (rm : List Int) (B : List Int) (T : Nat → Bool) (d : Nat) : Bool := !(decide (0 < roomI rm d) && !B.contains (d : Int)) || T d
theorem onlyB_is (rm B : List Int) (T : Nat → Bool) : onlyB rm B T = (List.range rm.length).all (okAt rm B T) := rfl
theorem bit_tmod (s k : Nat) : ((s : Int) / 2 ^ k).tmod 2 = ((s / 2 ^ k % 2 : Nat) : Int) := by
  have e : ((s : Int) / 2 ^ k) = ((s / 2 ^ k : Nat) : Int) := by
    rw [Int.natCast_ediv, Int.natCast_pow]; rfl
  rw [e]
  generalize s / 2 ^ k = z
  rw [Int.tmod_eq_emod_of_nonneg (by omega)]
  omega
theorem bit_zero {s k : Nat} (h : bitT s k = false) : (((s : Int) / 2 ^ k).tmod 2 == 0) = true := by
  rw [bit_tmod]
  unfold bitT at h
  simp only [decide_eq_false_iff_not] at h
  have : s / 2 ^ k % 2 = 0 := by omega
  rw [this]
  rfl
theorem bit_one {s k : Nat} (h : bitT s k = true) : (((s : Int) / 2 ^ k).tmod 2 == 0) = false ∧ (((s : Int) / 2 ^ k).tmod 2 == 1) = true := by
  rw [bit_tmod]
  unfold bitT at h
  simp only [decide_eq_true_eq] at h
  rw [h]
  exact ⟨rfl, rfl⟩
theorem bit_not {s k : Nat} (h : bitT s k = false) : (((s : Int) / 2 ^ k).tmod 2 == 1) = false := by
  rw [bit_tmod]
  unfold bitT at h
  simp only [decide_eq_false_iff_not] at h
  have : s / 2 ^ k % 2 = 0 := by omega
  rw [this]
  rfl
theorem okAt_eq (rm B : List Int) (T : Nat → Bool) (d : Nat) : okAt rm B T d = (!(decide (0 < roomI rm d) && !B.contains (d : Int)) || T d) := rfl
set_option maxRecDepth 100000 in
set_option maxHeartbeats 1000000 in
theorem refOnly_any (g : GrV) (AR : Option Addr) (cR : Nat) (rm : List Int) (s : Nat) (B0 : Nat) (w : World) (hg : GrIn w B0 g) (hr : Reads w B0 1 AR rm.length (I64 rm)) (hB0 : B0 ≤ w.heap.size) (hn : rm.length ≤ 16) (_hs : s < 65536) :
    Calls Try.prog 30 #[.agg (grC g).toArray, .slice AR rm.length cR, .int .i64 (s : Int)] w fun e w' => e = .returned (.bool (onlyB rm (dks g.ex) (bitT s))) ∧ Below w.heap.size w w' := by
  have HG := hide hg
  have HR := hide hr
  rw [onlyB_is]
  clear hg hr
  go_enter Try.func30, Try.ntmps30
  go_wp2_with (first
    | (refine wpList_box_blk rfl 36 (.tmp 0) rfl (.agg (grC g).toArray) rfl ?_; intro w1 hb1q hl1 hs1; have hz1 : w.heap.size < w1.heap.size := (by omega); clear hs1; have hb1 : Blk w1 w.heap.size 36 (grC g).toArray := hb1q; clear hb1q))
  have HB1 := hide hb1
  clear hb1
  go_loopw [7] (fun i wr => ∃ k : Nat, k ≤ rm.length ∧ i = .int .i64 k ∧ Hid (∀ d, d < k → okAt rm (dks g.ex) (bitT s) d = true) ∧ Hid (Below w1.heap.size w1 wr)) (fun i _ => rm.length - (intOf i).toNat)
  case atStart => exact ⟨0, Nat.zero_le _, rfl, hide (fun d h => absurd h (Nat.not_lt_zero _)), hide (Below.refl _ _)⟩
  case round =>
    obtain ⟨k, hk, rfl, HA, HB⟩ := hrel
    have hbw : Below w.heap.size w wr := hl1.trans (HB.out.mono hl1.size)
    have HBW := hide hbw
    by_cases hkn : k < rm.length
    · obtain ⟨ad, v, rfl, hab, hv, hcv⟩ := HR.out.i64_at hkn
      have hri := roomI_at hv
      have HRI := hide hri
      have HCV := hide hcv
      have HBK := hide (HB1.out.below HB.out HB1.out.lt)
      obtain ⟨o, ho⟩ : ∃ o, o = (dks g.ex).contains (k : Int) := ⟨_, rfl⟩
      have hhas := refHas_any g (k : Int) B0 wr (HG.out.below (hbw.mono hB0)) (Nat.le_trans hB0 hbw.size)
      rw [hasB_dks, ← ho] at hhas
      have HH := hide hhas
      have HO := hide ho
      clear hhas ho hv hcv hri hbw
      by_cases h0 : 0 < v
      · cases o with
        | true =>
          have HOK := hide (show okAt rm (dks g.ex) (bitT s) k = true by rw [okAt_eq, ← HO.out]; simp)
          go_wp2_with (first
            | ((with_reducible refine at_slot 15 ?_); refine wpList_load_blk rfl 36 (.tmp 3) rfl w.heap.size 0 36 _ HBK.out rfl (grC g) _ (fun j v hv => (by rw [Nat.zero_add]; simpa using hv)) Try.underlying36 rfl grp_info ?_)
            | (go_at_call 24; refine HH.out.mono ?_; rintro _ w2 ⟨rfl, hl2⟩; have hcv := ((HBW.out.trans (hl2.mono HBW.out.size)).mono hB0).cell (p := ad.add k) (by rw [block_of_add]; exact hab) |>.trans HCV.out))
          have HA2 : Hid (∀ d, d < k + 1 → okAt rm (dks g.ex) (bitT s) d = true) := hide (fun d hd => by
            by_cases e : d = k
            · rw [e]; exact HOK.out
            · exact HA.out d (by omega))
          have HB2 := hide (HB.out.trans (hl2.mono HB.out.size))
          go_roundw
          case rel => exact ⟨k + 1, by omega, by go_num, HA2, HB2⟩
          case measure => simp [intOf]; omega
        | false =>
          cases hbt : bitT s k with
          | true =>
            have HOK := hide (show okAt rm (dks g.ex) (bitT s) k = true by rw [okAt_eq, hbt]; simp)
            have hz := (bit_one hbt).1
            clear hbt
            go_wp2_with (first
              | ((with_reducible refine at_slot 15 ?_); refine wpList_load_blk rfl 36 (.tmp 3) rfl w.heap.size 0 36 _ HBK.out rfl (grC g) _ (fun j v hv => (by rw [Nat.zero_add]; simpa using hv)) Try.underlying36 rfl grp_info ?_)
              | (go_at_call 24; refine HH.out.mono ?_; rintro _ w2 ⟨rfl, hl2⟩; have hcv := ((HBW.out.trans (hl2.mono HBW.out.size)).mono hB0).cell (p := ad.add k) (by rw [block_of_add]; exact hab) |>.trans HCV.out))
            have HA2 : Hid (∀ d, d < k + 1 → okAt rm (dks g.ex) (bitT s) d = true) := hide (fun d hd => by
              by_cases e : d = k
              · rw [e]; exact HOK.out
              · exact HA.out d (by omega))
            have HB2 := hide (HB.out.trans (hl2.mono HB.out.size))
            go_roundw
            case rel => exact ⟨k + 1, by omega, by go_num, HA2, HB2⟩
            case measure => simp [intOf]; omega
          | false =>
            have HOK := hide (show okAt rm (dks g.ex) (bitT s) k = false by rw [okAt_eq, hbt, HRI.out, ← HO.out]; simp [h0])
            have HNO := hide (all_take (n := rm.length) hkn HOK.out)
            have hz := bit_zero hbt
            clear hbt
            go_wp2_with (first
              | ((with_reducible refine at_slot 15 ?_); refine wpList_load_blk rfl 36 (.tmp 3) rfl w.heap.size 0 36 _ HBK.out rfl (grC g) _ (fun j v hv => (by rw [Nat.zero_add]; simpa using hv)) Try.underlying36 rfl grp_info ?_)
              | (go_at_call 24; refine HH.out.mono ?_; rintro _ w2 ⟨rfl, hl2⟩; have hcv := ((HBW.out.trans (hl2.mono HBW.out.size)).mono hB0).cell (p := ad.add k) (by rw [block_of_add]; exact hab) |>.trans HCV.out))
            go_ret
            exact ⟨ret_bool HNO.out.symm, HBW.out.trans (hl2.mono HBW.out.size)⟩
      · have HOK := hide (show okAt rm (dks g.ex) (bitT s) k = true by rw [okAt_eq, HRI.out]; simp [h0])
        go_wp2_with (first
          | ((with_reducible refine at_slot 15 ?_); refine wpList_load_blk rfl 36 (.tmp 3) rfl w.heap.size 0 36 _ HBK.out rfl (grC g) _ (fun j v hv => (by rw [Nat.zero_add]; simpa using hv)) Try.underlying36 rfl grp_info ?_)
          | (go_at_call 24; refine HH.out.mono ?_; rintro _ w2 ⟨rfl, hl2⟩; have hcv := ((HBW.out.trans (hl2.mono HBW.out.size)).mono hB0).cell (p := ad.add k) (by rw [block_of_add]; exact hab) |>.trans HCV.out))
        have HA2 : Hid (∀ d, d < k + 1 → okAt rm (dks g.ex) (bitT s) d = true) := hide (fun d hd => by
          by_cases e : d = k
          · rw [e]; exact HOK.out
          · exact HA.out d (by omega))
        have HB2 := hide (HB.out.trans (hl2.mono HB.out.size))
        go_roundw
        case rel => exact ⟨k + 1, by omega, by go_num, HA2, HB2⟩
        case measure => simp [intOf]; omega
    · obtain rfl : k = rm.length := by omega
      have HALL := hide (all_range HA.out)
      go_wp2
      go_ret
      exact ⟨ret_bool HALL.out.symm, HBW.out⟩
/-- The first k groups that hang on T alone. -/
def hangP (rm : List Int) (lost : Int) (T : Nat → Bool) (g : GrV) : Bool := hasB g.ex lost && onlyB rm (dks g.ex) T
theorem hangN_is (rm : List Int) (L : List GrV) (lost : Int) (T : Nat → Bool) : hangN rm L lost T = (L.filter (hangP rm lost T)).length := rfl
theorem hang_more {p : GrV → Bool} {L : List GrV} {k : Nat} {g : GrV} (h : L[k]? = some g) : ((L.take (k + 1)).filter p).length = ((L.take k).filter p).length + one (p g) := by
  cases hp : p g
  · rw [filter_less h hp]; rfl
  · rw [filter_more h hp, List.length_append]; rfl
theorem roomT_le (rm : List Int) (T : Nat → Bool) (b : Nat) (h : ∀ v ∈ rm, v ≤ (b : Int)) : ∀ k, k ≤ rm.length → roomT rm T k ≤ k * b
  | 0, _ => by rw [Nat.zero_mul]; exact Nat.le_refl _
  | k + 1, hk => by
    have ih := roomT_le rm T b h k (by omega)
    have hv : roomI rm k ≤ (b : Int) := h _ (List.mem_of_getElem? (show rm[k]? = some (roomI rm k) by simp [roomI, List.getD, show k < rm.length by omega]))
    have e : roomT rm T (k + 1) = roomT rm T k + (if T k then roomN rm k else 0) := rfl
    rw [e, Nat.add_mul, Nat.one_mul]
    unfold roomN
    split <;> omega
theorem roomT_succ (rm : List Int) (T : Nat → Bool) (k : Nat) : roomT rm T (k + 1) = roomT rm T k + (if T k then roomN rm k else 0) := rfl
set_option maxRecDepth 100000 in
set_option maxHeartbeats 2000000 in
theorem refSafe_any (A : Option Addr) (n c : Nat) (L : List GrV) (AR : Option Addr) (cR : Nat) (rm : List Int) (d : Int) (B0 : Nat) (w : World) (hr : GsIn w B0 A n c L) (hrm : Reads w B0 1 AR rm.length (I64 rm)) (hB0 : B0 ≤ w.heap.size) (hn : n ≤ 1000000) (hrn : rm.length ≤ 16) (hrb : ∀ v ∈ rm, v ≤ 1000000) :
    Calls Try.prog 17 #[.slice A n c, .slice AR rm.length cR, .int .i64 d] w fun e w' => e = .returned (.bool (safeB rm L d)) ∧ Below w.heap.size w w' := by
  have HR := hide hr
  have HRM := hide hrm
  have HRB := hide hrb
  have HL := hide hr.len
  have hN := Nat.pow_le_pow_right (n := 2) (by omega) hrn
  obtain ⟨N, hNe⟩ : ∃ N, N = 2 ^ rm.length := ⟨_, rfl⟩
  have hNl : N ≤ 65536 := by rw [hNe]; exact hN
  have HNE := hide hNe
  rw [← hall_safe]
  have hhall : hallB rm L d = (List.range N).all (fun s => decide (hangN rm L d (bitT s) ≤ roomT rm (bitT s) rm.length)) := by rw [hNe]; rfl
  rw [hhall]
  obtain ⟨p, hp⟩ : ∃ p : Nat → Bool, p = fun s => decide (hangN rm L d (bitT s) ≤ roomT rm (bitT s) rm.length) := ⟨_, rfl⟩
  rw [← hp]
  have HP := hide (fun s => congrFun hp s)
  have hW : wrap64 ((2 : Int) ^ rm.length) = (N : Int) := by
    have e : ((2 : Int) ^ rm.length) = (N : Int) := by rw [hNe]; push_cast; rfl
    rw [e]
    unfold wrap64
    omega
  clear hr hrm hrb hN hNe hhall hp
  go_enter Try.func17, Try.ntmps17
  go_wp2
  go_loopw [7] (fun i wr => ∃ s : Nat, s ≤ N ∧ i = .int .i64 s ∧ Hid (∀ x, x < s → p x = true) ∧ Hid (Below w.heap.size w wr)) (fun i _ => N - (intOf i).toNat)
  case atStart => exact ⟨0, Nat.zero_le _, rfl, hide (fun d h => absurd h (Nat.not_lt_zero _)), hide (Below.refl _ _)⟩
  case round =>
    obtain ⟨s, hs, rfl, HA, HB⟩ := hrel
    obtain ⟨wa, hwa⟩ : ∃ x : World, x = wr := ⟨_, rfl⟩
    subst hwa
    by_cases hsn : s < N
    · go_wp2
      simp only [hW]
      clear hW
      go_loopw [8, 9] (fun m i wr => ∃ k : Nat, k ≤ rm.length ∧ i = .int .i64 k ∧ m = .int .i64 (roomT rm (bitT s) k : Nat) ∧ wa = wr) (fun _ i _ => rm.length - (intOf i).toNat)
      case atStart => exact ⟨0, Nat.zero_le _, rfl, rfl, rfl⟩
      case round =>
        obtain ⟨k, hk, rfl, rfl, rfl⟩ := hrel
        by_cases hkn : k < rm.length
        · obtain ⟨ad, v, rfl, hab, hv, hcv⟩ := HRM.out.i64_at hkn
          have hri := roomI_at hv
          have hmm := roomT_le rm (bitT s) 1000000 HRB.out k hk
          have hvm : v ≤ 1000000 := HRB.out _ (List.mem_of_getElem? hv)
          have hsu := roomT_succ rm (bitT s) k
          have HCV := hide ((HB.out.mono hB0).cell (p := ad.add k) (by rw [block_of_add]; exact hab) |>.trans hcv)
          obtain ⟨m, hm⟩ : ∃ m, m = roomT rm (bitT s) k := ⟨_, rfl⟩
          obtain ⟨m', hm'⟩ : ∃ m, m = roomT rm (bitT s) (k + 1) := ⟨_, rfl⟩
          rw [← hm, ← hm'] at hsu
          rw [← hm] at hmm ⊢
          have HM := hide hm'
          have hcw := HCV.out
          clear hm hm' hv hcv
          cases hbt : bitT s k with
          | true =>
            have hz := (bit_one hbt).2
            rw [hbt, if_pos rfl] at hsu
            clear hbt
            by_cases h0 : 0 < v
            · have hmv : (m' : Int) = m + v := by rw [hsu]; unfold roomN; rw [hri]; omega
              have HMV := hide hmv
              clear hri hsu hmv
              go_wp2
              go_roundw
              case rel => exact ⟨k + 1, by omega, by go_num, by rw [← HM.out, HMV.out], trivial⟩
              case measure => simp [intOf]; omega
            · have hmv : m' = m := by rw [hsu]; unfold roomN; rw [hri]; omega
              have HMV := hide hmv
              clear hri hsu hmv
              go_wp2
              go_roundw
              case rel => exact ⟨k + 1, by omega, by go_num, by rw [← HM.out, HMV.out], trivial⟩
              case measure => simp [intOf]; omega
          | false =>
            have hz := bit_not hbt
            rw [hbt, if_neg (by decide)] at hsu
            have HMV := hide (show m' = m from hsu)
            clear hbt hri hsu
            go_wp2
            go_roundw
            case rel => exact ⟨k + 1, by omega, by go_num, by rw [← HM.out, HMV.out], trivial⟩
            case measure => simp [intOf]; omega
        · obtain rfl : k = rm.length := by omega
          go_wp2
          have hmm := roomT_le rm (bitT s) 1000000 HRB.out _ (Nat.le_refl _)
          obtain ⟨m, hm⟩ : ∃ m, m = roomT rm (bitT s) rm.length := ⟨_, rfl⟩
          have hps := HP.out s
          rw [hangN_is, ← hm] at hps
          rw [← hm] at hmm ⊢
          have HPS := hide hps
          clear hm hps
          go_loopw [10, 11] (fun q i wr => ∃ j : Nat, j ≤ n ∧ i = .int .i64 j ∧ q = .int .i64 (((L.take j).filter (hangP rm d (bitT s))).length : Nat) ∧ Hid (Below wa.heap.size wa wr)) (fun _ i _ => n - (intOf i).toNat)
          case atStart => exact ⟨0, Nat.zero_le _, rfl, rfl, hide (Below.refl _ _)⟩
          case round =>
            obtain ⟨j, hj, rfl, rfl, HB2⟩ := hrel
            have hbw : Below w.heap.size w wr := HB.out.trans (HB2.out.mono HB.out.size)
            have HBW := hide hbw
            have hqj : ((L.take j).filter (hangP rm d (bitT s))).length ≤ j := by
              refine Nat.le_trans (List.length_filter_le _ _) ?_
              rw [List.length_take]; omega
            by_cases hjn : j < n
            · obtain ⟨ad, g, rfl, hab, hg, hgi, hcg⟩ := (HR.out.below (hbw.mono hB0)).at_ hjn
              have HCG := hide hcg
              have HGI := hide hgi
              have hmore := hang_more (p := hangP rm d (bitT s)) hg
              obtain ⟨pg, hpg⟩ : ∃ x, x = hangP rm d (bitT s) g := ⟨_, rfl⟩
              rw [← hpg] at hmore
              obtain ⟨h1, hh1⟩ : ∃ x, x = hasB g.ex d := ⟨_, rfl⟩
              obtain ⟨o1, ho1⟩ : ∃ x, x = onlyB rm (dks g.ex) (bitT s) := ⟨_, rfl⟩
              have hpe : pg = (h1 && o1) := by rw [hpg, hh1, ho1]; rfl
              have hhas := refHas_any g d B0 wr hgi (Nat.le_trans hB0 hbw.size)
              rw [← hh1] at hhas
              have HH := hide hhas
              have HRW := hide (HRM.out.below (hbw.mono hB0))
              have HOC := hide ho1
              obtain ⟨q, hq⟩ : ∃ q, q = ((L.take j).filter (hangP rm d (bitT s))).length := ⟨_, rfl⟩
              rw [← hq] at hqj hmore ⊢
              have HMORE := hide hmore
              have HPE := hide hpe
              clear hg hgi hcg hmore hpg hh1 ho1 hhas hq hpe hbw
              cases h1 with
              | false =>
                cases o1 with
                | false =>
                  have hmm2 := HMORE.out
                  rw [HPE.out] at hmm2
                  have HQ2 := hide (show _ = q from hmm2)
                  clear hmm2
                  go_wp2_with (first
                    | (go_at_call 24; refine HH.out.mono ?_; rintro _ w2 ⟨rfl, hl2⟩; have HB2s := hide (HBW.out.trans (hl2.mono HBW.out.size)); have HON := hide (refOnly_any g AR cR rm s B0 w2 (HGI.out.below (hl2.mono (Nat.le_trans hB0 HBW.out.size))) (HRW.out.below (hl2.mono (Nat.le_trans hB0 HBW.out.size))) (Nat.le_trans hB0 HB2s.out.size) hrn (by omega)); rw [← HOC.out] at HON; have HCG2 := hide (fun (x : Nat) v hv => ((hl2.mono HBW.out.size).mono hB0).cell (p := (ad.add (j * 3)).add x) (by rw [block_of_add, block_of_add]; exact hab) |>.trans (HCG.out x v hv)))
                    | (go_at_call 30; refine HON.out.mono ?_; rintro _ w3 ⟨rfl, hl3⟩)
                    | ((with_reducible refine at_slot 56 ?_); refine wpList_load_at rfl 36 (.tmp 55) rfl (ad.add (j * 3)) rfl (grC g) _ HCG.out Try.underlying36 rfl grp_info ?_)
                    | ((with_reducible refine at_slot 62 ?_); refine wpList_load_at rfl 36 (.tmp 61) rfl (ad.add (j * 3)) rfl (grC g) _ HCG2.out Try.underlying36 rfl grp_info ?_))
                  have HB3 := hide (HB2.out.trans ((hl2.trans (hl3.mono hl2.size)).mono HB2.out.size))
                  go_roundw
                  case rel => exact ⟨j + 1, by omega, by go_num, by rw [HQ2.out], HB3⟩
                  case measure => simp [intOf]; omega
                | true =>
                  have hmm2 := HMORE.out
                  rw [HPE.out] at hmm2
                  have HQ2 := hide (show _ = q from hmm2)
                  clear hmm2
                  go_wp2_with (first
                    | (go_at_call 24; refine HH.out.mono ?_; rintro _ w2 ⟨rfl, hl2⟩; have HB2s := hide (HBW.out.trans (hl2.mono HBW.out.size)); have HON := hide (refOnly_any g AR cR rm s B0 w2 (HGI.out.below (hl2.mono (Nat.le_trans hB0 HBW.out.size))) (HRW.out.below (hl2.mono (Nat.le_trans hB0 HBW.out.size))) (Nat.le_trans hB0 HB2s.out.size) hrn (by omega)); rw [← HOC.out] at HON; have HCG2 := hide (fun (x : Nat) v hv => ((hl2.mono HBW.out.size).mono hB0).cell (p := (ad.add (j * 3)).add x) (by rw [block_of_add, block_of_add]; exact hab) |>.trans (HCG.out x v hv)))
                    | (go_at_call 30; refine HON.out.mono ?_; rintro _ w3 ⟨rfl, hl3⟩)
                    | ((with_reducible refine at_slot 56 ?_); refine wpList_load_at rfl 36 (.tmp 55) rfl (ad.add (j * 3)) rfl (grC g) _ HCG.out Try.underlying36 rfl grp_info ?_)
                    | ((with_reducible refine at_slot 62 ?_); refine wpList_load_at rfl 36 (.tmp 61) rfl (ad.add (j * 3)) rfl (grC g) _ HCG2.out Try.underlying36 rfl grp_info ?_))
                  have HB3 := hide (HB2.out.trans ((hl2.trans (hl3.mono hl2.size)).mono HB2.out.size))
                  go_roundw
                  case rel => exact ⟨j + 1, by omega, by go_num, by rw [HQ2.out], HB3⟩
                  case measure => simp [intOf]; omega
              | true =>
                cases o1 with
                | false =>
                  have hmm2 := HMORE.out
                  rw [HPE.out] at hmm2
                  have HQ2 := hide (show _ = q from hmm2)
                  clear hmm2
                  go_wp2_with (first
                    | (go_at_call 24; refine HH.out.mono ?_; rintro _ w2 ⟨rfl, hl2⟩; have HB2s := hide (HBW.out.trans (hl2.mono HBW.out.size)); have HON := hide (refOnly_any g AR cR rm s B0 w2 (HGI.out.below (hl2.mono (Nat.le_trans hB0 HBW.out.size))) (HRW.out.below (hl2.mono (Nat.le_trans hB0 HBW.out.size))) (Nat.le_trans hB0 HB2s.out.size) hrn (by omega)); rw [← HOC.out] at HON; have HCG2 := hide (fun (x : Nat) v hv => ((hl2.mono HBW.out.size).mono hB0).cell (p := (ad.add (j * 3)).add x) (by rw [block_of_add, block_of_add]; exact hab) |>.trans (HCG.out x v hv)))
                    | (go_at_call 30; refine HON.out.mono ?_; rintro _ w3 ⟨rfl, hl3⟩)
                    | ((with_reducible refine at_slot 56 ?_); refine wpList_load_at rfl 36 (.tmp 55) rfl (ad.add (j * 3)) rfl (grC g) _ HCG.out Try.underlying36 rfl grp_info ?_)
                    | ((with_reducible refine at_slot 62 ?_); refine wpList_load_at rfl 36 (.tmp 61) rfl (ad.add (j * 3)) rfl (grC g) _ HCG2.out Try.underlying36 rfl grp_info ?_))
                  have HB3 := hide (HB2.out.trans ((hl2.trans (hl3.mono hl2.size)).mono HB2.out.size))
                  go_roundw
                  case rel => exact ⟨j + 1, by omega, by go_num, by rw [HQ2.out], HB3⟩
                  case measure => simp [intOf]; omega
                | true =>
                  have hmm2 := HMORE.out
                  rw [HPE.out] at hmm2
                  have HQ2 := hide (show _ = q + 1 from hmm2)
                  clear hmm2
                  go_wp2_with (first
                    | (go_at_call 24; refine HH.out.mono ?_; rintro _ w2 ⟨rfl, hl2⟩; have HB2s := hide (HBW.out.trans (hl2.mono HBW.out.size)); have HON := hide (refOnly_any g AR cR rm s B0 w2 (HGI.out.below (hl2.mono (Nat.le_trans hB0 HBW.out.size))) (HRW.out.below (hl2.mono (Nat.le_trans hB0 HBW.out.size))) (Nat.le_trans hB0 HB2s.out.size) hrn (by omega)); rw [← HOC.out] at HON; have HCG2 := hide (fun (x : Nat) v hv => ((hl2.mono HBW.out.size).mono hB0).cell (p := (ad.add (j * 3)).add x) (by rw [block_of_add, block_of_add]; exact hab) |>.trans (HCG.out x v hv)))
                    | (go_at_call 30; refine HON.out.mono ?_; rintro _ w3 ⟨rfl, hl3⟩)
                    | ((with_reducible refine at_slot 56 ?_); refine wpList_load_at rfl 36 (.tmp 55) rfl (ad.add (j * 3)) rfl (grC g) _ HCG.out Try.underlying36 rfl grp_info ?_)
                    | ((with_reducible refine at_slot 62 ?_); refine wpList_load_at rfl 36 (.tmp 61) rfl (ad.add (j * 3)) rfl (grC g) _ HCG2.out Try.underlying36 rfl grp_info ?_))
                  have HB3 := hide (HB2.out.trans ((hl2.trans (hl3.mono hl2.size)).mono HB2.out.size))
                  go_roundw
                  case rel => exact ⟨j + 1, by omega, by go_num, by rw [HQ2.out]; go_num, HB3⟩
                  case measure => simp [intOf]; omega
            · obtain rfl : j = n := by omega
              have hfull : L.take j = L := List.take_of_length_le (by rw [HL.out]; omega)
              rw [hfull] at hqj ⊢
              obtain ⟨q, hq⟩ : ∃ q, q = (L.filter (hangP rm d (bitT s))).length := ⟨_, rfl⟩
              rw [← hq] at hqj HPS ⊢
              clear hq hfull
              by_cases hqm : q ≤ m
              · have hpt : p s = true := by rw [HPS.out]; exact decide_eq_true hqm
                have HA2 : Hid (∀ x, x < s + 1 → p x = true) := hide (fun x hx => by
                  by_cases e : x = s
                  · rw [e]; exact hpt
                  · exact HA.out x (by omega))
                clear hpt
                go_wp2
                go_roundw
                case rel => exact ⟨s + 1, by omega, by go_num, HA2, HBW⟩
                case measure => simp [intOf]; omega
              · have hpf : p s = false := by rw [HPS.out]; exact decide_eq_false hqm
                have HNO := hide (all_take (n := N) hsn hpf)
                clear hpf
                go_wp2
                go_ret
                exact ⟨ret_bool HNO.out.symm, HBW.out⟩
    · obtain rfl : s = N := by omega
      have HALL := hide (all_range HA.out)
      go_wp2
      go_ret
      exact ⟨ret_bool HALL.out.symm, HB.out⟩
#print axioms refOnly_any
end Go.Proofs.Ytmaiikmgpeafkaa
