/- What the reference's Of does. -/
import Derived.Test.YtpakipacclmimaaDoorPlainB
import Derived.Deep.RegionHeld
import Derived.StillTailTactics
import Derived.Deep.DeepCutAuto
import Derived.Deep.CutBlock
import Derived.IntWalk
namespace Go.Proofs.YtpakipacclmimaaDoor
open Go.RowKit

def ROfAns (w : World) (n : Int) (bs : List UInt8) (e : Ending) (w' : World) : Prop := Below w.heap.size w w' ∧
  ((ofCode n bs ≠ 0 ∧ e = .returned (.tuple #[.pointer none, .int .i64 (ofCode n bs)])) ∨
   (ofCode n bs = 0 ∧ ∃ p A c, e = .returned (.tuple #[.pointer (some ⟨p, 0, none⟩), .int .i64 0]) ∧ RefAt w' w.heap.size p A c n.toNat (bitAt bs)))
theorem cut_out (t : Nat → Bool) (n : Nat) : ∀ i, n ≤ i → cut t n i = false := fun i h => by
  have : ¬ i < n := by omega
  simp [cut, this]
theorem cut_past {bs : List UInt8} {n k : Nat} (hk : k ≤ n) (h : 8 * bs.length ≤ k) : cut (bitAt bs) k = cut (bitAt bs) n := by
  funext i
  by_cases h1 : i < k
  · have h2 : i < n := by omega
    simp [cut, h1, h2]
  · simp [cut, h1, bitAt_above (bs := bs) (i := i) (by omega)]
theorem of_yes {n : Nat} {bs : List UInt8} (hn : n ≤ 65536) (h : bytesOf n (cut (bitAt bs) n) = bs) : ofCode n bs = 0 := by
  rw [← h]
  exact of_bytesOf hn (cut_out _ _)
theorem of_parts {n : Nat} {bs : List UInt8} (h : ofCode n bs = 0) : bs.length = (n + 7) / 8 ∧ ∀ i, n ≤ i → bitAt bs i = false := by
  unfold ofCode at h
  by_cases h1 : (n : Int) < 0 ∨ 65536 < (n : Int)
  · rw [if_pos h1] at h; cases h
  · rw [if_neg h1] at h
    by_cases h2 : bs.length ≠ ((n : Int).toNat + 7) / 8
    · rw [if_pos h2] at h; cases h
    · rw [if_neg h2] at h
      have hl : bs.length = (n + 7) / 8 := by simpa using h2
      refine ⟨hl, fun i hi => ?_⟩
      by_cases h3 : (List.range (8 * bs.length)).all (fun i => !bitAt bs i || decide (i < (n : Int).toNat)) = true
      · by_cases h4 : i < 8 * bs.length
        · have h5 := List.all_eq_true.1 h3 i (List.mem_range.2 h4)
          have h6 : ¬ i < n := by omega
          simpa [h6] using h5
        · exact bitAt_above (by omega)
      · rw [if_neg h3] at h; cases h
theorem of_no {n : Nat} {bs : List UInt8} (h : ofCode n bs = 0) : bytesOf n (cut (bitAt bs) n) = bs ∧ cut (bitAt bs) n = bitAt bs := by
  obtain ⟨h1, h2⟩ := of_parts h
  have e := cut_all h2
  exact ⟨by rw [e]; exact bytesOf_bits h1, e⟩
theorem of_two {n : Nat} {bs : List UInt8} (hn : n ≤ 65536) (h : ofCode n bs ≠ 0) : ofCode n bs = 2 := by
  unfold ofCode at h ⊢
  rw [if_neg (by omega)] at h ⊢
  split
  · rfl
  · rename_i h2
    rw [if_neg h2] at h
    split
    · rename_i h3
      rw [if_pos h3] at h
      exact absurd rfl h
    · rfl

section
variable {w : World}
set_option maxRecDepth 100000 in
theorem rof_out (n : Int) (A : Option Addr) (m c : Nat) (bs : List UInt8) (h : n < 0 ∨ 65536 < n) :
    Calls Tryd.prog 21 #[.int .i64 n, .slice A m c] w (ROfAns w n bs) := by
  have H1 := hide (code_1 (bs := bs) h)
  rcases h with h | h
  · have hd : decide (n < (0 : Int)) = true := by simpa using h
    go_enter Tryd.func21, Tryd.ntmps21
    go_wp2_with fail
    go_ret2
    exact ⟨Below.refl _ _, .inl ⟨by rw [H1.out]; decide, by rw [H1.out]; rfl⟩⟩
  · have hd : decide (n < (0 : Int)) = false := by simp; omega
    have hd2 : decide ((65536 : Int) < n) = true := by simpa using h
    go_enter Tryd.func21, Tryd.ntmps21
    go_wp2_with fail
    go_ret2
    exact ⟨Below.refl _ _, .inl ⟨by rw [H1.out]; decide, by rw [H1.out]; rfl⟩⟩
set_option maxRecDepth 100000 in
set_option maxHeartbeats 2000000 in
theorem rof_in (n : Nat) (A : Option Addr) (m c : Nat) (bs : List UInt8) (hr : Reads w w.heap.size 1 A m (B8 bs)) (hm63 : m ≤ 9223372036854775807) (hn : n ≤ 65536) :
    Calls Tryd.prog 21 #[.int .i64 (n : Int), .slice A m c] w (ROfAns w n bs) := by
  have hlen : bs.length = m := by have := hr.1; simpa [B8_length] using this
  have hcl : clamp n = n := by unfold clamp; omega
  have HCL := hide hcl
  have HLEN := hide hlen
  clear hcl hlen
  go_enter Tryd.func21, Tryd.ntmps21
  go_wp2_with fail
  refine (rnew_any n w).mono ?_
  rintro e w1 ⟨p, AL, cL, rfl, hm, hb⟩
  rw [HCL.out] at hm
  have hm0 : RefAt w1 w.heap.size p AL cL n (cut (bitAt bs) 0) := by rw [cut_0]; exact hm
  clear hm
  go_upto_block 0 with fail
  go_cut [7] (fun _ wx => RefAt wx w.heap.size p AL cL n (cut (bitAt bs) n) ∧ Below w.heap.size w wx)
  case first =>
    go_wp2_with fail
    go_loopw [7] (fun a wr => ∃ k : Nat, k ≤ n ∧ a = .int .i64 (k : Int) ∧ RefAt wr w.heap.size p AL cL n (cut (bitAt bs) k) ∧ Below w.heap.size w wr) (fun a _ => n - (intOf a).toNat)
    case atStart => exact ⟨0, by omega, rfl, hm0, hb⟩
    case round =>
      clear hm0 hb
      obtain ⟨k, hk, rfl, hmr, hbel⟩ := hrel
      by_cases hlt : k < n
      · by_cases hkm : k / 8 < m
        · have hd8 : decide ((k : Int) / 8 < (m : Int)) = true := by simp; omega
          have h0r := hmr.cell0
          obtain ⟨g, rfl⟩ := own_at hmr.row (by omega)
          have hcs := (hmr.row.cellAt k (by omega)).trans (BL_at n _ hlt)
          have hf := hmr.row.frozenAt k
          obtain ⟨ad, x, rfl, hab, hx, hc⟩ := (hr.below hbel).u8_at (k := k / 8) (by omega)
          obtain ⟨q, hq⟩ : ∃ q, q = k % 8 := ⟨_, rfl⟩
          have hq8 : q < 8 := by omega
          have hbt : bitAt bs k = x.toNat.testBit q := by rw [bitAt, List.getD_eq_getElem?_getD, hx, hq]; rfl
          obtain ⟨v, hv⟩ : ∃ v, v = bitAt bs k := ⟨_, rfl⟩
          obtain ⟨rr, hrr⟩ : ∃ rr, rr = x.toNat / 2 ^ q % 2 := ⟨_, rfl⟩
          have hrem : ((x.toNat : Int) / (2 : Int) ^ q).tmod 2 = (rr : Int) := by
            have e : (x.toNat : Int) / (2 : Int) ^ q = ((x.toNat / 2 ^ q : Nat) : Int) := by rw [Int.natCast_ediv, Int.natCast_pow]; rfl
            rw [e, Int.tmod_eq_emod_of_nonneg (Int.natCast_nonneg _), hrr, Int.natCast_emod]; rfl
          have heq : ((rr : Int) == 1) = v := by
            rw [hv, hbt, Nat.testBit_eq_decide_div_mod_eq, ← hrr, Bool.eq_iff_iff, beq_iff_eq, decide_eq_true_eq]; omega
          have HK : Hid (put (cut (bitAt bs) k) k v = cut (bitAt bs) (k + 1)) := by
            show _ = _
            cases hbv : bitAt bs k
            · rw [hv, hbv, cut_no hbv, put_same (by simp [cut])]
            · rw [hv, hbv, cut_yes hbv]
          clear hv hbt hrr hx
          have hw1 : IntKind.i64.wrap ((k : Int) / 8) = (k : Int) / 8 := IntWalk.i64_in _ (by omega)
          have hw2 : ((k : Int) / 8).toNat = k / 8 := by omega
          have htm : (k : Int).tmod 8 = (q : Int) := by rw [Int.tmod_eq_emod_of_nonneg (by omega)]; omega
          have hw3 : IntKind.u64.wrap (q : Int) = (q : Int) := by rw [IntKind.wrap_u64]; omega
          have hk0 : (0 : Int) ≤ (k : Int) / 8 := by omega
          have hk1 : (k : Int) / 8 < (m : Int) := by omega
          have hk2 : (k : Int) < (n : Int) := by omega
          have HQ := hide hq
          clear hq
          go_wp2_with fail
          refine wp_region_still_tail 17 (by kernel_rfl) (by kernel_rfl) ?_
          change wpStill _ _ wr.drew _ _ _
          simp only [List.take_succ_cons, List.take_zero, List.drop_succ_cons, List.drop_zero]
          iterate 17 still_step
          refine wpStill_nil ?_
          clear hw1
          change wpList _ _ _ _ _ wr.drew
          go_wp2_with fail
          have hm2 := rset hmr k v
          rw [HK.out] at hm2
          go_roundw
          case rel => exact ⟨k + 1, by omega, by go_num, hm2.drewN 1, (hbel.setCell (p := ⟨g, k, none⟩) (hmr.row.lt g rfl).1 _).drew⟩
          case measure => simp [intOf]; omega
        · have hd8 : decide ((k : Int) / 8 < (m : Int)) = false := by simp; omega
          have HE : Hid (cut (bitAt bs) k = cut (bitAt bs) n) := cut_past hk (by rw [HLEN.out]; omega)
          rw [HE.out] at hmr
          go_wp2_with fail
          go_meet
          exact ⟨hmr, hbel⟩
      · have e : k = n := by omega
        rw [e] at hmr
        clear e
        go_wp2_with fail
        go_meet
        exact ⟨hmr, hbel⟩
  case rest =>
    obtain ⟨hmr, hbel⟩ := hcut
    have ho := cut_out (bitAt bs) n
    have hsz := hbel.size
    have hrr := (hr.below hbel)
    have hkb := fun (W' : World) (h : Below wc.heap.size wc W') => run_conv_reads (P := Tryd.prog) W' 36 5 9 Tryd.underlying36 Tryd.underlying5 Tryd.underlying9 _ A m c bs (hrr.below (h.mono hsz))
    have HBY := hide (fun (W' : World) (h : Below wc.heap.size wc W') => rbytes_any (hmr.later h) ho)
    obtain ⟨Y, hY⟩ : ∃ Y, Y = bytesOf n (cut (bitAt bs) n) := ⟨_, rfl⟩
    rw [← hY] at HBY
    have HY := hide hY
    have HCONV := hide (fun (W' : World) (bb : Nat) (A' : Option Addr) (n' c' : Nat) (h : W'.ownsRow bb 5 1 (.slice A' n' c') n' (B8 Y)) => own_conv (P := Tryd.prog) 36 5 9 Tryd.underlying36 Tryd.underlying5 Tryd.underlying9 h)
    have HMR := hide hmr
    have HBEL := hide hbel
    clear hY hmr hbel ho hrr hm0 hb
    by_cases hz : ofCode n bs = 0
    · have HZ := hide hz
      have HYB : Hid (Y = bs) := HY.out.trans (of_no hz).1
      clear hz
      go_wp2_with fail
      go_region_held (fun W' => Below wc.heap.size wc W') (first | assumption | exact (Below.refl _ _).drew | exact Below.trans (Below.drew (Below.refl _ _)) (by assumption))
        ((first
        | (go_at_call 20; refine (HBY.out _ (by assumption)).mono ?_; rintro e w7 ⟨A7, n7, c7, rfl, hn7, hc7, hown7, hbel7⟩; rw [HYB.out] at hown7; have hk7 := own_conv (P := Tryd.prog) 36 5 9 Tryd.underlying36 Tryd.underlying5 Tryd.underlying9 hown7; clear hown7)))
      have hS7 : Below wc.heap.size wc w7 := by assumption
      have hfin : RefAt w7 w.heap.size p AL cL n (bitAt bs) := by rw [← (of_no HZ.out).2]; exact HMR.out.later hS7
      have hfb := HBEL.out.trans (hS7.mono hsz)
      clear hbel7 hk7 hkb
      go_wp2
      go_ret2
      exact ⟨hfb, .inr ⟨HZ.out, p, AL, cL, rfl, hfin⟩⟩
    · have HZ := hide hz
      have HYB : Hid (Y ≠ bs) := fun h => hz (of_yes hn (HY.out.symm.trans h))
      clear hz
      go_wp2_with fail
      go_region_held (fun W' => Below wc.heap.size wc W') (first | assumption | exact (Below.refl _ _).drew | exact Below.trans (Below.drew (Below.refl _ _)) (by assumption))
        ((first
        | (go_at_call 20; refine (HBY.out _ (by assumption)).mono ?_; rintro e w7 ⟨A7, n7, c7, rfl, hn7, hc7, hown7, hbel7⟩; have hk7 := HCONV.out w7 _ A7 n7 c7 hown7; clear hown7)))
      have hS7 : Below wc.heap.size wc w7 := by assumption
      have hfb := HBEL.out.trans (hS7.mono hsz)
      have hne : (Y == bs) = false := beq_eq_false_iff_ne.2 HYB.out
      have H2 := hide (of_two hn HZ.out)
      clear hbel7 hk7 hkb
      go_wp2
      · go_ret2
        exact ⟨hfb, .inl ⟨by rw [H2.out]; decide, by rw [H2.out]; rfl⟩⟩
      · have h : (!(Y == bs)) = false := by assumption
        rw [hne] at h
        cases h
theorem rof_any (n : Int) (A : Option Addr) (m c : Nat) (bs : List UInt8) (hr : Reads w w.heap.size 1 A m (B8 bs)) (hm63 : m ≤ 9223372036854775807) :
    Calls Tryd.prog 21 #[.int .i64 n, .slice A m c] w (ROfAns w n bs) := by
  by_cases h : n < 0 ∨ 65536 < n
  · exact rof_out n A m c bs h
  · obtain ⟨n, rfl⟩ := Int.eq_ofNat_of_zero_le (a := n) (by omega)
    exact rof_in n A m c bs hr hm63 (by omega)
end
#print axioms rof_any
end Go.Proofs.YtpakipacclmimaaDoor
