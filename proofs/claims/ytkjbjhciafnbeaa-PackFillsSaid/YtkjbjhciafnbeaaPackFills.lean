/- PackFills holds: for all bytes (their first three thousand) the sectors that Sectors makes of them hold these bytes, and noughts behind, less than a sector of them; and for all sectors (the first forty) Sectors of Bytes of them are they again; no condition. -/
import Derived.Test.YtkjbjhciafnbeaaShown
import Derived.Test.YtkjbjhciafnbeaaArgSec
import Derived.Test.YtkjbjhciafnbeaaBytes
namespace Go.Proofs.Ytkjbjhciafnbeaa.PackFills
open Go.ChangeShapes Go.WideShapes Go.ChangeAt Go.RowKit
set_option linter.unusedVariables false

theorem pad_front (bs : List UInt8) : (pad bs).take bs.length = bs := by simp [pad]
theorem pad_same {bs : List UInt8} {q : Nat} (h : bs.length = q * 64) : pad bs = bs := by
  have e : (64 - bs.length % 64) % 64 = 0 := by omega
  rw [pad, e, List.replicate_zero, List.append_nil]
theorem pad_zero {bs : List UInt8} {i : Nat} {x : UInt8} (h : (pad bs)[i]? = some x) (hi : bs.length ≤ i) : x.toNat = 0 := by
  rw [pad, List.getElem?_append_right hi, List.getElem?_replicate] at h
  split at h
  · injection h with h
    subst h
    rfl
  · cases h

set_option maxRecDepth 100000 in
set_option maxHeartbeats 8000000 in
theorem walk (A : Option Addr) (n c : Nat) (bs : List UInt8) (C : Option Addr) (m d : Nat) (ls : List UInt8) (w : World)
    (hr : Reads w w.heap.size 1 A n (B8 bs)) (hc : n ≤ c) (hc2 : c ≤ 9223372036854775807) (hs : Reads w w.heap.size 64 C m (B8 ls)) (hd : m ≤ d) (hd2 : d ≤ 9223372036854775807) :
    Calls Try.prog 6 #[.slice A n c, .slice C m d] w fun e w' => e = .returned (.bool true) ∧ Below w.heap.size w w' := by
  by_cases hp : n ≤ 3000
  · by_cases hq : m ≤ 40
    · have hrp := hr.head (k := n) (by omega)
      rw [Nat.mul_one, B8_take] at hrp
      have hsq := hs.head (k := m) (by omega)
      rw [B8_take] at hsq
      have hxl : (bs.take n).length = n := by have := hrp.1; rw [B8_length] at this; omega
      have hyl : (ls.take (m * 64)).length = m * 64 := by have := hsq.1; rw [B8_length] at this; exact this
      obtain ⟨X, hX⟩ : ∃ X, X = bs.take n := ⟨_, rfl⟩
      obtain ⟨Y, hY⟩ : ∃ Y, Y = ls.take (m * 64) := ⟨_, rfl⟩
      rw [← hX] at hrp hxl
      rw [← hY] at hsq hyl
      clear hX hY
      have hpl := pad_length X
      have hpf := pad_front X
      rw [hxl] at hpl hpf
      have HPS := hide (pad_same hyl)
      have HPL := hide hpl
      have HPF := hide hpf
      have HXL := hide hxl
      have HYL := hide hyl
      have hp3 : (n : Nat) ≤ 3000 := by omega
      have hq4 : (m : Nat) ≤ 40 := by omega
      clear hpl hpf hxl hyl
      go_enter Try.func6, Try.ntmps6
      go_wp2_with fail
      refine (shown_any _).mono ?_
      rintro e w1 ⟨rfl, hb1⟩
      go_wp2_with fail
      refine (sectors_any A n c X _ ((hrp.below hb1).more hb1.size) (by omega) hc2 (by omega)).mono ?_
      rintro e w2 ⟨A2, n2, c2, rfl, hn2, hc2', hown2, hbel2⟩
      have hb2 : Below w.heap.size w w2 := hb1.trans (hbel2.mono hb1.size)
      have hl2 := hown2.1
      rw [B8_length, HPL.out] at hl2
      have h2a : n2 ≤ 47 := by omega
      go_wp2_with fail
      refine (bytes_any A2 n2 c2 (pad X) _ (Reads.of_own hown2) (by omega)).mono ?_
      rintro e w3 ⟨A3, n3, c3, rfl, hn3, hc3', hown3, hbel3⟩
      have hb3 : Below w.heap.size w w3 := hb2.trans (hbel3.mono hb2.size)
      have hl3 := own_len8 hown3
      rw [HPL.out] at hl3
      have h3a : (n : Nat) ≤ n3 := by omega
      have h3b : n3 < n + 64 := by omega
      have h3c : ((n3 : Int) % 64 != 0) = false := by rw [bne_eq_false_iff_eq]; omega
      have h3d : decide ((64 : Int) ≤ (n3 : Int) - (n : Int)) = false := by simp; omega
      have h3e : decide ((n3 : Int) < (n : Int)) = false := by simp; omega
      have h3f : decide (n3 < n) = false := by simp; omega
      have h3w : IntKind.i64.wrap ((n3 : Int) - (n : Int)) = (n3 : Int) - (n : Int) := IntWalk.i64_in _ (by omega)
      have h3t : (n3 : Int).tmod 64 = 0 := by rw [Int.tmod_eq_emod_of_nonneg (by omega)]; omega
      have hrd := Reads.of_own hown3
      have hrh := hrd.head (k := n) h3a
      rw [Nat.mul_one, B8_take, HPF.out] at hrh
      have hrb := hrp.below hb3
      have hk1 := fun q => run_conv_reads (P := Try.prog) (w3.drewN q) 22 5 9 Try.underlying22 Try.underlying5 Try.underlying9 _ A3 n c3 X (hrh.drewN q)
      have hk2 := fun q => run_conv_reads (P := Try.prog) (w3.drewN q) 22 5 9 Try.underlying22 Try.underlying5 Try.underlying9 _ A n c X (hrb.drewN q)
      clear hl2 hl3
      go_wp2_with fail
      go_quiet (fail)
      clear h3c h3d h3e h3f h3w h3t hk1 hk2
      go_wp2_with fail
      have hbW : Below w.heap.size w (w3.drewN nq) := below_drewN hb3 nq
      have hrW := hrd.drewN nq
      have hsW := hsq.below hbW
      generalize w3.drewN nq = W at *
      go_loop [7] (fun i => ∃ k : Nat, n ≤ k ∧ k ≤ n3 ∧ i = .int .i64 k) (fun i => n3 - (intOf i).toNat)
      case atStart => exact ⟨n, Nat.le_refl _, h3a, rfl⟩
      case round =>
        obtain ⟨k, hkp, hkn, rfl⟩ := hrel
        by_cases hk : k < n3
        · obtain ⟨ad, x, rfl, _, hx, hcx⟩ := hrW.u8_at hk
          have hz := pad_zero hx (by rw [HXL.out]; exact hkp)
          rw [hz] at hcx
          have hcx2 : W.cell? (ad.add k) = some (.int .u8 0) := hcx
          clear hx hz hcx
          go_wp2
          go_round
          case rel => exact ⟨k + 1, by omega, by omega, by go_num⟩
          case measure => simp [intOf]; omega
        · have hsz := hbW.size
          go_wp2_with fail
          refine (bytes_any C m d Y _ (hsW.more hsz) (by omega)).mono ?_
          rintro e w4 ⟨A4, n4, c4, rfl, hn4, hc4, hown4, hbel4⟩
          have hl4 := own_len8 hown4
          rw [HYL.out] at hl4
          have h4a : n4 ≤ 2560 := by omega
          clear hl4
          have hb4 : Below w.heap.size w w4 := hbW.trans (hbel4.mono hsz)
          go_wp2_with fail
          refine (sectors_any A4 n4 c4 Y _ (Reads.of_own hown4) hn4 (by simpa [maxLen] using hc4) (by omega)).mono ?_
          rintro e w5 ⟨A5, n5, c5, rfl, hn5, hc5, hown5, hbel5⟩
          rw [HPS.out] at hown5
          have hl5 := hown5.1
          rw [B8_length, HYL.out] at hl5
          have h5a : n5 ≤ 40 := by omega
          clear hl5
          have hb5 : Below w.heap.size w w5 := hb4.trans (hbel5.mono hb4.size)
          have hdec : decide (Y = Y) = true := by simp
          have HSM := hide (sameSec_any A5 C n5 c5 m d Y Y _ _ w5 (Reads.of_own hown5) (hsq.below hb5) (by omega) (by omega))
          go_wp2_with fail
          refine HSM.out.mono ?_
          rintro e w6 ⟨rfl, q, rfl⟩
          rw [hdec]
          go_wp2
          go_ret
          exact ⟨rfl, below_drewN hb5 q⟩
    · have hrp := hr.head (k := n) (by omega)
      rw [Nat.mul_one, B8_take] at hrp
      have hsq := hs.head (k := 40) (by omega)
      rw [B8_take] at hsq
      have hxl : (bs.take n).length = n := by have := hrp.1; rw [B8_length] at this; omega
      have hyl : (ls.take (40 * 64)).length = 40 * 64 := by have := hsq.1; rw [B8_length] at this; exact this
      obtain ⟨X, hX⟩ : ∃ X, X = bs.take n := ⟨_, rfl⟩
      obtain ⟨Y, hY⟩ : ∃ Y, Y = ls.take (40 * 64) := ⟨_, rfl⟩
      rw [← hX] at hrp hxl
      rw [← hY] at hsq hyl
      clear hX hY
      have hpl := pad_length X
      have hpf := pad_front X
      rw [hxl] at hpl hpf
      have HPS := hide (pad_same hyl)
      have HPL := hide hpl
      have HPF := hide hpf
      have HXL := hide hxl
      have HYL := hide hyl
      have hp3 : (n : Nat) ≤ 3000 := by omega
      have hq4 : (40 : Nat) ≤ 40 := by omega
      clear hpl hpf hxl hyl
      go_enter Try.func6, Try.ntmps6
      go_wp2_with fail
      refine (shown_any _).mono ?_
      rintro e w1 ⟨rfl, hb1⟩
      go_wp2_with fail
      refine (sectors_any A n c X _ ((hrp.below hb1).more hb1.size) (by omega) hc2 (by omega)).mono ?_
      rintro e w2 ⟨A2, n2, c2, rfl, hn2, hc2', hown2, hbel2⟩
      have hb2 : Below w.heap.size w w2 := hb1.trans (hbel2.mono hb1.size)
      have hl2 := hown2.1
      rw [B8_length, HPL.out] at hl2
      have h2a : n2 ≤ 47 := by omega
      go_wp2_with fail
      refine (bytes_any A2 n2 c2 (pad X) _ (Reads.of_own hown2) (by omega)).mono ?_
      rintro e w3 ⟨A3, n3, c3, rfl, hn3, hc3', hown3, hbel3⟩
      have hb3 : Below w.heap.size w w3 := hb2.trans (hbel3.mono hb2.size)
      have hl3 := own_len8 hown3
      rw [HPL.out] at hl3
      have h3a : (n : Nat) ≤ n3 := by omega
      have h3b : n3 < n + 64 := by omega
      have h3c : ((n3 : Int) % 64 != 0) = false := by rw [bne_eq_false_iff_eq]; omega
      have h3d : decide ((64 : Int) ≤ (n3 : Int) - (n : Int)) = false := by simp; omega
      have h3e : decide ((n3 : Int) < (n : Int)) = false := by simp; omega
      have h3f : decide (n3 < n) = false := by simp; omega
      have h3w : IntKind.i64.wrap ((n3 : Int) - (n : Int)) = (n3 : Int) - (n : Int) := IntWalk.i64_in _ (by omega)
      have h3t : (n3 : Int).tmod 64 = 0 := by rw [Int.tmod_eq_emod_of_nonneg (by omega)]; omega
      have hrd := Reads.of_own hown3
      have hrh := hrd.head (k := n) h3a
      rw [Nat.mul_one, B8_take, HPF.out] at hrh
      have hrb := hrp.below hb3
      have hk1 := fun q => run_conv_reads (P := Try.prog) (w3.drewN q) 22 5 9 Try.underlying22 Try.underlying5 Try.underlying9 _ A3 n c3 X (hrh.drewN q)
      have hk2 := fun q => run_conv_reads (P := Try.prog) (w3.drewN q) 22 5 9 Try.underlying22 Try.underlying5 Try.underlying9 _ A n c X (hrb.drewN q)
      clear hl2 hl3
      go_wp2_with fail
      go_quiet (fail)
      clear h3c h3d h3e h3f h3w h3t hk1 hk2
      go_wp2_with fail
      have hbW : Below w.heap.size w (w3.drewN nq) := below_drewN hb3 nq
      have hrW := hrd.drewN nq
      have hsW := hsq.below hbW
      generalize w3.drewN nq = W at *
      go_loop [7] (fun i => ∃ k : Nat, n ≤ k ∧ k ≤ n3 ∧ i = .int .i64 k) (fun i => n3 - (intOf i).toNat)
      case atStart => exact ⟨n, Nat.le_refl _, h3a, rfl⟩
      case round =>
        obtain ⟨k, hkp, hkn, rfl⟩ := hrel
        by_cases hk : k < n3
        · obtain ⟨ad, x, rfl, _, hx, hcx⟩ := hrW.u8_at hk
          have hz := pad_zero hx (by rw [HXL.out]; exact hkp)
          rw [hz] at hcx
          have hcx2 : W.cell? (ad.add k) = some (.int .u8 0) := hcx
          clear hx hz hcx
          go_wp2
          go_round
          case rel => exact ⟨k + 1, by omega, by omega, by go_num⟩
          case measure => simp [intOf]; omega
        · have hsz := hbW.size
          go_wp2_with fail
          refine (bytes_any C 40 d Y _ (hsW.more hsz) (by omega)).mono ?_
          rintro e w4 ⟨A4, n4, c4, rfl, hn4, hc4, hown4, hbel4⟩
          have hl4 := own_len8 hown4
          rw [HYL.out] at hl4
          have h4a : n4 ≤ 2560 := by omega
          clear hl4
          have hb4 : Below w.heap.size w w4 := hbW.trans (hbel4.mono hsz)
          go_wp2_with fail
          refine (sectors_any A4 n4 c4 Y _ (Reads.of_own hown4) hn4 (by simpa [maxLen] using hc4) (by omega)).mono ?_
          rintro e w5 ⟨A5, n5, c5, rfl, hn5, hc5, hown5, hbel5⟩
          rw [HPS.out] at hown5
          have hl5 := hown5.1
          rw [B8_length, HYL.out] at hl5
          have h5a : n5 ≤ 40 := by omega
          clear hl5
          have hb5 : Below w.heap.size w w5 := hb4.trans (hbel5.mono hb4.size)
          have hdec : decide (Y = Y) = true := by simp
          have HSM := hide (sameSec_any A5 C n5 c5 40 d Y Y _ _ w5 (Reads.of_own hown5) (hsq.below hb5) (by omega) (by omega))
          go_wp2_with fail
          refine HSM.out.mono ?_
          rintro e w6 ⟨rfl, q, rfl⟩
          rw [hdec]
          go_wp2
          go_ret
          exact ⟨rfl, below_drewN hb5 q⟩
  · by_cases hq : m ≤ 40
    · have hrp := hr.head (k := 3000) (by omega)
      rw [Nat.mul_one, B8_take] at hrp
      have hsq := hs.head (k := m) (by omega)
      rw [B8_take] at hsq
      have hxl : (bs.take 3000).length = 3000 := by have := hrp.1; rw [B8_length] at this; omega
      have hyl : (ls.take (m * 64)).length = m * 64 := by have := hsq.1; rw [B8_length] at this; exact this
      obtain ⟨X, hX⟩ : ∃ X, X = bs.take 3000 := ⟨_, rfl⟩
      obtain ⟨Y, hY⟩ : ∃ Y, Y = ls.take (m * 64) := ⟨_, rfl⟩
      rw [← hX] at hrp hxl
      rw [← hY] at hsq hyl
      clear hX hY
      have hpl := pad_length X
      have hpf := pad_front X
      rw [hxl] at hpl hpf
      have HPS := hide (pad_same hyl)
      have HPL := hide hpl
      have HPF := hide hpf
      have HXL := hide hxl
      have HYL := hide hyl
      have hp3 : (3000 : Nat) ≤ 3000 := by omega
      have hq4 : (m : Nat) ≤ 40 := by omega
      clear hpl hpf hxl hyl
      go_enter Try.func6, Try.ntmps6
      go_wp2_with fail
      refine (shown_any _).mono ?_
      rintro e w1 ⟨rfl, hb1⟩
      go_wp2_with fail
      refine (sectors_any A 3000 c X _ ((hrp.below hb1).more hb1.size) (by omega) hc2 (by omega)).mono ?_
      rintro e w2 ⟨A2, n2, c2, rfl, hn2, hc2', hown2, hbel2⟩
      have hb2 : Below w.heap.size w w2 := hb1.trans (hbel2.mono hb1.size)
      have hl2 := hown2.1
      rw [B8_length, HPL.out] at hl2
      have h2a : n2 ≤ 47 := by omega
      go_wp2_with fail
      refine (bytes_any A2 n2 c2 (pad X) _ (Reads.of_own hown2) (by omega)).mono ?_
      rintro e w3 ⟨A3, n3, c3, rfl, hn3, hc3', hown3, hbel3⟩
      have hb3 : Below w.heap.size w w3 := hb2.trans (hbel3.mono hb2.size)
      have hl3 := own_len8 hown3
      rw [HPL.out] at hl3
      have h3a : (3000 : Nat) ≤ n3 := by omega
      have h3b : n3 < 3000 + 64 := by omega
      have h3c : ((n3 : Int) % 64 != 0) = false := by rw [bne_eq_false_iff_eq]; omega
      have h3d : decide ((64 : Int) ≤ (n3 : Int) - 3000) = false := by simp; omega
      have h3e : decide ((n3 : Int) < 3000) = false := by simp; omega
      have h3f : decide (n3 < 3000) = false := by simp; omega
      have h3w : IntKind.i64.wrap ((n3 : Int) - 3000) = (n3 : Int) - 3000 := IntWalk.i64_in _ (by omega)
      have h3t : (n3 : Int).tmod 64 = 0 := by rw [Int.tmod_eq_emod_of_nonneg (by omega)]; omega
      have hrd := Reads.of_own hown3
      have hrh := hrd.head (k := 3000) h3a
      rw [Nat.mul_one, B8_take, HPF.out] at hrh
      have hrb := hrp.below hb3
      have hk1 := fun q => run_conv_reads (P := Try.prog) (w3.drewN q) 22 5 9 Try.underlying22 Try.underlying5 Try.underlying9 _ A3 3000 c3 X (hrh.drewN q)
      have hk2 := fun q => run_conv_reads (P := Try.prog) (w3.drewN q) 22 5 9 Try.underlying22 Try.underlying5 Try.underlying9 _ A 3000 c X (hrb.drewN q)
      clear hl2 hl3
      go_wp2_with fail
      go_quiet (fail)
      clear h3c h3d h3e h3f h3w h3t hk1 hk2
      go_wp2_with fail
      have hbW : Below w.heap.size w (w3.drewN nq) := below_drewN hb3 nq
      have hrW := hrd.drewN nq
      have hsW := hsq.below hbW
      generalize w3.drewN nq = W at *
      go_loop [7] (fun i => ∃ k : Nat, 3000 ≤ k ∧ k ≤ n3 ∧ i = .int .i64 k) (fun i => n3 - (intOf i).toNat)
      case atStart => exact ⟨3000, Nat.le_refl _, h3a, rfl⟩
      case round =>
        obtain ⟨k, hkp, hkn, rfl⟩ := hrel
        by_cases hk : k < n3
        · obtain ⟨ad, x, rfl, _, hx, hcx⟩ := hrW.u8_at hk
          have hz := pad_zero hx (by rw [HXL.out]; exact hkp)
          rw [hz] at hcx
          have hcx2 : W.cell? (ad.add k) = some (.int .u8 0) := hcx
          clear hx hz hcx
          go_wp2
          go_round
          case rel => exact ⟨k + 1, by omega, by omega, by go_num⟩
          case measure => simp [intOf]; omega
        · have hsz := hbW.size
          go_wp2_with fail
          refine (bytes_any C m d Y _ (hsW.more hsz) (by omega)).mono ?_
          rintro e w4 ⟨A4, n4, c4, rfl, hn4, hc4, hown4, hbel4⟩
          have hl4 := own_len8 hown4
          rw [HYL.out] at hl4
          have h4a : n4 ≤ 2560 := by omega
          clear hl4
          have hb4 : Below w.heap.size w w4 := hbW.trans (hbel4.mono hsz)
          go_wp2_with fail
          refine (sectors_any A4 n4 c4 Y _ (Reads.of_own hown4) hn4 (by simpa [maxLen] using hc4) (by omega)).mono ?_
          rintro e w5 ⟨A5, n5, c5, rfl, hn5, hc5, hown5, hbel5⟩
          rw [HPS.out] at hown5
          have hl5 := hown5.1
          rw [B8_length, HYL.out] at hl5
          have h5a : n5 ≤ 40 := by omega
          clear hl5
          have hb5 : Below w.heap.size w w5 := hb4.trans (hbel5.mono hb4.size)
          have hdec : decide (Y = Y) = true := by simp
          have HSM := hide (sameSec_any A5 C n5 c5 m d Y Y _ _ w5 (Reads.of_own hown5) (hsq.below hb5) (by omega) (by omega))
          go_wp2_with fail
          refine HSM.out.mono ?_
          rintro e w6 ⟨rfl, q, rfl⟩
          rw [hdec]
          go_wp2
          go_ret
          exact ⟨rfl, below_drewN hb5 q⟩
    · have hrp := hr.head (k := 3000) (by omega)
      rw [Nat.mul_one, B8_take] at hrp
      have hsq := hs.head (k := 40) (by omega)
      rw [B8_take] at hsq
      have hxl : (bs.take 3000).length = 3000 := by have := hrp.1; rw [B8_length] at this; omega
      have hyl : (ls.take (40 * 64)).length = 40 * 64 := by have := hsq.1; rw [B8_length] at this; exact this
      obtain ⟨X, hX⟩ : ∃ X, X = bs.take 3000 := ⟨_, rfl⟩
      obtain ⟨Y, hY⟩ : ∃ Y, Y = ls.take (40 * 64) := ⟨_, rfl⟩
      rw [← hX] at hrp hxl
      rw [← hY] at hsq hyl
      clear hX hY
      have hpl := pad_length X
      have hpf := pad_front X
      rw [hxl] at hpl hpf
      have HPS := hide (pad_same hyl)
      have HPL := hide hpl
      have HPF := hide hpf
      have HXL := hide hxl
      have HYL := hide hyl
      have hp3 : (3000 : Nat) ≤ 3000 := by omega
      have hq4 : (40 : Nat) ≤ 40 := by omega
      clear hpl hpf hxl hyl
      go_enter Try.func6, Try.ntmps6
      go_wp2_with fail
      refine (shown_any _).mono ?_
      rintro e w1 ⟨rfl, hb1⟩
      go_wp2_with fail
      refine (sectors_any A 3000 c X _ ((hrp.below hb1).more hb1.size) (by omega) hc2 (by omega)).mono ?_
      rintro e w2 ⟨A2, n2, c2, rfl, hn2, hc2', hown2, hbel2⟩
      have hb2 : Below w.heap.size w w2 := hb1.trans (hbel2.mono hb1.size)
      have hl2 := hown2.1
      rw [B8_length, HPL.out] at hl2
      have h2a : n2 ≤ 47 := by omega
      go_wp2_with fail
      refine (bytes_any A2 n2 c2 (pad X) _ (Reads.of_own hown2) (by omega)).mono ?_
      rintro e w3 ⟨A3, n3, c3, rfl, hn3, hc3', hown3, hbel3⟩
      have hb3 : Below w.heap.size w w3 := hb2.trans (hbel3.mono hb2.size)
      have hl3 := own_len8 hown3
      rw [HPL.out] at hl3
      have h3a : (3000 : Nat) ≤ n3 := by omega
      have h3b : n3 < 3000 + 64 := by omega
      have h3c : ((n3 : Int) % 64 != 0) = false := by rw [bne_eq_false_iff_eq]; omega
      have h3d : decide ((64 : Int) ≤ (n3 : Int) - 3000) = false := by simp; omega
      have h3e : decide ((n3 : Int) < 3000) = false := by simp; omega
      have h3f : decide (n3 < 3000) = false := by simp; omega
      have h3w : IntKind.i64.wrap ((n3 : Int) - 3000) = (n3 : Int) - 3000 := IntWalk.i64_in _ (by omega)
      have h3t : (n3 : Int).tmod 64 = 0 := by rw [Int.tmod_eq_emod_of_nonneg (by omega)]; omega
      have hrd := Reads.of_own hown3
      have hrh := hrd.head (k := 3000) h3a
      rw [Nat.mul_one, B8_take, HPF.out] at hrh
      have hrb := hrp.below hb3
      have hk1 := fun q => run_conv_reads (P := Try.prog) (w3.drewN q) 22 5 9 Try.underlying22 Try.underlying5 Try.underlying9 _ A3 3000 c3 X (hrh.drewN q)
      have hk2 := fun q => run_conv_reads (P := Try.prog) (w3.drewN q) 22 5 9 Try.underlying22 Try.underlying5 Try.underlying9 _ A 3000 c X (hrb.drewN q)
      clear hl2 hl3
      go_wp2_with fail
      go_quiet (fail)
      clear h3c h3d h3e h3f h3w h3t hk1 hk2
      go_wp2_with fail
      have hbW : Below w.heap.size w (w3.drewN nq) := below_drewN hb3 nq
      have hrW := hrd.drewN nq
      have hsW := hsq.below hbW
      generalize w3.drewN nq = W at *
      go_loop [7] (fun i => ∃ k : Nat, 3000 ≤ k ∧ k ≤ n3 ∧ i = .int .i64 k) (fun i => n3 - (intOf i).toNat)
      case atStart => exact ⟨3000, Nat.le_refl _, h3a, rfl⟩
      case round =>
        obtain ⟨k, hkp, hkn, rfl⟩ := hrel
        by_cases hk : k < n3
        · obtain ⟨ad, x, rfl, _, hx, hcx⟩ := hrW.u8_at hk
          have hz := pad_zero hx (by rw [HXL.out]; exact hkp)
          rw [hz] at hcx
          have hcx2 : W.cell? (ad.add k) = some (.int .u8 0) := hcx
          clear hx hz hcx
          go_wp2
          go_round
          case rel => exact ⟨k + 1, by omega, by omega, by go_num⟩
          case measure => simp [intOf]; omega
        · have hsz := hbW.size
          go_wp2_with fail
          refine (bytes_any C 40 d Y _ (hsW.more hsz) (by omega)).mono ?_
          rintro e w4 ⟨A4, n4, c4, rfl, hn4, hc4, hown4, hbel4⟩
          have hl4 := own_len8 hown4
          rw [HYL.out] at hl4
          have h4a : n4 ≤ 2560 := by omega
          clear hl4
          have hb4 : Below w.heap.size w w4 := hbW.trans (hbel4.mono hsz)
          go_wp2_with fail
          refine (sectors_any A4 n4 c4 Y _ (Reads.of_own hown4) hn4 (by simpa [maxLen] using hc4) (by omega)).mono ?_
          rintro e w5 ⟨A5, n5, c5, rfl, hn5, hc5, hown5, hbel5⟩
          rw [HPS.out] at hown5
          have hl5 := hown5.1
          rw [B8_length, HYL.out] at hl5
          have h5a : n5 ≤ 40 := by omega
          clear hl5
          have hb5 : Below w.heap.size w w5 := hb4.trans (hbel5.mono hb4.size)
          have hdec : decide (Y = Y) = true := by simp
          have HSM := hide (sameSec_any A5 C n5 c5 40 d Y Y _ _ w5 (Reads.of_own hown5) (hsq.below hb5) (by omega) (by omega))
          go_wp2_with fail
          refine HSM.out.mono ?_
          rintro e w6 ⟨rfl, q, rfl⟩
          rw [hdec]
          go_wp2
          go_ret
          exact ⟨rfl, below_drewN hb5 q⟩

/-! The row's frame, by program: how the walk above proves the statement. -/
set_option maxRecDepth 100000 in
theorem lifted (os : Os) (started : os.Started) (H : Type) (enc : TypeId × Value → H) :
    ReturnsInHanded {} Try.checked os 6 .any (Rows.packFillsSpec.pre6 enc Try.prog Try.f6 Rows.packFillsRow.domain false) (Rows.packFillsSpec.post enc Try.prog Try.f6 false true false false) := by
  refine returnsInHanded_of_change (C := Try.checked) own started (by kernel_rfl) Try.func6
    (ChangeSpec.witness6 (enc := enc) (C := Try.checked) false ⟨#[], #[.slice none 0 0, .slice none 0 0], []⟩ 8 (by kernel_rfl) (by kernel_rfl) (by kernel_rfl) (by kernel_rfl)) ?_
  intro W base args ds gs before hval0 hW hcnd _
  have hval : ∀ (j : Nat) t v, Try.f6.params[j]? = some t → args[j]? = some v → Value.okWide Try.prog W .any base t v := hval0
  have hW' := hW
  obtain ⟨p, q, hA0, hV, rfl, hfz, hnd⟩ := hW
  have hA : DataW.TrodAll enc Try.prog W 0 (fun _ => true) true Try.f6.params.toList args.toList ds p := hA0
  rw [Try.params6] at hA hval
  obtain ⟨v0, vs0, d0, ds0, p0, q0, hargs, rfl, rfl, h0, r0⟩ := trodAll_cons hA
  obtain ⟨v1, vs1, d1, ds1, p1, q1, rfl, rfl, rfl, h1, r1⟩ := trodAll_cons r0
  obtain ⟨rfl, rfl, rfl⟩ := trodAll_nil r1
  obtain rfl : args = #[v0, v1] := by cases args; simp_all
  obtain ⟨rfl, rfl⟩ := trodVars_none hV
  obtain ⟨A0, n0, c0, rfl⟩ := okWide_slice Try.underlying22 (hval 0 22 v0 rfl rfl)
  have k0 := h0
  have lt0 : ∀ x ∈ p0, x.block < W.heap.size := by obtain ⟨m, hm⟩ := k0; exact DataW.trod_lt m _ _ _ hm
  obtain ⟨l0, x0, g0, z0⟩ := arg_bytes h0
  obtain ⟨A1, n1, c1, rfl⟩ := okWide_slice Try.underlying33 (hval 1 33 v1 rfl rfl)
  have k1 := h1
  have lt1 : ∀ x ∈ p1, x.block < W.heap.size := by obtain ⟨m, hm⟩ := k1; exact DataW.trod_lt m _ _ _ hm
  obtain ⟨l1, x1, g1, z1⟩ := arg_secs h1
  clear hA0 hval0
  refine (walk A0 n0 c0 l0 A1 n1 c1 l1 W x0 g0 z0 x1 g1 z1).mono fun e W' ⟨he, bel⟩ => ?_
  subst he
  exact ⟨_, rfl, _, _, _, [], _, [], hW', trodAll_mk1 (shut_bool Try.underlying4 _), (trodAll_cons_mk (Below.trod laidOut (by kernel_rfl) (of_decide_eq_true (by kernel_rfl)) k0 bel lt0) (trodAll_cons_mk (Below.trod laidOut (by kernel_rfl) (of_decide_eq_true (by kernel_rfl)) k1 bel lt1) trodAll_mk0)), rfl, bel.frame _, fun h => by cases h⟩

theorem over : Rows.packFillsRow.holds Try.pinned (OpenSpec.ofChange Rows.packFillsSpec) :=
  OpenClaim.holds_of_wide 6 Try.f6 rfl rfl rfl rfl rfl rfl rfl ⟨rfl, rfl, rfl, rfl, rfl⟩ rfl rfl rfl rfl rfl (by kernel_rfl) Try.func6 (by kernel_rfl)
    (of_decide_eq_true (by kernel_rfl)) (by unfold Func.isWrapper; first | (rw [if_pos (by decide +kernel)]; kernel_rfl) | (rw [if_neg (by decide +kernel)]; exact ⟨rfl, rfl⟩))
    (fun os started H enc _ => lifted os started H enc)

/-- The statement. -/
theorem proved : Rows.PackFillsSaid := over
#print axioms proved
end Go.Proofs.Ytkjbjhciafnbeaa.PackFills
