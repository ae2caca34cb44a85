/- What leastIn and Next of bits answer: the least free place from one on. -/
import Derived.Test.YtmaiikmgpeafkabDoorPop
import Derived.Test.YtmaiikmgpeafkabDoorSet
import Derived.Outline
namespace Go.Proofs.YtmaiikmgpeafkabDoor
open Go.RowKit

theorem not_word (f : Nat → Bool) : Op.unary .xor (.int .u64 ((word f 64 : Nat) : Int)) = pure (.int .u64 ((word (fun k => !f k) 64 : Nat) : Int)) := by
  have e : Op.unary .xor (.int .u64 ((word f 64 : Nat) : Int)) = pure (.int .u64 (bits .xor .u64 ((18446744073709551615 : Nat) : Int) ((word f 64 : Nat) : Int))) := rfl
  have hx : (18446744073709551615 ^^^ word f 64) = 18446744073709551615 - word f 64 := by
    rw [word_not]
    apply word_of_bits
    · exact Nat.xor_lt_two_pow (by decide) (word_lt 64 f)
    · intro k hk
      have h1 : (18446744073709551615 : Nat) = 2 ^ 64 - 1 := by decide
      rw [Nat.testBit_xor, word_bit, h1, Nat.testBit_two_pow_sub_one]
      simp [hk]
  rw [e, u64_xor_nat _ _ (by decide) (word_lt64 f), hx, word_not]
/-- The least free place of the word j that is not below fr; none that there is, if all of them are taken. -/
def LeastIn (t : Nat → Bool) (n fr j r : Nat) : Prop := (r = n ∧ ∀ i, 64 * j ≤ i → i < 64 * j + 64 → fr ≤ i → t i = true) ∨
  (64 * j ≤ r ∧ r < 64 * j + 64 ∧ fr ≤ r ∧ t r = false ∧ ∀ i, 64 * j ≤ i → i < r → fr ≤ i → t i = true)
theorem least_none {t : Nat → Bool} {n fr j : Nat} {f : Nat → Bool} (hf : ∀ k, k < 64 → f k = (!t (64 * j + k) && decide (fr ≤ 64 * j + k))) (h0 : word f 64 = 0) : LeastIn t n fr j n := by
  refine .inl ⟨rfl, fun i h1 h2 h3 => ?_⟩
  have := word_eq_zero h0 (k := i - 64 * j) (by omega)
  rw [hf _ (by omega)] at this
  have e : 64 * j + (i - 64 * j) = i := by omega
  rw [e] at this
  simpa [h3] using this
theorem least_some {t : Nat → Bool} {n fr j : Nat} {f : Nat → Bool} (hf : ∀ k, k < 64 → f k = (!t (64 * j + k) && decide (fr ≤ 64 * j + k))) (h0 : word f 64 ≠ 0) : LeastIn t n fr j (64 * j + Lib.ctz 64 (word f 64)) := by
  obtain ⟨h1, h2, h3⟩ := ctz_word h0
  rw [hf _ h1] at h2
  simp only [Bool.and_eq_true, Bool.not_eq_true', decide_eq_true_eq] at h2
  refine .inr ⟨by omega, by omega, h2.2, h2.1, fun i g1 g2 g3 => ?_⟩
  have := h3 (i - 64 * j) (by omega)
  rw [hf _ (by omega)] at this
  have e : 64 * j + (i - 64 * j) = i := by omega
  rw [e] at this
  simpa [g3] using this

/-- What an answer of leastIn is. -/
def LeastAns (t : Nat → Bool) (n fr j : Nat) (e : Ending) : Prop := ∃ r : Nat, r ≤ 131072 ∧ e = .returned (.int .i64 (r : Int)) ∧ LeastIn t n fr j r
section
variable {b n : Nat} {t : Nat → Bool} {w : World}
set_option maxRecDepth 100000 in
theorem leastIn_same (fr : Nat) (hm : MapAt w b n t) (hT : Tab w) (hj : fr / 64 < 1024) :
    Calls Tryd.prog 56 #[.pointer (some ⟨b, 0, none⟩), .int .i64 ((fr / 64 : Nat) : Int), .int .i64 (fr : Int)] w fun e w' => LeastAns t n fr (fr / 64) e ∧ w = w' := by
  have hn := hm.le
  have hc := hm.cellw hj
  have h0 := hm.cell0
  have hl := wd_lt t (fr / 64)
  obtain ⟨j, hjj⟩ : ∃ j, j = fr / 64 := ⟨_, rfl⟩
  rw [← hjj] at hc hl hj ⊢
  have hfr : fr < 65536 := by omega
  have hj0 : (0 : Int) ≤ (fr : Int) / 64 := by omega
  have hj1 : (j : Int) = (fr : Int) / 64 := by omega
  have hd2 : ((j : Int) == (fr : Int) / 64) = true := by rw [hj1]; exact beq_self_eq_true _
  have HJ := hide hjj
  clear hjj hj1
  obtain ⟨p, hp⟩ : ∃ p, p = 2 ^ (fr % 64) := ⟨_, rfl⟩
  have HP := hide hp
  clear hp
  obtain ⟨x, hx⟩ : ∃ x, x = wd t j := ⟨_, rfl⟩
  obtain ⟨y, hy⟩ : ∃ y, y = word (fun k => !t (64 * j + k)) 64 := ⟨_, rfl⟩
  have hnot : Op.unary .xor (.int .u64 (x : Int)) = pure (.int .u64 (y : Int)) := by rw [hx, hy]; exact not_word _
  rw [← hx] at hc hl
  obtain ⟨z, hz⟩ : ∃ z, z = word (fun k => !t (64 * j + k) && decide (fr % 64 ≤ k)) 64 := ⟨_, rfl⟩
  have kz : bits BinOp.andNot IntKind.u64 (y : Int) (IntKind.u64.wrap ((p : Int) - 1)) = (z : Int) := by
    have h1 := Nat.two_pow_pos (fr % 64)
    have hp64 : p < 18446744073709551616 := pow_le64 HP.out
    rw [hz, hy, wrap_nat (p - 1) _ (by have := HP.out; omega) (by omega), u64_andNot_nat _ _ (word_lt64 _) (by omega), HP.out, word_from _ (Nat.mod_lt _ (by decide))]
  have hzl : z < 18446744073709551616 := by rw [hz]; exact word_lt64 _
  have HF : Hid (∀ k, k < 64 → (!t (64 * j + k) && decide (fr % 64 ≤ k)) = (!t (64 * j + k) && decide (fr ≤ 64 * j + k))) := by
    intro k hk
    have := HJ.out
    have e : decide (fr % 64 ≤ k) = decide (fr ≤ 64 * j + k) := by rw [decide_eq_decide]; omega
    rw [e]
  have HZ := hide hz
  clear hx hy hz
  by_cases h0z : z = 0
  · have HL : Hid (LeastIn t n fr j n) := least_none HF.out (HZ.out.symm.trans h0z)
    have hzz : ((z : Int) == 0) = true := by rw [h0z]; rfl
    clear h0z
    go_enter Tryd.func56, Tryd.ntmps56
    go_wp2_with fail
    refine (bit_any fr p HP.out (by omega)).mono ?_
    rintro e w1 ⟨rfl, rfl⟩
    go_wp2
    go_ret
    exact ⟨⟨n, by omega, rfl, HL.out⟩, rfl⟩
  · have HL : Hid (LeastIn t n fr j (64 * j + Lib.ctz 64 z)) := by
      rw [HZ.out] at h0z ⊢
      exact least_some HF.out h0z
    have hzz : ((z : Int) == 0) = false := by simpa using h0z
    have hlow := (Lib.lowest_bit 64 z h0z hzl).2
    obtain ⟨c, hcc⟩ : ∃ c, c = Lib.ctz 64 z := ⟨_, rfl⟩
    rw [← hcc] at hlow HL
    have HC := hide hcc
    clear hcc
    go_enter Tryd.func56, Tryd.ntmps56
    go_wp2_with fail
    refine (bit_any fr p HP.out (by omega)).mono ?_
    rintro e w1 ⟨rfl, rfl⟩
    go_wp2_with fail
    refine (tz64_any z hzl h0z w hT).mono ?_
    rintro e w1 ⟨rfl, rfl⟩
    rw [← HC.out]
    go_wp2
    go_ret
    exact ⟨⟨64 * j + c, by omega, ret_of (by omega), HL.out⟩, rfl⟩
set_option maxRecDepth 100000 in
theorem leastIn_other (fr j : Nat) (hm : MapAt w b n t) (hT : Tab w) (hj : j < 1024) (hfr : fr < 65536) (hjf : fr / 64 < j) :
    Calls Tryd.prog 56 #[.pointer (some ⟨b, 0, none⟩), .int .i64 (j : Int), .int .i64 (fr : Int)] w fun e w' => LeastAns t n fr j e ∧ w = w' := by
  have hn := hm.le
  have hc := hm.cellw hj
  have h0 := hm.cell0
  have hl := wd_lt t j
  have hj0 : (0 : Int) ≤ (fr : Int) / 64 := by omega
  have hd2 : ((j : Int) == (fr : Int) / 64) = false := by rw [beq_eq_false_iff_ne]; omega
  obtain ⟨x, hx⟩ : ∃ x, x = wd t j := ⟨_, rfl⟩
  obtain ⟨y, hy⟩ : ∃ y, y = word (fun k => !t (64 * j + k)) 64 := ⟨_, rfl⟩
  have hnot : Op.unary .xor (.int .u64 (x : Int)) = pure (.int .u64 (y : Int)) := by rw [hx, hy]; exact not_word _
  rw [← hx] at hc hl
  have hyl : y < 18446744073709551616 := by rw [hy]; exact word_lt64 _
  have HF : Hid (∀ k, k < 64 → (!t (64 * j + k)) = (!t (64 * j + k) && decide (fr ≤ 64 * j + k))) := by
    intro k hk
    have e : decide (fr ≤ 64 * j + k) = true := by rw [decide_eq_true_eq]; omega
    rw [e, Bool.and_true]
  have HY := hide hy
  clear hx hy
  by_cases h0y : y = 0
  · have HL : Hid (LeastIn t n fr j n) := least_none HF.out (HY.out.symm.trans h0y)
    have hzz : ((y : Int) == 0) = true := by rw [h0y]; rfl
    clear h0y
    go_enter Tryd.func56, Tryd.ntmps56
    go_wp2
    go_ret
    exact ⟨⟨n, by omega, rfl, HL.out⟩, rfl⟩
  · have HL : Hid (LeastIn t n fr j (64 * j + Lib.ctz 64 y)) := by
      rw [HY.out] at h0y ⊢
      exact least_some HF.out h0y
    have hzz : ((y : Int) == 0) = false := by simpa using h0y
    have hlow := (Lib.lowest_bit 64 y h0y hyl).2
    obtain ⟨c, hcc⟩ : ∃ c, c = Lib.ctz 64 y := ⟨_, rfl⟩
    rw [← hcc] at hlow HL
    have HC := hide hcc
    clear hcc
    go_enter Tryd.func56, Tryd.ntmps56
    go_wp2_with fail
    refine (tz64_any y hyl h0y w hT).mono ?_
    rintro e w1 ⟨rfl, rfl⟩
    rw [← HC.out]
    go_wp2
    go_ret
    exact ⟨⟨64 * j + c, by omega, ret_of (by omega), HL.out⟩, rfl⟩
theorem leastIn_any (fr j : Nat) (hm : MapAt w b n t) (hT : Tab w) (hj : j < 1024) (hfr : fr < 65536) (hjf : fr / 64 ≤ j) :
    Calls Tryd.prog 56 #[.pointer (some ⟨b, 0, none⟩), .int .i64 (j : Int), .int .i64 (fr : Int)] w fun e w' => LeastAns t n fr j e ∧ w = w' := by
  by_cases h : fr / 64 = j
  · subst h
    exact leastIn_same fr hm hT hj
  · exact leastIn_other fr j hm hT hj hfr (by omega)
/-- What Next tells: the least free place that is not below fr, or that there is none. -/
def NextIs (t : Nat → Bool) (n fr : Nat) (k : Nat) (ok : Bool) : Prop :=
  (ok = true ∧ fr ≤ k ∧ k < n ∧ t k = false ∧ ∀ i, fr ≤ i → i < k → t i = true) ∨ (ok = false ∧ k = 0 ∧ ∀ i, fr ≤ i → i < n → t i = true)
def NextAns (t : Nat → Bool) (n fr : Nat) (e : Ending) : Prop := ∃ (k : Nat) (ok : Bool), e = .returned (.tuple #[.int .i64 (k : Int), .bool ok]) ∧ NextIs t n fr k ok
theorem leastIn_int (fr : Nat) (ji : Int) (j : Nat) (e : ji = (j : Int)) (hm : MapAt w b n t) (hT : Tab w) (hj : j < 1024) (hfr : fr < 65536) (hjf : fr / 64 ≤ j) :
    Calls Tryd.prog 56 #[.pointer (some ⟨b, 0, none⟩), .int .i64 ji, .int .i64 (fr : Int)] w fun e w' => LeastAns t n fr j e ∧ w = w' := by
  subst e
  exact leastIn_any fr j hm hT hj hfr hjf
set_option maxRecDepth 100000 in
set_option maxHeartbeats 400000 in
theorem next_nat (fr : Nat) (hm : MapAt w b n t) (hT : Tab w) (hf : fr < n) :
    Calls Tryd.prog 47 #[.pointer (some ⟨b, 0, none⟩), .int .i64 (fr : Int)] w fun e w' => NextAns t n fr e ∧ w = w' := by
  have hn := hm.le
  have h0 := hm.cell0
  have hd : decide (n ≤ fr) = false := by simp; omega
  go_enter Tryd.func47, Tryd.ntmps47
  go_wp2_with fail
  refine (pieces64 n (by omega)).mono ?_
  rintro e w1 ⟨rfl, rfl⟩
  obtain ⟨m, hmm⟩ : ∃ m, m = (n + 63) / 64 := ⟨_, rfl⟩
  rw [← hmm]
  have hm1 : m ≤ 1024 := by omega
  have hm2 : fr / 64 < m := by omega
  have HM := hide hmm
  clear hmm
  go_wp2_with fail
  go_loop [26] (fun a => ∃ k : Nat, fr / 64 + k ≤ m ∧ a = .int .i64 (k : Int) ∧ Hid (∀ i, fr ≤ i → i < 64 * (fr / 64 + k) → i < n → t i = true)) (fun a => m - (intOf a).toNat)
  case atStart => exact ⟨0, by omega, rfl, hide (fun i h1 h2 _ => by omega)⟩
  case round =>
    obtain ⟨k, hk, rfl, HR⟩ := hrel
    by_cases hlt : fr / 64 + k < m
    · have hj1 : fr / 64 + k < 1024 := by omega
      go_wp2_with fail
      refine (leastIn_int fr _ (fr / 64 + k) (by omega) hm hT (by omega) (by omega) (by omega)).mono ?_
      rintro e w1 ⟨⟨r, hr, rfl, hL⟩, rfl⟩
      have HL := hide hL
      clear hL
      by_cases hrn : r < n
      · have HA : Hid (NextIs t n fr r true) := by
          rcases HL.out with ⟨h1, _⟩ | ⟨h1, h2, h3, h4, h5⟩
          · omega
          · refine .inl ⟨rfl, h3, hrn, h4, fun i g1 g2 => ?_⟩
            by_cases hi : i < 64 * (fr / 64 + k)
            · exact HR.out i g1 hi (by omega)
            · exact h5 i (by omega) g2 g1
        go_wp2_with fail
        refine (there_yes r hm hrn).mono ?_
        rintro e w1 ⟨rfl, rfl⟩
        go_wp2_with fail
        go_ret2
        exact ⟨⟨r, true, rfl, HA.out⟩, rfl⟩
      · have HN : Hid (∀ i, fr ≤ i → i < 64 * (fr / 64 + (k + 1)) → i < n → t i = true) := by
          intro i g1 g2 g3
          by_cases hi : i < 64 * (fr / 64 + k)
          · exact HR.out i g1 hi g3
          · rcases HL.out with ⟨_, h2⟩ | ⟨_, _, _, _, h5⟩
            · exact h2 i (by omega) (by omega) g1
            · exact h5 i (by omega) (by omega) g1
        go_wp2_with fail
        refine (there_above r hm (by omega)).mono ?_
        rintro e w1 ⟨rfl, rfl⟩
        go_wp2_with fail
        go_round
        case rel => exact ⟨k + 1, by omega, by go_num, HN⟩
        case measure => simp [intOf]; omega
    · have HA : Hid (NextIs t n fr 0 false) := by
        refine .inr ⟨rfl, rfl, fun i g1 g2 => HR.out i g1 ?_ g2⟩
        have := HM.out
        omega
      go_wp2_with fail
      go_ret2
      exact ⟨⟨0, false, rfl, HA.out⟩, rfl⟩
set_option maxRecDepth 100000 in
set_option maxHeartbeats 400000 in
theorem next_neg (fi : Int) (hm : MapAt w b n t) (hT : Tab w) (hfi : fi < 0) (hf : 0 < n) :
    Calls Tryd.prog 47 #[.pointer (some ⟨b, 0, none⟩), .int .i64 fi] w fun e w' => NextAns t n 0 e ∧ w = w' := by
  have hn := hm.le
  have h0 := hm.cell0
  have hd : decide ((0 : Int) ≤ fi) = false := by simp; omega
  have hd2 : decide ((n : Int) ≤ 0) = false := by simp; omega
  go_enter Tryd.func47, Tryd.ntmps47
  go_wp2_with fail
  refine (pieces64 n (by omega)).mono ?_
  rintro e w1 ⟨rfl, rfl⟩
  obtain ⟨m, hmm⟩ : ∃ m, m = (n + 63) / 64 := ⟨_, rfl⟩
  rw [← hmm]
  have hm1 : m ≤ 1024 := by omega
  have hm2 : 0 / 64 < m := by omega
  have HM := hide hmm
  clear hmm
  go_wp2_with fail
  go_loop [26] (fun a => ∃ k : Nat, 0 / 64 + k ≤ m ∧ a = .int .i64 (k : Int) ∧ Hid (∀ i, 0 ≤ i → i < 64 * (0 / 64 + k) → i < n → t i = true)) (fun a => m - (intOf a).toNat)
  case atStart => exact ⟨0, by omega, rfl, hide (fun i h1 h2 _ => by omega)⟩
  case round =>
    obtain ⟨k, hk, rfl, HR⟩ := hrel
    by_cases hlt : 0 / 64 + k < m
    · have hj1 : 0 / 64 + k < 1024 := by omega
      go_wp2_with fail
      refine (leastIn_int 0 _ (0 / 64 + k) (by omega) hm hT (by omega) (by omega) (by omega)).mono ?_
      rintro e w1 ⟨⟨r, hr, rfl, hL⟩, rfl⟩
      have HL := hide hL
      clear hL
      by_cases hrn : r < n
      · have HA : Hid (NextIs t n 0 r true) := by
          rcases HL.out with ⟨h1, _⟩ | ⟨h1, h2, h3, h4, h5⟩
          · omega
          · refine .inl ⟨rfl, h3, hrn, h4, fun i g1 g2 => ?_⟩
            by_cases hi : i < 64 * (0 / 64 + k)
            · exact HR.out i g1 hi (by omega)
            · exact h5 i (by omega) g2 g1
        go_wp2_with fail
        refine (there_yes r hm hrn).mono ?_
        rintro e w1 ⟨rfl, rfl⟩
        go_wp2_with fail
        go_ret2
        exact ⟨⟨r, true, rfl, HA.out⟩, rfl⟩
      · have HN : Hid (∀ i, 0 ≤ i → i < 64 * (0 / 64 + (k + 1)) → i < n → t i = true) := by
          intro i g1 g2 g3
          by_cases hi : i < 64 * (0 / 64 + k)
          · exact HR.out i g1 hi g3
          · rcases HL.out with ⟨_, h2⟩ | ⟨_, _, _, _, h5⟩
            · exact h2 i (by omega) (by omega) g1
            · exact h5 i (by omega) (by omega) g1
        go_wp2_with fail
        refine (there_above r hm (by omega)).mono ?_
        rintro e w1 ⟨rfl, rfl⟩
        go_wp2_with fail
        go_round
        case rel => exact ⟨k + 1, by omega, by go_num, HN⟩
        case measure => simp [intOf]; omega
    · have HA : Hid (NextIs t n 0 0 false) := by
        refine .inr ⟨rfl, rfl, fun i g1 g2 => HR.out i g1 ?_ g2⟩
        have := HM.out
        omega
      go_wp2_with fail
      go_ret2
      exact ⟨⟨0, false, rfl, HA.out⟩, rfl⟩
theorem next_out (fi : Int) (hm : MapAt w b n t) (hfi : (n : Int) ≤ fi) :
    Calls Tryd.prog 47 #[.pointer (some ⟨b, 0, none⟩), .int .i64 fi] w fun e w' => e = .returned (.tuple #[.int .i64 0, .bool false]) ∧ w = w' := by
  have h0 := hm.cell0
  have hp : (0 : Int) ≤ fi := by omega
  have hd : decide ((0 : Int) ≤ fi) = true := by simpa using hp
  have hd2 : decide ((n : Int) ≤ fi) = true := by simpa using hfi
  go_enter Tryd.func47, Tryd.ntmps47
  go_wp2_with fail
  go_ret2
  exact ⟨rfl, rfl⟩
theorem next_empty (fi : Int) (hm : MapAt w b n t) (hfi : fi < 0) (hn : n = 0) :
    Calls Tryd.prog 47 #[.pointer (some ⟨b, 0, none⟩), .int .i64 fi] w fun e w' => e = .returned (.tuple #[.int .i64 0, .bool false]) ∧ w = w' := by
  subst hn
  have h0 : w.cell? ⟨b, 0, none⟩ = some (.int .i64 0) := hm.cell0
  have hd : decide ((0 : Int) ≤ fi) = false := by simp; omega
  go_enter Tryd.func47, Tryd.ntmps47
  go_wp2_with fail
  go_ret2
  exact ⟨rfl, rfl⟩
theorem next_any (fi : Int) (hm : MapAt w b n t) (hT : Tab w) :
    Calls Tryd.prog 47 #[.pointer (some ⟨b, 0, none⟩), .int .i64 fi] w fun e w' => NextAns t n fi.toNat e ∧ w = w' := by
  have out : ∀ e w', (e = .returned (.tuple #[.int .i64 0, .bool false]) ∧ w = w') → n ≤ fi.toNat → NextAns t n fi.toNat e ∧ w = w' := fun e w' ⟨h1, h2⟩ h3 =>
    ⟨⟨0, false, h1, .inr ⟨rfl, rfl, fun i g1 g2 => by omega⟩⟩, h2⟩
  rcases Int.lt_or_le fi 0 with h | h
  · have e0 : fi.toNat = 0 := by omega
    by_cases h0 : n = 0
    · exact (next_empty fi hm h h0).mono fun e w' hh => out e w' hh (by omega)
    · rw [e0]
      exact next_neg fi hm hT h (by omega)
  · by_cases hn : (n : Int) ≤ fi
    · exact (next_out fi hm hn).mono fun e w' hh => out e w' hh (by omega)
    · obtain ⟨fr, rfl⟩ := Int.eq_ofNat_of_zero_le h
      exact next_nat fr hm hT (by omega)

/-! ### Take -/
def TakeAns (w : World) (b n : Nat) (t : Nat → Bool) (e : Ending) (w' : World) : Prop :=
  ∃ (k : Nat) (ok : Bool), e = .returned (.tuple #[.int .i64 (k : Int), .bool ok]) ∧ NextIs t n 0 k ok ∧ MapAt w' b n (if ok then put t k true else t) ∧ w.grownBy w' (some b)
theorem take_any (hm : MapAt w b n t) (hT : Tab w) :
    Calls Tryd.prog 32 #[.pointer (some ⟨b, 0, none⟩)] w (TakeAns w b n t) := by
  go_enter Tryd.func32, Tryd.ntmps32
  go_wp2_with fail
  refine (next_any 0 hm hT).mono ?_
  rintro e w1 ⟨⟨k, ok, rfl, hN⟩, rfl⟩
  have HN := hide hN
  clear hN
  cases ok
  · go_wp2_with fail
    go_ret2
    exact ⟨k, false, rfl, HN.out, hm, grown_refl _ _⟩
  · have hkn : k < n := by
      rcases HN.out with ⟨_, _, h, _⟩ | ⟨h, _⟩
      · exact h
      · cases h
    have hkt : t k = false := by
      rcases HN.out with ⟨_, _, _, h, _⟩ | ⟨h, _⟩
      · exact h
      · cases h
    have HK := hide hkt
    clear hkt
    go_wp2_with fail
    refine (takeAt_yes k hm hkn HK.out).mono ?_
    rintro e w1 ⟨rfl, hm1, hg1⟩
    go_wp2_with fail
    go_ret2
    exact ⟨k, true, rfl, HN.out, hm1, hg1⟩
end
theorem NextIs.same {t : Nat → Bool} {n fr k k' : Nat} {ok ok' : Bool} (h : NextIs t n fr k ok) (h' : NextIs t n fr k' ok') : k = k' ∧ ok = ok' := by
  rcases h with ⟨rfl, h1, h2, h3, h4⟩ | ⟨rfl, rfl, h1⟩
  · rcases h' with ⟨rfl, g1, g2, g3, g4⟩ | ⟨rfl, rfl, g1⟩
    · refine ⟨?_, rfl⟩
      rcases Nat.lt_trichotomy k k' with h | h | h
      · have := g4 k h1 h; rw [h3] at this; cases this
      · exact h
      · have := h4 k' g1 h; rw [g3] at this; cases this
    · have := g1 k h1 h2; rw [h3] at this; cases this
  · rcases h' with ⟨rfl, g1, g2, g3, g4⟩ | ⟨rfl, rfl, g1⟩
    · have := h1 k' g1 g2; rw [g3] at this; cases this
    · exact ⟨rfl, rfl⟩
end Go.Proofs.YtmaiikmgpeafkabDoor
