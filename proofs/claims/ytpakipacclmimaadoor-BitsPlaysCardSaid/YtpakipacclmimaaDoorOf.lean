/- What Of does. -/
import Derived.Test.YtpakipacclmimaaDoorTellW
import Derived.Test.YtpakipacclmimaaDoorCount
import Derived.Test.YtpakipacclmimaaDoorSet
namespace Go.Proofs.YtpakipacclmimaaDoor
open Go.RowKit

/-- What Of answers. -/
def OfAns (w : World) (n : Int) (bs : List UInt8) (e : Ending) (w' : World) : Prop := Below w.heap.size w w' ∧
  ((ofCode n bs ≠ 0 ∧ e = .returned (.tuple #[.pointer none, .int .i64 (ofCode n bs)])) ∨
   (ofCode n bs = 0 ∧ e = .returned (.tuple #[.pointer (some ⟨w.heap.size, 0, none⟩), .int .i64 0]) ∧ MapAt w' w.heap.size n.toNat (bitAt bs)))
theorem code_1 {n : Int} {bs : List UInt8} (h : n < 0 ∨ 65536 < n) : ofCode n bs = 1 := by rw [ofCode, if_pos h]
theorem code_2 {n : Int} {bs : List UInt8} (h : ¬ (n < 0 ∨ 65536 < n)) (hl : bs.length ≠ (n.toNat + 7) / 8) : ofCode n bs = 2 := by rw [ofCode, if_neg h, if_pos hl]
theorem code_3 {n : Int} {bs : List UInt8} (h : ¬ (n < 0 ∨ 65536 < n)) (hl : bs.length = (n.toNat + 7) / 8) {i : Nat} (hi : i < 8 * bs.length) (hb : bitAt bs i = true) (hn : n.toNat ≤ i) : ofCode n bs = 2 := by
  rw [ofCode, if_neg h, if_neg (by omega), if_neg]
  intro ha
  have := List.all_eq_true.1 ha i (List.mem_range.2 hi)
  rw [hb] at this
  simp at this
  omega
theorem code_0 {n : Int} {bs : List UInt8} (h : ¬ (n < 0 ∨ 65536 < n)) (hl : bs.length = (n.toNat + 7) / 8) (ha : ∀ i, i < 8 * bs.length → bitAt bs i = true → i < n.toNat) : ofCode n bs = 0 := by
  rw [ofCode, if_neg h, if_neg (by omega), if_pos]
  rw [List.all_eq_true]
  intro i hi
  have := ha i (List.mem_range.1 hi)
  cases hb : bitAt bs i
  · rfl
  · simpa using this hb

theorem bit_test (x : UInt8) (q : Nat) : (bits .and .u8 ((x.toNat : Int) / (2 : Int) ^ q) 1 == 0) = !x.toNat.testBit q := by
  have e : (x.toNat : Int) / (2 : Int) ^ q = ((x.toNat / 2 ^ q : Nat) : Int) := by rw [Int.natCast_ediv, Int.natCast_pow]; rfl
  have hx : x.toNat < 256 := UInt8.toNat_lt _
  have hd : x.toNat / 2 ^ q < 256 := Nat.lt_of_le_of_lt (Nat.div_le_self _ _) hx
  have h := u8_and_nat (x.toNat / 2 ^ q) 1 hd (by decide)
  rw [nat_mask1] at h
  rw [e]
  have h1 : bits .and .u8 ((x.toNat / 2 ^ q : Nat) : Int) 1 = ((x.toNat / 2 ^ q % 2 : Nat) : Int) := h
  rw [h1, Nat.testBit_eq_decide_div_mod_eq]
  rcases Nat.mod_two_eq_zero_or_one (x.toNat / 2 ^ q) with h2 | h2 <;> rw [h2] <;> rfl
section
variable {w : World}
set_option maxRecDepth 100000 in
theorem of_out (n : Int) (A : Option Addr) (m c : Nat) (bs : List UInt8) (h : n < 0 ∨ 65536 < n) :
    Calls Tryd.prog 14 #[.int .i64 n, .slice A m c] w (OfAns w n bs) := by
  have H1 := hide (code_1 (bs := bs) h)
  rcases h with h | h
  · have hd : decide (n < (0 : Int)) = true := by simpa using h
    go_enter Tryd.func14, Tryd.ntmps14
    go_wp2_with fail
    go_ret2
    exact ⟨Below.refl _ _, .inl ⟨by rw [H1.out]; decide, by rw [H1.out]; rfl⟩⟩
  · have hd : decide (n < (0 : Int)) = false := by simp; omega
    have hd2 : decide ((65536 : Int) < n) = true := by simpa using h
    go_enter Tryd.func14, Tryd.ntmps14
    go_wp2_with fail
    go_ret2
    exact ⟨Below.refl _ _, .inl ⟨by rw [H1.out]; decide, by rw [H1.out]; rfl⟩⟩
set_option maxRecDepth 100000 in
theorem of_short (n : Nat) (A : Option Addr) (m c : Nat) (bs : List UInt8) (hn : n ≤ 65536) (hr : bs.length = m) (hl : m ≠ (n + 7) / 8) :
    Calls Tryd.prog 14 #[.int .i64 (n : Int), .slice A m c] w (OfAns w n bs) := by
  have H1 := hide (code_2 (n := n) (bs := bs) (by omega) (by rw [hr]; simpa using hl))
  obtain ⟨k, hk⟩ : ∃ k, k = (n + 7) / 8 := ⟨_, rfl⟩
  rw [← hk] at hl
  have HK := hide hk
  have hd : decide (m = k) = false := by simpa using hl
  have hd2 : ((m : Int) == (k : Int)) = false := by rw [beq_eq_false_iff_ne]; omega
  have hd3 : ((m : Int) != (k : Int)) = true := by rw [bne_iff_ne]; omega
  clear hk
  go_enter Tryd.func14, Tryd.ntmps14
  go_wp2_with fail
  refine (pieces8 n (by omega)).mono ?_
  rintro e w1 ⟨rfl, rfl⟩
  rw [← HK.out]
  go_wp2_with fail
  go_ret2
  exact ⟨Below.refl _ _, .inl ⟨by rw [H1.out]; decide, by rw [H1.out]; rfl⟩⟩
set_option maxRecDepth 100000 in
set_option maxHeartbeats 1000000 in
theorem of_long (n : Nat) (A : Option Addr) (m c : Nat) (bs : List UInt8) (hr : Reads w w.heap.size 1 A m (B8 bs)) (hn : n ≤ 65536) (hl : m = (n + 7) / 8) :
    Calls Tryd.prog 14 #[.int .i64 (n : Int), .slice A m c] w (OfAns w n bs) := by
  have hlen : bs.length = m := by have := hr.1; simpa [B8_length] using this
  have hm1 : m ≤ 8192 := by omega
  have HM := hide hl
  have hn0 : ¬ ((n : Int) < 0 ∨ (65536 : Int) < n) := by omega
  have HL : Hid (bs.length = ((n : Int).toNat + 7) / 8) := by rw [hlen, HM.out]; rfl
  have H3 : Hid (∀ i, i < 8 * m → bitAt bs i = true → n ≤ i → ofCode n bs = 2) := fun i h1 h2 h3 => code_3 hn0 HL.out (by omega) h2 h3
  have H0 : Hid ((∀ i, i < 8 * m → bitAt bs i = true → i < n) → ofCode n bs = 0) := fun h => code_0 hn0 HL.out (by rw [hlen]; exact h)
  have hcl : clamp n = n := by unfold clamp; omega
  have HCL := hide hcl
  have HLEN := hide hlen
  clear hl hn0 hcl hlen
  go_enter Tryd.func14, Tryd.ntmps14
  go_wp2_with fail
  refine (pieces8 n (by omega)).mono ?_
  rintro e w1 ⟨rfl, rfl⟩
  rw [← HM.out]
  go_wp2_with fail
  refine (new_any n w).mono ?_
  rintro e w1 ⟨rfl, hm, hb⟩
  rw [HCL.out] at hm
  go_wp2_with fail
  go_loopw [24] (fun a wr => ∃ k : Nat, k ≤ 8 * m ∧ a = .int .i64 (k : Int) ∧ MapAt wr w.heap.size n (cut (bitAt bs) k) ∧ Below w.heap.size w wr ∧ Hid (∀ i, i < k → bitAt bs i = true → i < n)) (fun a _ => 8 * m - (intOf a).toNat)
  case atStart => exact ⟨0, by omega, rfl, by rw [cut_0]; exact hm, hb, hide (fun i h => by omega)⟩
  case round =>
    obtain ⟨k, hk, rfl, hmr, hbel, HI⟩ := hrel
    by_cases hlt : k < 8 * m
    · obtain ⟨ad, x, rfl, hab, hx, hc⟩ := (hr.below hbel).u8_at (k := k / 8) (by omega)
      have hbt : bitAt bs k = x.toNat.testBit (k % 8) := by rw [bitAt, List.getD_eq_getElem?_getD, hx]; rfl
      have htest := bit_test x (k % 8)
      rw [← hbt] at htest
      clear hbt
      cases hbk : bitAt bs k
      · rw [hbk] at htest
        have HC : Hid (cut (bitAt bs) (k + 1) = cut (bitAt bs) k) := cut_no hbk
        have HI2 : Hid (∀ i, i < k + 1 → bitAt bs i = true → i < n) := by
          intro i h1 h2
          by_cases e : i = k
          · subst e; rw [hbk] at h2; cases h2
          · exact HI.out i (by omega) h2
        clear hbk hx
        go_wp2_with fail
        go_roundw
        case rel => exact ⟨k + 1, by omega, by go_num, by rw [HC.out]; exact hmr, hbel, HI2⟩
        case measure => simp [intOf]; omega
      · rw [hbk] at htest
        have htest2 : (bits .and .u8 ((x.toNat : Int) / (2 : Int) ^ (k % 8)) 1 == 0) = false := htest
        clear htest
        have HC : Hid (cut (bitAt bs) (k + 1) = put (cut (bitAt bs) k) k true) := cut_yes hbk
        by_cases hkn : k < n
        · have HI2 : Hid (∀ i, i < k + 1 → bitAt bs i = true → i < n) := by
            intro i h1 h2
            by_cases e : i = k
            · subst e; exact hkn
            · exact HI.out i (by omega) h2
          have HF : Hid (cut (bitAt bs) k k = false) := by show _ = _; simp [cut]
          clear hbk hx
          go_wp2_with fail
          refine (takeAt_yes k hmr hkn HF.out).mono ?_
          rintro e w2 ⟨rfl, hm2, hg2⟩
          have hb2 : Below w.heap.size w w2 := below_of hbel hg2 hbel.size (fun k hk => by cases hk; exact Nat.le_refl _)
          go_wp2_with fail
          go_roundw
          case rel => exact ⟨k + 1, by omega, by go_num, by rw [HC.out]; exact hm2, hb2, HI2⟩
          case measure => simp [intOf]; omega
        · have HA : Hid (ofCode n bs = 2) := H3.out k hlt hbk (by omega)
          clear hbk hx
          go_wp2_with fail
          refine (takeAt_above k hmr (by omega)).mono ?_
          rintro e w2 ⟨rfl, rfl⟩
          go_wp2_with fail
          go_ret2
          exact ⟨hbel, .inl ⟨by rw [HA.out]; decide, by rw [HA.out]; rfl⟩⟩
    · go_wp2_with fail
      go_ret2
      have e : k = 8 * m := by omega
      have e2 : cut (bitAt bs) k = bitAt bs := cut_all (fun i hi => bitAt_above (by rw [HLEN.out]; omega))
      rw [e2] at hmr
      exact ⟨hbel, .inr ⟨H0.out (fun i h => HI.out i (by omega)), rfl, hmr⟩⟩
theorem of_any (n : Int) (A : Option Addr) (m c : Nat) (bs : List UInt8) (hr : Reads w w.heap.size 1 A m (B8 bs)) :
    Calls Tryd.prog 14 #[.int .i64 n, .slice A m c] w (OfAns w n bs) := by
  have hlen : bs.length = m := by have := hr.1; simpa [B8_length] using this
  by_cases h : n < 0 ∨ 65536 < n
  · exact of_out n A m c bs h
  · obtain ⟨n, rfl⟩ := Int.eq_ofNat_of_zero_le (a := n) (by omega)
    by_cases hl : m = (n + 7) / 8
    · exact of_long n A m c bs hr (by omega) hl
    · exact of_short n A m c bs (by omega) hlen hl
end
#print axioms of_any
end Go.Proofs.YtpakipacclmimaaDoor
