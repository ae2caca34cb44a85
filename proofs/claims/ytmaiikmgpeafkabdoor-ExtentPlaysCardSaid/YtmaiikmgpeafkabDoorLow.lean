/- What the small calls of bits answer: there, bit, pieces, Len, New, Has. -/
import Derived.Test.YtmaiikmgpeafkabDoorMap
import Derived.Test.YtmaiikmgpeafkabDoorMem
import Derived.Deep.QuietTactic
import Derived.BigQuiet
import Derived.Outline
namespace Go.Proofs.YtmaiikmgpeafkabDoor
open Go.RowKit

theorem wrap_pow (i p : Nat) (hp : p = 2 ^ (i % 64)) : IntKind.u64.wrap ((2 : Int) ^ (i % 64)) = (p : Int) := by
  have h : 2 ^ (i % 64) < 18446744073709551616 := pow_lt64 (Nat.mod_lt _ (by decide))
  rw [← hp] at h
  have e : ((2 : Int) ^ (i % 64)) = (p : Int) := by rw [hp, Int.natCast_pow]; rfl
  rw [e, IntKind.wrap_u64]
  omega
theorem bit_of (t : Nat → Bool) (i p : Nat) (hp : p = 2 ^ (i % 64)) : (bits .and .u64 ((wd t (i / 64) : Nat) : Int) (p : Int) != 0) = t i := by
  have h : p < 18446744073709551616 := by rw [hp]; exact pow_lt64 (Nat.mod_lt _ (by decide))
  rw [u64_and_nat _ _ (wd_lt t _) h, hp, wd, word_and_bit _ (Nat.mod_lt _ (by decide))]
  have e : 64 * (i / 64) + i % 64 = i := by omega
  rw [e]
  have h0 : 0 < 2 ^ (i % 64) := Nat.two_pow_pos _
  cases t i
  · simp
  · simp only [if_true, bne_iff_ne]
    omega
theorem pow_le64 {i p : Nat} (hp : p = 2 ^ (i % 64)) : p < 18446744073709551616 := by rw [hp]; exact pow_lt64 (Nat.mod_lt _ (by decide))
theorem or_of (t : Nat → Bool) (i p : Nat) (hp : p = 2 ^ (i % 64)) : bits .or .u64 ((wd t (i / 64) : Nat) : Int) (p : Int) = ((wd (put t i true) (i / 64) : Nat) : Int) := by
  rw [u64_or_nat _ _ (wd_lt t _) (pow_le64 hp), hp, wd, word_or_bit _ (Nat.mod_lt _ (by decide)), wd_put_self]
theorem clear_of (t : Nat → Bool) (i p : Nat) (hp : p = 2 ^ (i % 64)) : bits .andNot .u64 ((wd t (i / 64) : Nat) : Int) (p : Int) = ((wd (put t i false) (i / 64) : Nat) : Int) := by
  rw [u64_andNot_nat _ _ (wd_lt t _) (pow_le64 hp), hp, wd, word_clear_bit _ (Nat.mod_lt _ (by decide)), wd_put_self]
theorem below_of {a w w' : World} {B : Nat} {r : Option Nat} (h : Below B a w) (hg : w.grownBy w' r) (hB : B ≤ w.heap.size) (hr : ∀ k, r = some k → B ≤ k) : Below B a w' := h.grown hg hB hr
section
variable {b n : Nat} {t : Nat → Bool} {w : World}
theorem there_yes (i : Nat) (hm : MapAt w b n t) (hi : i < n) :
    Calls Tryd.prog 48 #[.pointer (some ⟨b, 0, none⟩), .int .i64 (i : Int)] w fun e w' => e = .returned (.bool true) ∧ w = w' := by
  have hc := hm.cell0
  have hd2 : decide (i < n) = true := by simpa using hi
  go_enter Tryd.func48, Tryd.ntmps48
  go_wp2
  go_ret
  exact ⟨rfl, rfl⟩
theorem there_above (i : Nat) (hm : MapAt w b n t) (hi : n ≤ i) :
    Calls Tryd.prog 48 #[.pointer (some ⟨b, 0, none⟩), .int .i64 (i : Int)] w fun e w' => e = .returned (.bool false) ∧ w = w' := by
  have hc := hm.cell0
  have hd2 : decide (i < n) = false := by simpa using hi
  go_enter Tryd.func48, Tryd.ntmps48
  go_wp2
  go_ret
  exact ⟨rfl, rfl⟩
theorem there_below (i : Int) (hi : i < 0) :
    Calls Tryd.prog 48 #[.pointer (some ⟨b, 0, none⟩), .int .i64 i] w fun e w' => e = .returned (.bool false) ∧ w = w' := by
  have hd : decide ((0 : Int) ≤ i) = false := by simpa using hi
  go_enter Tryd.func48, Tryd.ntmps48
  go_wp2
  go_ret
  exact ⟨rfl, rfl⟩
theorem bit_any (i p : Nat) (hp : p = 2 ^ (i % 64)) (hi : i < 9223372036854775807) :
    Calls Tryd.prog 50 #[.int .i64 (i : Int)] w fun e w' => e = .returned (.int .u64 (p : Int)) ∧ w = w' := by
  go_enter Tryd.func50, Tryd.ntmps50
  go_wp2
  go_ret
  exact ⟨ret_of (wrap_pow i p hp), rfl⟩
theorem pieces_any (n p : Nat) (hn : n ≤ 140737488355328) (hp : 0 < p) (hp2 : p ≤ 64) :
    Calls Tryd.prog 54 #[.int .i64 (n : Int), .int .i64 (p : Int)] w fun e w' => e = .returned (.int .i64 (((n + p - 1) / p : Nat) : Int)) ∧ w = w' := by
  go_enter Tryd.func54, Tryd.ntmps54
  go_wp2
  go_ret
  exact ⟨ret_of (by rw [Int.natCast_ediv]; congr 1; omega), rfl⟩
theorem pieces8 (n : Nat) (hn : n ≤ 140737488355328) :
    Calls Tryd.prog 54 #[.int .i64 (n : Int), .int .i64 8] w fun e w' => e = .returned (.int .i64 (((n + 7) / 8 : Nat) : Int)) ∧ w = w' := pieces_any n 8 hn (by decide) (by decide)
theorem pieces64 (n : Nat) (hn : n ≤ 140737488355328) :
    Calls Tryd.prog 54 #[.int .i64 (n : Int), .int .i64 64] w fun e w' => e = .returned (.int .i64 (((n + 63) / 64 : Nat) : Int)) ∧ w = w' := pieces_any n 64 hn (by decide) (by decide)
theorem len_any (hm : MapAt w b n t) :
    Calls Tryd.prog 46 #[.pointer (some ⟨b, 0, none⟩)] w fun e w' => e = .returned (.int .i64 (n : Int)) ∧ w = w' := by
  have hc := hm.cell0
  go_enter Tryd.func46, Tryd.ntmps46
  go_wp2
  go_ret
  exact ⟨rfl, rfl⟩
theorem has_below (i : Int) (hi : i < 0) :
    Calls Tryd.prog 49 #[.pointer (some ⟨b, 0, none⟩), .int .i64 i] w fun e w' => e = .returned (.bool false) ∧ ∃ k, w' = w.drewN k := by
  go_enter Tryd.func49, Tryd.ntmps49
  go_wp2
  go_quiet ((go_at_call 48; exact quiet_as (there_below i hi)))
  go_wp2
  go_ret
  exact ⟨rfl, _, rfl⟩
theorem has_above (i : Nat) (hm : MapAt w b n t) (hi : n ≤ i) :
    Calls Tryd.prog 49 #[.pointer (some ⟨b, 0, none⟩), .int .i64 i] w fun e w' => e = .returned (.bool false) ∧ ∃ k, w' = w.drewN k := by
  go_enter Tryd.func49, Tryd.ntmps49
  go_wp2
  go_quiet ((go_at_call 48; exact quiet_as (there_above i (hm.drewN _) hi)))
  go_wp2
  go_ret
  exact ⟨rfl, _, rfl⟩
theorem has_in (i : Nat) (hm : MapAt w b n t) (hi : i < n) :
    Calls Tryd.prog 49 #[.pointer (some ⟨b, 0, none⟩), .int .i64 i] w fun e w' => e = .returned (.bool (t i)) ∧ ∃ k, w' = w.drewN k := by
  have hn := hm.le
  have hc := hm.cellw (j := i / 64) (by omega)
  have hl := wd_lt t (i / 64)
  obtain ⟨p, hp⟩ : ∃ p, p = 2 ^ (i % 64) := ⟨_, rfl⟩
  have HP := hide hp
  clear hp
  have h1 : (0 : Int) ≤ (i : Int) / 64 := by omega
  have h2 : (i : Int) / 64 < 1024 := by omega
  go_enter Tryd.func49, Tryd.ntmps49
  go_wp2
  go_quiet (first | (go_at_call 48; exact quiet_as (there_yes i (hm.drewN _) hi)) | (go_at_call 50; exact quiet_as (bit_any i p HP.out (by omega))))
  go_wp2
  go_ret
  exact ⟨ret_bool (bit_of t i p HP.out), _, rfl⟩
end
end Go.Proofs.YtmaiikmgpeafkabDoor
