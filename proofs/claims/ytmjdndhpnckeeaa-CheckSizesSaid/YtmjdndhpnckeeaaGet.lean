/- What pack's reading calls do: value and Get, over whatever bytes come in. -/
import Derived.Test.YtmjdndhpnckeeaaPut
import Derived.Deep.QuietTactic
import Derived.BigQuiet
namespace Go.Proofs.Ytmjdndhpnckeeaa
open Go.RowKit

theorem shl8 (a : Nat) : ((a : Int) * 256) = ((a * 256 : Nat) : Int) := by omega

set_option maxHeartbeats 1000000 in
theorem value_any (A : Option Addr) (n c : Nat) (xs : List UInt8) (B : Nat) (w : World) (hr : Reads w B 1 A n (B8 xs)) (hn : n ≤ 6) :
    Calls Try.prog 107 #[.slice A n c] w fun e w' => e = .returned (.int .i64 (num xs)) ∧ w = w' := by
  have hlen : xs.length = n := by have := hr.1; simpa [B8_length] using this
  go_enter Try.func107, Try.ntmps107
  go_wp2
  go_loop [3, 8] (fun v i => ∃ k : Nat, k ≤ n ∧ i = .int .i64 k ∧ v = .int .i64 (num (xs.take k))) (fun _ i => n - (intOf i).toNat)
  case atStart => exact ⟨0, Nat.zero_le _, rfl, rfl⟩
  case round =>
    obtain ⟨k, hk, rfl, rfl⟩ := hrel
    by_cases hkn : k < n
    · obtain ⟨ad, x, rfl, _, hx, hc⟩ := hr.u8_at hkn
      have hts := take_more hx
      have hb : num (xs.take k) < 1099511627776 := Nat.lt_of_lt_of_le (num_take_lt xs k) (Nat.le_trans (Nat.pow_le_pow_right (by omega) (show k ≤ 5 by omega)) (by decide))
      have hx2 := x.toNat_lt
      have hnum : num (xs.take (k + 1)) = num (xs.take k) * 256 + x.toNat := by rw [hts, num_snoc]
      have HX := hide hnum
      have HJ := hide (i64_join (num (xs.take k)) x.toNat hb hx2)
      clear hx hts hnum
      generalize num (xs.take k) = V at *
      go_wp2
      go_round
      case rel => exact ⟨k + 1, by omega, by go_num, by rw [shl8, HJ.out, HX.out]⟩
      case measure => simp [intOf]; omega
    · obtain rfl : k = n := by omega
      have HT := hide (List.take_of_length_le (show xs.length ≤ k by omega))
      go_wp2
      go_ret
      exact ⟨ret_i (by rw [HT.out]), rfl⟩

/-- Is there a number of that width? Which? -/
def getO (xs : List UInt8) (width : Int) : Bool := decide (1 ≤ width ∧ width ≤ 6 ∧ width ≤ xs.length)
def getV (xs : List UInt8) (width : Int) : Nat := if getO xs width then num (xs.take width.toNat) else 0

theorem getV_yes {xs : List UInt8} {width : Int} (h : getO xs width = true) : getV xs width = num (xs.take width.toNat) := by rw [getV, if_pos h]
theorem getV_no {xs : List UInt8} {width : Int} (h : getO xs width = false) : getV xs width = 0 := by rw [getV, h]; rfl

theorem ret_tib {a b : Int} {c d : Bool} (h : a = b) (h2 : c = d) : Ending.returned (.tuple #[.int .i64 a, .bool c]) = .returned (.tuple #[.int .i64 b, .bool d]) := by rw [h, h2]
theorem ret_get {xs : List UInt8} {width : Int} (h : getO xs width = false) : Ending.returned (.tuple #[.int .i64 0, .bool false]) = .returned (.tuple #[.int .i64 (getV xs width), .bool (getO xs width)]) := by rw [getV_no h, h]; rfl

set_option maxHeartbeats 1000000 in
theorem get_any (A : Option Addr) (n c : Nat) (xs : List UInt8) (width : Int) (B : Nat) (w : World) (hr : Reads w B 1 A n (B8 xs)) (hc : n ≤ c) (_hc2 : c ≤ 9223372036854775807) :
    Calls Try.prog 99 #[.slice A n c, .int .i64 width] w fun e w' => e = .returned (.tuple #[.int .i64 (getV xs width), .bool (getO xs width)]) ∧ w = w' := by
  have hlen : xs.length = n := by have := hr.1; simpa [B8_length] using this
  by_cases hw : wideB width = true
  · have hw1 : 1 ≤ width ∧ width ≤ 6 := by simpa [wideB] using hw
    obtain ⟨h1, h6⟩ := hw1
    by_cases hs : width ≤ n
    · have ho : getO xs width = true := by simp [getO]; omega
      have HV := hide (getV_yes ho)
      have HO := hide ho
      clear ho
      have hh := hr.head (k := width.toNat) (by omega)
      rw [Nat.mul_one, B8_take] at hh
      go_enter Try.func99, Try.ntmps99
      go_wp2_with (first | (go_at_call 101; refine (wide_any _ _).mono ?_; rintro e w' ⟨rfl, rfl⟩) | (go_at_call 107; refine (value_any _ _ _ _ B _ hh (by omega)).mono ?_; rintro e w' ⟨rfl, rfl⟩))
      go_ret2
      exact ⟨ret_tib (by rw [HV.out]) HO.out.symm, rfl⟩
    · have ho : getO xs width = false := by simp [getO]; omega
      have HO := hide ho
      clear ho
      go_enter Try.func99, Try.ntmps99
      go_wp2_with (go_at_call 101; refine (wide_any _ _).mono ?_; rintro e w' ⟨rfl, rfl⟩)
      go_ret2
      exact ⟨ret_get HO.out, rfl⟩
  · have hw' : wideB width = false := by simpa using hw
    have ho : getO xs width = false := by simp [getO]; simp [wideB] at hw'; omega
    have HO := hide ho
    clear ho hw
    go_enter Try.func99, Try.ntmps99
    go_wp2_with (go_at_call 101; refine (wide_any _ _).mono ?_; rintro e w' ⟨rfl, rfl⟩)
    go_ret2
    exact ⟨ret_get HO.out, rfl⟩

theorem Reads.window {w : World} {B n c lo k : Nat} {A : Option Addr} {xs : List UInt8} (h : Reads w B 1 A n (B8 xs)) (hl : lo + k ≤ n) (hc : n ≤ c) : Reads w B 1 (if c = lo then A else A.map (·.add lo)) k (B8 ((xs.drop lo).take k)) := by
  have h1 := (h.cut (k := lo) (cap := c) (by omega) hc).head (k := k) (by omega)
  simpa [Nat.mul_one, B8_take, B8_drop] using h1

theorem Reads.window' {w : World} {B n c lo k : Nat} {A : Option Addr} {xs : List UInt8} (h : Reads w B 1 A n (B8 xs)) (hl : lo + k ≤ n) (hc : n ≤ c) (hk : 0 < k) : Reads w B 1 (A.map (fun x => x.add lo)) k (B8 ((xs.drop lo).take k)) := by
  have h1 := h.window hl hc
  rwa [if_neg (by omega)] at h1
#print axioms get_any
end Go.Proofs.Ytmjdndhpnckeeaa
