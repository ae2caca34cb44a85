/- What pack's writing calls do to memory: wide, fits, elsewhere, grow, bytes.Clone and Put, each as a contract over whatever bytes and numbers come in. -/
import Derived.Test.YtmjdndhpnckeeaaRows
import Derived.Test.YtmjdndhpnckeeaaMem
import Derived.WalkKit
import Derived.WalkSpells
import Derived.WalkLawsBesides
import Derived.Handy
namespace Go.Proofs.Ytmjdndhpnckeeaa
open Go.RowKit

theorem u8_parts : (Try.prog.info? 5).map (fun i => (i.zero, i.size, i.bytes)) = some (some (.int .u8 0), 1, 1) := by kernel_rfl
theorem int_parts : (Try.prog.info? 3).map (fun i => (i.zero, i.size, i.bytes)) = some (some (.int .i64 0), 1, 8) := by kernel_rfl

/-- May a number have so many bytes? -/
def wideB (width : Int) : Bool := decide (1 ≤ width ∧ width ≤ 6)
/-- Has v room in width bytes? -/
def fitsB (v width : Int) : Bool := decide (1 ≤ width ∧ width ≤ 6 ∧ 0 ≤ v ∧ v < 256 ^ width.toNat)

theorem ret_i {a b : Int} (h : a = b) : Ending.returned (.int .i64 a) = .returned (.int .i64 b) := by rw [h]
theorem fits_is {v width : Int} (h1 : 1 ≤ width) (h2 : width ≤ 6) (h0 : 0 ≤ v) : (v / 2 ^ (8 * width).toNat == 0) = fitsB v width := by
  have e : (8 * width).toNat = 8 * width.toNat := by omega
  have hp : (0 : Int) < ((256 ^ width.toNat : Nat) : Int) := by have := Nat.pow_pos (n := width.toNat) (show 0 < 256 by omega); omega
  rw [e, pow8, Bool.eq_iff_iff]
  simp only [beq_iff_eq, fitsB, decide_eq_true_eq]
  have hc : ((256 : Int) ^ width.toNat) = ((256 ^ width.toNat : Nat) : Int) := by simp
  rw [hc]
  constructor
  · intro h
    refine ⟨h1, h2, h0, ?_⟩
    rcases Int.lt_or_le v ((256 ^ width.toNat : Nat) : Int) with hl | hl
    · exact hl
    · have := Int.le_ediv_of_mul_le hp (show 1 * ((256 ^ width.toNat : Nat) : Int) ≤ v by omega)
      omega
  · intro h
    exact Int.ediv_eq_zero_of_lt h0 h.2.2.2

set_option maxHeartbeats 400000 in
theorem wide_any (width : Int) (w : World) :
    Calls Try.prog 101 #[.int .i64 width] w fun e w' => e = .returned (.bool (wideB width)) ∧ w = w' := by
  by_cases h1 : 1 ≤ width
  · by_cases h2 : width ≤ 6
    · go_enter Try.func101, Try.ntmps101
      go_wp2
      go_ret
      exact ⟨by simp [wideB, h1, h2], rfl⟩
    · go_enter Try.func101, Try.ntmps101
      go_wp2
      go_ret
      exact ⟨by simp [wideB, h2], rfl⟩
  · have hd : decide ((1 : Int) ≤ width) = false := by simpa using h1
    go_enter Try.func101, Try.ntmps101
    go_wp2
    go_ret
    exact ⟨ret_b (show false = wideB width by simp [wideB]; omega), rfl⟩

set_option maxHeartbeats 400000 in
theorem fits_any (v width : Int) (w : World) (hv : v ≤ 9223372036854775807) :
    Calls Try.prog 84 #[.int .i64 v, .int .i64 width] w fun e w' => e = .returned (.bool (fitsB v width)) ∧ w = w' := by
  by_cases h1 : 1 ≤ width ∧ width ≤ 6
  · have hw : wideB width = true := by simp [wideB]; omega
    obtain ⟨h1, h2⟩ := h1
    by_cases h0 : 0 ≤ v
    · go_enter Try.func84, Try.ntmps84
      go_wp2_with (go_at_call 101; refine (wide_any _ _).mono ?_; rintro e w' ⟨rfl, rfl⟩)
      go_ret
      exact ⟨ret_b (fits_is h1 h2 h0), rfl⟩
    · have hf : fitsB v width = false := by simp [fitsB]; omega
      have hd : decide ((0 : Int) ≤ v) = false := by simpa using h0
      have H := hide hf
      clear hf
      go_enter Try.func84, Try.ntmps84
      go_wp2_with (go_at_call 101; refine (wide_any _ _).mono ?_; rintro e w' ⟨rfl, rfl⟩)
      go_ret
      exact ⟨ret_b H.out.symm, rfl⟩
  · have hw : wideB width = false := by simp [wideB]; omega
    have hf : fitsB v width = false := by simp [fitsB]; omega
    have H := hide hf
    clear hf
    go_enter Try.func84, Try.ntmps84
    go_wp2_with (go_at_call 101; refine (wide_any _ _).mono ?_; rintro e w' ⟨rfl, rfl⟩)
    go_ret
    exact ⟨ret_b H.out.symm, rfl⟩

/-- 'b[:len(b):len(b)]'. -/
theorem elsewhere_any (A : Option Addr) (n c : Nat) (w : World) (hn : n ≤ c) (_hc : c ≤ 9223372036854775807) :
    Calls Try.prog 87 #[.slice A n c] w fun e w' => e = .returned (.slice A n n) ∧ w = w' := by
  go_enter Try.func87, Try.ntmps87
  go_wp2
  go_ret
  exact ⟨rfl, rfl⟩

theorem cell_be (V m : Nat) : ([.int .u8 ((V : Int) / 2 ^ (8 * (m - 1)) % 256)] : List Value) = B8 [UInt8.ofNat (V / 256 ^ (m - 1) % 256)] := by
  rw [pow8]
  simp only [B8, List.map_cons, List.map_nil]
  congr 2
  rw [← Int.natCast_ediv]
  simp
/-- What is gathered with m bytes of k still to come. -/
def Bk (xs : List UInt8) (V k m : Nat) : List UInt8 := xs ++ be (k - m) (V / 256 ^ m)
theorem Bk_step (xs : List UInt8) (V k m : Nat) (hm : 1 ≤ m) (hk : m ≤ k) : Bk xs V k (m - 1) = Bk xs V k m ++ [UInt8.ofNat (V / 256 ^ (m - 1) % 256)] := by
  have h := be_step k V (k - m) (by omega)
  rw [show k - (k - m + 1) = m - 1 by omega, show k - (k - m) = m by omega, show k - m + 1 = k - (m - 1) by omega] at h
  simp only [Bk]
  rw [h, List.append_assoc]

set_option maxRecDepth 100000 in
set_option maxHeartbeats 1000000 in
/-- b, and behind it v in so many bytes. -/
theorem grow_any (base n : Nat) (b : Value) (xs : List UInt8) (v width : Int) (w : World) (hon : Onto w base 5 1 b n (B8 xs)) (hb : base ≤ w.heap.size) (h1 : 1 ≤ width) (h6 : width ≤ 6) (h0 : 0 ≤ v) (hv : v ≤ 9223372036854775807)
    (hn : n ≤ 70368744177664) :
    Calls Try.prog 86 #[b, .int .i64 v, .int .i64 width] w (Made base 5 1 (B8 (xs ++ be width.toNat v.toNat)) w) := by
  obtain ⟨V, rfl⟩ := Int.eq_ofNat_of_zero_le h0
  obtain ⟨k, rfl⟩ := Int.eq_ofNat_of_zero_le (show 0 ≤ width by omega)
  rw [Int.toNat_natCast, Int.toNat_natCast]
  obtain ⟨i0, hi0, hz0, hz1, hz2⟩ := info_parts u8_parts
  go_enter Try.func86, Try.ntmps86
  go_wp2
  go_loopw [0, 7] (fun b i wr => ∃ m : Nat, m ≤ k ∧ i = .int .i64 ((m : Int) - 1) ∧ Onto wr base 5 1 b (n + (k - m)) (B8 (Bk xs V k m)) ∧ (m < k → wr.ownsRow base 5 1 b (n + (k - m)) (B8 (Bk xs V k m))) ∧ Below base w wr)
    (fun _ i _ => (intOf i + 1).toNat)
  case atStart => exact ⟨k, Nat.le_refl _, rfl, by simpa [Bk, be] using hon, fun h => absurd h (by omega), Below.refl _ _⟩
  case round =>
    obtain ⟨m, hm, rfl, hon', hown, hbel⟩ := hrel
    have hsz := hbel.size
    by_cases hm1 : 1 ≤ m
    · have hnews := cell_be V m
      have H := hide hnews
      clear hnews
      have hA : n + (k - m) + 1 ≤ maxLen := by simp only [maxLen]; omega
      have hB : (n + (k - m) + 1) * 1 ≤ 140737488355328 := by omega
      have hC : base ≤ wr.heap.size := by omega
      go_wp2_with (at_builtin; refine wpList_append_onto _ rfl (.tmp 14) (.tmp 20) _ rfl base 5 i0 _ 1 1 Try.underlying32 hi0 hz0 hz1 hz2 rfl (by omega) _ _ _ rfl (hon'.alloc hC _) (wr.heap.size + 1) (some ⟨wr.heap.size, 0, none⟩) 1 1 [.int .u8 ((V : Int) / 2 ^ (8 * (m - 1)) % 256)] rfl (Reads.one _ _ _ _ (by omega)) (one_u8 _) (by omega) hA hB (le_alloc hC _) ?_; intro v1 w1 hown1 hbel1)
      have hs := Bk_step xs V k m hm1 hm
      have e1 : n + (k - m) + 1 = n + (k - (m - 1)) := by omega
      rw [H.out, ← B8_append, ← hs, e1] at hown1
      have hb1 : Below base w w1 := (hbel.alloc hC _).trans hbel1
      go_roundw
      case rel => exact ⟨m - 1, by omega, by rw [show ((m - 1 : Nat) : Int) = (m : Int) - 1 by omega], .inl hown1, fun _ => hown1, hb1⟩
      case measure => simp [intOf]; omega
    · have hm0 : m = 0 := by omega
      subst hm0
      have hown0 := hown (by omega)
      go_wp2
      go_ret
      exact made_of (by simpa [Bk] using hown0) hbel

set_option maxHeartbeats 400000 in
/-- bytes.Clone: the same bytes in a row of its own. -/
theorem clone_any (A : Option Addr) (n c : Nat) (xs : List UInt8) (w : World) (hr : Reads w w.heap.size 1 A n (B8 xs)) (hn : n ≤ 70368744177664) :
    Calls Try.prog 85 #[.slice A n c] w (Made w.heap.size 5 1 (B8 xs) w) := by
  obtain ⟨i0, hi0, hz0, hz1, hz2⟩ := info_parts u8_parts
  cases A with
  | none =>
    have hn0 : n = 0 := by
      rcases Nat.eq_zero_or_pos n with h0 | h0
      · exact h0
      · obtain ⟨ad, h, _⟩ := hr.2 h0
        cases h
    subst hn0
    have hx : B8 xs = [] := List.eq_nil_of_length_eq_zero (by simpa using hr.1)
    have hq := fun (w : World) => Lib.run_eql_slice_nil (P := Try.prog) w 32 5 none 0 c 0 0 Try.underlying32
    have H := hide hx
    clear hx hr
    go_enter Try.func85, Try.ntmps85
    go_wp2
    go_ret
    exact made_of (n := 0) (by rw [H.out]; exact World.ownsRow_nil _ _ _ _) (Below.refl _ _)
  | some ad =>
    have hq := fun (w : World) => Lib.run_eql_slice_nil (P := Try.prog) w 32 5 (some ad) n c 0 0 Try.underlying32
    have hm : 0 + n ≤ maxLen := by simp only [maxLen]; omega
    have hm2 : (0 + n) * 1 ≤ 140737488355328 := by omega
    go_enter Try.func85, Try.ntmps85
    go_wp2_with (at_builtin; refine wpList_append_any _ rfl (.tmp 5) (.tmp 6) _ rfl w.heap.size 5 i0 _ 1 1 Try.underlying32 hi0 hz0 hz1 hz2 rfl (by omega) _ 0 [] rfl (World.ownsRow_made w #[] 0 (Nat.le_refl _) (Nat.zero_le _) rfl) w.heap.size (some ad) n c (B8 xs) rfl (hr.alloc (Nat.le_refl _) _) (B8_one _) hm hm2 (le_alloc (Nat.le_refl _) _) ?_; intro v1 w1 hown1 hbel1)
    go_ret
    exact made_of (by simpa using hown1) (((Below.refl _ _).alloc (Nat.le_refl _) _).trans hbel1)

/-- b, and behind it v in width bytes, if it has room. -/
def putB (xs : List UInt8) (v width : Int) : List UInt8 := if fitsB v width then xs ++ be width.toNat v.toNat else xs

theorem fits_parts {v width : Int} (h : fitsB v width = true) : 1 ≤ width ∧ width ≤ 6 ∧ 0 ≤ v ∧ v < 256 ^ width.toNat := by simpa [fitsB] using h

set_option maxHeartbeats 400000 in
theorem put_any (A : Option Addr) (n c : Nat) (xs : List UInt8) (v width : Int) (w : World) (hr : Reads w w.heap.size 1 A n (B8 xs)) (hc : n ≤ c) (hc2 : c ≤ 9223372036854775807) (hn : n ≤ 70368744177664) (hv : v ≤ 9223372036854775807) :
    Calls Try.prog 73 #[.slice A n c, .int .i64 v, .int .i64 width] w (Made w.heap.size 5 1 (B8 (putB xs v width)) w) := by
  by_cases hf : fitsB v width = true
  · obtain ⟨h1, h6, h0, _⟩ := fits_parts hf
    have hp : putB xs v width = xs ++ be width.toNat v.toNat := by rw [putB, if_pos hf]
    have H := hide hp
    clear hp
    go_enter Try.func73, Try.ntmps73
    go_wp2_with (first | (go_at_call 84; refine (fits_any _ _ _ hv).mono ?_; rintro e w' ⟨rfl, rfl⟩) | (go_at_call 87; refine (elsewhere_any _ _ _ _ hc hc2).mono ?_; rintro e w' ⟨rfl, rfl⟩) | (go_at_call 86; refine (grow_any w.heap.size n (.slice A n n) xs v width _ (.inr ⟨A, rfl, hr⟩) (Nat.le_refl _) h1 h6 h0 hv hn).mono ?_; rintro e w' ⟨A1, n1, c1, rfl, hn1, hc1, hown1, hbel1⟩))
    go_ret
    rw [H.out]
    exact made_of hown1 hbel1
  · have hf' : fitsB v width = false := by simpa using hf
    have hp : putB xs v width = xs := by rw [putB, if_neg hf]
    have H := hide hp
    clear hp hf
    go_enter Try.func73, Try.ntmps73
    go_wp2_with (first | (go_at_call 84; refine (fits_any _ _ _ hv).mono ?_; rintro e w' ⟨rfl, rfl⟩) | (go_at_call 85; refine (clone_any A n c xs _ hr hn).mono ?_; rintro e w' ⟨A1, n1, c1, rfl, hn1, hc1, hown1, hbel1⟩))
    go_ret
    rw [H.out]
    exact made_of hown1 hbel1
#print axioms put_any
end Go.Proofs.Ytmjdndhpnckeeaa
