/- What pack's writing calls do to memory: wide, fits, elsewhere, grow, bytes.Clone, Put, rowFits and PutRow, each as a contract over whatever bytes and numbers come in. -/
import Derived.Test.YtkjbjhciafnbeaaRows
import Derived.Test.YtkjbjhciafnbeaaMem
import Derived.WalkKit
import Derived.WalkSpells
import Derived.WalkLawsBesides
import Derived.Handy
namespace Go.Proofs.Ytkjbjhciafnbeaa
open Go.RowKit

theorem u8_info : (Try.prog.info? 5).map (fun i => (i.zero, i.size, i.bytes)) = some (some (.int .u8 0), 1, 1) := by kernel_rfl
theorem int_info : (Try.prog.info? 3).map (fun i => (i.zero, i.size, i.bytes)) = some (some (.int .i64 0), 1, 8) := by kernel_rfl

/-- May a number have so many bytes? -/
def wideB (width : Int) : Bool := decide (1 ≤ width ∧ width ≤ 6)
/-- Has v room in width bytes? -/
def fitsB (v width : Int) : Bool := decide (1 ≤ width ∧ width ≤ 6 ∧ 0 ≤ v ∧ v < 256 ^ width.toNat)

theorem ret_b {a b : Bool} (h : a = b) : Ending.returned (.bool a) = .returned (.bool b) := by rw [h]
theorem ret_i {a b : Int} (h : a = b) : Ending.returned (.int .i64 a) = .returned (.int .i64 b) := by rw [h]
theorem fits_is {v width : Int} (h1 : 1 ≤ width) (h2 : width ≤ 6) (h0 : 0 ≤ v) : (v / 2 ^ (8 * width).toNat == 0) = fitsB v width := by
  have e : (8 * width).toNat = 8 * width.toNat := by omega
  have hp : (0 : Int) < ((256 ^ width.toNat : Nat) : Int) := by have := Nat.pow_pos (n := width.toNat) (show 0 < 256 by omega); omega
  rw [e, pow8, Bool.eq_iff_iff]
  simp only [beq_iff_eq, fitsB, decide_eq_true_eq]
  have hc : ((256 : Int) ^ width.toNat) = ((256 ^ width.toNat : Nat) : Int) := by simp
  rw [hc]
  constructor
  · intro h
    refine ⟨h1, h2, h0, ?_⟩
    rcases Int.lt_or_le v ((256 ^ width.toNat : Nat) : Int) with hl | hl
    · exact hl
    · have := Int.le_ediv_of_mul_le hp (show 1 * ((256 ^ width.toNat : Nat) : Int) ≤ v by omega)
      omega
  · intro h
    exact Int.ediv_eq_zero_of_lt h0 h.2.2.2

set_option maxHeartbeats 400000 in
theorem wide_any (width : Int) (w : World) :
    Calls Try.prog 24 #[.int .i64 width] w fun e w' => e = .returned (.bool (wideB width)) ∧ w = w' := by
  by_cases h1 : 1 ≤ width
  · by_cases h2 : width ≤ 6
    · go_enter Try.func24, Try.ntmps24
      go_wp2
      go_ret
      exact ⟨by simp [wideB, h1, h2], rfl⟩
    · go_enter Try.func24, Try.ntmps24
      go_wp2
      go_ret
      exact ⟨by simp [wideB, h2], rfl⟩
  · have hd : decide ((1 : Int) ≤ width) = false := by simpa using h1
    go_enter Try.func24, Try.ntmps24
    go_wp2
    go_ret
    exact ⟨ret_b (show false = wideB width by simp [wideB]; omega), rfl⟩

set_option maxHeartbeats 400000 in
theorem fits_any (v width : Int) (w : World) (hv : v ≤ 9223372036854775807) :
    Calls Try.prog 26 #[.int .i64 v, .int .i64 width] w fun e w' => e = .returned (.bool (fitsB v width)) ∧ w = w' := by
  by_cases h1 : 1 ≤ width ∧ width ≤ 6
  · have hw : wideB width = true := by simp [wideB]; omega
    obtain ⟨h1, h2⟩ := h1
    by_cases h0 : 0 ≤ v
    · go_enter Try.func26, Try.ntmps26
      go_wp2_with (go_at_call 24; refine (wide_any _ _).mono ?_; rintro e w' ⟨rfl, rfl⟩)
      go_ret
      exact ⟨ret_b (fits_is h1 h2 h0), rfl⟩
    · have hf : fitsB v width = false := by simp [fitsB]; omega
      have hd : decide ((0 : Int) ≤ v) = false := by simpa using h0
      have H := hide hf
      clear hf
      go_enter Try.func26, Try.ntmps26
      go_wp2_with (go_at_call 24; refine (wide_any _ _).mono ?_; rintro e w' ⟨rfl, rfl⟩)
      go_ret
      exact ⟨ret_b H.out.symm, rfl⟩
  · have hw : wideB width = false := by simp [wideB]; omega
    have hf : fitsB v width = false := by simp [fitsB]; omega
    have H := hide hf
    clear hf
    go_enter Try.func26, Try.ntmps26
    go_wp2_with (go_at_call 24; refine (wide_any _ _).mono ?_; rintro e w' ⟨rfl, rfl⟩)
    go_ret
    exact ⟨ret_b H.out.symm, rfl⟩

/-- 'b[:len(b):len(b)]'. -/
theorem elsewhere_any (A : Option Addr) (n c : Nat) (w : World) (hn : n ≤ c) (_hc : c ≤ 9223372036854775807) :
    Calls Try.prog 29 #[.slice A n c] w fun e w' => e = .returned (.slice A n n) ∧ w = w' := by
  go_enter Try.func29, Try.ntmps29
  go_wp2
  go_ret
  exact ⟨rfl, rfl⟩

theorem cell_be (V m : Nat) : ([.int .u8 ((V : Int) / 2 ^ (8 * (m - 1)) % 256)] : List Value) = B8 [UInt8.ofNat (V / 256 ^ (m - 1) % 256)] := by
  rw [pow8]
  simp only [B8, List.map_cons, List.map_nil]
  congr 2
  rw [← Int.natCast_ediv]
  simp
/-- What is gathered with m bytes of k still to come. -/
def Bk (xs : List UInt8) (V k m : Nat) : List UInt8 := xs ++ be (k - m) (V / 256 ^ m)
theorem Bk_step (xs : List UInt8) (V k m : Nat) (hm : 1 ≤ m) (hk : m ≤ k) : Bk xs V k (m - 1) = Bk xs V k m ++ [UInt8.ofNat (V / 256 ^ (m - 1) % 256)] := by
  have h := be_step k V (k - m) (by omega)
  rw [show k - (k - m + 1) = m - 1 by omega, show k - (k - m) = m by omega, show k - m + 1 = k - (m - 1) by omega] at h
  simp only [Bk]
  rw [h, List.append_assoc]

set_option maxHeartbeats 1000000 in
/-- b, and behind it v in so many bytes. -/
theorem grow_any (base n : Nat) (b : Value) (xs : List UInt8) (v width : Int) (w : World) (hon : Onto w base 5 1 b n (B8 xs)) (hb : base ≤ w.heap.size) (h1 : 1 ≤ width) (h6 : width ≤ 6) (h0 : 0 ≤ v) (hv : v ≤ 9223372036854775807)
    (hn : n ≤ 70368744177664) :
    Calls Try.prog 28 #[b, .int .i64 v, .int .i64 width] w (Made base 5 1 (B8 (xs ++ be width.toNat v.toNat)) w) := by
  obtain ⟨V, rfl⟩ := Int.eq_ofNat_of_zero_le h0
  obtain ⟨k, rfl⟩ := Int.eq_ofNat_of_zero_le (show 0 ≤ width by omega)
  rw [Int.toNat_natCast, Int.toNat_natCast]
  obtain ⟨i0, hi0, hz0, hz1, hz2⟩ := info_parts u8_info
  go_enter Try.func28, Try.ntmps28
  go_wp2
  go_loopw [0, 7] (fun b i wr => ∃ m : Nat, m ≤ k ∧ i = .int .i64 ((m : Int) - 1) ∧ Onto wr base 5 1 b (n + (k - m)) (B8 (Bk xs V k m)) ∧ (m < k → wr.ownsRow base 5 1 b (n + (k - m)) (B8 (Bk xs V k m))) ∧ Below base w wr)
    (fun _ i _ => (intOf i + 1).toNat)
  case atStart => exact ⟨k, Nat.le_refl _, rfl, by simpa [Bk, be] using hon, fun h => absurd h (by omega), Below.refl _ _⟩
  case round =>
    obtain ⟨m, hm, rfl, hon', hown, hbel⟩ := hrel
    have hsz := hbel.size
    by_cases hm1 : 1 ≤ m
    · have hnews := cell_be V m
      have H := hide hnews
      clear hnews
      have hA : n + (k - m) + 1 ≤ maxLen := by simp only [maxLen]; omega
      have hB : (n + (k - m) + 1) * 1 ≤ 140737488355328 := by omega
      have hC : base ≤ wr.heap.size := by omega
      go_wp2_with (at_builtin; refine wpList_append_onto _ rfl (.tmp 14) (.tmp 20) _ rfl base 5 i0 _ 1 1 Try.underlying22 hi0 hz0 hz1 hz2 rfl (by omega) _ _ _ rfl (hon'.alloc hC _) (wr.heap.size + 1) (some ⟨wr.heap.size, 0, none⟩) 1 1 [.int .u8 ((V : Int) / 2 ^ (8 * (m - 1)) % 256)] rfl (Reads.one _ _ _ _ (by omega)) (one_u8 _) (by omega) hA hB (le_alloc hC _) ?_; intro v1 w1 hown1 hbel1)
      have hs := Bk_step xs V k m hm1 hm
      have e1 : n + (k - m) + 1 = n + (k - (m - 1)) := by omega
      rw [H.out, ← B8_append, ← hs, e1] at hown1
      have hb1 : Below base w w1 := (hbel.alloc hC _).trans hbel1
      go_roundw
      case rel => exact ⟨m - 1, by omega, by rw [show ((m - 1 : Nat) : Int) = (m : Int) - 1 by omega], .inl hown1, fun _ => hown1, hb1⟩
      case measure => simp [intOf]; omega
    · have hm0 : m = 0 := by omega
      subst hm0
      have hown0 := hown (by omega)
      go_wp2
      go_ret
      exact made_of (by simpa [Bk] using hown0) hbel

set_option maxHeartbeats 400000 in
/-- bytes.Clone: the same bytes in a row of its own. -/
theorem clone_any (A : Option Addr) (n c : Nat) (xs : List UInt8) (w : World) (hr : Reads w w.heap.size 1 A n (B8 xs)) (hn : n ≤ 70368744177664) :
    Calls Try.prog 27 #[.slice A n c] w (Made w.heap.size 5 1 (B8 xs) w) := by
  obtain ⟨i0, hi0, hz0, hz1, hz2⟩ := info_parts u8_info
  cases A with
  | none =>
    have hn0 : n = 0 := by
      rcases Nat.eq_zero_or_pos n with h0 | h0
      · exact h0
      · obtain ⟨ad, h, _⟩ := hr.2 h0
        cases h
    subst hn0
    have hx : B8 xs = [] := List.eq_nil_of_length_eq_zero (by simpa using hr.1)
    have hq := fun (w : World) => Lib.run_eql_slice_nil (P := Try.prog) w 22 5 none 0 c 0 0 Try.underlying22
    have H := hide hx
    clear hx hr
    go_enter Try.func27, Try.ntmps27
    go_wp2
    go_ret
    exact made_of (n := 0) (by rw [H.out]; exact World.ownsRow_nil _ _ _ _) (Below.refl _ _)
  | some ad =>
    have hq := fun (w : World) => Lib.run_eql_slice_nil (P := Try.prog) w 22 5 (some ad) n c 0 0 Try.underlying22
    have hm : 0 + n ≤ maxLen := by simp only [maxLen]; omega
    have hm2 : (0 + n) * 1 ≤ 140737488355328 := by omega
    go_enter Try.func27, Try.ntmps27
    go_wp2_with (at_builtin; refine wpList_append_any _ rfl (.tmp 5) (.tmp 6) _ rfl w.heap.size 5 i0 _ 1 1 Try.underlying22 hi0 hz0 hz1 hz2 rfl (by omega) _ 0 [] rfl (World.ownsRow_made w #[] 0 (Nat.le_refl _) (Nat.zero_le _) rfl) w.heap.size (some ad) n c (B8 xs) rfl (hr.alloc (Nat.le_refl _) _) (B8_one _) hm hm2 (le_alloc (Nat.le_refl _) _) ?_; intro v1 w1 hown1 hbel1)
    go_ret
    exact made_of (by simpa using hown1) (((Below.refl _ _).alloc (Nat.le_refl _) _).trans hbel1)

/-- b, and behind it v in width bytes, if it has room. -/
def putB (xs : List UInt8) (v width : Int) : List UInt8 := if fitsB v width then xs ++ be width.toNat v.toNat else xs

theorem fits_parts {v width : Int} (h : fitsB v width = true) : 1 ≤ width ∧ width ≤ 6 ∧ 0 ≤ v ∧ v < 256 ^ width.toNat := by simpa [fitsB] using h

set_option maxHeartbeats 400000 in
theorem put_any (A : Option Addr) (n c : Nat) (xs : List UInt8) (v width : Int) (w : World) (hr : Reads w w.heap.size 1 A n (B8 xs)) (hc : n ≤ c) (hc2 : c ≤ 9223372036854775807) (hn : n ≤ 70368744177664) (hv : v ≤ 9223372036854775807) :
    Calls Try.prog 22 #[.slice A n c, .int .i64 v, .int .i64 width] w (Made w.heap.size 5 1 (B8 (putB xs v width)) w) := by
  by_cases hf : fitsB v width = true
  · obtain ⟨h1, h6, h0, _⟩ := fits_parts hf
    have hp : putB xs v width = xs ++ be width.toNat v.toNat := by rw [putB, if_pos hf]
    have H := hide hp
    clear hp
    go_enter Try.func22, Try.ntmps22
    go_wp2_with (first | (go_at_call 26; refine (fits_any _ _ _ hv).mono ?_; rintro e w' ⟨rfl, rfl⟩) | (go_at_call 29; refine (elsewhere_any _ _ _ _ hc hc2).mono ?_; rintro e w' ⟨rfl, rfl⟩) | (go_at_call 28; refine (grow_any w.heap.size n (.slice A n n) xs v width _ (.inr ⟨A, rfl, hr⟩) (Nat.le_refl _) h1 h6 h0 hv hn).mono ?_; rintro e w' ⟨A1, n1, c1, rfl, hn1, hc1, hown1, hbel1⟩))
    go_ret
    rw [H.out]
    exact made_of hown1 hbel1
  · have hf' : fitsB v width = false := by simpa using hf
    have hp : putB xs v width = xs := by rw [putB, if_neg hf]
    have H := hide hp
    clear hp hf
    go_enter Try.func22, Try.ntmps22
    go_wp2_with (first | (go_at_call 26; refine (fits_any _ _ _ hv).mono ?_; rintro e w' ⟨rfl, rfl⟩) | (go_at_call 27; refine (clone_any A n c xs _ hr hn).mono ?_; rintro e w' ⟨A1, n1, c1, rfl, hn1, hc1, hown1, hbel1⟩))
    go_ret
    rw [H.out]
    exact made_of hown1 hbel1

/-- May this row be written in so many bytes? -/
def rowB (l : List Int) (width : Int) : Bool := wideB width && decide (l.length ≤ 65535) && l.all fun v => fitsB v width

theorem rowB_no {l : List Int} {width x : Int} {k : Nat} (h : l.take (k + 1) = l.take k ++ [x]) (hf : fitsB x width = false) : rowB l width = false := by
  have hx : x ∈ l := List.mem_of_mem_take (i := k + 1) (by rw [h]; simp)
  have : (l.all fun v => fitsB v width) = false := by
    rw [List.all_eq_false]
    exact ⟨x, hx, by simp [hf]⟩
  simp [rowB, this]
theorem rowB_yes {l : List Int} {width : Int} (hw : wideB width = true) (hs : l.length ≤ 65535) (h : (l.all fun v => fitsB v width) = true) : rowB l width = true := by
  simp [rowB, hw, hs, h]
theorem rowB_long {l : List Int} {width : Int} (hs : ¬ l.length ≤ 65535) : rowB l width = false := by simp [rowB, hs]
theorem rowB_narrow {l : List Int} {width : Int} (hw : wideB width = false) : rowB l width = false := by simp [rowB, hw]

set_option maxHeartbeats 1000000 in
theorem rowFits_any (A : Option Addr) (n c : Nat) (l : List Int) (width : Int) (w : World) (hr : Reads w w.heap.size 1 A n (I64 l)) (hl : ∀ v ∈ l, v ≤ 9223372036854775807) (hn : n ≤ 70368744177664) :
    Calls Try.prog 30 #[.slice A n c, .int .i64 width] w fun e w' => e = .returned (.bool (rowB l width)) ∧ w = w' := by
  have hlen : l.length = n := by have := hr.1; simpa [I64_length] using this
  by_cases hw : wideB width = true
  · by_cases hs : n ≤ 65535
    · go_enter Try.func30, Try.ntmps30
      go_wp2_with (go_at_call 24; refine (wide_any _ _).mono ?_; rintro e w' ⟨rfl, rfl⟩)
      go_loop [17] (fun i => ∃ k : Nat, k ≤ n ∧ i = .int .i64 k ∧ Hid ((l.take k).all (fun v => fitsB v width) = true)) (fun i => n - (intOf i).toNat)
      case atStart => exact ⟨0, Nat.zero_le _, rfl, hide (by simp)⟩
      case round =>
        obtain ⟨k, hk, rfl, hall⟩ := hrel
        by_cases hkn : k < n
        · obtain ⟨ad, x, rfl, _, hx, hc⟩ := hr.i64_at hkn
          have hxv := hl x (List.mem_of_getElem? hx)
          have hts := take_more hx
          have HX := hide hts
          clear hx hts
          by_cases hf : fitsB x width = true
          · go_wp2_with (go_at_call 26; refine (fits_any _ _ _ hxv).mono ?_; rintro e w' ⟨rfl, rfl⟩)
            go_round
            case rel => exact ⟨k + 1, by omega, by go_num, hide (by rw [HX.out, List.all_append, hall.out]; simp [hf])⟩
            case measure => simp [intOf]; omega
          · have hff : fitsB x width = false := by simpa using hf
            have hr2 : rowB l width = false := rowB_no HX.out hff
            have H := hide hr2
            clear hr2 hf
            go_wp2_with (go_at_call 26; refine (fits_any _ _ _ hxv).mono ?_; rintro e w' ⟨rfl, rfl⟩)
            go_ret
            exact ⟨ret_b H.out.symm, rfl⟩
        · obtain rfl : k = n := by omega
          have H := hide (rowB_yes hw (hlen ▸ hs) (by have := hall.out; rwa [List.take_of_length_le (by omega)] at this))
          clear hall
          go_wp2
          go_ret
          exact ⟨ret_b H.out.symm, rfl⟩
    · have H := hide (rowB_long (width := width) (show ¬ l.length ≤ 65535 by omega))
      go_enter Try.func30, Try.ntmps30
      go_wp2_with (go_at_call 24; refine (wide_any _ _).mono ?_; rintro e w' ⟨rfl, rfl⟩)
      go_ret
      exact ⟨ret_b H.out.symm, rfl⟩
  · have hw' : wideB width = false := by simpa using hw
    have H := hide (rowB_narrow (l := l) hw')
    clear hw
    go_enter Try.func30, Try.ntmps30
    go_wp2_with (go_at_call 24; refine (wide_any _ _).mono ?_; rintro e w' ⟨rfl, rfl⟩)
    go_ret
    exact ⟨ret_b H.out.symm, rfl⟩

/-- A row's bytes: how many numbers there are, and each. -/
def rowBytes (l : List Int) (width : Int) : List UInt8 := be 2 l.length ++ l.flatMap fun v => be width.toNat v.toNat
def putRowB (xs : List UInt8) (l : List Int) (width : Int) : List UInt8 := if rowB l width then xs ++ rowBytes l width else xs
/-- What is gathered with k numbers written. -/
def Rk (xs : List UInt8) (l : List Int) (width : Int) (k : Nat) : List UInt8 := xs ++ (be 2 l.length ++ (l.take k).flatMap fun v => be width.toNat v.toNat)
theorem Rk_step {xs : List UInt8} {l : List Int} {width : Int} {k : Nat} {x : Int} (h : l.take (k + 1) = l.take k ++ [x]) : Rk xs l width (k + 1) = Rk xs l width k ++ be width.toNat x.toNat := by
  simp [Rk, h]
theorem flat_length (l : List Int) (m : Nat) : (l.flatMap fun v => be m v.toNat).length = l.length * m := by
  induction l with
  | nil => simp
  | cons v l ih => rw [List.flatMap_cons, List.length_append, ih, be_length, List.length_cons, Nat.add_mul]; omega
theorem rowBytes_length (l : List Int) (width : Int) : (rowBytes l width).length = 2 + l.length * width.toNat := by
  rw [rowBytes, List.length_append, be_length, flat_length]
theorem Rk_le (xs : List UInt8) (l : List Int) {width : Int} (h6 : width ≤ 6) (k : Nat) : (Rk xs l width k).length ≤ xs.length + 2 + k * 6 := by
  rw [Rk, List.length_append, List.length_append, be_length, flat_length]
  have h1 : (l.take k).length ≤ k := List.length_take_le _ _
  have h2 : width.toNat ≤ 6 := by omega
  have := Nat.mul_le_mul h1 h2
  omega
theorem Rk_all (xs : List UInt8) {l : List Int} (width : Int) {k : Nat} (h : l.length ≤ k) : Rk xs l width k = xs ++ rowBytes l width := by
  rw [Rk, rowBytes, List.take_of_length_le h]
theorem rowB_parts {l : List Int} {width : Int} (h : rowB l width = true) : 1 ≤ width ∧ width ≤ 6 ∧ l.length ≤ 65535 ∧ ∀ v ∈ l, fitsB v width = true := by
  simp only [rowB, wideB, Bool.and_eq_true, decide_eq_true_eq, List.all_eq_true] at h
  exact ⟨h.1.1.1, h.1.1.2, h.1.2, h.2⟩

set_option maxHeartbeats 1000000 in
theorem putRow_any (A C : Option Addr) (n c m d : Nat) (xs : List UInt8) (l : List Int) (width : Int) (w : World) (hr : Reads w w.heap.size 1 A n (B8 xs)) (hl : Reads w w.heap.size 1 C m (I64 l)) (hc : n ≤ c) (hc2 : c ≤ 9223372036854775807)
    (hn : n ≤ 70368743000000) (hm : m ≤ 70368743000000) (hv : ∀ v ∈ l, v ≤ 9223372036854775807) :
    Calls Try.prog 23 #[.slice A n c, .slice C m d, .int .i64 width] w (Made w.heap.size 5 1 (B8 (putRowB xs l width)) w) := by
  have hlen : l.length = m := by have := hl.1; simpa [I64_length] using this
  by_cases hf : rowB l width = true
  · obtain ⟨h1, h6, h65, hall⟩ := rowB_parts hf
    have hp : putRowB xs l width = xs ++ rowBytes l width := by rw [putRowB, if_pos hf]
    have H := hide hp
    clear hp
    have hcnt : xs ++ be (2 : Int).toNat (m : Int).toNat = Rk xs l width 0 := by simp [Rk, hlen]
    have HC := hide hcnt
    clear hcnt
    go_enter Try.func23, Try.ntmps23
    go_wp2_with (first | (go_at_call 30; refine (rowFits_any _ _ _ _ _ _ hl hv (by omega)).mono ?_; rintro e w' ⟨rfl, rfl⟩) | (go_at_call 29; refine (elsewhere_any _ _ _ _ hc hc2).mono ?_; rintro e w' ⟨rfl, rfl⟩) | (go_at_call 28; refine (grow_any w.heap.size n (.slice A n n) xs m 2 _ (.inr ⟨A, rfl, hr⟩) (Nat.le_refl _) (by omega) (by omega) (by omega) (by omega) (by omega)).mono ?_; rintro e w1 ⟨A1, n1, c1, rfl, hn1, hc1, hown1, hbel1⟩))
    rw [HC.out] at hown1
    have hl1 := own_len8 hown1
    have hl2 := Rk_le xs l h6 0
    have hn1' : n1 ≤ xs.length + 2 + 0 * 6 := by omega
    clear hl1 hl2
    have hxs : xs.length = n := by have := hr.1; simpa [B8_length] using this
    go_loopw [7, 23] (fun v i wr => ∃ k nr : Nat, k ≤ m ∧ i = .int .i64 k ∧ nr ≤ n + 2 + k * 6 ∧ wr.ownsRow w.heap.size 5 1 v nr (B8 (Rk xs l width k)) ∧ Below w.heap.size w wr) (fun _ i _ => m - (intOf i).toNat)
    case atStart => exact ⟨0, n1, Nat.zero_le _, rfl, by omega, hown1, hbel1⟩
    case round =>
      obtain ⟨k, nr, hk, rfl, hnr, hown, hbel⟩ := hrel
      by_cases hkn : k < m
      · obtain ⟨ad, x, rfl, hblk, hx, hc0⟩ := hl.i64_at hkn
        have hxl : x ∈ l := List.mem_of_getElem? hx
        have hxv := hv x hxl
        obtain ⟨_, _, hx0, _⟩ := fits_parts (hall x hxl)
        have hts := take_more hx
        have HX := hide (Rk_step (xs := xs) (width := width) hts)
        clear hx hts
        have hc := (hbel.cell (p := ad.add k) (by rw [block_of_add]; exact hblk)).trans hc0
        have hsz := hbel.size
        go_wp2_with (go_at_call 28; refine (grow_any w.heap.size _ _ (Rk xs l width k) x width _ (.inl hown) hsz h1 h6 hx0 hxv (by omega)).mono ?_; rintro e w2 ⟨A2, n2, c2, rfl, hn2, hc2', hown2, hbel2⟩)
        rw [← HX.out] at hown2
        have hl1 := own_len8 hown2
        have hl2 := Rk_le xs l h6 (k + 1)
        go_roundw
        case rel => exact ⟨k + 1, n2, by omega, by go_num, by omega, hown2, hbel.trans hbel2⟩
        case measure => simp [intOf]; omega
      · obtain rfl : k = m := by omega
        have HA := hide (Rk_all xs width (k := k) (by omega : l.length ≤ k))
        go_wp2
        go_ret
        rw [H.out, ← HA.out]
        exact made_of hown hbel
  · have hf' : rowB l width = false := by simpa using hf
    have hp : putRowB xs l width = xs := by rw [putRowB, if_neg hf]
    have H := hide hp
    clear hp hf
    go_enter Try.func23, Try.ntmps23
    go_wp2_with (first | (go_at_call 30; refine (rowFits_any _ _ _ _ _ _ hl hv (by omega)).mono ?_; rintro e w' ⟨rfl, rfl⟩) | (go_at_call 27; refine (clone_any A n c xs _ hr (by omega)).mono ?_; rintro e w' ⟨A1, n1, c1, rfl, hn1, hc1, hown1, hbel1⟩))
    go_ret
    rw [H.out]
    exact made_of hown1 hbel1
#print axioms putRow_any
end Go.Proofs.Ytkjbjhciafnbeaa
