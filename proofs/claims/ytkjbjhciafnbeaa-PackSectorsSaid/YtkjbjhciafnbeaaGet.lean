/- What pack's reading calls do: value, Get and Row, over whatever bytes come in; and when two rows of numbers are the same. -/
import Derived.Test.YtkjbjhciafnbeaaPut
import Derived.Deep.QuietTactic
import Derived.BigQuiet
namespace Go.Proofs.Ytkjbjhciafnbeaa
open Go.RowKit

theorem shl8 (a : Nat) : ((a : Int) * 256) = ((a * 256 : Nat) : Int) := by omega

set_option maxHeartbeats 1000000 in
theorem value_any (A : Option Addr) (n c : Nat) (xs : List UInt8) (B : Nat) (w : World) (hr : Reads w B 1 A n (B8 xs)) (hn : n ≤ 6) :
    Calls Try.prog 25 #[.slice A n c] w fun e w' => e = .returned (.int .i64 (num xs)) ∧ w = w' := by
  have hlen : xs.length = n := by have := hr.1; simpa [B8_length] using this
  go_enter Try.func25, Try.ntmps25
  go_wp2
  go_loop [3, 8] (fun v i => ∃ k : Nat, k ≤ n ∧ i = .int .i64 k ∧ v = .int .i64 (num (xs.take k))) (fun _ i => n - (intOf i).toNat)
  case atStart => exact ⟨0, Nat.zero_le _, rfl, rfl⟩
  case round =>
    obtain ⟨k, hk, rfl, rfl⟩ := hrel
    by_cases hkn : k < n
    · obtain ⟨ad, x, rfl, _, hx, hc⟩ := hr.u8_at hkn
      have hts := take_more hx
      have hb : num (xs.take k) < 1099511627776 := Nat.lt_of_lt_of_le (num_take_lt xs k) (Nat.le_trans (Nat.pow_le_pow_right (by omega) (show k ≤ 5 by omega)) (by decide))
      have hx2 := x.toNat_lt
      have hnum : num (xs.take (k + 1)) = num (xs.take k) * 256 + x.toNat := by rw [hts, num_snoc]
      have HX := hide hnum
      have HJ := hide (i64_join (num (xs.take k)) x.toNat hb hx2)
      clear hx hts hnum
      generalize num (xs.take k) = V at *
      go_wp2
      go_round
      case rel => exact ⟨k + 1, by omega, by go_num, by rw [shl8, HJ.out, HX.out]⟩
      case measure => simp [intOf]; omega
    · obtain rfl : k = n := by omega
      have HT := hide (List.take_of_length_le (show xs.length ≤ k by omega))
      go_wp2
      go_ret
      exact ⟨ret_i (by rw [HT.out]), rfl⟩

/-- Is there a number of that width? Which? -/
def getO (xs : List UInt8) (width : Int) : Bool := decide (1 ≤ width ∧ width ≤ 6 ∧ width ≤ xs.length)
def getV (xs : List UInt8) (width : Int) : Nat := if getO xs width then num (xs.take width.toNat) else 0

theorem getV_yes {xs : List UInt8} {width : Int} (h : getO xs width = true) : getV xs width = num (xs.take width.toNat) := by rw [getV, if_pos h]
theorem getV_no {xs : List UInt8} {width : Int} (h : getO xs width = false) : getV xs width = 0 := by rw [getV, h]; rfl

theorem ret_tib {a b : Int} {c d : Bool} (h : a = b) (h2 : c = d) : Ending.returned (.tuple #[.int .i64 a, .bool c]) = .returned (.tuple #[.int .i64 b, .bool d]) := by rw [h, h2]
theorem ret_get {xs : List UInt8} {width : Int} (h : getO xs width = false) : Ending.returned (.tuple #[.int .i64 0, .bool false]) = .returned (.tuple #[.int .i64 (getV xs width), .bool (getO xs width)]) := by rw [getV_no h, h]; rfl

set_option maxHeartbeats 1000000 in
theorem get_any (A : Option Addr) (n c : Nat) (xs : List UInt8) (width : Int) (B : Nat) (w : World) (hr : Reads w B 1 A n (B8 xs)) (hc : n ≤ c) (_hc2 : c ≤ 9223372036854775807) :
    Calls Try.prog 12 #[.slice A n c, .int .i64 width] w fun e w' => e = .returned (.tuple #[.int .i64 (getV xs width), .bool (getO xs width)]) ∧ w = w' := by
  have hlen : xs.length = n := by have := hr.1; simpa [B8_length] using this
  by_cases hw : wideB width = true
  · have hw1 : 1 ≤ width ∧ width ≤ 6 := by simpa [wideB] using hw
    obtain ⟨h1, h6⟩ := hw1
    by_cases hs : width ≤ n
    · have ho : getO xs width = true := by simp [getO]; omega
      have HV := hide (getV_yes ho)
      have HO := hide ho
      clear ho
      have hh := hr.head (k := width.toNat) (by omega)
      rw [Nat.mul_one, B8_take] at hh
      go_enter Try.func12, Try.ntmps12
      go_wp2_with (first | (go_at_call 24; refine (wide_any _ _).mono ?_; rintro e w' ⟨rfl, rfl⟩) | (go_at_call 25; refine (value_any _ _ _ _ B _ hh (by omega)).mono ?_; rintro e w' ⟨rfl, rfl⟩))
      go_ret2
      exact ⟨ret_tib (by rw [HV.out]) HO.out.symm, rfl⟩
    · have ho : getO xs width = false := by simp [getO]; omega
      have HO := hide ho
      clear ho
      go_enter Try.func12, Try.ntmps12
      go_wp2_with (go_at_call 24; refine (wide_any _ _).mono ?_; rintro e w' ⟨rfl, rfl⟩)
      go_ret2
      exact ⟨ret_get HO.out, rfl⟩
  · have hw' : wideB width = false := by simpa using hw
    have ho : getO xs width = false := by simp [getO]; simp [wideB] at hw'; omega
    have HO := hide ho
    clear ho hw
    go_enter Try.func12, Try.ntmps12
    go_wp2_with (go_at_call 24; refine (wide_any _ _).mono ?_; rintro e w' ⟨rfl, rfl⟩)
    go_ret2
    exact ⟨ret_get HO.out, rfl⟩

theorem Reads.window {w : World} {B n c lo k : Nat} {A : Option Addr} {xs : List UInt8} (h : Reads w B 1 A n (B8 xs)) (hl : lo + k ≤ n) (hc : n ≤ c) : Reads w B 1 (if c = lo then A else A.map (·.add lo)) k (B8 ((xs.drop lo).take k)) := by
  have h1 := (h.cut (k := lo) (cap := c) (by omega) hc).head (k := k) (by omega)
  simpa [Nat.mul_one, B8_take, B8_drop] using h1

theorem Reads.window' {w : World} {B n c lo k : Nat} {A : Option Addr} {xs : List UInt8} (h : Reads w B 1 A n (B8 xs)) (hl : lo + k ≤ n) (hc : n ≤ c) (hk : 0 < k) : Reads w B 1 (A.map (fun x => x.add lo)) k (B8 ((xs.drop lo).take k)) := by
  have h1 := h.window hl hc
  rwa [if_neg (by omega)] at h1

/-- Is there a row of numbers of that width? Which? How many bytes are they? -/
def rowO (xs : List UInt8) (width : Int) : Bool := getO xs 2 && wideB width && decide (2 + getV xs 2 * width.toNat ≤ xs.length)
def rowAt (xs : List UInt8) (m i : Nat) : Int := (num ((xs.drop (2 + i * m)).take m) : Nat)
def rowL (xs : List UInt8) (width : Int) : List Int := if rowO xs width then (List.range (getV xs 2)).map (rowAt xs width.toNat) else []
def rowN (xs : List UInt8) (width : Int) : Nat := if rowO xs width then 2 + getV xs 2 * width.toNat else 0
/-- What Row hands back. -/
def GaveRow (xs : List UInt8) (width : Int) (w : World) (e : Ending) (w' : World) : Prop :=
  ∃ A n c, e = .returned (.tuple #[.slice A n c, .int .i64 (rowN xs width), .bool (rowO xs width)]) ∧ n ≤ c ∧ c ≤ maxLen ∧ w'.ownsRow w.heap.size 3 1 (.slice A n c) n (I64 (rowL xs width)) ∧ Below w.heap.size w w'

theorem getV_le {xs : List UInt8} : getV xs 2 ≤ 65535 := by
  rw [getV]
  split
  · have := num_take_lt xs (2 : Int).toNat
    have e : 256 ^ (2 : Int).toNat = 65536 := by decide
    omega
  · omega
theorem ret_row {v : Value} {a b : Int} {c d : Bool} (h : a = b) (h2 : c = d) : Ending.returned (.tuple #[v, .int .i64 a, .bool c]) = .returned (.tuple #[v, .int .i64 b, .bool d]) := by rw [h, h2]
theorem gaveRow_no {xs : List UInt8} {width : Int} (w : World) (h : rowO xs width = false) : GaveRow xs width w (.returned (.tuple #[.slice none 0 0, .int .i64 0, .bool false])) w := by
  refine ⟨none, 0, 0, by rw [rowN, h]; rfl, Nat.le_refl _, Nat.zero_le _, ?_, Below.refl _ _⟩
  rw [rowL, h]
  exact World.ownsRow_nil _ _ _ _

/-- The row with its first k places filled. -/
def Fill (xs : List UInt8) (m V k : Nat) : List Int := (List.range V).map fun i => if i < k then rowAt xs m i else 0
theorem Fill_zero (xs : List UInt8) (m V : Nat) : (madeCells (Value.int .i64 0).cells (V * 1)).toList = I64 (Fill xs m V 0) := by
  rw [Nat.mul_one]
  show (madeCells #[Value.int .i64 0] V).toList = _
  rw [toList_madeCells_one]
  apply List.ext_getElem
  · simp [Fill, I64]
  · intro i h1 h2
    simp [Fill, I64]
theorem Fill_step (xs : List UInt8) (m V k : Nat) : (I64 (Fill xs m V k)).set k (.int .i64 (rowAt xs m k)) = I64 (Fill xs m V (k + 1)) := by
  apply List.ext_getElem?
  intro j
  rw [List.getElem?_set]
  simp only [I64, Fill, List.getElem?_map, List.length_map, List.length_range]
  by_cases hj : j < V
  · rw [List.getElem?_range hj]
    by_cases hk : k = j
    · subst hk; simp [hj]
    · rw [if_neg hk]
      by_cases h2 : j < k
      · simp [h2, show j < k + 1 by omega]
      · simp [h2, show ¬ j < k + 1 by omega]
  · rw [List.getElem?_eq_none (by simpa using hj)]
    by_cases hk : k = j
    · subst hk; simp [hj]
    · simp [hk]
theorem Fill_all (xs : List UInt8) (m V : Nat) : Fill xs m V V = (List.range V).map (rowAt xs m) := by
  apply List.map_congr_left
  intro i hi
  rw [if_pos (List.mem_range.1 hi)]

set_option maxHeartbeats 2000000 in
theorem row_any (A : Option Addr) (n c : Nat) (xs : List UInt8) (width : Int) (w : World) (hr : Reads w w.heap.size 1 A n (B8 xs)) (hc : n ≤ c) (hc2 : c ≤ 9223372036854775807) (hn : n ≤ 70368743000000) :
    Calls Try.prog 14 #[.slice A n c, .int .i64 width] w (GaveRow xs width w) := by
  have hlen : xs.length = n := by have := hr.1; simpa [B8_length] using this
  have hV := getV_le (xs := xs)
  by_cases ho : getO xs 2 = true
  · by_cases hw : wideB width = true
    · have hw1 : 1 ≤ width ∧ width ≤ 6 := by simpa [wideB] using hw
      obtain ⟨h1, h6⟩ := hw1
      obtain ⟨m, rfl⟩ := Int.eq_ofNat_of_zero_le (show 0 ≤ width by omega)
      have hp1 : (0 : Int) ≤ (getV xs 2 : Int) * (m : Int) := by rw [← Int.natCast_mul]; omega
      have hp2 : (getV xs 2 : Int) * (m : Int) ≤ 393210 := by
        have := Nat.mul_le_mul hV (show m ≤ 6 by omega)
        rw [← Int.natCast_mul]; omega
      by_cases hs : (getV xs 2 : Int) * (m : Int) ≤ (n : Int) - 2
      · obtain ⟨i0, hi0, hz0, hz1, hz2⟩ := info_parts int_info
        have hmk1 : i0.bytes * getV xs 2 ≤ 281474976710656 := by rw [hz2]; omega
        have hmk2 : getV xs 2 ≤ maxLen := by simp only [maxLen]; omega
        go_enter Try.func14, Try.ntmps14
        go_wp2_with (first | (go_at_call 12; refine (get_any _ _ _ _ _ _ _ hr hc hc2).mono ?_; rintro e w' ⟨rfl, rfl⟩) | (go_at_call 24; refine (wide_any _ _).mono ?_; rintro e w' ⟨rfl, rfl⟩) | (refine wpList_make_full _ rfl (.tmp 33) (.tmp 33) 27 rfl w.heap.size 3 i0 _ 1 Try.underlying27 hi0 hz0 hz1 .i64 .i64 _ _ (getV xs 2) rfl rfl rfl rfl hmk1 hmk2 (Nat.le_refl _) ?_; intro w1 hown1 hgr1))
        rw [Fill_zero xs m] at hown1
        have hb1 : Below w.heap.size w w1 := (Below.refl _ _).grown hgr1 (Nat.le_refl _) (fun k hk => by cases hk)
        go_loopw [37] (fun i wr => ∃ k : Nat, k ≤ getV xs 2 ∧ i = .int .i64 k ∧ wr.ownsRow w.heap.size 3 1 (.slice (some ⟨w.heap.size, 0, none⟩) (getV xs 2) (getV xs 2)) (getV xs 2) (I64 (Fill xs m (getV xs 2) k)) ∧ Below w.heap.size w wr) (fun i _ => getV xs 2 - (intOf i).toNat)
        case atStart => exact ⟨0, Nat.zero_le _, rfl, hown1, hb1⟩
        case round =>
          obtain ⟨k, hk, rfl, hown, hbel⟩ := hrel
          by_cases hkn : k < getV xs 2
          · have hq1 : (0 : Int) ≤ (k : Int) * (m : Int) := by rw [← Int.natCast_mul]; omega
            have hq2 : 2 + (k : Int) * (m : Int) + (m : Int) ≤ (n : Int) := by
              have := Nat.mul_le_mul_right m (show k + 1 ≤ getV xs 2 by omega)
              rw [Nat.add_mul, Nat.one_mul] at this
              rw [← Int.natCast_mul] at hs ⊢
              omega
            have hq3 : 2 + k * m + m ≤ n := by
              have e : (2 : Int) + (k : Int) * (m : Int) + (m : Int) = ((2 + k * m + m : Nat) : Int) := by simp
              omega
            have hrw := (hr.below hbel).window' (lo := 2 + k * m) (k := m) hq3 hc (by omega)
            have hold : wr.cell? ⟨w.heap.size, k, none⟩ = some (.int .i64 0) := by
              rw [hown.cellAt k (by omega)]
              simp [I64, Fill, hkn]
            have hfz := hown.frozenAt k
            obtain ⟨hst, hgr⟩ := hown.stored k (.int .i64 (rowAt xs m k))
            rw [Fill_step] at hst
            have hbs := hbel.grown hgr hbel.size (fun j hj => by simp at hj; omega)
            go_wp2_with (go_at_call 25; refine (value_any _ _ _ _ _ _ hrw (by omega)).mono ?_; rintro e w' ⟨rfl, rfl⟩)
            unfold rowAt at hst hbs
            go_roundw
            case rel => exact ⟨k + 1, by omega, by go_num, hst, hbs⟩
            case measure => simp [intOf]; omega
          · obtain rfl : k = getV xs 2 := by omega
            have hro : rowO xs (m : Int) = true := by
              rw [rowO, ho, hw]
              simp only [Bool.true_and, Int.toNat_natCast, decide_eq_true_eq]
              rw [← Int.natCast_mul] at hs
              omega
            have HF := hide (Fill_all xs m (getV xs 2))
            have HL := hide (show rowL xs (m : Int) = (List.range (getV xs 2)).map (rowAt xs m) by rw [rowL, if_pos hro, Int.toNat_natCast])
            have HN := hide (show (2 : Int) + (getV xs 2 : Int) * (m : Int) = (rowN xs (m : Int) : Nat) by rw [rowN, if_pos hro, Int.toNat_natCast]; simp)
            have HR := hide hro
            clear hro
            go_wp2
            go_ret3
            refine ⟨_, _, _, ret_row HN.out HR.out.symm, Nat.le_refl _, hmk2, ?_, hbel⟩
            rw [HL.out, ← HF.out]
            exact hown
      · have hro : rowO xs (m : Int) = false := by
          rw [rowO, ho, hw]
          simp only [Bool.true_and, Int.toNat_natCast, decide_eq_false_iff_not]
          rw [← Int.natCast_mul] at hs
          omega
        have HR := hide (gaveRow_no w hro)
        clear hro
        go_enter Try.func14, Try.ntmps14
        go_wp2_with (first | (go_at_call 12; refine (get_any _ _ _ _ _ _ _ hr hc hc2).mono ?_; rintro e w' ⟨rfl, rfl⟩) | (go_at_call 24; refine (wide_any _ _).mono ?_; rintro e w' ⟨rfl, rfl⟩))
        go_ret3
        exact HR.out
    · have hw' : wideB width = false := by simpa using hw
      have hro : rowO xs width = false := by rw [rowO, hw']; simp
      have HR := hide (gaveRow_no w hro)
      clear hro hw
      go_enter Try.func14, Try.ntmps14
      go_wp2_with (first | (go_at_call 12; refine (get_any _ _ _ _ _ _ _ hr hc hc2).mono ?_; rintro e w' ⟨rfl, rfl⟩) | (go_at_call 24; refine (wide_any _ _).mono ?_; rintro e w' ⟨rfl, rfl⟩))
      go_ret3
      exact HR.out
  · have ho' : getO xs 2 = false := by simpa using ho
    have hro : rowO xs width = false := by rw [rowO, ho']; simp
    have HR := hide (gaveRow_no w hro)
    clear hro ho
    go_enter Try.func14, Try.ntmps14
    go_wp2_with (first | (go_at_call 12; refine (get_any _ _ _ _ _ _ _ hr hc hc2).mono ?_; rintro e w' ⟨rfl, rfl⟩) | (go_at_call 24; refine (wide_any _ _).mono ?_; rintro e w' ⟨rfl, rfl⟩))
    go_ret3
    exact HR.out
#print axioms row_any
end Go.Proofs.Ytkjbjhciafnbeaa
