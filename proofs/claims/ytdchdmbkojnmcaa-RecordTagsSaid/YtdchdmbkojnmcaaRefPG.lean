/- The document's answer for pack's Get, Put, may and most, over strings. -/
import Derived.Test.YtdchdmbkojnmcaaGet
import Derived.Lib.IndexBytes
import Derived.Lib.Strings
import Derived.Test.YtdchdmbkojnmcaaMade
namespace Go.Proofs.Ytdchdmbkojnmcaa
open Go.RowKit
def chars (s : ByteArray) : List UInt8 := s.data.toList
theorem chars_length (s : ByteArray) : (chars s).length = s.size := by simp [chars]
theorem chars_at (s : ByteArray) {k : Nat} (h : k < s.size) : (chars s)[k]? = some s[k] := by
  unfold chars
  rw [List.getElem?_eq_getElem (by simpa using h)]
  rfl

set_option maxHeartbeats 1000000 in
theorem refGet_any (s : ByteArray) (width : Int) (w : World) (hs : s.size ≤ 70368743000000) :
    Calls Try.prog 27 #[.string s, .int .i64 width] w fun e w' => e = .returned (.tuple #[.int .i64 (getV (chars s) width), .bool (getO (chars s) width)]) ∧ w = w' := by
  have hlen := chars_length s
  by_cases hw1 : 1 ≤ width
  · by_cases hw6 : width ≤ 6
    · by_cases hl : width ≤ s.size
      · have ho : getO (chars s) width = true := by simp [getO]; omega
        have HV := hide (getV_yes ho)
        have HO := hide ho
        clear ho
        obtain ⟨m, rfl⟩ := Int.eq_ofNat_of_zero_le (show 0 ≤ width by omega)
        go_enter Try.func27, Try.ntmps27
        go_wp2
        go_loop [6, 7] (fun v i => ∃ k : Nat, k ≤ m ∧ i = .int .i64 k ∧ v = .int .i64 (num ((chars s).take k))) (fun _ i => m - (intOf i).toNat)
        case atStart => exact ⟨0, Nat.zero_le _, rfl, rfl⟩
        case round =>
          obtain ⟨k, hk, rfl, rfl⟩ := hrel
          by_cases hkn : k < m
          · have hks : k < s.size := by omega
            have hts := take_more (chars_at s hks)
            have hb : num ((chars s).take k) < 1099511627776 := Nat.lt_of_lt_of_le (num_take_lt _ k) (Nat.le_trans (Nat.pow_le_pow_right (by omega) (show k ≤ 5 by omega)) (by decide))
            have hx2 := s[k].toNat_lt
            have HX := hide (show num ((chars s).take (k + 1)) = num ((chars s).take k) * 256 + s[k].toNat by rw [hts, num_snoc])
            clear hts
            generalize num ((chars s).take k) = V at *
            go_wp2
            go_round
            case rel => exact ⟨k + 1, by omega, by go_num, by rw [HX.out]; congr 1; omega⟩
            case measure => simp [intOf]; omega
          · obtain rfl : k = m := by omega
            go_wp2
            go_ret2
            exact ⟨ret_tib (by rw [HV.out, Int.toNat_natCast]) HO.out.symm, rfl⟩
      · have HO := hide (show getO (chars s) width = false by simp [getO]; omega)
        have hd : decide ((s.size : Int) < width) = true := by simp; omega
        go_enter Try.func27, Try.ntmps27
        go_wp2
        go_ret2
        exact ⟨ret_get HO.out, rfl⟩
    · have HO := hide (show getO (chars s) width = false by simp [getO]; omega)
      have hd : decide ((6 : Int) < width) = true := by simp; omega
      go_enter Try.func27, Try.ntmps27
      go_wp2
      go_ret2
      exact ⟨ret_get HO.out, rfl⟩
  · have HO := hide (show getO (chars s) width = false by simp [getO]; omega)
    have hd : decide (width < (1 : Int)) = true := by simp; omega
    go_enter Try.func27, Try.ntmps27
    go_wp2
    go_ret2
    exact ⟨ret_get HO.out, rfl⟩

theorem chars_extract (s : ByteArray) (a : Nat) : chars (s.extract a s.size) = (chars s).drop a := by
  unfold chars
  rw [Lib.extract_data]
  exact List.take_of_length_le (by simp)
#print axioms refGet_any
/-- A string of these bytes. -/
def strOf (l : List UInt8) : ByteArray := ⟨l.toArray⟩
theorem chars_strOf (l : List UInt8) : chars (strOf l) = l := by simp [chars, strOf]
theorem strOf_size (l : List UInt8) : (strOf l).size = l.length := by simp [strOf, ByteArray.size]
theorem be_front : ∀ (j V : Nat), be (j + 1) V = UInt8.ofNat (V / 256 ^ j % 256) :: be j V
  | 0, V => by simp [be]
  | j + 1, V => by
    rw [be, be_front j (V / 256), be, Nat.div_div_eq_div_mul, Nat.pow_succ, Nat.mul_comm (256 ^ j) 256]
    rfl
set_option maxHeartbeats 1000000 in
theorem most_any (k P : Nat) (hk : k ≤ 6) (hP : 256 ^ k = P) (w : World) :
    Calls Try.prog 37 #[.int .i64 (k : Int)] w fun e w' => e = .returned (.int .i64 ((P : Int) - 1)) ∧ w = w' := by
  have HP := hide hP
  clear hP
  go_enter Try.func37, Try.ntmps37
  go_wp2
  go_loop [3, 4] (fun n i => ∃ j : Nat, j ≤ k ∧ i = .int .i64 j ∧ n = .int .i64 ((256 ^ j : Nat) : Int)) (fun _ i => k - (intOf i).toNat)
  case atStart => exact ⟨0, Nat.zero_le _, rfl, rfl⟩
  case round =>
    obtain ⟨j, hj, rfl, rfl⟩ := hrel
    by_cases hjk : j < k
    · have hp := hide (show ((256 ^ j : Nat) : Int) * 256 = ((256 ^ (j + 1) : Nat) : Int) by rw [Nat.pow_succ]; simp)
      have hb := pow256_lt (k := j) (by omega)
      have h0 := Nat.pow_pos (n := j) (show 0 < 256 by omega)
      have hb2 := pow256_lt (k := j + 1) (by omega)
      have hb3 : (256 ^ j : Nat) ≤ 1099511627776 := by rw [Nat.pow_succ] at hb2; omega
      clear hb2 hb
      generalize hP : (256 ^ j : Nat) = P at *
      clear hP
      go_wp2
      go_round
      case rel => exact ⟨j + 1, by omega, by go_num, by rw [hp.out]⟩
      case measure => simp [intOf]; omega
    · obtain rfl : j = k := by omega
      have hb := pow256_lt (k := j) (by omega)
      have h0 := Nat.pow_pos (n := j) (show 0 < 256 by omega)
      rw [HP.out] at hb h0 ⊢
      go_wp2
      go_ret
      exact ⟨rfl, rfl⟩
theorem fitsB_nat {v : Int} {k : Nat} (h1 : 1 ≤ k) (h6 : k ≤ 6) (h0 : 0 ≤ v) : ∀ P : Nat, 256 ^ k = P → fitsB v (k : Int) = decide (v ≤ (P : Int) - 1) := by
  rintro P rfl
  have e : ((256 : Int) ^ (k : Int).toNat) = ((256 ^ k : Nat) : Int) := by simp
  rw [fitsB, e]
  by_cases h : v < ((256 ^ k : Nat) : Int)
  · rw [decide_eq_true (by omega), decide_eq_true (by omega)]
  · rw [decide_eq_false (by omega), decide_eq_false (by omega)]
set_option maxHeartbeats 1000000 in
theorem may_any (v width : Int) (w : World) :
    Calls Try.prog 30 #[.int .i64 v, .int .i64 width] w fun e w' => e = .returned (.bool (fitsB v width)) ∧ w = w' := by
  cases d1 : decide ((1 : Int) ≤ width) with
  | false =>
    have H := hide (show fitsB v width = false by have := of_decide_eq_false d1; simp [fitsB]; omega)
    go_enter Try.func30, Try.ntmps30
    go_wp2
    go_ret
    exact ⟨ret_b H.out.symm, rfl⟩
  | true =>
    cases d2 : decide (width ≤ (6 : Int)) with
    | false =>
      have H := hide (show fitsB v width = false by have := of_decide_eq_false d2; simp [fitsB]; omega)
      go_enter Try.func30, Try.ntmps30
      go_wp2
      go_ret
      exact ⟨ret_b H.out.symm, rfl⟩
    | true =>
      cases d3 : decide ((0 : Int) ≤ v) with
      | false =>
        have H := hide (show fitsB v width = false by have := of_decide_eq_false d3; simp [fitsB]; omega)
        go_enter Try.func30, Try.ntmps30
        go_wp2
        go_ret
        exact ⟨ret_b H.out.symm, rfl⟩
      | true =>
        have h1 := of_decide_eq_true d1
        have h2 := of_decide_eq_true d2
        obtain ⟨k, rfl⟩ := Int.eq_ofNat_of_zero_le (show 0 ≤ width by omega)
        obtain ⟨P, hP⟩ : ∃ P, 256 ^ k = P := ⟨_, rfl⟩
        have hP6 : P ≤ 281474976710656 := by rw [← hP]; exact pow256_lt (by omega)
        have H := hide (fitsB_nat (v := v) (k := k) (by omega) (by omega) (of_decide_eq_true d3) P hP)
        have HM := hide (most_any k P (by omega) hP)
        clear hP
        go_enter Try.func30, Try.ntmps30
        go_wp2_with (go_at_call 37; refine (HM.out _).mono ?_; rintro e w' ⟨rfl, rfl⟩)
        go_ret
        exact ⟨ret_b H.out.symm, rfl⟩
/-- What Put answers: a string. -/
def putStr (s : ByteArray) (v width : Int) : ByteArray := strOf (putB (chars s) v width)
theorem rep_set (m : Nat) (L : List UInt8) (x : UInt8) (hm : 1 ≤ m) : (List.replicate m (0 : UInt8) ++ L).set (m - 1) x = List.replicate (m - 1) 0 ++ (x :: L) := by
  obtain ⟨j, rfl⟩ : ∃ j, m = j + 1 := ⟨m - 1, by omega⟩
  rw [Nat.add_sub_cancel, List.replicate_succ', List.append_assoc, List.set_append_right _ _ (by simp)]
  simp
theorem B8_rep (k : Nat) : B8 (List.replicate k 0) = (List.replicate k [Value.int .u8 0]).flatten := by
  induction k with
  | zero => rfl
  | succ k ih => rw [List.replicate_succ, List.replicate_succ, List.flatten_cons, ← ih]; rfl
theorem u8_mod (V : Nat) : ((V : Int) % 256) = (((UInt8.ofNat (V % 256)).toNat : Nat) : Int) := by
  have h : (UInt8.ofNat (V % 256)).toNat = V % 256 := by
    rw [UInt8.toNat_ofNat_of_lt' (by show V % 256 < 256; omega)]
  rw [h]
  omega
theorem str_join (s : ByteArray) (l : List UInt8) : s ++ strOf l = strOf (chars s ++ l) := by
  apply ByteArray.ext
  simp [strOf, chars]
set_option maxRecDepth 100000 in
set_option maxHeartbeats 2000000 in
theorem refPut_any (s : ByteArray) (v width : Int) (w : World) (hs : s.size ≤ 1000) (hv : v ≤ 9223372036854775807) :
    Calls Try.prog 23 #[.string s, .int .i64 v, .int .i64 width] w fun e w' => e = .returned (.string (putStr s v width)) ∧ Below w.heap.size w w' := by
  have HMay := hide (may_any v width)
  cases hf : fitsB v width with
  | false =>
    rw [hf] at HMay
    have H := hide (show putStr s v width = s by rw [putStr, putB, hf]; apply ByteArray.ext; simp [strOf, chars])
    rw [H.out]
    go_enter Try.func23, Try.ntmps23
    go_wp2_with (go_at_call 30; refine (HMay.out _).mono ?_; rintro e w' ⟨rfl, rfl⟩)
    go_ret
    exact ⟨rfl, Below.refl _ _⟩
  | true =>
    rw [hf] at HMay
    obtain ⟨h1, h6, h0, hlt⟩ := fits_parts hf
    obtain ⟨V, rfl⟩ := Int.eq_ofNat_of_zero_le h0
    obtain ⟨k, rfl⟩ := Int.eq_ofNat_of_zero_le (show 0 ≤ width by omega)
    have H := hide (show putStr s (V : Int) (k : Int) = s ++ strOf (be k V) by rw [putStr, putB, if_pos hf, Int.toNat_natCast, Int.toNat_natCast, str_join])
    rw [H.out]
    obtain ⟨i0, hi0, hz0, hz1, hz2⟩ := info_parts u8_parts
    have hk1 : 1 ≤ k := by omega
    have hk6 : k ≤ 6 := by omega
    have hV : (V : Int) ≤ 9223372036854775807 := hv
    clear hf h1 h6 h0 hlt hv
    go_enter Try.func23, Try.ntmps23
    go_wp2_with (first
      | (go_at_call 30; refine (HMay.out _).mono ?_; rintro e w' ⟨rfl, rfl⟩)
      | (refine wpList_make_blk rfl (.tmp 14) (.tmp 14) 22 rfl 5 i0 _ [.int .u8 0] Try.underlying22 hi0 hz0 rfl hz1 (by decide) k rfl rfl (by rw [hz2]; omega) (by omega) ?_; intro w1 hb1 hl1; rw [← B8_rep] at hb1))
    have HB1 := hide hb1
    have hz1' := hb1.lt
    clear hb1
    go_loopw [1, 8] (fun s1 s8 wr => ∃ m : Nat, m ≤ k ∧ s8 = .int .i64 ((m : Int) - 1) ∧ s1 = .int .i64 ((V / 256 ^ (k - m) : Nat) : Int) ∧ Hid (Blk wr w.heap.size 5 (B8 (List.replicate m 0 ++ be (k - m) V)).toArray) ∧ Hid (Below w.heap.size w wr)) (fun _ s8 _ => (intOf s8 + 1).toNat)
    case atStart => exact ⟨k, Nat.le_refl _, rfl, by simp, by rw [Nat.sub_self]; simpa [be] using HB1, hide hl1⟩
    case round =>
      obtain ⟨m, hm, rfl, rfl, HB, HL⟩ := hrel
      by_cases hm1 : 1 ≤ m
      · have hlen : (B8 (List.replicate m 0 ++ be (k - m) V)).length = k := by rw [B8_length, List.length_append, List.length_replicate, be_length]; omega
        obtain ⟨old, hold⟩ : ∃ old, (B8 (List.replicate m 0 ++ be (k - m) V))[m - 1]? = some old := ⟨_, List.getElem?_eq_getElem (by omega)⟩
        have hc : wr.cell? ⟨w.heap.size, m - 1, none⟩ = some old := (HB.out.cell _).trans (by rw [List.getElem?_toArray]; exact hold)
        have hfz := HB.out.frozen (m - 1)
        obtain ⟨X, hX⟩ : ∃ X, X = V / 256 ^ (k - m) := ⟨_, rfl⟩
        have hXV : X ≤ V := by rw [hX]; exact Nat.div_le_self _ _
        rw [← hX]
        have hX2 := hide (show X / 256 = V / 256 ^ (k - (m - 1)) by rw [hX, Nat.div_div_eq_div_mul, show k - (m - 1) = (k - m) + 1 by omega, Nat.pow_succ])
        have hnew := hide (show Blk (wr.setCell ⟨w.heap.size, m - 1, none⟩ (.int .u8 ((X : Int) % 256))) w.heap.size 5 (B8 (List.replicate (m - 1) 0 ++ be (k - (m - 1)) V)).toArray by
          have h := HB.out.set_ (m - 1) (.int .u8 ((X : Int) % 256))
          rw [u8_mod X] at h ⊢
          rw [List.setIfInBounds_toArray] at h
          have e : (B8 (List.replicate m 0 ++ be (k - m) V)).set (m - 1) (.int .u8 (((UInt8.ofNat (X % 256)).toNat : Nat) : Int)) = B8 (List.replicate (m - 1) 0 ++ be (k - (m - 1)) V) := by
            rw [show k - (m - 1) = (k - m) + 1 by omega, be_front, ← hX, ← rep_set m _ _ hm1]
            simp [B8, List.map_set]
          rw [e] at h
          exact h)
        have hll := hide (HL.out.setCell (p := ⟨w.heap.size, m - 1, none⟩) (Nat.le_refl _) (.int .u8 ((X : Int) % 256)))
        clear hold hlen hX
        go_wp2
        go_roundw
        case rel => exact ⟨m - 1, by omega, by congr 1; omega, by rw [← hX2.out]; congr 1, hnew, hll⟩
        case measure => simp [intOf]; omega
      · obtain rfl : m = 0 := by omega
        have hr : Reads wr wr.heap.size 1 (some ⟨w.heap.size, 0, none⟩) k (B8 (be k V)) := by
          have hb := HB.out
          rw [List.replicate_zero, List.nil_append, Nat.sub_zero] at hb
          have h := hb.reads (B := wr.heap.size) (off := 0) (n := k) (xs := be k V) hb.lt (by rw [be_length]; omega)
          rwa [List.drop_zero] at h
        have hconv := run_conv_reads (P := Try.prog) wr 22 5 9 Try.underlying22 Try.underlying5 Try.underlying9 wr.heap.size (some ⟨w.heap.size, 0, none⟩) k k (be k V) hr
        rw [show (⟨(be k V).toArray⟩ : ByteArray) = strOf (be k V) from rfl] at hconv
        have hsz : (strOf (be k V)).size = k := by rw [strOf_size, be_length]
        clear hr
        go_wp2
        go_ret
        exact ⟨rfl, HL.out⟩
#print axioms refPut_any
end Go.Proofs.Ytdchdmbkojnmcaa
