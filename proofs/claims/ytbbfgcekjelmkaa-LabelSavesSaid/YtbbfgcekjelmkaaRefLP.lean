/- The reference's get, put, may, most, Right, text, Put. -/
import Derived.Test.YtbbfgcekjelmkaaGet
import Derived.Lib.IndexBytes
import Derived.Lib.Strings
import Derived.Test.YtbbfgcekjelmkaaMade
import Derived.Test.YtbbfgcekjelmkaaLread
import Derived.Test.YtbbfgcekjelmkaaTold
import Derived.Test.YtbbfgcekjelmkaaCut
import Derived.Deep.RegionHeld3
import Derived.Lib.BufferWrite
import Derived.Deep.RegionLaw
namespace Go.Proofs.Ytbbfgcekjelmkaa
open Go.RowKit
def chars (s : ByteArray) : List UInt8 := s.data.toList
theorem chars_length (s : ByteArray) : (chars s).length = s.size := by simp [chars]
theorem chars_at (s : ByteArray) {k : Nat} (h : k < s.size) : (chars s)[k]? = some s[k] := by
  unfold chars
  rw [List.getElem?_eq_getElem (by simpa using h)]
  rfl

set_option maxHeartbeats 1000000 in
theorem refGet_any (s : ByteArray) (width : Int) (w : World) (hs : s.size ≤ 70368743000000) :
    Calls Try.prog 40 #[.string s, .int .i64 width] w fun e w' => e = .returned (.tuple #[.int .i64 (getV (chars s) width), .bool (getO (chars s) width)]) ∧ w = w' := by
  have hlen := chars_length s
  by_cases hw1 : 1 ≤ width
  · by_cases hw6 : width ≤ 6
    · by_cases hl : width ≤ s.size
      · have ho : getO (chars s) width = true := by simp [getO]; omega
        have HV := hide (getV_yes ho)
        have HO := hide ho
        clear ho
        obtain ⟨m, rfl⟩ := Int.eq_ofNat_of_zero_le (show 0 ≤ width by omega)
        go_enter Try.func40, Try.ntmps40
        go_wp2
        go_loop [6, 7] (fun v i => ∃ k : Nat, k ≤ m ∧ i = .int .i64 k ∧ v = .int .i64 (num ((chars s).take k))) (fun _ i => m - (intOf i).toNat)
        case atStart => exact ⟨0, Nat.zero_le _, rfl, rfl⟩
        case round =>
          obtain ⟨k, hk, rfl, rfl⟩ := hrel
          by_cases hkn : k < m
          · have hks : k < s.size := by omega
            have hts := take_more (chars_at s hks)
            have hb : num ((chars s).take k) < 1099511627776 := Nat.lt_of_lt_of_le (num_take_lt _ k) (Nat.le_trans (Nat.pow_le_pow_right (by omega) (show k ≤ 5 by omega)) (by decide))
            have hx2 := s[k].toNat_lt
            have HX := hide (show num ((chars s).take (k + 1)) = num ((chars s).take k) * 256 + s[k].toNat by rw [hts, num_snoc])
            clear hts
            generalize num ((chars s).take k) = V at *
            go_wp2
            go_round
            case rel => exact ⟨k + 1, by omega, by go_num, by rw [HX.out]; congr 1; omega⟩
            case measure => simp [intOf]; omega
          · obtain rfl : k = m := by omega
            go_wp2
            go_ret2
            exact ⟨ret_tib (by rw [HV.out, Int.toNat_natCast]) HO.out.symm, rfl⟩
      · have HO := hide (show getO (chars s) width = false by simp [getO]; omega)
        have hd : decide ((s.size : Int) < width) = true := by simp; omega
        go_enter Try.func40, Try.ntmps40
        go_wp2
        go_ret2
        exact ⟨ret_get HO.out, rfl⟩
    · have HO := hide (show getO (chars s) width = false by simp [getO]; omega)
      have hd : decide ((6 : Int) < width) = true := by simp; omega
      go_enter Try.func40, Try.ntmps40
      go_wp2
      go_ret2
      exact ⟨ret_get HO.out, rfl⟩
  · have HO := hide (show getO (chars s) width = false by simp [getO]; omega)
    have hd : decide (width < (1 : Int)) = true := by simp; omega
    go_enter Try.func40, Try.ntmps40
    go_wp2
    go_ret2
    exact ⟨ret_get HO.out, rfl⟩

theorem chars_extract (s : ByteArray) (a : Nat) : chars (s.extract a s.size) = (chars s).drop a := by
  unfold chars
  rw [Lib.extract_data]
  exact List.take_of_length_le (by simp)
#print axioms refGet_any
/-- A string of these bytes. -/
def strOf (l : List UInt8) : ByteArray := ⟨l.toArray⟩
theorem chars_strOf (l : List UInt8) : chars (strOf l) = l := by simp [chars, strOf]
theorem strOf_size (l : List UInt8) : (strOf l).size = l.length := by simp [strOf, ByteArray.size]
theorem be_front : ∀ (j V : Nat), be (j + 1) V = UInt8.ofNat (V / 256 ^ j % 256) :: be j V
  | 0, V => by simp [be]
  | j + 1, V => by
    rw [be, be_front j (V / 256), be, Nat.div_div_eq_div_mul, Nat.pow_succ, Nat.mul_comm (256 ^ j) 256]
    rfl
set_option maxHeartbeats 1000000 in
theorem most_any (k P : Nat) (hk : k ≤ 6) (hP : 256 ^ k = P) (w : World) :
    Calls Try.prog 93 #[.int .i64 (k : Int)] w fun e w' => e = .returned (.int .i64 ((P : Int) - 1)) ∧ w = w' := by
  have HP := hide hP
  clear hP
  go_enter Try.func93, Try.ntmps93
  go_wp2
  go_loop [3, 4] (fun n i => ∃ j : Nat, j ≤ k ∧ i = .int .i64 j ∧ n = .int .i64 ((256 ^ j : Nat) : Int)) (fun _ i => k - (intOf i).toNat)
  case atStart => exact ⟨0, Nat.zero_le _, rfl, rfl⟩
  case round =>
    obtain ⟨j, hj, rfl, rfl⟩ := hrel
    by_cases hjk : j < k
    · have hp := hide (show ((256 ^ j : Nat) : Int) * 256 = ((256 ^ (j + 1) : Nat) : Int) by rw [Nat.pow_succ]; simp)
      have hb := pow256_lt (k := j) (by omega)
      have h0 := Nat.pow_pos (n := j) (show 0 < 256 by omega)
      have hb2 := pow256_lt (k := j + 1) (by omega)
      have hb3 : (256 ^ j : Nat) ≤ 1099511627776 := by rw [Nat.pow_succ] at hb2; omega
      clear hb2 hb
      generalize hP : (256 ^ j : Nat) = P at *
      clear hP
      go_wp2
      go_round
      case rel => exact ⟨j + 1, by omega, by go_num, by rw [hp.out]⟩
      case measure => simp [intOf]; omega
    · obtain rfl : j = k := by omega
      have hb := pow256_lt (k := j) (by omega)
      have h0 := Nat.pow_pos (n := j) (show 0 < 256 by omega)
      rw [HP.out] at hb h0 ⊢
      go_wp2
      go_ret
      exact ⟨rfl, rfl⟩
theorem fitsB_nat {v : Int} {k : Nat} (h1 : 1 ≤ k) (h6 : k ≤ 6) (h0 : 0 ≤ v) : ∀ P : Nat, 256 ^ k = P → fitsB v (k : Int) = decide (v ≤ (P : Int) - 1) := by
  rintro P rfl
  have e : ((256 : Int) ^ (k : Int).toNat) = ((256 ^ k : Nat) : Int) := by simp
  rw [fitsB, e]
  by_cases h : v < ((256 ^ k : Nat) : Int)
  · rw [decide_eq_true (by omega), decide_eq_true (by omega)]
  · rw [decide_eq_false (by omega), decide_eq_false (by omega)]
set_option maxHeartbeats 1000000 in
theorem may_any (v width : Int) (w : World) :
    Calls Try.prog 88 #[.int .i64 v, .int .i64 width] w fun e w' => e = .returned (.bool (fitsB v width)) ∧ w = w' := by
  cases d1 : decide ((1 : Int) ≤ width) with
  | false =>
    have H := hide (show fitsB v width = false by have := of_decide_eq_false d1; simp [fitsB]; omega)
    go_enter Try.func88, Try.ntmps88
    go_wp2
    go_ret
    exact ⟨ret_b H.out.symm, rfl⟩
  | true =>
    cases d2 : decide (width ≤ (6 : Int)) with
    | false =>
      have H := hide (show fitsB v width = false by have := of_decide_eq_false d2; simp [fitsB]; omega)
      go_enter Try.func88, Try.ntmps88
      go_wp2
      go_ret
      exact ⟨ret_b H.out.symm, rfl⟩
    | true =>
      cases d3 : decide ((0 : Int) ≤ v) with
      | false =>
        have H := hide (show fitsB v width = false by have := of_decide_eq_false d3; simp [fitsB]; omega)
        go_enter Try.func88, Try.ntmps88
        go_wp2
        go_ret
        exact ⟨ret_b H.out.symm, rfl⟩
      | true =>
        have h1 := of_decide_eq_true d1
        have h2 := of_decide_eq_true d2
        obtain ⟨k, rfl⟩ := Int.eq_ofNat_of_zero_le (show 0 ≤ width by omega)
        obtain ⟨P, hP⟩ : ∃ P, 256 ^ k = P := ⟨_, rfl⟩
        have hP6 : P ≤ 281474976710656 := by rw [← hP]; exact pow256_lt (by omega)
        have H := hide (fitsB_nat (v := v) (k := k) (by omega) (by omega) (of_decide_eq_true d3) P hP)
        have HM := hide (most_any k P (by omega) hP)
        clear hP
        go_enter Try.func88, Try.ntmps88
        go_wp2_with (go_at_call 93; refine (HM.out _).mono ?_; rintro e w' ⟨rfl, rfl⟩)
        go_ret
        exact ⟨ret_b H.out.symm, rfl⟩
/-- What Put answers: a string. -/
def putStr (s : ByteArray) (v width : Int) : ByteArray := strOf (putB (chars s) v width)
theorem rep_set (m : Nat) (L : List UInt8) (x : UInt8) (hm : 1 ≤ m) : (List.replicate m (0 : UInt8) ++ L).set (m - 1) x = List.replicate (m - 1) 0 ++ (x :: L) := by
  obtain ⟨j, rfl⟩ : ∃ j, m = j + 1 := ⟨m - 1, by omega⟩
  rw [Nat.add_sub_cancel, List.replicate_succ', List.append_assoc, List.set_append_right _ _ (by simp)]
  simp
theorem B8_rep (k : Nat) : B8 (List.replicate k 0) = (List.replicate k [Value.int .u8 0]).flatten := by
  induction k with
  | zero => rfl
  | succ k ih => rw [List.replicate_succ, List.replicate_succ, List.flatten_cons, ← ih]; rfl
theorem u8_mod (V : Nat) : ((V : Int) % 256) = (((UInt8.ofNat (V % 256)).toNat : Nat) : Int) := by
  have h : (UInt8.ofNat (V % 256)).toNat = V % 256 := by
    rw [UInt8.toNat_ofNat_of_lt' (by show V % 256 < 256; omega)]
  rw [h]
  omega
theorem str_join (s : ByteArray) (l : List UInt8) : s ++ strOf l = strOf (chars s ++ l) := by
  apply ByteArray.ext
  simp [strOf, chars]
set_option maxRecDepth 100000 in
set_option maxHeartbeats 2000000 in
theorem refPut_any (s : ByteArray) (v width : Int) (w : World) (hs : s.size ≤ 1000) (hv : v ≤ 9223372036854775807) :
    Calls Try.prog 70 #[.string s, .int .i64 v, .int .i64 width] w fun e w' => e = .returned (.string (putStr s v width)) ∧ Below w.heap.size w w' := by
  have HMay := hide (may_any v width)
  cases hf : fitsB v width with
  | false =>
    rw [hf] at HMay
    have H := hide (show putStr s v width = s by rw [putStr, putB, hf]; apply ByteArray.ext; simp [strOf, chars])
    rw [H.out]
    go_enter Try.func70, Try.ntmps70
    go_wp2_with (go_at_call 88; refine (HMay.out _).mono ?_; rintro e w' ⟨rfl, rfl⟩)
    go_ret
    exact ⟨rfl, Below.refl _ _⟩
  | true =>
    rw [hf] at HMay
    obtain ⟨h1, h6, h0, hlt⟩ := fits_parts hf
    obtain ⟨V, rfl⟩ := Int.eq_ofNat_of_zero_le h0
    obtain ⟨k, rfl⟩ := Int.eq_ofNat_of_zero_le (show 0 ≤ width by omega)
    have H := hide (show putStr s (V : Int) (k : Int) = s ++ strOf (be k V) by rw [putStr, putB, if_pos hf, Int.toNat_natCast, Int.toNat_natCast, str_join])
    rw [H.out]
    obtain ⟨i0, hi0, hz0, hz1, hz2⟩ := info_parts u8_parts
    have hk1 : 1 ≤ k := by omega
    have hk6 : k ≤ 6 := by omega
    have hV : (V : Int) ≤ 9223372036854775807 := hv
    clear hf h1 h6 h0 hlt hv
    go_enter Try.func70, Try.ntmps70
    go_wp2_with (first
      | (go_at_call 88; refine (HMay.out _).mono ?_; rintro e w' ⟨rfl, rfl⟩)
      | (refine wpList_make_blk rfl (.tmp 14) (.tmp 14) 64 rfl 5 i0 _ [.int .u8 0] Try.underlying64 hi0 hz0 rfl hz1 (by decide) k rfl rfl (by rw [hz2]; omega) (by omega) ?_; intro w1 hb1 hl1; rw [← B8_rep] at hb1))
    have HB1 := hide hb1
    have hz1' := hb1.lt
    clear hb1
    go_loopw [1, 8] (fun s1 s8 wr => ∃ m : Nat, m ≤ k ∧ s8 = .int .i64 ((m : Int) - 1) ∧ s1 = .int .i64 ((V / 256 ^ (k - m) : Nat) : Int) ∧ Hid (Blk wr w.heap.size 5 (B8 (List.replicate m 0 ++ be (k - m) V)).toArray) ∧ Hid (Below w.heap.size w wr)) (fun _ s8 _ => (intOf s8 + 1).toNat)
    case atStart => exact ⟨k, Nat.le_refl _, rfl, by simp, by rw [Nat.sub_self]; simpa [be] using HB1, hide hl1⟩
    case round =>
      obtain ⟨m, hm, rfl, rfl, HB, HL⟩ := hrel
      by_cases hm1 : 1 ≤ m
      · have hlen : (B8 (List.replicate m 0 ++ be (k - m) V)).length = k := by rw [B8_length, List.length_append, List.length_replicate, be_length]; omega
        obtain ⟨old, hold⟩ : ∃ old, (B8 (List.replicate m 0 ++ be (k - m) V))[m - 1]? = some old := ⟨_, List.getElem?_eq_getElem (by omega)⟩
        have hc : wr.cell? ⟨w.heap.size, m - 1, none⟩ = some old := (HB.out.cell _).trans (by rw [List.getElem?_toArray]; exact hold)
        have hfz := HB.out.frozen (m - 1)
        obtain ⟨X, hX⟩ : ∃ X, X = V / 256 ^ (k - m) := ⟨_, rfl⟩
        have hXV : X ≤ V := by rw [hX]; exact Nat.div_le_self _ _
        rw [← hX]
        have hX2 := hide (show X / 256 = V / 256 ^ (k - (m - 1)) by rw [hX, Nat.div_div_eq_div_mul, show k - (m - 1) = (k - m) + 1 by omega, Nat.pow_succ])
        have hnew := hide (show Blk (wr.setCell ⟨w.heap.size, m - 1, none⟩ (.int .u8 ((X : Int) % 256))) w.heap.size 5 (B8 (List.replicate (m - 1) 0 ++ be (k - (m - 1)) V)).toArray by
          have h := HB.out.set_ (m - 1) (.int .u8 ((X : Int) % 256))
          rw [u8_mod X] at h ⊢
          rw [List.setIfInBounds_toArray] at h
          have e : (B8 (List.replicate m 0 ++ be (k - m) V)).set (m - 1) (.int .u8 (((UInt8.ofNat (X % 256)).toNat : Nat) : Int)) = B8 (List.replicate (m - 1) 0 ++ be (k - (m - 1)) V) := by
            rw [show k - (m - 1) = (k - m) + 1 by omega, be_front, ← hX, ← rep_set m _ _ hm1]
            simp [B8, List.map_set]
          rw [e] at h
          exact h)
        have hll := hide (HL.out.setCell (p := ⟨w.heap.size, m - 1, none⟩) (Nat.le_refl _) (.int .u8 ((X : Int) % 256)))
        clear hold hlen hX
        go_wp2
        go_roundw
        case rel => exact ⟨m - 1, by omega, by congr 1; omega, by rw [← hX2.out]; congr 1, hnew, hll⟩
        case measure => simp [intOf]; omega
      · obtain rfl : m = 0 := by omega
        have hr : Reads wr wr.heap.size 1 (some ⟨w.heap.size, 0, none⟩) k (B8 (be k V)) := by
          have hb := HB.out
          rw [List.replicate_zero, List.nil_append, Nat.sub_zero] at hb
          have h := hb.reads (B := wr.heap.size) (off := 0) (n := k) (xs := be k V) hb.lt (by rw [be_length]; omega)
          rwa [List.drop_zero] at h
        have hconv := run_conv_reads (P := Try.prog) wr 64 5 9 Try.underlying64 Try.underlying5 Try.underlying9 wr.heap.size (some ⟨w.heap.size, 0, none⟩) k k (be k V) hr
        rw [show (⟨(be k V).toArray⟩ : ByteArray) = strOf (be k V) from rfl] at hconv
        have hsz : (strOf (be k V)).size = k := by rw [strOf_size, be_length]
        clear hr
        go_wp2
        go_ret
        exact ⟨rfl, HL.out⟩
#print axioms refPut_any
theorem rightB_cut {l : Lab} (h1 : inB l.array 0 4294967295 = true) (h2 : inB l.gen 1 4294967295 = true) (h3 : inB l.blocks 1 96 = true) : rightB l = (membersB l.members && ownB l.members l.member) := by
  rw [rightB, h1, h2, h3]
  rfl
set_option maxRecDepth 100000 in
set_option maxHeartbeats 16000000 in
theorem refRight_any (l : Lab) (A : Option Addr) (n c : Nat) (B0 : Nat) (w : World) (hr : MbIn w B0 A n c l.members) (hB0 : B0 ≤ w.heap.size) :
    Calls Try.prog 18 #[labV l A n c] w fun e w' => e = .returned (.bool (rightB l)) ∧ Below w.heap.size w w' := by
  have HR := hide hr
  have HLen := hide hr.len
  have hnc := hr.2
  clear hr
  cases d0 : decide (l.array < 0) with
  | true =>
    have H := hide (show rightB l = false by
      have h : inB l.array 0 4294967295 = false := inB_no.2 (fun h => by have := of_decide_eq_true d0; omega)
      simp [rightB, h])
    go_enter Try.func18, Try.ntmps18
    go_wp2_with (first
      | (refine wpList_box_blk rfl 24 _ rfl (.agg (labC l A n c).toArray) rfl ?_; intro w1 hb1q hl1 hs1; clear hs1; have hb1 : Blk w1 w.heap.size 24 (labC l A n c).toArray := hb1q; clear hb1q; have y0 := lab_c0 hb1; have y1 := lab_c1 hb1; have y2 := lab_c2 hb1; have y3 := lab_c3 hb1; have y4 := lab_c4 hb1))
    go_ret
    exact ⟨ret_b H.out.symm, hl1⟩
  | false =>
    cases d1 : decide ((4294967295 : Int) < l.array) with
    | true =>
      have H := hide (show rightB l = false by
        have h : inB l.array 0 4294967295 = false := inB_no.2 (fun h => by have := of_decide_eq_true d1; omega)
        simp [rightB, h])
      go_enter Try.func18, Try.ntmps18
      go_wp2_with (first
        | (refine wpList_box_blk rfl 24 _ rfl (.agg (labC l A n c).toArray) rfl ?_; intro w1 hb1q hl1 hs1; clear hs1; have hb1 : Blk w1 w.heap.size 24 (labC l A n c).toArray := hb1q; clear hb1q; have y0 := lab_c0 hb1; have y1 := lab_c1 hb1; have y2 := lab_c2 hb1; have y3 := lab_c3 hb1; have y4 := lab_c4 hb1))
      go_ret
      exact ⟨ret_b H.out.symm, hl1⟩
    | false =>
      cases d2 : decide (l.gen < 1) with
      | true =>
        have H := hide (show rightB l = false by
          have h : inB l.gen 1 4294967295 = false := inB_no.2 (fun h => by have := of_decide_eq_true d2; omega)
          simp [rightB, h])
        go_enter Try.func18, Try.ntmps18
        go_wp2_with (first
          | (refine wpList_box_blk rfl 24 _ rfl (.agg (labC l A n c).toArray) rfl ?_; intro w1 hb1q hl1 hs1; clear hs1; have hb1 : Blk w1 w.heap.size 24 (labC l A n c).toArray := hb1q; clear hb1q; have y0 := lab_c0 hb1; have y1 := lab_c1 hb1; have y2 := lab_c2 hb1; have y3 := lab_c3 hb1; have y4 := lab_c4 hb1))
        go_ret
        exact ⟨ret_b H.out.symm, hl1⟩
      | false =>
        cases d3 : decide ((4294967295 : Int) < l.gen) with
        | true =>
          have H := hide (show rightB l = false by
            have h : inB l.gen 1 4294967295 = false := inB_no.2 (fun h => by have := of_decide_eq_true d3; omega)
            simp [rightB, h])
          go_enter Try.func18, Try.ntmps18
          go_wp2_with (first
            | (refine wpList_box_blk rfl 24 _ rfl (.agg (labC l A n c).toArray) rfl ?_; intro w1 hb1q hl1 hs1; clear hs1; have hb1 : Blk w1 w.heap.size 24 (labC l A n c).toArray := hb1q; clear hb1q; have y0 := lab_c0 hb1; have y1 := lab_c1 hb1; have y2 := lab_c2 hb1; have y3 := lab_c3 hb1; have y4 := lab_c4 hb1))
          go_ret
          exact ⟨ret_b H.out.symm, hl1⟩
        | false =>
          cases d4 : decide (l.blocks < 1) with
          | true =>
            have H := hide (show rightB l = false by
              have h : inB l.blocks 1 96 = false := inB_no.2 (fun h => by have := of_decide_eq_true d4; omega)
              simp [rightB, h])
            go_enter Try.func18, Try.ntmps18
            go_wp2_with (first
              | (refine wpList_box_blk rfl 24 _ rfl (.agg (labC l A n c).toArray) rfl ?_; intro w1 hb1q hl1 hs1; clear hs1; have hb1 : Blk w1 w.heap.size 24 (labC l A n c).toArray := hb1q; clear hb1q; have y0 := lab_c0 hb1; have y1 := lab_c1 hb1; have y2 := lab_c2 hb1; have y3 := lab_c3 hb1; have y4 := lab_c4 hb1))
            go_ret
            exact ⟨ret_b H.out.symm, hl1⟩
          | false =>
            cases d5 : decide ((96 : Int) < l.blocks) with
            | true =>
              have H := hide (show rightB l = false by
                have h : inB l.blocks 1 96 = false := inB_no.2 (fun h => by have := of_decide_eq_true d5; omega)
                simp [rightB, h])
              go_enter Try.func18, Try.ntmps18
              go_wp2_with (first
                | (refine wpList_box_blk rfl 24 _ rfl (.agg (labC l A n c).toArray) rfl ?_; intro w1 hb1q hl1 hs1; clear hs1; have hb1 : Blk w1 w.heap.size 24 (labC l A n c).toArray := hb1q; clear hb1q; have y0 := lab_c0 hb1; have y1 := lab_c1 hb1; have y2 := lab_c2 hb1; have y3 := lab_c3 hb1; have y4 := lab_c4 hb1))
              go_ret
              exact ⟨ret_b H.out.symm, hl1⟩
            | false =>
              cases d6 : decide ((n : Int) < 3) with
              | true =>
                have H := hide (show rightB l = false by
                  have h : membersB l.members = false := by
                    have h : inB (l.members.length : Int) 3 12 = false := inB_no.2 (fun h => by have := of_decide_eq_true d6; have := HLen.out; omega)
                    rw [membersB, h]
                    rfl
                  simp [rightB, h])
                go_enter Try.func18, Try.ntmps18
                go_wp2_with (first
                  | (refine wpList_box_blk rfl 24 _ rfl (.agg (labC l A n c).toArray) rfl ?_; intro w1 hb1q hl1 hs1; clear hs1; have hb1 : Blk w1 w.heap.size 24 (labC l A n c).toArray := hb1q; clear hb1q; have y0 := lab_c0 hb1; have y1 := lab_c1 hb1; have y2 := lab_c2 hb1; have y3 := lab_c3 hb1; have y4 := lab_c4 hb1))
                go_ret
                exact ⟨ret_b H.out.symm, hl1⟩
              | false =>
                cases d7 : decide ((12 : Int) < (n : Int)) with
                | true =>
                  have H := hide (show rightB l = false by
                    have h : membersB l.members = false := by
                      have h : inB (l.members.length : Int) 3 12 = false := inB_no.2 (fun h => by have := of_decide_eq_true d7; have := HLen.out; omega)
                      rw [membersB, h]
                      rfl
                    simp [rightB, h])
                  go_enter Try.func18, Try.ntmps18
                  go_wp2_with (first
                    | (refine wpList_box_blk rfl 24 _ rfl (.agg (labC l A n c).toArray) rfl ?_; intro w1 hb1q hl1 hs1; clear hs1; have hb1 : Blk w1 w.heap.size 24 (labC l A n c).toArray := hb1q; clear hb1q; have y0 := lab_c0 hb1; have y1 := lab_c1 hb1; have y2 := lab_c2 hb1; have y3 := lab_c3 hb1; have y4 := lab_c4 hb1))
                  go_ret
                  exact ⟨ret_b H.out.symm, hl1⟩
                | false =>
                  have k1 : inB l.array 0 4294967295 = true := inB_iff.2 ⟨by have := of_decide_eq_false d0; omega, by have := of_decide_eq_false d1; omega⟩
                  have k2 : inB l.gen 1 4294967295 = true := inB_iff.2 ⟨by have := of_decide_eq_false d2; omega, by have := of_decide_eq_false d3; omega⟩
                  have k3 : inB l.blocks 1 96 = true := inB_iff.2 ⟨by have := of_decide_eq_false d4; omega, by have := of_decide_eq_false d5; omega⟩
                  have k4 : inB (l.members.length : Int) 3 12 = true := inB_iff.2 ⟨by have := of_decide_eq_false d6; have := HLen.out; omega, by have := of_decide_eq_false d7; have := HLen.out; omega⟩
                  have HRB := hide (rightB_cut k1 k2 k3)
                  have HT0 := hide (told_zero l.members l.member)
                  rw [k4] at HT0
                  clear k1 k2 k3 k4
                  go_enter Try.func18, Try.ntmps18
                  go_wp2_with (first
                    | (refine wpList_box_blk rfl 24 _ rfl (.agg (labC l A n c).toArray) rfl ?_; intro w1 hb1q hl1 hs1; clear hs1; have hb1 : Blk w1 w.heap.size 24 (labC l A n c).toArray := hb1q; clear hb1q; have y0 := lab_c0 hb1; have y1 := lab_c1 hb1; have y2 := lab_c2 hb1; have y3 := lab_c3 hb1; have y4 := lab_c4 hb1))
                  have HB1 := hide hb1
                  have HM1 := hide (HR.out.below (hl1.mono hB0))
                  have hz1 := hb1.lt
                  clear hb1 y0 y1 y2 y3 y4
                  go_loopw [3, 4, 5] (fun s3 s4 _ wr => ∃ (k : Nat) (yes : Bool), k ≤ n ∧ s4 = .int .i64 (k : Int) ∧ s3 = .bool yes ∧ Hid (Told l.members l.member k true yes) ∧ Hid (Below w1.heap.size w1 wr)) (fun _ s4 _ _ => n - (intOf s4).toNat)
                  case atStart => exact ⟨0, _, Nat.zero_le _, rfl, rfl, HT0, hide (Below.refl _ _)⟩
                  case round =>
                    obtain ⟨k, yes, hk, rfl, rfl, HT, hb3⟩ := hrel
                    have HBr := hide (HB1.out.below hb3.out hz1)
                    have y4 := lab_c4 HBr.out
                    have hz3 := hb3.out.size
                    by_cases hkn : k < n
                    · obtain ⟨ad, mb, rfl, hab, hmk, hcs⟩ := (HM1.out.below (hb3.out.mono (by omega))).at_ hkn
                      have HS := hide hcs
                      have HMK := hide hmk
                      clear hmk hcs
                      cases e0 : decide (mb.1 < 0) with
                      | true =>
                        have HN := hide (show rightB l = false by
                          have h := (HT.out.no HMK.out (fun _ h => by have := HT.out.low rfl; have := of_decide_eq_true e0; omega)).right
                          rw [HRB.out, h]
                          rfl)
                        go_wp2_with (first
                          | (refine wpList_load_at rfl 62 (.tmp 56) rfl (ad.add (k * 3)) rfl (mbC mb) _ HS.out Try.underlying62 rfl mb_info ?_)
                          | (refine wpList_alloc_blk rfl 62 rfl _ (mb_zero _) ?_; intro w5 ha5 hl5 hs5; clear hs5)
                          | (refine wpList_store_all rfl 62 (.tmp 5) (.tmp 57) rfl wr.heap.size 62 _ ha5 rfl (mbC mb) rfl mb_info rfl (mbC_one _) ?_; intro w6 hc6 hg6 hs6; clear hs6))
                        have hl6 : Below wr.heap.size wr w6 := hl5.grown hg6 (by have := hl5.size; omega) (fun g e => by injection e with e; omega)
                        have x0 : w6.cell? ⟨wr.heap.size, 0, none⟩ = some (.int .i64 mb.1) := hc6.cell 0
                        have x1 : w6.cell? ⟨wr.heap.size, 1, none⟩ = some (.int .i64 mb.2.1) := hc6.cell 1
                        have x2 : w6.cell? ⟨wr.heap.size, 2, none⟩ = some (.int .i64 mb.2.2) := hc6.cell 2
                        have HB6 := hide (HBr.out.below hl6 (by omega))
                        have z4 := lab_c4 HB6.out
                        have z2 := lab_c2 HB6.out
                        have HL6 := hide (hb3.out.trans (hl6.mono hz3))
                        clear hc6 hg6 ha5 hl5 y4
                        simp only [Act.put, List.setIfInBounds_toArray, List.set_cons_succ, List.set_cons_zero]
                        refine wp_region_quiet_lit (by kernel_rfl) (by kernel_rfl) ?_
                        iterate 44 (go_big_quiet_step (fail))
                        refine wpQuiet_nil ?_
                        rintro w7 ⟨q1, rfl⟩
                        go_wp2
                        go_ret
                        exact ⟨ret_b HN.out.symm, hl1.trans ((below_drewN HL6.out _).mono (by omega))⟩
                      | false =>
                        cases e1 : decide ((31 : Int) < mb.1) with
                        | true =>
                          have HN := hide (show rightB l = false by
                            have h := (HT.out.no HMK.out (fun _ h => by have := of_decide_eq_true e1; omega)).right
                            rw [HRB.out, h]
                            rfl)
                          go_wp2_with (first
                            | (refine wpList_load_at rfl 62 (.tmp 56) rfl (ad.add (k * 3)) rfl (mbC mb) _ HS.out Try.underlying62 rfl mb_info ?_)
                            | (refine wpList_alloc_blk rfl 62 rfl _ (mb_zero _) ?_; intro w5 ha5 hl5 hs5; clear hs5)
                            | (refine wpList_store_all rfl 62 (.tmp 5) (.tmp 57) rfl wr.heap.size 62 _ ha5 rfl (mbC mb) rfl mb_info rfl (mbC_one _) ?_; intro w6 hc6 hg6 hs6; clear hs6))
                          have hl6 : Below wr.heap.size wr w6 := hl5.grown hg6 (by have := hl5.size; omega) (fun g e => by injection e with e; omega)
                          have x0 : w6.cell? ⟨wr.heap.size, 0, none⟩ = some (.int .i64 mb.1) := hc6.cell 0
                          have x1 : w6.cell? ⟨wr.heap.size, 1, none⟩ = some (.int .i64 mb.2.1) := hc6.cell 1
                          have x2 : w6.cell? ⟨wr.heap.size, 2, none⟩ = some (.int .i64 mb.2.2) := hc6.cell 2
                          have HB6 := hide (HBr.out.below hl6 (by omega))
                          have z4 := lab_c4 HB6.out
                          have z2 := lab_c2 HB6.out
                          have HL6 := hide (hb3.out.trans (hl6.mono hz3))
                          clear hc6 hg6 ha5 hl5 y4
                          simp only [Act.put, List.setIfInBounds_toArray, List.set_cons_succ, List.set_cons_zero]
                          refine wp_region_quiet_lit (by kernel_rfl) (by kernel_rfl) ?_
                          iterate 44 (go_big_quiet_step (fail))
                          refine wpQuiet_nil ?_
                          rintro w7 ⟨q1, rfl⟩
                          go_wp2
                          go_ret
                          exact ⟨ret_b HN.out.symm, hl1.trans ((below_drewN HL6.out _).mono (by omega))⟩
                        | false =>
                          by_cases hk0 : k = 0
                          · have hk0I : decide (0 < k) = false := by simp [hk0]
                            have hlast : lastOf l.members k = -1 := by rw [hk0]; rfl
                            have HLS := hide hlast
                            clear hk0 hlast
                            cases e2 : decide (mb.2.1 < 160) with
                            | true =>
                              have HN := hide (show rightB l = false by
                                have h := (HT.out.no HMK.out (fun _ h => by have := of_decide_eq_true e2; omega)).right
                                rw [HRB.out, h]
                                rfl)
                              go_wp2_with (first
                                | (refine wpList_load_at rfl 62 (.tmp 56) rfl (ad.add (k * 3)) rfl (mbC mb) _ HS.out Try.underlying62 rfl mb_info ?_)
                                | (refine wpList_alloc_blk rfl 62 rfl _ (mb_zero _) ?_; intro w5 ha5 hl5 hs5; clear hs5)
                                | (refine wpList_store_all rfl 62 (.tmp 5) (.tmp 57) rfl wr.heap.size 62 _ ha5 rfl (mbC mb) rfl mb_info rfl (mbC_one _) ?_; intro w6 hc6 hg6 hs6; clear hs6))
                              have hl6 : Below wr.heap.size wr w6 := hl5.grown hg6 (by have := hl5.size; omega) (fun g e => by injection e with e; omega)
                              have x0 : w6.cell? ⟨wr.heap.size, 0, none⟩ = some (.int .i64 mb.1) := hc6.cell 0
                              have x1 : w6.cell? ⟨wr.heap.size, 1, none⟩ = some (.int .i64 mb.2.1) := hc6.cell 1
                              have x2 : w6.cell? ⟨wr.heap.size, 2, none⟩ = some (.int .i64 mb.2.2) := hc6.cell 2
                              have HB6 := hide (HBr.out.below hl6 (by omega))
                              have z4 := lab_c4 HB6.out
                              have z2 := lab_c2 HB6.out
                              have HL6 := hide (hb3.out.trans (hl6.mono hz3))
                              clear hc6 hg6 ha5 hl5 y4
                              simp only [Act.put, List.setIfInBounds_toArray, List.set_cons_succ, List.set_cons_zero]
                              refine wp_region_quiet_lit (by kernel_rfl) (by kernel_rfl) ?_
                              iterate 44 (go_big_quiet_step (fail))
                              refine wpQuiet_nil ?_
                              rintro w7 ⟨q1, rfl⟩
                              go_wp2
                              go_ret
                              exact ⟨ret_b HN.out.symm, hl1.trans ((below_drewN HL6.out _).mono (by omega))⟩
                            | false =>
                              cases e3 : decide ((4096 : Int) < mb.2.1) with
                              | true =>
                                have HN := hide (show rightB l = false by
                                  have h := (HT.out.no HMK.out (fun _ h => by have := of_decide_eq_true e3; omega)).right
                                  rw [HRB.out, h]
                                  rfl)
                                go_wp2_with (first
                                  | (refine wpList_load_at rfl 62 (.tmp 56) rfl (ad.add (k * 3)) rfl (mbC mb) _ HS.out Try.underlying62 rfl mb_info ?_)
                                  | (refine wpList_alloc_blk rfl 62 rfl _ (mb_zero _) ?_; intro w5 ha5 hl5 hs5; clear hs5)
                                  | (refine wpList_store_all rfl 62 (.tmp 5) (.tmp 57) rfl wr.heap.size 62 _ ha5 rfl (mbC mb) rfl mb_info rfl (mbC_one _) ?_; intro w6 hc6 hg6 hs6; clear hs6))
                                have hl6 : Below wr.heap.size wr w6 := hl5.grown hg6 (by have := hl5.size; omega) (fun g e => by injection e with e; omega)
                                have x0 : w6.cell? ⟨wr.heap.size, 0, none⟩ = some (.int .i64 mb.1) := hc6.cell 0
                                have x1 : w6.cell? ⟨wr.heap.size, 1, none⟩ = some (.int .i64 mb.2.1) := hc6.cell 1
                                have x2 : w6.cell? ⟨wr.heap.size, 2, none⟩ = some (.int .i64 mb.2.2) := hc6.cell 2
                                have HB6 := hide (HBr.out.below hl6 (by omega))
                                have z4 := lab_c4 HB6.out
                                have z2 := lab_c2 HB6.out
                                have HL6 := hide (hb3.out.trans (hl6.mono hz3))
                                clear hc6 hg6 ha5 hl5 y4
                                simp only [Act.put, List.setIfInBounds_toArray, List.set_cons_succ, List.set_cons_zero]
                                refine wp_region_quiet_lit (by kernel_rfl) (by kernel_rfl) ?_
                                iterate 44 (go_big_quiet_step (fail))
                                refine wpQuiet_nil ?_
                                rintro w7 ⟨q1, rfl⟩
                                go_wp2
                                go_ret
                                exact ⟨ret_b HN.out.symm, hl1.trans ((below_drewN HL6.out _).mono (by omega))⟩
                              | false =>
                                cases e4 : decide (mb.2.2 < 0) with
                                | true =>
                                  have HN := hide (show rightB l = false by
                                    have h := (HT.out.no HMK.out (fun _ h => by have := of_decide_eq_true e4; omega)).right
                                    rw [HRB.out, h]
                                    rfl)
                                  go_wp2_with (first
                                    | (refine wpList_load_at rfl 62 (.tmp 56) rfl (ad.add (k * 3)) rfl (mbC mb) _ HS.out Try.underlying62 rfl mb_info ?_)
                                    | (refine wpList_alloc_blk rfl 62 rfl _ (mb_zero _) ?_; intro w5 ha5 hl5 hs5; clear hs5)
                                    | (refine wpList_store_all rfl 62 (.tmp 5) (.tmp 57) rfl wr.heap.size 62 _ ha5 rfl (mbC mb) rfl mb_info rfl (mbC_one _) ?_; intro w6 hc6 hg6 hs6; clear hs6))
                                  have hl6 : Below wr.heap.size wr w6 := hl5.grown hg6 (by have := hl5.size; omega) (fun g e => by injection e with e; omega)
                                  have x0 : w6.cell? ⟨wr.heap.size, 0, none⟩ = some (.int .i64 mb.1) := hc6.cell 0
                                  have x1 : w6.cell? ⟨wr.heap.size, 1, none⟩ = some (.int .i64 mb.2.1) := hc6.cell 1
                                  have x2 : w6.cell? ⟨wr.heap.size, 2, none⟩ = some (.int .i64 mb.2.2) := hc6.cell 2
                                  have HB6 := hide (HBr.out.below hl6 (by omega))
                                  have z4 := lab_c4 HB6.out
                                  have z2 := lab_c2 HB6.out
                                  have HL6 := hide (hb3.out.trans (hl6.mono hz3))
                                  clear hc6 hg6 ha5 hl5 y4
                                  simp only [Act.put, List.setIfInBounds_toArray, List.set_cons_succ, List.set_cons_zero]
                                  refine wp_region_quiet_lit (by kernel_rfl) (by kernel_rfl) ?_
                                  iterate 44 (go_big_quiet_step (fail))
                                  refine wpQuiet_nil ?_
                                  rintro w7 ⟨q1, rfl⟩
                                  go_wp2
                                  go_ret
                                  exact ⟨ret_b HN.out.symm, hl1.trans ((below_drewN HL6.out _).mono (by omega))⟩
                                | false =>
                                  cases e5 : decide ((2 : Int) < mb.2.2) with
                                  | true =>
                                    have HN := hide (show rightB l = false by
                                      have h := (HT.out.no HMK.out (fun _ h => by have := of_decide_eq_true e5; omega)).right
                                      rw [HRB.out, h]
                                      rfl)
                                    go_wp2_with (first
                                      | (refine wpList_load_at rfl 62 (.tmp 56) rfl (ad.add (k * 3)) rfl (mbC mb) _ HS.out Try.underlying62 rfl mb_info ?_)
                                      | (refine wpList_alloc_blk rfl 62 rfl _ (mb_zero _) ?_; intro w5 ha5 hl5 hs5; clear hs5)
                                      | (refine wpList_store_all rfl 62 (.tmp 5) (.tmp 57) rfl wr.heap.size 62 _ ha5 rfl (mbC mb) rfl mb_info rfl (mbC_one _) ?_; intro w6 hc6 hg6 hs6; clear hs6))
                                    have hl6 : Below wr.heap.size wr w6 := hl5.grown hg6 (by have := hl5.size; omega) (fun g e => by injection e with e; omega)
                                    have x0 : w6.cell? ⟨wr.heap.size, 0, none⟩ = some (.int .i64 mb.1) := hc6.cell 0
                                    have x1 : w6.cell? ⟨wr.heap.size, 1, none⟩ = some (.int .i64 mb.2.1) := hc6.cell 1
                                    have x2 : w6.cell? ⟨wr.heap.size, 2, none⟩ = some (.int .i64 mb.2.2) := hc6.cell 2
                                    have HB6 := hide (HBr.out.below hl6 (by omega))
                                    have z4 := lab_c4 HB6.out
                                    have z2 := lab_c2 HB6.out
                                    have HL6 := hide (hb3.out.trans (hl6.mono hz3))
                                    clear hc6 hg6 ha5 hl5 y4
                                    simp only [Act.put, List.setIfInBounds_toArray, List.set_cons_succ, List.set_cons_zero]
                                    refine wp_region_quiet_lit (by kernel_rfl) (by kernel_rfl) ?_
                                    iterate 44 (go_big_quiet_step (fail))
                                    refine wpQuiet_nil ?_
                                    rintro w7 ⟨q1, rfl⟩
                                    go_wp2
                                    go_ret
                                    exact ⟨ret_b HN.out.symm, hl1.trans ((below_drewN HL6.out _).mono (by omega))⟩
                                  | false =>
                                    have HT2 := hide (HT.out.yes_ HMK.out ⟨⟨by rw [HLS.out]; have := of_decide_eq_false e0; omega, by have := of_decide_eq_false e1; omega⟩, ⟨by have := of_decide_eq_false e2; omega, by have := of_decide_eq_false e3; omega⟩, by have := of_decide_eq_false e4; omega, by have := of_decide_eq_false e5; omega⟩)
                                    go_wp2_with (first
                                      | (refine wpList_load_at rfl 62 (.tmp 56) rfl (ad.add (k * 3)) rfl (mbC mb) _ HS.out Try.underlying62 rfl mb_info ?_)
                                      | (refine wpList_alloc_blk rfl 62 rfl _ (mb_zero _) ?_; intro w5 ha5 hl5 hs5; clear hs5)
                                      | (refine wpList_store_all rfl 62 (.tmp 5) (.tmp 57) rfl wr.heap.size 62 _ ha5 rfl (mbC mb) rfl mb_info rfl (mbC_one _) ?_; intro w6 hc6 hg6 hs6; clear hs6))
                                    have hl6 : Below wr.heap.size wr w6 := hl5.grown hg6 (by have := hl5.size; omega) (fun g e => by injection e with e; omega)
                                    have x0 : w6.cell? ⟨wr.heap.size, 0, none⟩ = some (.int .i64 mb.1) := hc6.cell 0
                                    have x1 : w6.cell? ⟨wr.heap.size, 1, none⟩ = some (.int .i64 mb.2.1) := hc6.cell 1
                                    have x2 : w6.cell? ⟨wr.heap.size, 2, none⟩ = some (.int .i64 mb.2.2) := hc6.cell 2
                                    have HB6 := hide (HBr.out.below hl6 (by omega))
                                    have z4 := lab_c4 HB6.out
                                    have z2 := lab_c2 HB6.out
                                    have HL6 := hide (hb3.out.trans (hl6.mono hz3))
                                    clear hc6 hg6 ha5 hl5 y4
                                    simp only [Act.put, List.setIfInBounds_toArray, List.set_cons_succ, List.set_cons_zero]
                                    refine wp_region_quiet_lit (by kernel_rfl) (by kernel_rfl) ?_
                                    iterate 44 (go_big_quiet_step (fail))
                                    refine wpQuiet_nil ?_
                                    rintro w7 ⟨q1, rfl⟩
                                    cases yes with
                                    | false =>
                                      rw [Bool.false_or] at HT2
                                      go_wp2
                                      go_roundw
                                      case rel => exact ⟨k + 1, _, by omega, by go_num, rfl, HT2, hide (below_drewN HL6.out _)⟩
                                      case measure => simp [intOf]; omega
                                    | true =>
                                      rw [Bool.true_or] at HT2
                                      go_wp2
                                      go_roundw
                                      case rel => exact ⟨k + 1, _, by omega, by go_num, rfl, HT2, hide (below_drewN HL6.out _)⟩
                                      case measure => simp [intOf]; omega
                          · obtain ⟨ad2, mp, e2q, _, hmp, hcp⟩ := (HM1.out.below (hb3.out.mono (by omega))).at_ (k := k - 1) (by omega)
                            obtain rfl : ad = ad2 := Option.some.inj e2q
                            have hk0I : decide ((0 : Int) < (k : Int)) = true := by simp; omega
                            have hk1 : 0 < k := by omega
                            have hlast : lastOf l.members k = mp.1 := by unfold lastOf; rw [if_neg hk0, hmp]; rfl
                            have HLS := hide hlast
                            have HCP := hide (fun w6 (hl6 : Below wr.heap.size wr w6) => ((hl6.cell (p := (ad.add ((k - 1) * 3)).add 0) (by rw [block_of_add, block_of_add]; omega)).trans (hcp 0 (.int .i64 mp.1) rfl)))
                            clear hmp hcp hlast e2q hk0
                            cases e6 : decide (mb.1 ≤ mp.1) with
                            | true =>
                              have HN := hide (show rightB l = false by
                                have h := (HT.out.no HMK.out (fun _ h => by have := HLS.out; have := of_decide_eq_true e6; omega)).right
                                rw [HRB.out, h]
                                rfl)
                              go_wp2_with (first
                                | (refine wpList_load_at rfl 62 (.tmp 56) rfl (ad.add (k * 3)) rfl (mbC mb) _ HS.out Try.underlying62 rfl mb_info ?_)
                                | (refine wpList_alloc_blk rfl 62 rfl _ (mb_zero _) ?_; intro w5 ha5 hl5 hs5; clear hs5)
                                | (refine wpList_store_all rfl 62 (.tmp 5) (.tmp 57) rfl wr.heap.size 62 _ ha5 rfl (mbC mb) rfl mb_info rfl (mbC_one _) ?_; intro w6 hc6 hg6 hs6; clear hs6))
                              have hl6 : Below wr.heap.size wr w6 := hl5.grown hg6 (by have := hl5.size; omega) (fun g e => by injection e with e; omega)
                              have x0 : w6.cell? ⟨wr.heap.size, 0, none⟩ = some (.int .i64 mb.1) := hc6.cell 0
                              have x1 : w6.cell? ⟨wr.heap.size, 1, none⟩ = some (.int .i64 mb.2.1) := hc6.cell 1
                              have x2 : w6.cell? ⟨wr.heap.size, 2, none⟩ = some (.int .i64 mb.2.2) := hc6.cell 2
                              have HB6 := hide (HBr.out.below hl6 (by omega))
                              have z4 := lab_c4 HB6.out
                              have z2 := lab_c2 HB6.out
                              have HL6 := hide (hb3.out.trans (hl6.mono hz3))
                              clear hc6 hg6 ha5 hl5 y4
                              have x9 : w6.cell? (ad.add ((k - 1) * 3)) = some (.int .i64 mp.1) := HCP.out w6 hl6
                              simp only [Act.put, List.setIfInBounds_toArray, List.set_cons_succ, List.set_cons_zero]
                              refine wp_region_quiet_lit (by kernel_rfl) (by kernel_rfl) ?_
                              iterate 44 (go_big_quiet_step (fail))
                              refine wpQuiet_nil ?_
                              rintro w7 ⟨q1, rfl⟩
                              go_wp2
                              go_ret
                              exact ⟨ret_b HN.out.symm, hl1.trans ((below_drewN HL6.out _).mono (by omega))⟩
                            | false =>
                              cases e2 : decide (mb.2.1 < 160) with
                              | true =>
                                have HN := hide (show rightB l = false by
                                  have h := (HT.out.no HMK.out (fun _ h => by have := of_decide_eq_true e2; omega)).right
                                  rw [HRB.out, h]
                                  rfl)
                                go_wp2_with (first
                                  | (refine wpList_load_at rfl 62 (.tmp 56) rfl (ad.add (k * 3)) rfl (mbC mb) _ HS.out Try.underlying62 rfl mb_info ?_)
                                  | (refine wpList_alloc_blk rfl 62 rfl _ (mb_zero _) ?_; intro w5 ha5 hl5 hs5; clear hs5)
                                  | (refine wpList_store_all rfl 62 (.tmp 5) (.tmp 57) rfl wr.heap.size 62 _ ha5 rfl (mbC mb) rfl mb_info rfl (mbC_one _) ?_; intro w6 hc6 hg6 hs6; clear hs6))
                                have hl6 : Below wr.heap.size wr w6 := hl5.grown hg6 (by have := hl5.size; omega) (fun g e => by injection e with e; omega)
                                have x0 : w6.cell? ⟨wr.heap.size, 0, none⟩ = some (.int .i64 mb.1) := hc6.cell 0
                                have x1 : w6.cell? ⟨wr.heap.size, 1, none⟩ = some (.int .i64 mb.2.1) := hc6.cell 1
                                have x2 : w6.cell? ⟨wr.heap.size, 2, none⟩ = some (.int .i64 mb.2.2) := hc6.cell 2
                                have HB6 := hide (HBr.out.below hl6 (by omega))
                                have z4 := lab_c4 HB6.out
                                have z2 := lab_c2 HB6.out
                                have HL6 := hide (hb3.out.trans (hl6.mono hz3))
                                clear hc6 hg6 ha5 hl5 y4
                                have x9 : w6.cell? (ad.add ((k - 1) * 3)) = some (.int .i64 mp.1) := HCP.out w6 hl6
                                simp only [Act.put, List.setIfInBounds_toArray, List.set_cons_succ, List.set_cons_zero]
                                refine wp_region_quiet_lit (by kernel_rfl) (by kernel_rfl) ?_
                                iterate 44 (go_big_quiet_step (fail))
                                refine wpQuiet_nil ?_
                                rintro w7 ⟨q1, rfl⟩
                                go_wp2
                                go_ret
                                exact ⟨ret_b HN.out.symm, hl1.trans ((below_drewN HL6.out _).mono (by omega))⟩
                              | false =>
                                cases e3 : decide ((4096 : Int) < mb.2.1) with
                                | true =>
                                  have HN := hide (show rightB l = false by
                                    have h := (HT.out.no HMK.out (fun _ h => by have := of_decide_eq_true e3; omega)).right
                                    rw [HRB.out, h]
                                    rfl)
                                  go_wp2_with (first
                                    | (refine wpList_load_at rfl 62 (.tmp 56) rfl (ad.add (k * 3)) rfl (mbC mb) _ HS.out Try.underlying62 rfl mb_info ?_)
                                    | (refine wpList_alloc_blk rfl 62 rfl _ (mb_zero _) ?_; intro w5 ha5 hl5 hs5; clear hs5)
                                    | (refine wpList_store_all rfl 62 (.tmp 5) (.tmp 57) rfl wr.heap.size 62 _ ha5 rfl (mbC mb) rfl mb_info rfl (mbC_one _) ?_; intro w6 hc6 hg6 hs6; clear hs6))
                                  have hl6 : Below wr.heap.size wr w6 := hl5.grown hg6 (by have := hl5.size; omega) (fun g e => by injection e with e; omega)
                                  have x0 : w6.cell? ⟨wr.heap.size, 0, none⟩ = some (.int .i64 mb.1) := hc6.cell 0
                                  have x1 : w6.cell? ⟨wr.heap.size, 1, none⟩ = some (.int .i64 mb.2.1) := hc6.cell 1
                                  have x2 : w6.cell? ⟨wr.heap.size, 2, none⟩ = some (.int .i64 mb.2.2) := hc6.cell 2
                                  have HB6 := hide (HBr.out.below hl6 (by omega))
                                  have z4 := lab_c4 HB6.out
                                  have z2 := lab_c2 HB6.out
                                  have HL6 := hide (hb3.out.trans (hl6.mono hz3))
                                  clear hc6 hg6 ha5 hl5 y4
                                  have x9 : w6.cell? (ad.add ((k - 1) * 3)) = some (.int .i64 mp.1) := HCP.out w6 hl6
                                  simp only [Act.put, List.setIfInBounds_toArray, List.set_cons_succ, List.set_cons_zero]
                                  refine wp_region_quiet_lit (by kernel_rfl) (by kernel_rfl) ?_
                                  iterate 44 (go_big_quiet_step (fail))
                                  refine wpQuiet_nil ?_
                                  rintro w7 ⟨q1, rfl⟩
                                  go_wp2
                                  go_ret
                                  exact ⟨ret_b HN.out.symm, hl1.trans ((below_drewN HL6.out _).mono (by omega))⟩
                                | false =>
                                  cases e4 : decide (mb.2.2 < 0) with
                                  | true =>
                                    have HN := hide (show rightB l = false by
                                      have h := (HT.out.no HMK.out (fun _ h => by have := of_decide_eq_true e4; omega)).right
                                      rw [HRB.out, h]
                                      rfl)
                                    go_wp2_with (first
                                      | (refine wpList_load_at rfl 62 (.tmp 56) rfl (ad.add (k * 3)) rfl (mbC mb) _ HS.out Try.underlying62 rfl mb_info ?_)
                                      | (refine wpList_alloc_blk rfl 62 rfl _ (mb_zero _) ?_; intro w5 ha5 hl5 hs5; clear hs5)
                                      | (refine wpList_store_all rfl 62 (.tmp 5) (.tmp 57) rfl wr.heap.size 62 _ ha5 rfl (mbC mb) rfl mb_info rfl (mbC_one _) ?_; intro w6 hc6 hg6 hs6; clear hs6))
                                    have hl6 : Below wr.heap.size wr w6 := hl5.grown hg6 (by have := hl5.size; omega) (fun g e => by injection e with e; omega)
                                    have x0 : w6.cell? ⟨wr.heap.size, 0, none⟩ = some (.int .i64 mb.1) := hc6.cell 0
                                    have x1 : w6.cell? ⟨wr.heap.size, 1, none⟩ = some (.int .i64 mb.2.1) := hc6.cell 1
                                    have x2 : w6.cell? ⟨wr.heap.size, 2, none⟩ = some (.int .i64 mb.2.2) := hc6.cell 2
                                    have HB6 := hide (HBr.out.below hl6 (by omega))
                                    have z4 := lab_c4 HB6.out
                                    have z2 := lab_c2 HB6.out
                                    have HL6 := hide (hb3.out.trans (hl6.mono hz3))
                                    clear hc6 hg6 ha5 hl5 y4
                                    have x9 : w6.cell? (ad.add ((k - 1) * 3)) = some (.int .i64 mp.1) := HCP.out w6 hl6
                                    simp only [Act.put, List.setIfInBounds_toArray, List.set_cons_succ, List.set_cons_zero]
                                    refine wp_region_quiet_lit (by kernel_rfl) (by kernel_rfl) ?_
                                    iterate 44 (go_big_quiet_step (fail))
                                    refine wpQuiet_nil ?_
                                    rintro w7 ⟨q1, rfl⟩
                                    go_wp2
                                    go_ret
                                    exact ⟨ret_b HN.out.symm, hl1.trans ((below_drewN HL6.out _).mono (by omega))⟩
                                  | false =>
                                    cases e5 : decide ((2 : Int) < mb.2.2) with
                                    | true =>
                                      have HN := hide (show rightB l = false by
                                        have h := (HT.out.no HMK.out (fun _ h => by have := of_decide_eq_true e5; omega)).right
                                        rw [HRB.out, h]
                                        rfl)
                                      go_wp2_with (first
                                        | (refine wpList_load_at rfl 62 (.tmp 56) rfl (ad.add (k * 3)) rfl (mbC mb) _ HS.out Try.underlying62 rfl mb_info ?_)
                                        | (refine wpList_alloc_blk rfl 62 rfl _ (mb_zero _) ?_; intro w5 ha5 hl5 hs5; clear hs5)
                                        | (refine wpList_store_all rfl 62 (.tmp 5) (.tmp 57) rfl wr.heap.size 62 _ ha5 rfl (mbC mb) rfl mb_info rfl (mbC_one _) ?_; intro w6 hc6 hg6 hs6; clear hs6))
                                      have hl6 : Below wr.heap.size wr w6 := hl5.grown hg6 (by have := hl5.size; omega) (fun g e => by injection e with e; omega)
                                      have x0 : w6.cell? ⟨wr.heap.size, 0, none⟩ = some (.int .i64 mb.1) := hc6.cell 0
                                      have x1 : w6.cell? ⟨wr.heap.size, 1, none⟩ = some (.int .i64 mb.2.1) := hc6.cell 1
                                      have x2 : w6.cell? ⟨wr.heap.size, 2, none⟩ = some (.int .i64 mb.2.2) := hc6.cell 2
                                      have HB6 := hide (HBr.out.below hl6 (by omega))
                                      have z4 := lab_c4 HB6.out
                                      have z2 := lab_c2 HB6.out
                                      have HL6 := hide (hb3.out.trans (hl6.mono hz3))
                                      clear hc6 hg6 ha5 hl5 y4
                                      have x9 : w6.cell? (ad.add ((k - 1) * 3)) = some (.int .i64 mp.1) := HCP.out w6 hl6
                                      simp only [Act.put, List.setIfInBounds_toArray, List.set_cons_succ, List.set_cons_zero]
                                      refine wp_region_quiet_lit (by kernel_rfl) (by kernel_rfl) ?_
                                      iterate 44 (go_big_quiet_step (fail))
                                      refine wpQuiet_nil ?_
                                      rintro w7 ⟨q1, rfl⟩
                                      go_wp2
                                      go_ret
                                      exact ⟨ret_b HN.out.symm, hl1.trans ((below_drewN HL6.out _).mono (by omega))⟩
                                    | false =>
                                      have HT2 := hide (HT.out.yes_ HMK.out ⟨⟨by have := HLS.out; have := of_decide_eq_false e6; omega, by have := of_decide_eq_false e1; omega⟩, ⟨by have := of_decide_eq_false e2; omega, by have := of_decide_eq_false e3; omega⟩, by have := of_decide_eq_false e4; omega, by have := of_decide_eq_false e5; omega⟩)
                                      go_wp2_with (first
                                        | (refine wpList_load_at rfl 62 (.tmp 56) rfl (ad.add (k * 3)) rfl (mbC mb) _ HS.out Try.underlying62 rfl mb_info ?_)
                                        | (refine wpList_alloc_blk rfl 62 rfl _ (mb_zero _) ?_; intro w5 ha5 hl5 hs5; clear hs5)
                                        | (refine wpList_store_all rfl 62 (.tmp 5) (.tmp 57) rfl wr.heap.size 62 _ ha5 rfl (mbC mb) rfl mb_info rfl (mbC_one _) ?_; intro w6 hc6 hg6 hs6; clear hs6))
                                      have hl6 : Below wr.heap.size wr w6 := hl5.grown hg6 (by have := hl5.size; omega) (fun g e => by injection e with e; omega)
                                      have x0 : w6.cell? ⟨wr.heap.size, 0, none⟩ = some (.int .i64 mb.1) := hc6.cell 0
                                      have x1 : w6.cell? ⟨wr.heap.size, 1, none⟩ = some (.int .i64 mb.2.1) := hc6.cell 1
                                      have x2 : w6.cell? ⟨wr.heap.size, 2, none⟩ = some (.int .i64 mb.2.2) := hc6.cell 2
                                      have HB6 := hide (HBr.out.below hl6 (by omega))
                                      have z4 := lab_c4 HB6.out
                                      have z2 := lab_c2 HB6.out
                                      have HL6 := hide (hb3.out.trans (hl6.mono hz3))
                                      clear hc6 hg6 ha5 hl5 y4
                                      have x9 : w6.cell? (ad.add ((k - 1) * 3)) = some (.int .i64 mp.1) := HCP.out w6 hl6
                                      simp only [Act.put, List.setIfInBounds_toArray, List.set_cons_succ, List.set_cons_zero]
                                      refine wp_region_quiet_lit (by kernel_rfl) (by kernel_rfl) ?_
                                      iterate 44 (go_big_quiet_step (fail))
                                      refine wpQuiet_nil ?_
                                      rintro w7 ⟨q1, rfl⟩
                                      cases yes with
                                      | false =>
                                        rw [Bool.false_or] at HT2
                                        go_wp2
                                        go_roundw
                                        case rel => exact ⟨k + 1, _, by omega, by go_num, rfl, HT2, hide (below_drewN HL6.out _)⟩
                                        case measure => simp [intOf]; omega
                                      | true =>
                                        rw [Bool.true_or] at HT2
                                        go_wp2
                                        go_roundw
                                        case rel => exact ⟨k + 1, _, by omega, by go_num, rfl, HT2, hide (below_drewN HL6.out _)⟩
                                        case measure => simp [intOf]; omega
                    · obtain rfl : k = n := by omega
                      have hT := HT.out
                      rw [← HLen.out] at hT
                      obtain ⟨f1, f2⟩ := hT.end_
                      have H := hide (show rightB l = yes by rw [HRB.out, f1, f2]; rfl)
                      clear hT f1 f2
                      go_wp2
                      go_ret
                      exact ⟨ret_b H.out.symm, hl1.trans (hb3.out.mono (by omega))⟩
#print axioms refRight_any
theorem refPut_fits (xs ys : List UInt8) (v width : Int) (w w0 : World) (hb : Below w0.heap.size w0 w) (hn : xs.length ≤ 100) (h1 : 1 ≤ width) (h6 : width ≤ 6) (h0 : 0 ≤ v) (hv : v < 256 ^ width.toNat) (hy : xs ++ be width.toNat v.toNat = ys) :
    Calls Try.prog 70 #[.string (strOf xs), .int .i64 v, .int .i64 width] w fun e w' => e = .returned (.string (strOf ys)) ∧ Below w0.heap.size w0 w' := by
  have hf : fitsB v width = true := by simp [fitsB, h1, h6, h0, hv]
  have hlt : v ≤ 9223372036854775807 := by
    have := pow256_lt (k := width.toNat) (by omega)
    have h2 : (256 : Int) ^ width.toNat = ((256 ^ width.toNat : Nat) : Int) := by simp
    omega
  have h := refPut_any (strOf xs) v width w (by rw [strOf_size]; omega) hlt
  rw [putStr, putB, if_pos hf, chars_strOf, hy] at h
  exact h.mono fun e w' ⟨h1, h2⟩ => ⟨h1, hb.trans (h2.mono hb.size)⟩

set_option maxRecDepth 100000 in
set_option maxHeartbeats 8000000 in
theorem refText_any (l : Lab) (A : Option Addr) (n c : Nat) (B0 : Nat) (w : World) (hr : MbIn w B0 A n c l.members) (hB0 : B0 ≤ w.heap.size) (hright : rightB l = true) :
    Calls Try.prog 38 #[labV l A n c] w fun e w' => e = .returned (.string (strOf (labB l))) ∧ Below w.heap.size w w' := by
  obtain ⟨q1, q2, q3, q4, q5, q6⟩ := right_parts hright
  have q7 := right_member hright
  have QA := hide (rising_all (by omega) q5)
  have HR := hide hr
  have HLen := hide hr.len
  have hnc := hr.2
  have hn12 : n ≤ 12 := by have := HLen.out; omega
  clear q5 q6 hr hright
  obtain ⟨T1, hT1⟩ : ∃ T, T = [66, 87] ++ be 4 l.array.toNat := ⟨_, rfl⟩
  obtain ⟨T2, hT2⟩ : ∃ T, T = T1 ++ be 4 l.gen.toNat := ⟨_, rfl⟩
  obtain ⟨T3, hT3⟩ : ∃ T, T = T2 ++ be 1 l.member.toNat := ⟨_, rfl⟩
  obtain ⟨T4, hT4⟩ : ∃ T, T = T3 ++ be 2 l.blocks.toNat := ⟨_, rfl⟩
  have hT5 : T4 ++ be 1 n = headB l := by rw [hT4, hT3, hT2, hT1, headB, HLen.out]
  have g1 : T1.length = 6 := by rw [hT1]; simp [be_length]
  have g2 : T2.length = 10 := by rw [hT2]; simp [be_length, g1]
  have g3 : T3.length = 11 := by rw [hT3]; simp [be_length, g2]
  have g4 : T4.length = 13 := by rw [hT4]; simp [be_length, g3]
  have HP1 : Hid (∀ w0 w : World, Below w0.heap.size w0 w → Calls Try.prog 70 #[.string { data := #[66, 87] }, .int .i64 l.array, .int .i64 4] w fun e w' => e = .returned (.string (strOf T1)) ∧ Below w0.heap.size w0 w') :=
    fun w0 w hb => refPut_fits [66, 87] T1 l.array 4 w w0 hb (by decide) (by omega) (by omega) q1.1 (by rw [show (256 : Int) ^ (4 : Int).toNat = 4294967296 by decide]; omega) (by rw [hT1]; rfl)
  have HP2 := hide (fun w0 w (hb : Below w0.heap.size w0 w) => refPut_fits T1 T2 l.gen 4 w w0 hb (by omega) (by omega) (by omega) (by omega) (by rw [show (256 : Int) ^ (4 : Int).toNat = 4294967296 by decide]; omega) (by rw [hT2]; rfl))
  have HP3 := hide (fun w0 w (hb : Below w0.heap.size w0 w) => refPut_fits T2 T3 l.member 1 w w0 hb (by omega) (by omega) (by omega) (by omega) (by rw [show (256 : Int) ^ (1 : Int).toNat = 256 by decide]; omega) (by rw [hT3]; rfl))
  have HP4 := hide (fun w0 w (hb : Below w0.heap.size w0 w) => refPut_fits T3 T4 l.blocks 2 w w0 hb (by omega) (by omega) (by omega) (by omega) (by rw [show (256 : Int) ^ (2 : Int).toNat = 65536 by decide]; omega) (by rw [hT4]; rfl))
  have HP5 := hide (fun w0 w (hb : Below w0.heap.size w0 w) => refPut_fits T4 (headB l) (n : Int) 1 w w0 hb (by omega) (by omega) (by omega) (by omega) (by rw [show (256 : Int) ^ (1 : Int).toNat = 256 by decide]; omega) (by rw [← hT5]; rfl))
  clear hT1 hT2 hT3 hT4 hT5 g1 g2 g3 g4 q1 q2 q3 q4 q7
  go_enter Try.func38, Try.ntmps38
  go_wp2_with (first
    | (refine wpList_box_blk rfl 24 _ rfl (.agg (labC l A n c).toArray) rfl ?_; intro w1 hb1q hl1 hs1; clear hs1; have hb1 : Blk w1 w.heap.size 24 (labC l A n c).toArray := hb1q; clear hb1q))
  have HB1 := hide hb1
  have hz1 := hb1.lt
  have HF := hide (fun W' (h : Below w1.heap.size w1 W') => (⟨lab_c0 (HB1.out.below h hz1), lab_c1 (HB1.out.below h hz1), lab_c2 (HB1.out.below h hz1), lab_c3 (HB1.out.below h hz1), lab_c4 (HB1.out.below h hz1), h⟩ : W'.cell? ⟨w.heap.size, 0, none⟩ = some (.int .i64 l.array) ∧ W'.cell? ⟨w.heap.size, 1, none⟩ = some (.int .i64 l.gen) ∧ W'.cell? ⟨w.heap.size, 2, none⟩ = some (.int .i64 l.member) ∧ W'.cell? ⟨w.heap.size, 3, none⟩ = some (.int .i64 l.blocks) ∧ W'.cell? ⟨w.heap.size, 4, none⟩ = some (.slice A n c) ∧ Below w1.heap.size w1 W'))
  clear hb1
  go_region_held3 (fun W' => (W'.cell? ⟨w.heap.size, 0, none⟩ = some (.int .i64 l.array) ∧ W'.cell? ⟨w.heap.size, 1, none⟩ = some (.int .i64 l.gen) ∧ W'.cell? ⟨w.heap.size, 2, none⟩ = some (.int .i64 l.member) ∧ W'.cell? ⟨w.heap.size, 3, none⟩ = some (.int .i64 l.blocks) ∧ W'.cell? ⟨w.heap.size, 4, none⟩ = some (.slice A n c) ∧ Below w1.heap.size w1 W')) (first | assumption | exact HF.out _ (by assumption) | exact HF.out _ ((Below.refl _ _).drew) | exact HF.out _ (Below.refl _ _))
    ((first
      | (go_at_call 70; ((with_reducible refine (HP1.out w1 _ (‹_ ∧ _ ∧ _ ∧ _ ∧ _ ∧ Below w1.heap.size w1 _›.2.2.2.2.2)).mono ?_); rintro e w6 ⟨rfl, hg6⟩))
      | (go_at_call 70; ((with_reducible refine (HP2.out w1 _ (‹_ ∧ _ ∧ _ ∧ _ ∧ _ ∧ Below w1.heap.size w1 _›.2.2.2.2.2)).mono ?_); rintro e w7 ⟨rfl, hg7⟩))))
  clear HP1 HP2
  have hb7 : Below w1.heap.size w1 w7 := ‹_ ∧ _ ∧ _ ∧ _ ∧ _ ∧ Below w1.heap.size w1 w7›.2.2.2.2.2
  go_wp2
  go_region_held3 (fun W' => (W'.cell? ⟨w.heap.size, 0, none⟩ = some (.int .i64 l.array) ∧ W'.cell? ⟨w.heap.size, 1, none⟩ = some (.int .i64 l.gen) ∧ W'.cell? ⟨w.heap.size, 2, none⟩ = some (.int .i64 l.member) ∧ W'.cell? ⟨w.heap.size, 3, none⟩ = some (.int .i64 l.blocks) ∧ W'.cell? ⟨w.heap.size, 4, none⟩ = some (.slice A n c) ∧ Below w1.heap.size w1 W')) (first | assumption | exact HF.out _ (by assumption) | exact HF.out _ (Below.drew hb7) | exact HF.out _ hb7)
    ((first
      | (go_at_call 70; ((with_reducible refine (HP3.out w1 _ (‹_ ∧ _ ∧ _ ∧ _ ∧ _ ∧ Below w1.heap.size w1 _›.2.2.2.2.2)).mono ?_); rintro e w8 ⟨rfl, hg8⟩))
      | (go_at_call 70; ((with_reducible refine (HP4.out w1 _ (‹_ ∧ _ ∧ _ ∧ _ ∧ _ ∧ Below w1.heap.size w1 _›.2.2.2.2.2)).mono ?_); rintro e w9 ⟨rfl, hg9⟩))
      | (go_at_call 70; ((with_reducible refine (HP5.out w1 _ (‹_ ∧ _ ∧ _ ∧ _ ∧ _ ∧ Below w1.heap.size w1 _›.2.2.2.2.2)).mono ?_); rintro e w10 ⟨rfl, hg10⟩))))
  clear HP3 HP4 HP5
  have hb10 : Below w1.heap.size w1 w10 := ‹_ ∧ _ ∧ _ ∧ _ ∧ _ ∧ Below w1.heap.size w1 w10›.2.2.2.2.2
  have HB10 := hide hb10
  have x4 := lab_c4 (HB1.out.below hb10 hz1)
  have HM1 := hide (HR.out.below (hl1.mono hB0))
  clear hb7 hb10 hg6 hg7 hg8 hg9 hg10
  go_wp2
  go_loopw [3, 4, 5] (fun s3 s4 _ wr => ∃ k : Nat, k ≤ n ∧ s4 = .int .i64 (k : Int) ∧ s3 = .string (strOf (headB l ++ mbB (l.members.take k))) ∧ Hid (Below w1.heap.size w1 wr)) (fun _ s4 _ _ => n - (intOf s4).toNat)
  case atStart => exact ⟨0, Nat.zero_le _, rfl, by rw [List.take_zero, show mbB [] = [] from rfl, List.append_nil], HB10⟩
  case round =>
    obtain ⟨k, hk, rfl, rfl, hb3⟩ := hrel
    have hz3 := hb3.out.size
    have y4 := lab_c4 (HB1.out.below hb3.out hz1)
    by_cases hkn : k < n
    · obtain ⟨ad, mb, rfl, hab, hmk, hcs⟩ := (HM1.out.below (hb3.out.mono (by omega))).at_ hkn
      have HS := hide hcs
      obtain ⟨b1, b2, b3⟩ := QA.out mb (List.mem_of_getElem? hmk)
      obtain ⟨T6, hT6⟩ : ∃ T, T = headB l ++ mbB (l.members.take k) := ⟨_, rfl⟩
      obtain ⟨T7, hT7⟩ : ∃ T, T = T6 ++ be 1 mb.1.toNat := ⟨_, rfl⟩
      obtain ⟨T8, hT8⟩ : ∃ T, T = T7 ++ be 2 mb.2.1.toNat := ⟨_, rfl⟩
      have hT9 : T8 ++ be 1 mb.2.2.toNat = headB l ++ mbB (l.members.take (k + 1)) := by rw [hT8, hT7, hT6, mb_step hmk]; simp only [List.append_assoc]
      have g6 : T6.length ≤ 62 := by rw [hT6, List.length_append, headB_length, mbB_length, List.length_take]; omega
      have g7 : T7.length ≤ 63 := by rw [hT7, List.length_append, be_length]; omega
      have g8 : T8.length ≤ 65 := by rw [hT8, List.length_append, be_length]; omega
      have HP6 := hide (fun w0 w (hb : Below w0.heap.size w0 w) => refPut_fits T6 T7 mb.1 1 w w0 hb (by omega) (by omega) (by omega) (by omega) (by rw [show (256 : Int) ^ (1 : Int).toNat = 256 by decide]; omega) (by rw [hT7]; rfl))
      have HP7 := hide (fun w0 w (hb : Below w0.heap.size w0 w) => refPut_fits T7 T8 mb.2.1 2 w w0 hb (by omega) (by omega) (by omega) (by omega) (by rw [show (256 : Int) ^ (2 : Int).toNat = 65536 by decide]; omega) (by rw [hT8]; rfl))
      have HP8 := hide (fun w0 w (hb : Below w0.heap.size w0 w) => refPut_fits T8 (headB l ++ mbB (l.members.take (k + 1))) mb.2.2 1 w w0 hb (by omega) (by omega) (by omega) (by omega) (by rw [show (256 : Int) ^ (1 : Int).toNat = 256 by decide]; omega) (by rw [← hT9]; rfl))
      rw [← hT6]
      clear hT6 hT7 hT8 hT9 g6 g7 g8 b1 b2 b3 hmk hcs
      go_wp2_with (first
        | (refine wpList_load_at rfl 62 (.tmp 33) rfl (ad.add (k * 3)) rfl (mbC mb) _ HS.out Try.underlying62 rfl mb_info ?_)
        | (refine wpList_alloc_blk rfl 62 rfl _ (mb_zero _) ?_; intro w5 ha5 hl5 hs5; clear hs5)
        | (refine wpList_store_all rfl 62 (.tmp 5) (.tmp 34) rfl wr.heap.size 62 _ ha5 rfl (mbC mb) rfl mb_info rfl (mbC_one _) ?_; intro w6 hc6 hg6 hs6; clear hs6))
      have hl6 : Below wr.heap.size wr w6 := hl5.grown hg6 (by have := hl5.size; omega) (fun g e => by injection e with e; omega)
      have HC6 := hide hc6
      have hzc := hc6.lt
      have HE := hide (fun W' (h : Below w6.heap.size w6 W') => (⟨(HC6.out.below h hzc).cell 0, (HC6.out.below h hzc).cell 1, (HC6.out.below h hzc).cell 2, h⟩ : W'.cell? ⟨wr.heap.size, 0, none⟩ = some (.int .i64 mb.1) ∧ W'.cell? ⟨wr.heap.size, 1, none⟩ = some (.int .i64 mb.2.1) ∧ W'.cell? ⟨wr.heap.size, 2, none⟩ = some (.int .i64 mb.2.2) ∧ Below w6.heap.size w6 W'))
      have HL6 := hide (hb3.out.trans (hl6.mono hz3))
      clear hc6 hg6 ha5 hl5 y4 x4 hl6
      simp only [Act.put, List.setIfInBounds_toArray, List.set_cons_succ, List.set_cons_zero]
      go_region_held3 (fun W' => (W'.cell? ⟨wr.heap.size, 0, none⟩ = some (.int .i64 mb.1) ∧ W'.cell? ⟨wr.heap.size, 1, none⟩ = some (.int .i64 mb.2.1) ∧ W'.cell? ⟨wr.heap.size, 2, none⟩ = some (.int .i64 mb.2.2) ∧ Below w6.heap.size w6 W')) (first | assumption | exact HE.out _ (by assumption) | exact HE.out _ ((Below.refl _ _).drew) | exact HE.out _ (Below.refl _ _))
        ((first
          | (go_at_call 70; ((with_reducible refine (HP6.out w6 _ (‹_ ∧ _ ∧ _ ∧ Below w6.heap.size w6 _›.2.2.2)).mono ?_); rintro e w8' ⟨rfl, hg8⟩))
          | (go_at_call 70; ((with_reducible refine (HP7.out w6 _ (‹_ ∧ _ ∧ _ ∧ Below w6.heap.size w6 _›.2.2.2)).mono ?_); rintro e w9' ⟨rfl, hg9⟩))
          | (go_at_call 70; ((with_reducible refine (HP8.out w6 _ (‹_ ∧ _ ∧ _ ∧ Below w6.heap.size w6 _›.2.2.2)).mono ?_); rintro e w10' ⟨rfl, hg10⟩))))
      have HL10 := hide (HL6.out.trans ((‹_ ∧ _ ∧ _ ∧ Below w6.heap.size w6 w10'›.2.2.2).mono (by have := HL6.out.size; omega)))
      clear HP6 HP7 HP8
      go_wp2
      go_roundw
      case rel => exact ⟨k + 1, by omega, by go_num, rfl, HL10⟩
      case measure => simp [intOf]; omega
    · obtain rfl : k = n := by omega
      have HE := hide (show headB l ++ mbB (l.members.take k) = labB l by rw [List.take_of_length_le (by rw [HLen.out]; exact Nat.le_refl _)]; rfl)
      rw [HE.out]
      clear x4
      go_wp2
      go_ret
      exact ⟨rfl, hl1.trans (hb3.out.mono (by omega))⟩
#print axioms refText_any
theorem byteCells_is (l : List UInt8) : Lib.byteCells l = B8 l := rfl
/-- 'copy(d[:], s)' of a string into a block known whole, as one step of a region in open order. -/
theorem step_copy_blk {P : Program} {ops : Array Oper} {o : Oper} {a : Act} {w : World} {K : Act → World → Prop} {Q : Exit → Act → World → Prop} {E : Prop}
    (hg : o.guard = none) (d x : Operand) (dT sT : TypeId) (hop : o.op = Op.call { callee := Callee.builtin Builtin.copy, args := #[d, x], argTypes := #[dT, sT] })
    (elem : TypeId) (hu : P.underlying dT = some (.slice elem)) (hs : (P.info? elem).map (·.size) = some 1) (g dLen dCap : Nat) (hd : a.eval d = .slice (some ⟨g, 0, none⟩) dLen dCap) (l : List UInt8) (hx : a.eval x = .string (strOf l))
    (cur : Array Value) (t : TypeId) (hb : Blk w g t cur) (hle : l.length ≤ dLen) (hfit : l.length ≤ cur.size)
    (hK : ∀ w', Blk w' g t (B8 l ++ cur.toList.drop l.length).toArray → w.grownBy w' (some g) → K (a.put o.dst (goInt l.length)) w') :
    if Region.wanted o (yielded ops a.tmps) = true then Oper.wp P o a w K Q else E := by
  have hw : Region.wanted o (yielded ops a.tmps) = true := by simp [Region.wanted, hg]
  rw [if_pos hw]
  have hrun := Lib.run_copy_row_string (P := P) w dT sT o.type elem g 0 dLen dCap (strOf l) cur t hu hs hb (by rw [strOf_size]; exact hle) (by rw [strOf_size]; omega)
  rw [strOf_size, List.take_zero, List.nil_append, Nat.zero_add] at hrun
  unfold Oper.wp
  simp [execOp, hop, resolve, invoke, builtin, hd, hx, hrun, Result.andThen]
  refine hK _ (setRow_heap w g cur _ t (0, 0) hb) ⟨rfl, rfl, rfl, by simp [World.setRow], fun i _ hi => ?_⟩
  simp only [World.setRow, Array.getElem?_modify]
  rw [if_neg (fun e => hi (by rw [e]))]
theorem front_cells {l : List UInt8} (h : l.length ≤ 64) : B8 l ++ (secL zeroSec).drop l.length = secL ⟨front l, front_length l⟩ := by
  show B8 l ++ (B8 (List.replicate 64 0)).drop l.length = B8 (front l)
  rw [front_short h, B8_append, B8_drop, List.drop_replicate]

set_option maxRecDepth 100000 in
set_option maxHeartbeats 4000000 in
theorem refLput_any (l : Lab) (A : Option Addr) (n c : Nat) (B0 : Nat) (w : World) (hr : MbIn w B0 A n c l.members) (hB0 : B0 ≤ w.heap.size) :
    Calls Try.prog 13 #[labV l A n c] w fun e w' => e = .returned (.tuple #[secV (putS l), .int .i64 (putE l)]) ∧ Below w.heap.size w w' := by
  have HRR := hide hr
  have HR := hide (fun w1 (hb : Below w.heap.size w w1) => refRight_any l A n c B0 w1 (hr.below (hb.mono hB0)) (Nat.le_trans hB0 hb.size))
  obtain ⟨U, hU⟩ : ∃ U, U = secL (putS l) := ⟨_, rfl⟩
  have hUl : U.length = 64 := by rw [hU, secL_length]
  have hUo : ∀ v ∈ U, v.oneCell' = true := by rw [hU]; exact secL_one _
  have hiU : (Try.prog.info? 26).map (·.size) = some U.length := by rw [hUl]; exact sec_info
  have hs : secV (putS l) = .agg U.toArray := by rw [hU]; rfl
  rw [hs]
  have HUl := hide hUl
  have HUO := hide hUo
  have HIU := hide hiU
  have HU := hide hU
  clear hr hs hUl hUo hiU hU
  cases hright : rightB l with
  | false =>
    rw [hright] at HR
    have hb0 := hide (show U = secL zeroSec by rw [HU.out, putS, hright]; rfl)
    have hE := hide (show putE l = 1 by rw [putE, hright]; rfl)
    rw [hE.out]
    go_enter Try.func13, Try.ntmps13
    go_wp2_with (first
      | (refine wpList_box_blk rfl 24 _ rfl (.agg (labC l A n c).toArray) rfl ?_; intro w1 hb1q hl1 hs1; clear hs1; have hb1 : Blk w1 w.heap.size 24 (labC l A n c).toArray := hb1q; clear hb1q)
      | (have hb2x := hb2; refine wpList_alloc_blk rfl 26 rfl _ (sec_zero _) ?_; intro w3 hb3 hl3 hs3; clear hs3 hb2x; have hz1 := hb1.lt; have hz2 := hb2.lt; have hz3 := hb3.lt; have hl03 : Below w.heap.size w w3 := (hl1.trans (hl2.mono (by omega))).trans (hl3.mono (by omega)))
      | (refine wpList_alloc_blk rfl 26 rfl _ (sec_zero _) ?_; intro w2 hb2 hl2 hs2; clear hs2)
      | (refine wpList_load_blk rfl 24 (.tmp 1) rfl w.heap.size 0 24 _ ((hb1.below hl2 hz1).below hl3 (by omega)) rfl (labC l A n c) _ (fun j v hj => by rw [Nat.zero_add]; simpa using hj) Try.underlying24 rfl lab_info ?_)
      | (go_at_call 18; refine (HR.out _ hl03).mono ?_; rintro _ w4 ⟨rfl, hl4⟩; have hz4 := hl4.size; have HL4 := hide (hl03.trans (hl4.mono (by omega))); have HB4 := hide (((hb1.below hl2 hz1).below hl3 (by omega)).below hl4 (by omega)); have HX4 := hide ((hb2.below hl3 (by omega)).below hl4 (by omega)); have HY4 := hide (hb3.below hl4 (by omega)); clear hb1 hb2 hb3 hl1 hl2 hl3 hl4 hl03)
      | (refine wpList_load_blk rfl 26 (.tmp 4) rfl w2.heap.size 0 26 _ HY4.out rfl U _ (fun j v hj => by rw [Nat.zero_add]; rw [hb0.out] at hj; simpa [secV, Value.cells] using hj) Try.underlying26 rfl HIU.out ?_)
      | (refine wpList_store_all rfl 26 (.tmp 2) (.tmp 10) rfl w1.heap.size 26 _ HX4.out rfl U rfl HIU.out (HUl.out.trans (secL_length zeroSec).symm) HUO.out ?_; intro w5 hb5 hg5 hs5; clear hs5))
    exact ret_cell_tmp rfl w1.heap.size 26 U _ hb5 rfl Try.underlying26 rfl HIU.out (.int .i64 1) rfl rfl ⟨rfl, HL4.out.grown hg5 (by have := HL4.out.size; omega) (fun g e => by injection e with e; omega)⟩
  | true =>
    have HTX := hide (fun w1 (hb : Below w.heap.size w w1) => refText_any l A n c B0 w1 (HRR.out.below (hb.mono hB0)) (Nat.le_trans hB0 hb.size) hright)
    rw [hright] at HR
    have hE := hide (show putE l = 0 by rw [putE, hright]; rfl)
    obtain ⟨_, _, _, q4, _, _⟩ := right_parts hright
    have hlb : (labB l).length ≤ 64 := by rw [labB_length]; omega
    have HFC := hide (show B8 (labB l) ++ (secV zeroSec).cells.toList.drop (labB l).length = U by
      rw [HU.out, putS, hright]
      exact front_cells hlb)
    rw [hE.out]
    clear hright q4
    go_enter Try.func13, Try.ntmps13
    go_wp2_with (first
      | (refine wpList_box_blk rfl 24 _ rfl (.agg (labC l A n c).toArray) rfl ?_; intro w1 hb1q hl1 hs1; clear hs1; have hb1 : Blk w1 w.heap.size 24 (labC l A n c).toArray := hb1q; clear hb1q)
      | (have hb2x := hb2; refine wpList_alloc_blk rfl 26 rfl _ (sec_zero _) ?_; intro w3 hb3 hl3 hs3; clear hs3 hb2x; have hz1 := hb1.lt; have hz2 := hb2.lt; have hz3 := hb3.lt; have hl03 : Below w.heap.size w w3 := (hl1.trans (hl2.mono (by omega))).trans (hl3.mono (by omega)))
      | (refine wpList_alloc_blk rfl 26 rfl _ (sec_zero _) ?_; intro w2 hb2 hl2 hs2; clear hs2)
      | (refine wpList_load_blk rfl 24 (.tmp 1) rfl w.heap.size 0 24 _ ((hb1.below hl2 hz1).below hl3 (by omega)) rfl (labC l A n c) _ (fun j v hj => by rw [Nat.zero_add]; simpa using hj) Try.underlying24 rfl lab_info ?_)
      | (go_at_call 18; refine (HR.out _ hl03).mono ?_; rintro _ w4 ⟨rfl, hl4⟩; have hz4 := hl4.size; have HL4 := hide (hl03.trans (hl4.mono (by omega))); have HB4 := hide (((hb1.below hl2 hz1).below hl3 (by omega)).below hl4 (by omega)); have HX4 := hide ((hb2.below hl3 (by omega)).below hl4 (by omega)); have HY4 := hide (hb3.below hl4 (by omega)); clear hb1 hb2 hb3 hl1 hl2 hl3 hl4 hl03))
    have x0 := lab_c0 HB4.out
    have x1 := lab_c1 HB4.out
    have x2 := lab_c2 HB4.out
    have x3 := lab_c3 HB4.out
    have x4 := lab_c4 HB4.out
    have HTT : Hid (Calls Try.prog 38 #[.agg #[.int .i64 l.array, .int .i64 l.gen, .int .i64 l.member, .int .i64 l.blocks, .slice A n c]] w4.drew fun e w' => e = .returned (.string (strOf (labB l))) ∧ Below w4.heap.size w4 w') :=
      (HTX.out w4.drew HL4.out.drew).mono fun e w' ⟨h1, h2⟩ => ⟨h1, ((Below.refl _ w4).drew).trans h2⟩
    go_wp2
    go_region_law (first
      | (refine step_copy_blk rfl (.tmp 11) (.tmp 13) 64 9 rfl 5 Try.underlying64 (by kernel_rfl) w2.heap.size 64 64 rfl (labB l) rfl _ 26 HY5.out hlb (by show _ ≤ (secL zeroSec).toArray.size; rw [List.size_toArray, secL_length]; exact hlb) ?_; intro w6 hb6 hg6; rw [HFC.out] at hb6)
      | (go_simp; go_at_call 38; refine HTT.out.mono ?_; rintro _ w5 ⟨rfl, hl5⟩; have hz5 := hl5.size; have HY5 := hide (HY4.out.below hl5 (by omega))))
    have HX6 := hide ((HX4.out.below hl5 (by omega)).grown hg6 (fun e => by injection e with e; omega))
    have hz6 := hg6.size
    have hl46 : Below w.heap.size w w6 := (HL4.out.trans (hl5.mono (by omega))).grown hg6 (by omega) (fun g e => by injection e with e; omega)
    clear x0 x1 x2 x3 x4
    go_wp2_with (first
      | (refine wpList_load_blk rfl 26 (.tmp 4) rfl w2.heap.size 0 26 _ hb6 rfl U _ (fun j v hj => by rw [Nat.zero_add]; simpa using hj) Try.underlying26 rfl HIU.out ?_)
      | (refine wpList_store_all rfl 26 (.tmp 2) (.tmp 15) rfl w1.heap.size 26 _ HX6.out rfl U rfl HIU.out (HUl.out.trans (secL_length zeroSec).symm) HUO.out ?_; intro w7 hb7 hg7 hs7; clear hs7))
    exact ret_cell_tmp rfl w1.heap.size 26 U _ hb7 rfl Try.underlying26 rfl HIU.out (.int .i64 0) rfl rfl ⟨rfl, hl46.grown hg7 (by omega) (fun g e => by injection e with e; omega)⟩
#print axioms refLput_any
end Go.Proofs.Ytbbfgcekjelmkaa
