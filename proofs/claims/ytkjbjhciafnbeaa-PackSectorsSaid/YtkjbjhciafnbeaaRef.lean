/- What the document's answer for pack's Get and Row is, over strings: the same numbers and rows. -/
import Derived.Test.YtkjbjhciafnbeaaRow
import Derived.Lib.IndexBytes
import Derived.Lib.Strings
namespace Go.Proofs.Ytkjbjhciafnbeaa
open Go.RowKit

def chars (s : ByteArray) : List UInt8 := s.data.toList
theorem chars_length (s : ByteArray) : (chars s).length = s.size := by simp [chars]
theorem chars_at (s : ByteArray) {k : Nat} (h : k < s.size) : (chars s)[k]? = some s[k] := by
  unfold chars
  rw [List.getElem?_eq_getElem (by simpa using h)]
  rfl

set_option maxHeartbeats 1000000 in
theorem refGet_any (s : ByteArray) (width : Int) (w : World) (hs : s.size ≤ 70368743000000) :
    Calls Try.prog 13 #[.string s, .int .i64 width] w fun e w' => e = .returned (.tuple #[.int .i64 (getV (chars s) width), .bool (getO (chars s) width)]) ∧ w = w' := by
  have hlen := chars_length s
  by_cases hw1 : 1 ≤ width
  · by_cases hw6 : width ≤ 6
    · by_cases hl : width ≤ s.size
      · have ho : getO (chars s) width = true := by simp [getO]; omega
        have HV := hide (getV_yes ho)
        have HO := hide ho
        clear ho
        obtain ⟨m, rfl⟩ := Int.eq_ofNat_of_zero_le (show 0 ≤ width by omega)
        go_enter Try.func13, Try.ntmps13
        go_wp2
        go_loop [6, 7] (fun v i => ∃ k : Nat, k ≤ m ∧ i = .int .i64 k ∧ v = .int .i64 (num ((chars s).take k))) (fun _ i => m - (intOf i).toNat)
        case atStart => exact ⟨0, Nat.zero_le _, rfl, rfl⟩
        case round =>
          obtain ⟨k, hk, rfl, rfl⟩ := hrel
          by_cases hkn : k < m
          · have hks : k < s.size := by omega
            have hts := take_more (chars_at s hks)
            have hb : num ((chars s).take k) < 1099511627776 := Nat.lt_of_lt_of_le (num_take_lt _ k) (Nat.le_trans (Nat.pow_le_pow_right (by omega) (show k ≤ 5 by omega)) (by decide))
            have hx2 := s[k].toNat_lt
            have HX := hide (show num ((chars s).take (k + 1)) = num ((chars s).take k) * 256 + s[k].toNat by rw [hts, num_snoc])
            clear hts
            generalize num ((chars s).take k) = V at *
            go_wp2
            go_round
            case rel => exact ⟨k + 1, by omega, by go_num, by rw [HX.out]; congr 1; omega⟩
            case measure => simp [intOf]; omega
          · obtain rfl : k = m := by omega
            go_wp2
            go_ret2
            exact ⟨ret_tib (by rw [HV.out, Int.toNat_natCast]) HO.out.symm, rfl⟩
      · have HO := hide (show getO (chars s) width = false by simp [getO]; omega)
        have hd : decide ((s.size : Int) < width) = true := by simp; omega
        go_enter Try.func13, Try.ntmps13
        go_wp2
        go_ret2
        exact ⟨ret_get HO.out, rfl⟩
    · have HO := hide (show getO (chars s) width = false by simp [getO]; omega)
      have hd : decide ((6 : Int) < width) = true := by simp; omega
      go_enter Try.func13, Try.ntmps13
      go_wp2
      go_ret2
      exact ⟨ret_get HO.out, rfl⟩
  · have HO := hide (show getO (chars s) width = false by simp [getO]; omega)
    have hd : decide (width < (1 : Int)) = true := by simp; omega
    go_enter Try.func13, Try.ntmps13
    go_wp2
    go_ret2
    exact ⟨ret_get HO.out, rfl⟩

theorem chars_extract (s : ByteArray) (a : Nat) : chars (s.extract a s.size) = (chars s).drop a := by
  unfold chars
  rw [Lib.extract_data]
  exact List.take_of_length_le (by simp)

theorem getV_drop {xs : List UInt8} {m k : Nat} (h1 : 1 ≤ m) (h6 : m ≤ 6) (h : 2 + k * m + m ≤ xs.length) : (getV (xs.drop (2 + k * m)) (m : Int) : Int) = rowAt xs m k := by
  have ho : getO (xs.drop (2 + k * m)) (m : Int) = true := by simp [getO]; omega
  rw [getV_yes ho, Int.toNat_natCast, rowAt]

set_option maxHeartbeats 2000000 in
theorem refRow_any (s : ByteArray) (width : Int) (w : World) (hs : s.size ≤ 70368743000000) :
    Calls Try.prog 15 #[.string s, .int .i64 width] w (GaveRow (chars s) width w) := by
  have hlen := chars_length s
  have hV := getV_le (xs := chars s)
  have HG := hide (refGet_any s 2 w hs)
  by_cases ho : getO (chars s) 2 = true
  · by_cases hw1 : 1 ≤ width
    · by_cases hw6 : width ≤ 6
      · obtain ⟨m, rfl⟩ := Int.eq_ofNat_of_zero_le (show 0 ≤ width by omega)
        have hp1 : (0 : Int) ≤ (getV (chars s) 2 : Int) * (m : Int) := by rw [← Int.natCast_mul]; omega
        have hp2 : (getV (chars s) 2 : Int) * (m : Int) ≤ 393210 := by
          have := Nat.mul_le_mul hV (show m ≤ 6 by omega)
          rw [← Int.natCast_mul]; omega
        by_cases hl : 2 + (getV (chars s) 2 : Int) * (m : Int) ≤ (s.size : Int)
        · obtain ⟨i0, hi0, hz0, hz1, hz2⟩ := info_parts int_info
          go_enter Try.func15, Try.ntmps15
          go_wp2_with fail
          refine HG.out.mono ?_
          rintro e w' ⟨rfl, rfl⟩
          go_wp2_with fail
          go_loopw [9, 10] (fun v i wr => ∃ (k rc : Nat) (R : Option Addr), k ≤ getV (chars s) 2 ∧ i = .int .i64 k ∧ v = .slice R k rc ∧ k ≤ rc ∧ rc ≤ maxLen ∧ wr.ownsRow w.heap.size 3 1 (.slice R k rc) k (I64 ((List.range k).map (rowAt (chars s) m))) ∧ Below w.heap.size w wr) (fun _ i _ => getV (chars s) 2 - (intOf i).toNat)
          case atStart => exact ⟨0, 0, none, Nat.zero_le _, rfl, rfl, Nat.le_refl _, Nat.zero_le _, World.ownsRow_nil _ _ _ _, Below.refl _ _⟩
          case round =>
            obtain ⟨k, rc, R, hk, rfl, rfl, hrc, hrm, hown, hbel⟩ := hrel
            by_cases hkn : k < getV (chars s) 2
            · have hq1 : (0 : Int) ≤ (k : Int) * (m : Int) := by rw [← Int.natCast_mul]; omega
              have hq2 : 2 + (k : Int) * (m : Int) + (m : Int) ≤ (s.size : Int) := by
                have := Nat.mul_le_mul_right m (show k + 1 ≤ getV (chars s) 2 by omega)
                rw [Nat.add_mul, Nat.one_mul] at this
                rw [← Int.natCast_mul] at hl ⊢
                omega
              have hq3 : 2 + k * m + m ≤ s.size := by
                have e : (2 : Int) + (k : Int) * (m : Int) + (m : Int) = ((2 + k * m + m : Nat) : Int) := by simp
                omega
              go_wp2_with fail
              have hgv : ((getV (chars (s.extract (2 + k * m) s.size)) (m : Int) : Nat) : Int) = rowAt (chars s) m k := by
                rw [chars_extract]
                exact getV_drop (by omega) (by omega) (by omega)
              have hA : k + 1 ≤ maxLen := by simp only [maxLen]; omega
              have hB : (k + 1) * 8 ≤ 140737488355328 := by omega
              have hC := hbel.size
              have HX := hide (show (List.range (k + 1)).map (rowAt (chars s) m) = (List.range k).map (rowAt (chars s) m) ++ [rowAt (chars s) m k] by rw [List.range_succ, List.map_append]; rfl)
              refine (refGet_any (s.extract (2 + k * m) s.size) m wr (by simp; omega)).mono ?_
              rintro e w' ⟨rfl, rfl⟩
              rw [hgv]
              clear hgv
              generalize rowAt (chars s) m k = x at *
              go_wp2_with (at_builtin; refine wpList_append_any _ rfl (.tmp 53) (.tmp 55) _ rfl w.heap.size 3 i0 _ 1 8 Try.underlying27 hi0 hz0 hz1 hz2 rfl (by omega) _ _ _ rfl (hown.alloc _) (wr.heap.size + 1) (some ⟨wr.heap.size, 0, none⟩) 1 1 [.int .i64 x] rfl (Reads.one _ _ _ _ (by omega)) (one_i64 _) hA hB (le_alloc hC _) ?_; intro v1 w2 hown1 hbel1)
              have hown2 := hown1
              rw [show ([Value.int .i64 x] : List Value) = I64 [x] from rfl, ← I64_append, ← HX.out] at hown2
              obtain ⟨R2, rc2, hv2, hrc2, hrm2⟩ := own_shape hown2
              have hb2 := (hbel.alloc hC (.cells #[.int .i64 x] 3)).trans hbel1
              go_roundw
              case rel => exact ⟨k + 1, rc2, R2, by omega, by go_num, hv2, hrc2, hrm2, hv2 ▸ hown2, hb2⟩
              case measure => simp [intOf]; omega
            · obtain rfl : k = getV (chars s) 2 := by omega
              have hro : rowO (chars s) (m : Int) = true := by
                rw [rowO, ho]
                have e1 : wideB (m : Int) = true := by simp [wideB]; omega
                rw [e1]
                simp only [Bool.true_and, Int.toNat_natCast, decide_eq_true_eq]
                rw [← Int.natCast_mul] at hl
                omega
              have HL := hide (show rowL (chars s) (m : Int) = (List.range (getV (chars s) 2)).map (rowAt (chars s) m) by rw [rowL, if_pos hro, Int.toNat_natCast])
              have HN := hide (show (2 : Int) + (getV (chars s) 2 : Int) * (m : Int) = (rowN (chars s) (m : Int) : Nat) by rw [rowN, if_pos hro, Int.toNat_natCast]; simp)
              have HR := hide hro
              clear hro
              go_wp2
              go_ret3
              exact ⟨_, _, _, ret_row HN.out HR.out.symm, hrc, hrm, by rw [HL.out]; exact hown, hbel⟩
        · have hro : rowO (chars s) (m : Int) = false := by
            rw [rowO, ho]
            have e2 : decide (2 + getV (chars s) 2 * (m : Int).toNat ≤ (chars s).length) = false := by
              rw [decide_eq_false_iff_not, Int.toNat_natCast]
              rw [← Int.natCast_mul] at hl
              omega
            rw [e2, Bool.and_false]
          have hd : decide ((s.size : Int) < 2 + (getV (chars s) 2 : Int) * (m : Int)) = true := by rw [decide_eq_true_eq]; omega
          have HR := hide (gaveRow_no w hro)
          clear hro
          go_enter Try.func15, Try.ntmps15
          go_wp2_with fail
          refine HG.out.mono ?_
          rintro e w' ⟨rfl, rfl⟩
          go_wp2
          go_ret3
          exact HR.out
      · have hro : rowO (chars s) width = false := by
          have e1 : wideB width = false := by simp [wideB]; omega
          rw [rowO, e1]; simp
        have hd : decide ((6 : Int) < width) = true := by simp; omega
        have HR := hide (gaveRow_no w hro)
        clear hro
        go_enter Try.func15, Try.ntmps15
        go_wp2_with fail
        refine HG.out.mono ?_
        rintro e w' ⟨rfl, rfl⟩
        go_wp2
        go_ret3
        exact HR.out
    · have hro : rowO (chars s) width = false := by
        have e1 : wideB width = false := by simp [wideB]; omega
        rw [rowO, e1]; simp
      have hd : decide (width < (1 : Int)) = true := by simp; omega
      have HR := hide (gaveRow_no w hro)
      clear hro
      go_enter Try.func15, Try.ntmps15
      go_wp2_with fail
      refine HG.out.mono ?_
      rintro e w' ⟨rfl, rfl⟩
      go_wp2
      go_ret3
      exact HR.out
  · have ho' : getO (chars s) 2 = false := by simpa using ho
    have hro : rowO (chars s) width = false := by rw [rowO, ho']; simp
    clear ho
    have HR := hide (gaveRow_no w hro)
    clear hro
    go_enter Try.func15, Try.ntmps15
    go_wp2_with fail
    refine HG.out.mono ?_
    rintro e w' ⟨rfl, rfl⟩
    go_wp2
    go_ret3
    exact HR.out
#print axioms refRow_any
end Go.Proofs.Ytkjbjhciafnbeaa
