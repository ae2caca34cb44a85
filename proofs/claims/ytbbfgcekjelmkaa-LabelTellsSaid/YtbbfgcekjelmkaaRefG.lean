/- What the document's answer for pack's Get is, over strings: the same numbers. -/
import Derived.Test.YtbbfgcekjelmkaaGet
import Derived.Lib.IndexBytes
import Derived.Lib.Strings
namespace Go.Proofs.Ytbbfgcekjelmkaa
open Go.RowKit

def chars (s : ByteArray) : List UInt8 := s.data.toList
theorem chars_length (s : ByteArray) : (chars s).length = s.size := by simp [chars]
theorem chars_at (s : ByteArray) {k : Nat} (h : k < s.size) : (chars s)[k]? = some s[k] := by
  unfold chars
  rw [List.getElem?_eq_getElem (by simpa using h)]
  rfl

set_option maxHeartbeats 1000000 in
theorem refGet_any (s : ByteArray) (width : Int) (w : World) (hs : s.size ≤ 70368743000000) :
    Calls Try.prog 40 #[.string s, .int .i64 width] w fun e w' => e = .returned (.tuple #[.int .i64 (getV (chars s) width), .bool (getO (chars s) width)]) ∧ w = w' := by
  have hlen := chars_length s
  by_cases hw1 : 1 ≤ width
  · by_cases hw6 : width ≤ 6
    · by_cases hl : width ≤ s.size
      · have ho : getO (chars s) width = true := by simp [getO]; omega
        have HV := hide (getV_yes ho)
        have HO := hide ho
        clear ho
        obtain ⟨m, rfl⟩ := Int.eq_ofNat_of_zero_le (show 0 ≤ width by omega)
        go_enter Try.func40, Try.ntmps40
        go_wp2
        go_loop [6, 7] (fun v i => ∃ k : Nat, k ≤ m ∧ i = .int .i64 k ∧ v = .int .i64 (num ((chars s).take k))) (fun _ i => m - (intOf i).toNat)
        case atStart => exact ⟨0, Nat.zero_le _, rfl, rfl⟩
        case round =>
          obtain ⟨k, hk, rfl, rfl⟩ := hrel
          by_cases hkn : k < m
          · have hks : k < s.size := by omega
            have hts := take_more (chars_at s hks)
            have hb : num ((chars s).take k) < 1099511627776 := Nat.lt_of_lt_of_le (num_take_lt _ k) (Nat.le_trans (Nat.pow_le_pow_right (by omega) (show k ≤ 5 by omega)) (by decide))
            have hx2 := s[k].toNat_lt
            have HX := hide (show num ((chars s).take (k + 1)) = num ((chars s).take k) * 256 + s[k].toNat by rw [hts, num_snoc])
            clear hts
            generalize num ((chars s).take k) = V at *
            go_wp2
            go_round
            case rel => exact ⟨k + 1, by omega, by go_num, by rw [HX.out]; congr 1; omega⟩
            case measure => simp [intOf]; omega
          · obtain rfl : k = m := by omega
            go_wp2
            go_ret2
            exact ⟨ret_tib (by rw [HV.out, Int.toNat_natCast]) HO.out.symm, rfl⟩
      · have HO := hide (show getO (chars s) width = false by simp [getO]; omega)
        have hd : decide ((s.size : Int) < width) = true := by simp; omega
        go_enter Try.func40, Try.ntmps40
        go_wp2
        go_ret2
        exact ⟨ret_get HO.out, rfl⟩
    · have HO := hide (show getO (chars s) width = false by simp [getO]; omega)
      have hd : decide ((6 : Int) < width) = true := by simp; omega
      go_enter Try.func40, Try.ntmps40
      go_wp2
      go_ret2
      exact ⟨ret_get HO.out, rfl⟩
  · have HO := hide (show getO (chars s) width = false by simp [getO]; omega)
    have hd : decide (width < (1 : Int)) = true := by simp; omega
    go_enter Try.func40, Try.ntmps40
    go_wp2
    go_ret2
    exact ⟨ret_get HO.out, rfl⟩

theorem chars_extract (s : ByteArray) (a : Nat) : chars (s.extract a s.size) = (chars s).drop a := by
  unfold chars
  rw [Lib.extract_data]
  exact List.take_of_length_le (by simp)
#print axioms refGet_any
end Go.Proofs.Ytbbfgcekjelmkaa
