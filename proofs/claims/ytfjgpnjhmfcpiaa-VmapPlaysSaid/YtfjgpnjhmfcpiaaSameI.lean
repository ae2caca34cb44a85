/- When two rows of numbers are the same: what SameInts answers. -/
import Derived.Test.YtfjgpnjhmfcpiaaMem
import Derived.OwnWalk
import Derived.Test.YtfjgpnjhmfcpiaaAgg
import Derived.Test.YtfjgpnjhmfcpiaaChecked
import Derived.Deep.QuietTactic
import Derived.BigQuiet
namespace Go.Proofs.Ytfjgpnjhmfcpiaa
open Go.RowKit

theorem same_no {a b : List Int} {k : Nat} {x y : Int} (hx : a[k]? = some x) (hy : b[k]? = some y) (h : x ≠ y) : decide (a = b) = false := by
  rw [decide_eq_false_iff_not]
  rintro rfl
  rw [hx] at hy
  injection hy with hy
  exact h hy
theorem same_yes {a b : List Int} {n : Nat} (ha : a.length = n) (hb : b.length = n) (h : a.take n = b.take n) : decide (a = b) = true := by
  rw [List.take_of_length_le (by omega), List.take_of_length_le (by omega)] at h
  exact decide_eq_true h
theorem same_len {a b : List Int} (h : a.length ≠ b.length) : decide (a = b) = false := by
  rw [decide_eq_false_iff_not]
  rintro rfl
  exact h rfl

set_option maxHeartbeats 1000000 in
theorem same_any (A C : Option Addr) (n c m d : Nat) (a b : List Int) (B1 B2 : Nat) (w : World) (ha : Reads w B1 1 A n (I64 a)) (hb : Reads w B2 1 C m (I64 b)) (hn : n ≤ 9223372036854775807) (hm : m ≤ 9223372036854775807) :
    Calls Try.prog 20 #[.slice A n c, .slice C m d] w fun e w' => e = .returned (.bool (decide (a = b))) ∧ ∃ q, w' = w.drewN q := by
  have hla : a.length = n := by have := ha.1; simpa [I64_length] using this
  have hlb : b.length = m := by have := hb.1; simpa [I64_length] using this
  by_cases hnm : n = m
  · subst hnm
    have LA := hide hla
    have LB := hide hlb
    clear hla hlb
    go_enter Try.func20, Try.ntmps20
    go_wp2
    go_loopw [5] (fun i wr => ∃ k q : Nat, k ≤ n ∧ i = .int .i64 k ∧ wr = w.drewN q ∧ Hid (a.take k = b.take k)) (fun i _ => n - (intOf i).toNat)
    case atStart => exact ⟨0, 0, Nat.zero_le _, rfl, rfl, hide rfl⟩
    case round =>
      obtain ⟨k, q, hk, rfl, rfl, hall⟩ := hrel
      by_cases hkn : k < n
      · obtain ⟨ad, x, rfl, _, hx, hca⟩ := ha.i64_at hkn
        obtain ⟨bd, y, rfl, _, hy, hcb⟩ := hb.i64_at hkn
        have HX := hide (take_more hx)
        have HY := hide (take_more hy)
        by_cases hxy : x = y
        · subst hxy
          clear hx hy
          go_wp2_with fail
          go_quiet (fail)
          go_wp2
          go_roundw
          case rel => exact ⟨k + 1, _, by omega, by go_num, rfl, hide (by rw [HX.out, HY.out, hall.out])⟩
          case measure => simp [intOf]; omega
        · have H := hide (same_no hx hy hxy)
          have hne : (x != y) = true := by simpa using hxy
          clear hx hy hxy
          go_wp2_with fail
          go_quiet (fail)
          go_wp2
          go_ret
          exact ⟨ret_b H.out.symm, _, World.drewN_drewN _ _ _⟩
      · obtain rfl : k = n := by omega
        have H := hide (same_yes LA.out LB.out hall.out)
        go_wp2
        go_ret
        exact ⟨ret_b H.out.symm, q, rfl⟩
  · have H := hide (same_len (a := a) (b := b) (by omega))
    have hne : ((n : Int) != (m : Int)) = true := by simp; omega
    clear hla hlb
    go_enter Try.func20, Try.ntmps20
    go_wp2
    go_ret
    exact ⟨ret_b H.out.symm, 0, rfl⟩
/-- Draws turn no block. -/
theorem below_drewN {B : Nat} {a w : World} (h : Below B a w) (n : Nat) : Below B a (w.drewN n) := ⟨h.os, h.tape, h.output, h.size, h.block⟩
#print axioms same_any
end Go.Proofs.Ytfjgpnjhmfcpiaa
