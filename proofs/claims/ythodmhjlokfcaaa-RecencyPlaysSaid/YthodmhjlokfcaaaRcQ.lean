/- Two rows of numbers are compared (law 16). -/
import Derived.Test.YthodmhjlokfcaaaRcC
import Derived.BigQuiet
namespace Go.Proofs.Ythodmhjlokfcaaa
open Go.RowKit
set_option linter.unusedVariables false

theorem list_split {l1 l2 : List Int} {k : Nat} {x y : Int} (h : l1.take k = l2.take k) (hx : l1[k]? = some x) (hy : l2[k]? = some y) (he : x = y) : l1.take (k + 1) = l2.take (k + 1) := by
  rw [List.take_add_one, List.take_add_one, h, hx, hy, he]
theorem list_other {l1 l2 : List Int} {k : Nat} {x y : Int} (hx : l1[k]? = some x) (hy : l2[k]? = some y) (he : ¬ x = y) : ¬ l1 = l2 := fun h => by
  rw [h, hy] at hx
  injection hx with hx
  exact he hx.symm
set_option maxRecDepth 100000 in
set_option maxHeartbeats 1000000 in
theorem numbers_any (A1 A2 : Option Addr) (n1 n2 c1 c2 : Nat) (l1 l2 : List Int) (B : Nat) (w : World) (h1 : Reads w B 1 A1 n1 (I64 l1)) (h2 : Reads w B 1 A2 n2 (I64 l2)) (hn1 : n1 ≤ maxLen) (hn2 : n2 ≤ maxLen) :
    Calls Try.prog 16 #[.slice A1 n1 c1, .slice A2 n2 c2] w fun e w' => e = .returned (.bool (decide (l1 = l2))) ∧ ∃ q, w' = w.drewN q := by
  have H1 := hide h1
  have H2 := hide h2
  have hl1 : l1.length = n1 := by have := h1.1; rw [I64_length] at this; omega
  have hl2 : l2.length = n2 := by have := h2.1; rw [I64_length] at this; omega
  have HL1 := hide hl1
  have HL2 := hide hl2
  simp only [maxLen] at hn1 hn2
  clear h1 h2 hl1 hl2
  go_enter Try.func16, Try.ntmps16
  by_cases hn : n1 = n2
  · subst hn
    go_wp2
    go_loopw [5] (fun i wr => ∃ k : Nat, k ≤ n1 ∧ i = .int .i64 k ∧ Hid (l1.take k = l2.take k) ∧ Hid (∃ q, wr = w.drewN q)) (fun i _ => n1 - (intOf i).toNat)
    case atStart => exact ⟨0, Nat.zero_le _, rfl, hide rfl, hide ⟨0, rfl⟩⟩
    case round =>
      obtain ⟨k, hk, rfl, HE, HW⟩ := hrel
      by_cases hkn : k < n1
      · obtain ⟨q, hq⟩ := HW.out
        obtain ⟨ad1, x, rfl, _, hx, hcx⟩ := H1.out.i64_at hkn
        obtain ⟨ad2, y, rfl, _, hy, hcy⟩ := H2.out.i64_at hkn
        have hcx2 : wr.cell? (ad1.add k) = some (.int .i64 x) := by rw [hq]; exact hcx
        have hcy2 : wr.cell? (ad2.add k) = some (.int .i64 y) := by rw [hq]; exact hcy
        have HX := hide hx
        have HY := hide hy
        have HQ := hide hq
        clear hx hy hcx hcy hq
        by_cases he : x = y
        · have HE2 := hide (list_split HE.out HX.out HY.out he)
          have hne : (x == y) = true := by simpa using he
          clear he
          go_wp2_with fail
          go_quiet (fail)
          go_wp2
          have HW2 : Hid (∃ q, wr.drewN nq = w.drewN q) := hide ⟨q + nq, by rw [HQ.out]; simp [World.drewN, Nat.add_assoc]⟩
          go_roundw
          case rel => exact ⟨k + 1, by omega, by go_num, HE2, HW2⟩
          case measure => simp [intOf]; omega
        · have HNE := hide (list_other HX.out HY.out he)
          have hne : (x == y) = false := by simpa using he
          go_wp2_with fail
          go_quiet (fail)
          go_wp2
          go_ret
          exact ⟨ret_bool (by simp [HNE.out]), q + nq, by rw [HQ.out]; simp [World.drewN, Nat.add_assoc]⟩
      · obtain rfl : k = n1 := by omega
        have hee := HE.out
        rw [List.take_of_length_le (by rw [HL1.out]; exact Nat.le_refl _), List.take_of_length_le (by rw [HL2.out]; exact Nat.le_refl _)] at hee
        have HEE := hide hee
        clear hee
        go_wp2
        go_ret
        exact ⟨ret_bool (by simp [HEE.out]), HW.out⟩
  · have HNE : Hid (¬ l1 = l2) := hide (fun h => hn (by rw [← HL1.out, ← HL2.out, h]))
    go_wp2
    go_ret
    exact ⟨ret_bool (by simp [HNE.out]), 0, rfl⟩
section
variable {w0 W : World} {Hs : List Thing} {U : VarsT} {A B : Option Addr} {n m c d : Nat} {l k : List Int}
/-- Two rows that are there are compared. -/
theorem Sta.numbers_ (h : Sta w0 W Hs U) (h1 : Reads W W.heap.size 1 A n (I64 l)) (h2 : Reads W W.heap.size 1 B m (I64 k)) (hn : n ≤ 1000000) (hm : m ≤ 1000000) :
    Calls Try.prog 16 #[.slice A n c, .slice B m d] W fun e W' => e = .returned (.bool (decide (l = k))) ∧ Sta w0 W' Hs U ∧ Below W.heap.size W W' :=
  (numbers_any A B n m c d l k W.heap.size W h1 h2 (by simp only [maxLen]; omega) (by simp only [maxLen]; omega)).mono fun e W' ⟨he, q, hq⟩ => by
    have hb : Below W.heap.size W W' := by rw [hq]; exact ⟨rfl, rfl, rfl, Nat.le_refl _, fun _ _ => rfl⟩
    exact ⟨he, h.later hb, hb⟩
end
#print axioms numbers_any
end Go.Proofs.Ythodmhjlokfcaaa
