/- The law's numbers, small. -/
import Derived.Test.YtmaiikmgpeafkaaGrpD
import Derived.Test.YtmaiikmgpeafkaaTwoRows
import Derived.Test.YtmaiikmgpeafkaaGrpS
import Derived.BigQuiet
namespace Go.Proofs.Ytmaiikmgpeafkaa
open Go.RowKit

theorem list_split {l1 l2 : List Int} {k : Nat} {x y : Int} (h : l1.take k = l2.take k) (hx : l1[k]? = some x) (hy : l2[k]? = some y) (he : x = y) : l1.take (k + 1) = l2.take (k + 1) := by
  rw [List.take_add_one, List.take_add_one, h, hx, hy, he]
theorem list_other {l1 l2 : List Int} {k : Nat} {x y : Int} (hx : l1[k]? = some x) (hy : l2[k]? = some y) (he : ¬ x = y) : ¬ l1 = l2 := fun h => by
  rw [h, hy] at hx
  injection hx with hx
  exact he hx.symm
set_option maxRecDepth 100000 in
set_option maxHeartbeats 1000000 in
theorem numbers_any (A1 A2 : Option Addr) (n1 n2 c1 c2 : Nat) (l1 l2 : List Int) (B : Nat) (w : World) (h1 : Reads w B 1 A1 n1 (I64 l1)) (h2 : Reads w B 1 A2 n2 (I64 l2)) (hn1 : n1 ≤ maxLen) (hn2 : n2 ≤ maxLen) :
    Calls Try.prog 13 #[.slice A1 n1 c1, .slice A2 n2 c2] w fun e w' => e = .returned (.bool (decide (l1 = l2))) ∧ ∃ q, w' = w.drewN q := by
  have H1 := hide h1
  have H2 := hide h2
  have hl1 : l1.length = n1 := by have := h1.1; rw [I64_length] at this; omega
  have hl2 : l2.length = n2 := by have := h2.1; rw [I64_length] at this; omega
  have HL1 := hide hl1
  have HL2 := hide hl2
  simp only [maxLen] at hn1 hn2
  clear h1 h2 hl1 hl2
  go_enter Try.func13, Try.ntmps13
  by_cases hn : n1 = n2
  · subst hn
    go_wp2
    go_loopw [5] (fun i wr => ∃ k : Nat, k ≤ n1 ∧ i = .int .i64 k ∧ Hid (l1.take k = l2.take k) ∧ Hid (∃ q, wr = w.drewN q)) (fun i _ => n1 - (intOf i).toNat)
    case atStart => exact ⟨0, Nat.zero_le _, rfl, hide rfl, hide ⟨0, rfl⟩⟩
    case round =>
      obtain ⟨k, hk, rfl, HE, HW⟩ := hrel
      by_cases hkn : k < n1
      · obtain ⟨q, hq⟩ := HW.out
        obtain ⟨ad1, x, rfl, _, hx, hcx⟩ := H1.out.i64_at hkn
        obtain ⟨ad2, y, rfl, _, hy, hcy⟩ := H2.out.i64_at hkn
        have hcx2 : wr.cell? (ad1.add k) = some (.int .i64 x) := by rw [hq]; exact hcx
        have hcy2 : wr.cell? (ad2.add k) = some (.int .i64 y) := by rw [hq]; exact hcy
        have HX := hide hx
        have HY := hide hy
        have HQ := hide hq
        clear hx hy hcx hcy hq
        by_cases he : x = y
        · have HE2 := hide (list_split HE.out HX.out HY.out he)
          have hne : (x == y) = true := by simpa using he
          clear he
          go_wp2_with fail
          go_quiet (fail)
          go_wp2
          have HW2 : Hid (∃ q, wr.drewN nq = w.drewN q) := hide ⟨q + nq, by rw [HQ.out]; simp [World.drewN, Nat.add_assoc]⟩
          go_roundw
          case rel => exact ⟨k + 1, by omega, by go_num, HE2, HW2⟩
          case measure => simp [intOf]; omega
        · have HNE := hide (list_other HX.out HY.out he)
          have hne : (x == y) = false := by simpa using he
          go_wp2_with fail
          go_quiet (fail)
          go_wp2
          go_ret
          exact ⟨ret_bool (by simp [HNE.out]), q + nq, by rw [HQ.out]; simp [World.drewN, Nat.add_assoc]⟩
      · obtain rfl : k = n1 := by omega
        have hee := HE.out
        rw [List.take_of_length_le (by rw [HL1.out]; exact Nat.le_refl _), List.take_of_length_le (by rw [HL2.out]; exact Nat.le_refl _)] at hee
        have HEE := hide hee
        clear hee
        go_wp2
        go_ret
        exact ⟨ret_bool (by simp [HEE.out]), HW.out⟩
  · have HNE : Hid (¬ l1 = l2) := hide (fun h => hn (by rw [← HL1.out, ← HL2.out, h]))
    go_wp2
    go_ret
    exact ⟨ret_bool (by simp [HNE.out]), 0, rfl⟩
/-- At most eight rooms, none above a thousand. -/
def minI (x : Int) : Int := min x 1000
def smallL (rm : List Int) : List Int := (rm.take 8).map minI
theorem smallL_length (rm : List Int) : (smallL rm).length ≤ 8 := by
  simp only [smallL, List.length_map, List.length_take]; omega
theorem smallL_le (rm : List Int) : ∀ v ∈ smallL rm, v ≤ 1000 := fun v hv => by
  obtain ⟨x, _, rfl⟩ := List.mem_map.1 hv
  unfold minI
  omega
theorem smallL_ge {rm : List Int} {b : Int} (hb : b ≤ 1000) (h : ∀ v ∈ rm, b ≤ v) : ∀ v ∈ smallL rm, b ≤ v := fun v hv => by
  obtain ⟨x, hx, rfl⟩ := List.mem_map.1 hv
  have := h x (List.mem_of_mem_take hx)
  unfold minI
  omega
theorem map_more {rm : List Int} {k : Nat} {v : Int} (h : rm[k]? = some v) : (rm.take (k + 1)).map minI = (rm.take k).map minI ++ [minI v] := by
  rw [List.take_add_one, h]
  simp
theorem small_end {rm : List Int} {k : Nat} (h : (k ≤ 8 ∧ k = rm.length) ∨ k = 8) : (rm.take k).map minI = smallL rm := by
  unfold smallL
  rcases h with ⟨h1, h2⟩ | h1
  · rw [List.take_of_length_le (by omega), List.take_of_length_le (by omega)]
  · rw [h1]
set_option maxRecDepth 100000 in
set_option maxHeartbeats 1000000 in
theorem small_any (A : Option Addr) (n c : Nat) (rm : List Int) (B0 : Nat) (w : World) (hr : Reads w B0 1 A n (I64 rm)) (hB0 : B0 ≤ w.heap.size) :
    Calls Try.prog 15 #[.slice A n c] w fun e w' => ∃ v, e = .returned v ∧ w'.ownsRow w.heap.size 3 1 v (smallL rm).length (I64 (smallL rm)) ∧ Below w.heap.size w w' := by
  obtain ⟨i0, hi0, hz0, hz1, hz2⟩ := info_parts int_parts
  have HI := hide (And.intro hi0 (And.intro hz0 (And.intro hz1 hz2)))
  have HR := hide hr
  have hll : rm.length = n := by have := hr.1; rw [I64_length] at this; omega
  have HL := hide hll
  clear hr hi0 hz0 hz1 hz2 hll
  go_enter Try.func15, Try.ntmps15
  go_wp2
  have hl1 : Below w.heap.size w (w.alloc (.cells #[] 3)) := (Below.refl _ _).alloc (Nat.le_refl _) _
  have hrow : (w.alloc (.cells #[] 3)).ownsRow w.heap.size 3 1 (.slice (some ⟨w.heap.size, 0, none⟩) 0 0) 0 (I64 ((rm.take 0).map minI)) := World.ownsRow_made w #[] 0 (Nat.le_refl _) (Nat.zero_le _) rfl
  obtain ⟨w1, hw1⟩ : ∃ w1, w1 = w.alloc (.cells #[] 3) := ⟨_, rfl⟩
  rw [← hw1] at hl1 hrow ⊢
  have H1 := hide hrow
  have HL1 := hide hl1
  clear hw1 hrow hl1
  go_loopw [3, 4] (fun s3 i wr => ∃ k : Nat, k ≤ n ∧ k ≤ 8 ∧ i = .int .i64 k ∧ Hid (wr.ownsRow w.heap.size 3 1 s3 k (I64 ((rm.take k).map minI))) ∧ Hid (Below w.heap.size w wr)) (fun _ i _ => n - (intOf i).toNat)
  case atStart => exact ⟨0, Nat.zero_le _, Nat.zero_le _, rfl, H1, HL1⟩
  case round =>
    clear H1 HL1
    obtain ⟨k, hk, hk8, rfl, H3, HB⟩ := hrel
    have hzr := HB.out.size
    by_cases hkn : k < n
    · by_cases hk8' : k < 8
      · obtain ⟨ad, x, rfl, hab, hx, hcx⟩ := (HR.out.below (HB.out.mono hB0)).i64_at hkn
        have HMM := hide (map_more hx)
        have a1 : k + 1 ≤ maxLen := by simp only [maxLen]; omega
        have a2 : (k + 1) * 8 ≤ 140737488355328 := by omega
        have HAA := hide (And.intro a1 a2)
        clear hx a1 a2
        go_wp2_with (first
          | ((with_reducible refine at_slot 23 ?_); refine wpList_append_two _ rfl (.tmp 16) (.tmp 22) _ rfl w.heap.size 3 i0 _ 1 8 Try.underlying22 HI.out.1 HI.out.2.1 HI.out.2.2.1 HI.out.2.2.2 rfl (by decide) _ k _ rfl (H3.out.alloc _) (wr.heap.size + 1) (some ⟨wr.heap.size, 0, none⟩) 1 1 [.int .i64 (min x 1000)] rfl (Reads.one _ _ _ _ (by omega)) (one_i64 _) HAA.out.1 HAA.out.2 (le_alloc (by omega) _) ?_; intro v4 w4 hown4 hg4 hb4; have hz4 := hg4.size; rw [World.size_alloc] at hz4; have H4 := hide hown4; have HG4 := hide hg4; clear hown4 hg4 hb4))
        have hl4 : Below w.heap.size w w4 := (HB.out.alloc hzr _).grown HG4.out (by rw [World.size_alloc]; omega) (fun g e => (H3.out.lt g e).1)
        have H42 : Hid (w4.ownsRow w.heap.size 3 1 v4 (k + 1) (I64 ((rm.take (k + 1)).map minI))) := hide (by
          rw [HMM.out, I64_append]
          exact H4.out)
        have HB4 := hide hl4
        clear hl4 H4 hz4
        go_roundw
        case rel => exact ⟨k + 1, by omega, by omega, by go_num, H42, HB4⟩
        case measure => simp [intOf]; omega
      · obtain rfl : k = 8 := by omega
        have HE := hide (small_end (rm := rm) (k := 8) (.inr rfl))
        have HK := hide (show 8 = (smallL rm).length by rw [← HE.out, List.length_map, List.length_take, HL.out]; omega)
        go_wp2
        go_ret
        refine ⟨_, rfl, ?_, HB.out⟩
        have h3 := H3.out
        rw [HE.out] at h3
        rw [← HK.out]
        exact h3
    · obtain rfl : k = n := by omega
      have HE := hide (small_end (rm := rm) (k := k) (.inl ⟨hk8, HL.out.symm⟩))
      have HK := hide (show k = (smallL rm).length by rw [← HE.out, List.length_map, List.length_take, HL.out]; omega)
      go_wp2
      go_ret
      refine ⟨_, rfl, ?_, HB.out⟩
      have h3 := H3.out
      rw [HE.out] at h3
      rw [← HK.out]
      exact h3
#print axioms small_any
end Go.Proofs.Ytmaiikmgpeafkaa
