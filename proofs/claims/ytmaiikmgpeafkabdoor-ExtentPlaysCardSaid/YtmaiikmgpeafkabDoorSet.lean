/- What TakeAt and Free of bits do. -/
import Derived.Test.YtmaiikmgpeafkabDoorLow
import Derived.StillTailTactics
import Derived.IntWalk
namespace Go.Proofs.YtmaiikmgpeafkabDoor
open Go.RowKit

section
variable {b n : Nat} {t : Nat → Bool} {w : World}
set_option maxRecDepth 100000 in
theorem takeAt_yes (i : Nat) (hm : MapAt w b n t) (hi : i < n) (ht : t i = false) :
    Calls Tryd.prog 38 #[.pointer (some ⟨b, 0, none⟩), .int .i64 i] w fun e w' => e = .returned (.int .i64 0) ∧ MapAt w' b n (put t i true) ∧ w.grownBy w' (some b) := by
  have hn := hm.le
  have hl := wd_lt t (i / 64)
  obtain ⟨p, hp⟩ : ∃ p, p = 2 ^ (i % 64) := ⟨_, rfl⟩
  have HP := hide hp
  have HV := hide (or_of t i p hp)
  clear hp
  have h1 : (0 : Int) ≤ (i : Int) / 64 := by omega
  have h2 : (i : Int) / 64 < 1024 := by omega
  have HT := hide ht
  clear ht
  go_enter Tryd.func38, Tryd.ntmps38
  go_wp2_with fail
  refine (there_yes i hm hi).mono ?_
  rintro e w1 ⟨rfl, rfl⟩
  go_wp2_with fail
  refine (has_in i hm hi).mono ?_
  rintro e w1 ⟨rfl, k, rfl⟩
  rw [HT.out]
  obtain ⟨w1, hw⟩ : ∃ w1, w1 = w.drewN k := ⟨_, rfl⟩
  have hm1 : MapAt w1 b n t := by rw [hw]; exact hm.drewN k
  have hg1 : w.grownBy w1 (some b) := by rw [hw]; exact grown_drewN (grown_refl _ _) k
  rw [← hw]
  clear hw hm
  have hc := hm1.cellw (j := i / 64) (by omega)
  have hf := hm1.free
  have hset := hm1.set_ hi true
  rw [← HV.out] at hset
  go_wp2
  have hw1 : IntKind.i64.wrap ((i : Int) / 64) = (i : Int) / 64 := IntWalk.i64_in _ (by omega)
  have hw2 : ((i : Int) / 64).toNat = i / 64 := by omega
  refine wp_region_still_tail 13 (by kernel_rfl) (by kernel_rfl) ?_
  change wpStill _ _ w1.drew _ _ _
  simp only [List.take_succ_cons, List.take_zero, List.drop_succ_cons, List.drop_zero]
  iterate 8 still_step
  still_call ((bit_any i p HP.out (by omega)).mono fun _ _ ⟨h1, h2⟩ => ⟨h1, h2.symm⟩)
  iterate 4 still_step
  refine wpStill_nil ?_
  clear hw1
  change wpList _ _ _ _ _ w1.drew
  go_wp2
  go_ret
  exact ⟨rfl, hset.drew, grown_drew (grown_set hg1 _ rfl _)⟩
theorem takeAt_no (i : Nat) (hm : MapAt w b n t) (hi : i < n) (ht : t i = true) :
    Calls Tryd.prog 38 #[.pointer (some ⟨b, 0, none⟩), .int .i64 i] w fun e w' => e = .returned (.int .i64 9) ∧ ∃ k, w' = w.drewN k := by
  have HT := hide ht
  clear ht
  go_enter Tryd.func38, Tryd.ntmps38
  go_wp2_with fail
  refine (there_yes i hm hi).mono ?_
  rintro e w1 ⟨rfl, rfl⟩
  go_wp2_with fail
  refine (has_in i hm hi).mono ?_
  rintro e w1 ⟨rfl, k, rfl⟩
  rw [HT.out]
  go_wp2
  go_ret
  exact ⟨rfl, k, rfl⟩
theorem takeAt_above (i : Nat) (hm : MapAt w b n t) (hi : n ≤ i) :
    Calls Tryd.prog 38 #[.pointer (some ⟨b, 0, none⟩), .int .i64 i] w fun e w' => e = .returned (.int .i64 3) ∧ w = w' := by
  go_enter Tryd.func38, Tryd.ntmps38
  go_wp2_with fail
  refine (there_above i hm hi).mono ?_
  rintro e w1 ⟨rfl, rfl⟩
  go_wp2
  go_ret
  exact ⟨rfl, rfl⟩
theorem takeAt_below (i : Int) (hi : i < 0) :
    Calls Tryd.prog 38 #[.pointer (some ⟨b, 0, none⟩), .int .i64 i] w fun e w' => e = .returned (.int .i64 3) ∧ w = w' := by
  go_enter Tryd.func38, Tryd.ntmps38
  go_wp2_with fail
  refine (there_below i hi).mono ?_
  rintro e w1 ⟨rfl, rfl⟩
  go_wp2
  go_ret
  exact ⟨rfl, rfl⟩
set_option maxRecDepth 100000 in
theorem free_yes (i : Nat) (hm : MapAt w b n t) (hi : i < n) (ht : t i = true) :
    Calls Tryd.prog 41 #[.pointer (some ⟨b, 0, none⟩), .int .i64 i] w fun e w' => e = .returned (.int .i64 0) ∧ MapAt w' b n (put t i false) ∧ w.grownBy w' (some b) := by
  have hn := hm.le
  have hl := wd_lt t (i / 64)
  obtain ⟨p, hp⟩ : ∃ p, p = 2 ^ (i % 64) := ⟨_, rfl⟩
  have HP := hide hp
  have HV := hide (clear_of t i p hp)
  clear hp
  have h1 : (0 : Int) ≤ (i : Int) / 64 := by omega
  have h2 : (i : Int) / 64 < 1024 := by omega
  have HT := hide ht
  clear ht
  go_enter Tryd.func41, Tryd.ntmps41
  go_wp2_with fail
  refine (there_yes i hm hi).mono ?_
  rintro e w1 ⟨rfl, rfl⟩
  go_wp2_with fail
  refine (has_in i hm hi).mono ?_
  rintro e w1 ⟨rfl, k, rfl⟩
  rw [HT.out]
  obtain ⟨w1, hw⟩ : ∃ w1, w1 = w.drewN k := ⟨_, rfl⟩
  have hm1 : MapAt w1 b n t := by rw [hw]; exact hm.drewN k
  have hg1 : w.grownBy w1 (some b) := by rw [hw]; exact grown_drewN (grown_refl _ _) k
  rw [← hw]
  clear hw hm
  have hc := hm1.cellw (j := i / 64) (by omega)
  have hf := hm1.free
  have hset := hm1.set_ hi false
  rw [← HV.out] at hset
  go_wp2
  have hw1 : IntKind.i64.wrap ((i : Int) / 64) = (i : Int) / 64 := IntWalk.i64_in _ (by omega)
  have hw2 : ((i : Int) / 64).toNat = i / 64 := by omega
  refine wp_region_still_tail 13 (by kernel_rfl) (by kernel_rfl) ?_
  change wpStill _ _ w1.drew _ _ _
  simp only [List.take_succ_cons, List.take_zero, List.drop_succ_cons, List.drop_zero]
  iterate 8 still_step
  still_call ((bit_any i p HP.out (by omega)).mono fun _ _ ⟨h1, h2⟩ => ⟨h1, h2.symm⟩)
  iterate 4 still_step
  refine wpStill_nil ?_
  clear hw1
  change wpList _ _ _ _ _ w1.drew
  go_wp2
  go_ret
  exact ⟨rfl, hset.drew, grown_drew (grown_set hg1 _ rfl _)⟩
theorem free_no (i : Nat) (hm : MapAt w b n t) (hi : i < n) (ht : t i = false) :
    Calls Tryd.prog 41 #[.pointer (some ⟨b, 0, none⟩), .int .i64 i] w fun e w' => e = .returned (.int .i64 9) ∧ ∃ k, w' = w.drewN k := by
  have HT := hide ht
  clear ht
  go_enter Tryd.func41, Tryd.ntmps41
  go_wp2_with fail
  refine (there_yes i hm hi).mono ?_
  rintro e w1 ⟨rfl, rfl⟩
  go_wp2_with fail
  refine (has_in i hm hi).mono ?_
  rintro e w1 ⟨rfl, k, rfl⟩
  rw [HT.out]
  go_wp2
  go_ret
  exact ⟨rfl, k, rfl⟩
theorem free_above (i : Nat) (hm : MapAt w b n t) (hi : n ≤ i) :
    Calls Tryd.prog 41 #[.pointer (some ⟨b, 0, none⟩), .int .i64 i] w fun e w' => e = .returned (.int .i64 3) ∧ w = w' := by
  go_enter Tryd.func41, Tryd.ntmps41
  go_wp2_with fail
  refine (there_above i hm hi).mono ?_
  rintro e w1 ⟨rfl, rfl⟩
  go_wp2
  go_ret
  exact ⟨rfl, rfl⟩
theorem free_below (i : Int) (hi : i < 0) :
    Calls Tryd.prog 41 #[.pointer (some ⟨b, 0, none⟩), .int .i64 i] w fun e w' => e = .returned (.int .i64 3) ∧ w = w' := by
  go_enter Tryd.func41, Tryd.ntmps41
  go_wp2_with fail
  refine (there_below i hi).mono ?_
  rintro e w1 ⟨rfl, rfl⟩
  go_wp2
  go_ret
  exact ⟨rfl, rfl⟩
end
/-- There is such a place. -/
def inB (n : Nat) (i : Int) : Bool := decide (0 ≤ i) && decide (i < n)
/-- What TakeAt (v: true) or Free (v: false) answers, and what is taken then. -/
def setCode (n : Nat) (t : Nat → Bool) (i : Int) (v : Bool) : Int := if inB n i then (if t i.toNat = v then 9 else 0) else 3
def setMap (n : Nat) (t : Nat → Bool) (i : Int) (v : Bool) : Nat → Bool := if inB n i then put t i.toNat v else t
theorem put_same {t : Nat → Bool} {i : Nat} {v : Bool} (h : t i = v) : put t i v = t := by
  funext k
  by_cases e : k = i
  · subst e; simp [put, h]
  · simp [put, e]
theorem inB_nat {n i : Nat} (h : i < n) : inB n (i : Int) = true := by simp [inB, h]
theorem inB_above {n i : Nat} (h : n ≤ i) : inB n (i : Int) = false := by simp [inB, h]
theorem inB_below {n : Nat} {i : Int} (h : i < 0) : inB n i = false := by unfold inB; rw [decide_eq_false (by omega)]; rfl
section
variable {b n : Nat} {t : Nat → Bool} {w : World}
theorem takeAt_any (i : Int) (hm : MapAt w b n t) :
    Calls Tryd.prog 38 #[.pointer (some ⟨b, 0, none⟩), .int .i64 i] w fun e w' => e = .returned (.int .i64 (setCode n t i true)) ∧ MapAt w' b n (setMap n t i true) ∧ w.grownBy w' (some b) := by
  rcases Int.lt_or_le i 0 with h | h
  · rw [setCode, setMap, inB_below h]
    exact (takeAt_below i h).mono fun e w' ⟨h1, h2⟩ => by subst h2; exact ⟨h1, hm, grown_refl _ _⟩
  · obtain ⟨i, rfl⟩ := Int.eq_ofNat_of_zero_le h
    by_cases hi : i < n
    · rw [setCode, setMap, inB_nat hi]
      cases ht : t i
      · exact (takeAt_yes i hm hi ht).mono fun e w' ⟨h1, h2, h3⟩ => ⟨by rw [h1]; simp [ht], by simpa using h2, h3⟩
      · refine (takeAt_no i hm hi ht).mono fun e w' ⟨h1, k, h2⟩ => ?_
        subst h2
        refine ⟨by rw [h1]; simp [ht], ?_, grown_drewN (grown_refl _ _) k⟩
        have := put_same ht
        simp only [Int.toNat_natCast, if_true, this]
        exact hm.drewN k
    · rw [setCode, setMap, inB_above (by omega)]
      exact (takeAt_above i hm (by omega)).mono fun e w' ⟨h1, h2⟩ => by subst h2; exact ⟨h1, hm, grown_refl _ _⟩
theorem free_any (i : Int) (hm : MapAt w b n t) :
    Calls Tryd.prog 41 #[.pointer (some ⟨b, 0, none⟩), .int .i64 i] w fun e w' => e = .returned (.int .i64 (setCode n t i false)) ∧ MapAt w' b n (setMap n t i false) ∧ w.grownBy w' (some b) := by
  rcases Int.lt_or_le i 0 with h | h
  · rw [setCode, setMap, inB_below h]
    exact (free_below i h).mono fun e w' ⟨h1, h2⟩ => by subst h2; exact ⟨h1, hm, grown_refl _ _⟩
  · obtain ⟨i, rfl⟩ := Int.eq_ofNat_of_zero_le h
    by_cases hi : i < n
    · rw [setCode, setMap, inB_nat hi]
      cases ht : t i
      · refine (free_no i hm hi ht).mono fun e w' ⟨h1, k, h2⟩ => ?_
        subst h2
        refine ⟨by rw [h1]; simp [ht], ?_, grown_drewN (grown_refl _ _) k⟩
        have := put_same ht
        simp only [Int.toNat_natCast, if_true, this]
        exact hm.drewN k
      · exact (free_yes i hm hi ht).mono fun e w' ⟨h1, h2, h3⟩ => ⟨by rw [h1]; simp [ht], by simpa using h2, h3⟩
    · rw [setCode, setMap, inB_above (by omega)]
      exact (free_above i hm (by omega)).mono fun e w' ⟨h1, h2⟩ => by subst h2; exact ⟨h1, hm, grown_refl _ _⟩
end
#print axioms takeAt_any
#print axioms free_any
end Go.Proofs.YtmaiikmgpeafkabDoor
