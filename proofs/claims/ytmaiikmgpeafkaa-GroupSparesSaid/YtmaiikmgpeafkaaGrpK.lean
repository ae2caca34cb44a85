/- What Pick, Spare of group and slices.Clone at ints answer. -/
import Derived.Test.YtmaiikmgpeafkaaGrpO
import Derived.Test.YtmaiikmgpeafkaaWhen
import Derived.WalkSpells
namespace Go.Proofs.Ytmaiikmgpeafkaa
open Go.RowKit

/-- The head of a row of the call's own. -/
theorem own_head {w : World} {base n k c : Nat} {A : Option Addr} {l : List Int} (h : w.ownsRow base 3 1 (.slice A n c) l.length (I64 l)) (hk : k ≤ l.length) : w.ownsRow base 3 1 (.slice A k c) k (I64 (l.take k)) := by
  refine ⟨by rw [I64_length, List.length_take, Nat.min_eq_left hk, Nat.mul_one], ?_⟩
  rcases h.2 with ⟨h0, h1⟩ | ⟨g, cap, cur, hv, h1, h2, h3, h4, h5, h6⟩
  · injection h0 with e1 e2 e3
    subst e1 e3
    exact .inl ⟨by rw [show k = 0 by omega], by omega⟩
  · injection hv with e1 e2 e3
    subst e1 e3
    refine .inr ⟨g, c, cur, rfl, h1, h2, by omega, h4, h5, ?_⟩
    rw [Nat.mul_one] at h6 ⊢
    have : (cur.toList.take l.length).take k = (I64 l).take k := by rw [h6]
    rw [List.take_take, Nat.min_eq_left hk] at this
    rw [this, I64, I64, List.map_take]
/-- What Pick answers. -/
def pickB (rm : List Int) (width : Int) (ban : List Int) : Bool := decide (1 ≤ width) && decide (width ≤ ((orderL rm ban).length : Int))
def pickL (rm : List Int) (width : Int) (ban : List Int) : List Nat := if pickB rm width ban = true then (orderL rm ban).take width.toNat else []
set_option maxHeartbeats 1000000 in
theorem pick_any (AR : Option Addr) (cR : Nat) (rm : List Int) (width : Int) (AB : Option Addr) (nB cB : Nat) (ban : List Int) (B0 : Nat) (w : World) (hr : Reads w B0 1 AR rm.length (I64 rm)) (hb : Reads w B0 1 AB nB (I64 ban)) (hB0 : B0 ≤ w.heap.size) (hn : rm.length ≤ 1000000) (hnB : nB ≤ maxLen) (hn8 : nB * 8 ≤ 140737488355328) :
    Calls Try.prog 11 #[.slice AR rm.length cR, .int .i64 width, .slice AB nB cB] w fun e w' => ∃ A c, e = .returned (.tuple #[.slice A (pickL rm width ban).length c, .bool (pickB rm width ban)]) ∧ w'.ownsRow w.heap.size 3 1 (.slice A (pickL rm width ban).length c) (pickL rm width ban).length (I64 (toI (pickL rm width ban))) ∧ Below w.heap.size w w' := by
  have HO := hide (inOrder_any AR cR rm AB nB cB ban B0 w hr hb hB0 hn hnB hn8)
  have hle : (orderL rm ban).length ≤ 1000000 := by
    have h1 := (orderL_perm rm ban).length_eq
    have h2 := List.length_filter_le (mayB rm ban) (List.range rm.length)
    rw [List.length_range] at h2
    omega
  unfold pickL pickB
  obtain ⟨L, hL⟩ : ∃ L, L = orderL rm ban := ⟨_, rfl⟩
  rw [← hL] at HO hle ⊢
  clear hL hr hb
  by_cases h1 : width < 1
  · have e : (decide (1 ≤ width) && decide (width ≤ (L.length : Int))) = false := by
      have : ¬ 1 ≤ width := by omega
      simp [this]
    rw [e]
    have HE := hide e
    clear e
    go_enter Try.func11, Try.ntmps11
    go_wp2_with (first
      | (go_at_call 26; refine HO.out.mono ?_; rintro _ w1 ⟨v, rfl, hrow, hl1⟩; obtain ⟨A, c, rfl, hc1, hc2⟩ := own_shape hrow))
    go_ret2
    exact ⟨none, 0, rfl, World.ownsRow_nil _ _ _ _, hl1⟩
  · by_cases h2 : (L.length : Int) < width
    · have e : (decide (1 ≤ width) && decide (width ≤ (L.length : Int))) = false := by
        have : ¬ width ≤ (L.length : Int) := by omega
        simp [this]
      rw [e]
      have HE := hide e
      clear e
      go_enter Try.func11, Try.ntmps11
      go_wp2_with (first
        | (go_at_call 26; refine HO.out.mono ?_; rintro _ w1 ⟨v, rfl, hrow, hl1⟩; obtain ⟨A, c, rfl, hc1, hc2⟩ := own_shape hrow))
      go_ret2
      exact ⟨none, 0, rfl, World.ownsRow_nil _ _ _ _, hl1⟩
    · have e : (decide (1 ≤ width) && decide (width ≤ (L.length : Int))) = true := by
        have a1 : 1 ≤ width := by omega
        have a2 : width ≤ (L.length : Int) := by omega
        simp [a1, a2]
      rw [e, if_pos rfl]
      have HE := hide e
      clear e
      obtain ⟨k, rfl⟩ : ∃ k : Nat, width = (k : Int) := ⟨width.toNat, by omega⟩
      have hk : k ≤ L.length := by omega
      have hlen : (L.take ((k : Int)).toNat).length = k := by rw [Int.toNat_natCast, List.length_take, Nat.min_eq_left hk]
      have HLEN := hide hlen
      rw [hlen]
      clear hlen
      go_enter Try.func11, Try.ntmps11
      go_wp2_with (first
        | (go_at_call 26; refine HO.out.mono ?_; rintro _ w1 ⟨v, rfl, hrow, hl1⟩; obtain ⟨A, c, rfl, hc1, hc2⟩ := own_shape hrow; have hkc : k ≤ c := Nat.le_trans hk hc1))
      go_ret2
      have hrow2 : w1.ownsRow w.heap.size 3 1 (.slice A L.length c) (toI L).length (I64 (toI L)) := by rw [toI_length]; exact hrow
      have hh := own_head hrow2 (k := k) (by rw [toI_length]; exact hk)
      refine ⟨A, c, rfl, ?_, hl1⟩
      rw [Int.toNat_natCast]
      have e2 : toI (L.take k) = (toI L).take k := by simp [toI]
      rw [e2]
      exact hh
set_option maxHeartbeats 1000000 in
theorem clone_any (A : Option Addr) (n c : Nat) (l : List Int) (B0 : Nat) (w : World) (hr : Reads w B0 1 A n (I64 l)) (hB0 : B0 ≤ w.heap.size) (hn : n ≤ 1000000) :
    Calls Try.prog 35 #[.slice A n c] w fun e w' => ∃ v, e = .returned v ∧ w'.ownsRow w.heap.size 3 1 v n (I64 l) ∧ Below w.heap.size w w' := by
  obtain ⟨i0, hi0, hz0, hz1, hz2⟩ := info_parts int_parts
  cases A with
  | none =>
    have hn0 : n = 0 := by
      rcases Nat.eq_zero_or_pos n with h0 | h0
      · exact h0
      · obtain ⟨ad, h, _⟩ := hr.2 h0
        cases h
    subst hn0
    have hx : I64 l = [] := List.eq_nil_of_length_eq_zero (by simpa using hr.1)
    have hq := fun (w : World) => Lib.run_eql_slice_nil (P := Try.prog) w 22 3 none 0 c 0 0 Try.underlying22
    have H := hide hx
    clear hx hr
    go_enter Try.func35, Try.ntmps35
    go_wp2
    go_ret
    exact ⟨_, rfl, by rw [H.out]; exact World.ownsRow_nil _ _ _ _, Below.refl _ _⟩
  | some ad =>
    have hq := fun (w : World) => Lib.run_eql_slice_nil (P := Try.prog) w 22 3 (some ad) n c 0 0 Try.underlying22
    have h63 : 0 + n ≤ maxLen := by simp only [maxLen]; omega
    have hm2 : (0 + n) * 8 ≤ 140737488355328 := by omega
    have HR := hide hr
    have h1 : ∀ u ∈ I64 l, u.oneCell' = true := by
      intro u hu
      obtain ⟨x, _, rfl⟩ := List.mem_map.1 hu
      rfl
    have H1 := hide h1
    clear hr h1
    go_enter Try.func35, Try.ntmps35
    go_wp2_with (at_builtin; refine wpList_append_any _ rfl (.tmp 5) (.tmp 6) _ rfl w.heap.size 3 i0 _ 1 8 Try.underlying22 hi0 hz0 hz1 hz2 rfl (by omega) _ 0 [] rfl (World.ownsRow_made w #[] 0 (Nat.le_refl _) (Nat.zero_le _) rfl) B0 (some ad) n c (I64 l) rfl (HR.out.alloc hB0 _) H1.out h63 hm2 (le_alloc (Nat.le_refl _) _) ?_; intro v1 w1 hown1 hbel1)
    go_ret
    exact ⟨_, rfl, by simpa using hown1, ((Below.refl _ _).alloc (Nat.le_refl _) _).trans hbel1⟩
#print axioms pick_any
end Go.Proofs.Ytmaiikmgpeafkaa
