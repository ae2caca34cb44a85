/- What record's small calls do: Parts, numbered, least, right, content. -/
import Derived.Test.YtmjdndhpnckeeaaRecP
import Derived.Test.YtmjdndhpnckeeaaWhen
import Derived.Test.YtmjdndhpnckeeaaStill
import Derived.Test.YtmjdndhpnckeeaaMade
import Derived.Test.YtmjdndhpnckeeaaTwoRows
namespace Go.Proofs.Ytmjdndhpnckeeaa
open Go.RowKit

/-- A tag's own variable. -/
def tagC (t : Tg) : List Value := [.int .i64 t.gen, .int .i64 t.nr, .int .i64 t.part, .int .i64 t.parts, .int .i64 t.len]
def tagV (t : Tg) : Value := .agg (tagC t).toArray
theorem tag_info : (Try.prog.info? 105).map (·.size) = some 5 := by kernel_rfl
theorem tagC_one (t : Tg) : ∀ v ∈ tagC t, v.oneCell' = true := by
  intro v hv
  simp [tagC] at hv
  rcases hv with rfl | rfl | rfl | rfl | rfl <;> rfl
section
variable {w : World} {g : Nat} {T : TypeId} {t : Tg}
theorem tag_c0 (h : Blk w g T (tagC t).toArray) : w.cell? ⟨g, 0, none⟩ = some (.int .i64 t.gen) := h.cell 0
theorem tag_c1 (h : Blk w g T (tagC t).toArray) : w.cell? ⟨g, 1, none⟩ = some (.int .i64 t.nr) := h.cell 1
theorem tag_c2 (h : Blk w g T (tagC t).toArray) : w.cell? ⟨g, 2, none⟩ = some (.int .i64 t.part) := h.cell 2
theorem tag_c3 (h : Blk w g T (tagC t).toArray) : w.cell? ⟨g, 3, none⟩ = some (.int .i64 t.parts) := h.cell 3
theorem tag_c4 (h : Blk w g T (tagC t).toArray) : w.cell? ⟨g, 4, none⟩ = some (.int .i64 t.len) := h.cell 4
end
theorem partsI_low {n : Int} (h : n < 0) : partsI n = 0 := by rw [partsI, if_pos (.inl h)]
theorem partsI_high {n : Int} (h : 2120 < n) : partsI n = 0 := by rw [partsI, if_pos (.inr h)]
theorem partsI_mid {n : Int} (h0 : 0 ≤ n) (h1 : n ≤ 2120) : partsI n = max 1 ((n + 53 - 1) / 53) := by
  rw [partsI, if_neg (by omega), show n + 53 - 1 = n + 52 by omega]
  split <;> omega
set_option maxHeartbeats 400000 in
theorem recParts_any (n : Int) (w : World) :
    Calls Try.prog 23 #[.int .i64 n] w fun e w' => e = .returned (.int .i64 (partsI n)) ∧ w = w' := by
  cases d1 : decide (n < 0) with
  | true =>
    have H := hide (partsI_low (of_decide_eq_true d1))
    go_enter Try.func23, Try.ntmps23
    go_wp2
    go_ret
    exact ⟨ret_i H.out.symm, rfl⟩
  | false =>
    cases d2 : decide ((2120 : Int) < n) with
    | true =>
      have H := hide (partsI_high (of_decide_eq_true d2))
      go_enter Try.func23, Try.ntmps23
      go_wp2
      go_ret
      exact ⟨ret_i H.out.symm, rfl⟩
    | false =>
      have h0 := of_decide_eq_false d1
      have h1 := of_decide_eq_false d2
      have H := hide (partsI_mid (n := n) (by omega) (by omega))
      go_enter Try.func23, Try.ntmps23
      go_wp2
      all_goals (go_ret; exact ⟨ret_i (by rw [H.out]; omega), rfl⟩)
set_option maxHeartbeats 400000 in
theorem numbered_any (v : Int) (w : World) :
    Calls Try.prog 52 #[.int .i64 v] w fun e w' => e = .returned (.bool (numB v)) ∧ w = w' := by
  cases d1 : decide ((0 : Int) ≤ v) with
  | false =>
    have H := hide (show numB v = false by have := of_decide_eq_false d1; simp [numB]; omega)
    go_enter Try.func52, Try.ntmps52
    go_wp2
    go_ret
    exact ⟨ret_b H.out.symm, rfl⟩
  | true =>
    have h1 := of_decide_eq_true d1
    have H := hide (show numB v = decide (v ≤ 4294967295) by simp [numB, h1])
    go_enter Try.func52, Try.ntmps52
    go_wp2
    go_ret
    exact ⟨ret_b H.out.symm, rfl⟩
set_option maxHeartbeats 400000 in
theorem least_any (t : Tg) (ht : t.Ok) (w : World) :
    Calls Try.prog 100 #[tagV t] w fun e w' => e = .returned (.int .i64 (leastT t)) ∧ Below w.heap.size w w' := by
  have hq0 := ht.q0
  have hq1 := ht.q1
  clear ht
  cases d1 : decide (t.part < t.parts - 1) with
  | true =>
    have H := hide (show leastT t = 53 by rw [leastT, if_pos (of_decide_eq_true d1)])
    go_enter Try.func100, Try.ntmps100
    go_wp2_with (first
      | (refine wpList_box_blk rfl 105 _ rfl (tagV t) rfl ?_; intro w1 hb1q hl1 hs1; clear hs1; have hb1 : Blk w1 w.heap.size 105 (tagC t).toArray := hb1q; clear hb1q; have y2 := tag_c2 hb1; have y3 := tag_c3 hb1; clear hb1))
    go_ret
    exact ⟨ret_i H.out.symm, hl1⟩
  | false =>
    cases d2 : decide ((1 : Int) < t.parts) with
    | true =>
      have H := hide (show leastT t = 1 by rw [leastT, if_neg (of_decide_eq_false d1), if_pos (of_decide_eq_true d2)])
      go_enter Try.func100, Try.ntmps100
      go_wp2_with (first
        | (refine wpList_box_blk rfl 105 _ rfl (tagV t) rfl ?_; intro w1 hb1q hl1 hs1; clear hs1; have hb1 : Blk w1 w.heap.size 105 (tagC t).toArray := hb1q; clear hb1q; have y2 := tag_c2 hb1; have y3 := tag_c3 hb1; clear hb1))
      go_ret
      exact ⟨ret_i H.out.symm, hl1⟩
    | false =>
      have H := hide (show leastT t = 0 by rw [leastT, if_neg (of_decide_eq_false d1), if_neg (of_decide_eq_false d2)])
      go_enter Try.func100, Try.ntmps100
      go_wp2_with (first
        | (refine wpList_box_blk rfl 105 _ rfl (tagV t) rfl ?_; intro w1 hb1q hl1 hs1; clear hs1; have hb1 : Blk w1 w.heap.size 105 (tagC t).toArray := hb1q; clear hb1q; have y2 := tag_c2 hb1; have y3 := tag_c3 hb1; clear hb1))
      go_ret
      exact ⟨ret_i H.out.symm, hl1⟩
set_option maxHeartbeats 400000 in
/-- content(s, t): a window of a copy of s. -/
theorem content_any (s : List UInt8) (t : Tg) (ht : t.Ok) (hl : t.len ≤ 53) (w : World) :
    Calls Try.prog 65 #[.agg (B8 s).toArray, tagV t] w fun e w' => e = .returned (.slice (some ⟨w.heap.size, 11, none⟩) t.len.toNat 53) ∧ Blk w' w.heap.size 51 (B8 s).toArray ∧ Below w.heap.size w w' := by
  obtain ⟨L, hL⟩ := Int.eq_ofNat_of_zero_le ht.l0
  have hLl : L ≤ 53 := by omega
  rw [hL, Int.toNat_natCast]
  have q1 : (11 : Int) ≤ 11 + (L : Int) := by omega
  have q2 : (11 : Int) + (L : Int) ≤ 64 := by omega
  have q3 : ((11 : Int) + (L : Int)).toNat = 11 + L := by omega
  clear ht hl
  go_enter Try.func65, Try.ntmps65
  go_wp2_with (first
    | ((with_reducible refine at_slot 2 ?_); refine wpList_box_blk rfl 51 _ rfl (.agg (B8 s).toArray) rfl ?_; intro w1 hb1q hl1 hs1; have hz1 := hb1q.lt; clear hs1; have hb1 : Blk w1 w.heap.size 51 (B8 s).toArray := hb1q; clear hb1q)
    | ((with_reducible refine at_slot 3 ?_); refine wpList_box_blk rfl 105 _ rfl (tagV t) rfl ?_; intro w2 hb2q hl2 hs2; clear hs2; have hb2 : Blk w2 w1.heap.size 105 (tagC t).toArray := hb2q; clear hb2q; have y4 := tag_c4 hb2; rw [hL] at y4; clear hb2))
  go_ret
  exact ⟨rfl, hb1.below hl2 hz1, hl1.trans (hl2.mono (by omega))⟩
#print axioms content_any
end Go.Proofs.Ytmjdndhpnckeeaa
