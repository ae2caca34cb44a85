/- The document's own map of places in memory: what Right, New, At, Holder and In answer. -/
import Derived.Test.YtfjgpnjhmfcpiaaVmD
namespace Go.Proofs.Ytfjgpnjhmfcpiaa
open Go.RowKit Go.Maps
set_option linter.unusedVariables false
/-- Block r is the document's map of places V: its row in block p. -/
structure RvIn (W : World) (r p c : Nat) (cur : Array Value) (V : List Wh) : Prop where
  head : Blk W r 39 #[.slice (some ⟨p, 0, none⟩) V.length c]
  row : Blk W p 24 cur
  cells : cur.toList.take (V.length * 3) = whsL V
  cap : V.length ≤ c
  max : c ≤ 9223372036854775807
  ok : OkV V
section
variable {W W' : World} {r p c : Nat} {cur : Array Value} {V : List Wh}
theorem RvIn.kept (h : RvIn W r p c cur V) (h1 : W'.heap[r]? = W.heap[r]?) (h2 : W'.heap[p]? = W.heap[p]?) : RvIn W' r p c cur V :=
  ⟨h.head.of_block h1, h.row.of_block h2, h.cells, h.cap, h.max, h.ok⟩
theorem RvIn.later (h : RvIn W r p c cur V) (hb : Below W.heap.size W W') : RvIn W' r p c cur V := h.kept (hb.block _ h.head.lt) (hb.block _ h.row.lt)
theorem RvIn.c0 (h : RvIn W r p c cur V) : W.cell? ⟨r, 0, none⟩ = some (.slice (some ⟨p, 0, none⟩) V.length c) := h.head.cell 0
theorem RvIn.reads (h : RvIn W r p c cur V) : Reads W W.heap.size 3 (some ⟨p, 0, none⟩) V.length (whsL V) := row_reads h.row h.cells
end
/-- As a thing. -/
def rvT (r : Nat) (V : List Wh) : Thing where
  is W F := ∃ p c cur, RvIn W r p c cur V ∧ ∀ i, F i ↔ i = r ∨ i = p
  lt := fun {w F} ⟨p, c, cur, h, hF⟩ i hi => by
    rcases (hF i).1 hi with rfl | rfl
    · exact h.head.lt
    · exact h.row.lt
  kept := fun {w w' F} ⟨p, c, cur, h, hF⟩ hk => ⟨p, c, cur, h.kept (hk r ((hF r).2 (.inl rfl))) (hk p ((hF p).2 (.inr rfl))), hF⟩
theorem rright_any (w : World) (p : Wh) : Calls Try.prog 28 #[.agg (whC p).toArray] w fun e w' => e = .returned (.bool p.ok) ∧ Below w.heap.size w w' := by
  obtain ⟨t, g, s⟩ := p
  show Calls Try.prog 28 #[.agg #[.int .i64 t, .int .i64 g, .int .i64 s]] w _
  by_cases h0 : t = 0
  · subst h0
    by_cases hg : g = 0
    · by_cases hs : s = 0
      · have e : Wh.ok ⟨0, g, s⟩ = true := by
          unfold Wh.ok
          rw [if_pos rfl]; exact decide_eq_true ⟨hg, hs⟩
        rw [e]
        clear e
        have k1 : (g == 0) = true := by simpa using hg
        have k2 : (s == 0) = true := by simpa using hs
        clear hg hs
        go_enter Try.func28, Try.ntmps28
        go_wp2_with (first
          | ((with_reducible refine at_slot 1 ?_); refine wpList_box_blk rfl 24 _ rfl (.agg #[.int .i64 0, .int .i64 g, .int .i64 s]) rfl ?_; intro w1 hb1 hl1 hs1; clear hs1; have c0 : w1.cell? ⟨w.heap.size, 0, none⟩ = some (.int .i64 0) := hb1.cell 0; have c1 : w1.cell? ⟨w.heap.size, 1, none⟩ = some (.int .i64 g) := hb1.cell 1; have c2 : w1.cell? ⟨w.heap.size, 2, none⟩ = some (.int .i64 s) := hb1.cell 2))
        go_ret
        exact ⟨rfl, hl1⟩
      · have e : Wh.ok ⟨0, g, s⟩ = false := by
          unfold Wh.ok
          rw [if_pos rfl]; exact decide_eq_false (fun h => hs h.2)
        rw [e]
        clear e
        have k1 : (g == 0) = true := by simpa using hg
        have k2 : (s == 0) = false := by simpa using hs
        clear hg hs
        go_enter Try.func28, Try.ntmps28
        go_wp2_with (first
          | ((with_reducible refine at_slot 1 ?_); refine wpList_box_blk rfl 24 _ rfl (.agg #[.int .i64 0, .int .i64 g, .int .i64 s]) rfl ?_; intro w1 hb1 hl1 hs1; clear hs1; have c0 : w1.cell? ⟨w.heap.size, 0, none⟩ = some (.int .i64 0) := hb1.cell 0; have c1 : w1.cell? ⟨w.heap.size, 1, none⟩ = some (.int .i64 g) := hb1.cell 1; have c2 : w1.cell? ⟨w.heap.size, 2, none⟩ = some (.int .i64 s) := hb1.cell 2))
        go_ret
        exact ⟨rfl, hl1⟩
    · have e : Wh.ok ⟨0, g, s⟩ = false := by
        unfold Wh.ok
        rw [if_pos rfl]; exact decide_eq_false (fun h => hg h.1)
      rw [e]
      clear e
      have k1 : (g == 0) = false := by simpa using hg
      clear hg
      go_enter Try.func28, Try.ntmps28
      go_wp2_with (first
        | ((with_reducible refine at_slot 1 ?_); refine wpList_box_blk rfl 24 _ rfl (.agg #[.int .i64 0, .int .i64 g, .int .i64 s]) rfl ?_; intro w1 hb1 hl1 hs1; clear hs1; have c0 : w1.cell? ⟨w.heap.size, 0, none⟩ = some (.int .i64 0) := hb1.cell 0; have c1 : w1.cell? ⟨w.heap.size, 1, none⟩ = some (.int .i64 g) := hb1.cell 1; have c2 : w1.cell? ⟨w.heap.size, 2, none⟩ = some (.int .i64 s) := hb1.cell 2))
      go_ret
      exact ⟨rfl, hl1⟩
  by_cases h1 : t = 1
  · subst h1
    by_cases a : 0 ≤ s
    · skip
      by_cases b : s ≤ 7
      · skip
        by_cases c : 0 ≤ g
        · skip
          by_cases d : g ≤ 255
          · have e : Wh.ok ⟨1, g, s⟩ = true := by
              unfold Wh.ok
              dsimp only
              rw [if_neg (show ¬ ((1 : Int) = 0) by decide), if_pos rfl]; exact decide_eq_true (by omega)
            rw [e]
            clear e
            go_enter Try.func28, Try.ntmps28
            go_wp2_with (first
              | ((with_reducible refine at_slot 1 ?_); refine wpList_box_blk rfl 24 _ rfl (.agg #[.int .i64 1, .int .i64 g, .int .i64 s]) rfl ?_; intro w1 hb1 hl1 hs1; clear hs1; have c0 : w1.cell? ⟨w.heap.size, 0, none⟩ = some (.int .i64 1) := hb1.cell 0; have c1 : w1.cell? ⟨w.heap.size, 1, none⟩ = some (.int .i64 g) := hb1.cell 1; have c2 : w1.cell? ⟨w.heap.size, 2, none⟩ = some (.int .i64 s) := hb1.cell 2))
            go_ret
            exact ⟨rfl, hl1⟩
          · have e : Wh.ok ⟨1, g, s⟩ = false := by
              unfold Wh.ok
              dsimp only
              rw [if_neg (show ¬ ((1 : Int) = 0) by decide), if_pos rfl]; exact decide_eq_false (by omega)
            rw [e]
            clear e
            have n1 : 255 < g := by omega
            go_enter Try.func28, Try.ntmps28
            go_wp2_with (first
              | ((with_reducible refine at_slot 1 ?_); refine wpList_box_blk rfl 24 _ rfl (.agg #[.int .i64 1, .int .i64 g, .int .i64 s]) rfl ?_; intro w1 hb1 hl1 hs1; clear hs1; have c0 : w1.cell? ⟨w.heap.size, 0, none⟩ = some (.int .i64 1) := hb1.cell 0; have c1 : w1.cell? ⟨w.heap.size, 1, none⟩ = some (.int .i64 g) := hb1.cell 1; have c2 : w1.cell? ⟨w.heap.size, 2, none⟩ = some (.int .i64 s) := hb1.cell 2))
            go_ret
            exact ⟨rfl, hl1⟩
        · have e : Wh.ok ⟨1, g, s⟩ = false := by
            unfold Wh.ok
            dsimp only
            rw [if_neg (show ¬ ((1 : Int) = 0) by decide), if_pos rfl]; exact decide_eq_false (by omega)
          rw [e]
          clear e
          have n1 : g < 0 := by omega
          go_enter Try.func28, Try.ntmps28
          go_wp2_with (first
            | ((with_reducible refine at_slot 1 ?_); refine wpList_box_blk rfl 24 _ rfl (.agg #[.int .i64 1, .int .i64 g, .int .i64 s]) rfl ?_; intro w1 hb1 hl1 hs1; clear hs1; have c0 : w1.cell? ⟨w.heap.size, 0, none⟩ = some (.int .i64 1) := hb1.cell 0; have c1 : w1.cell? ⟨w.heap.size, 1, none⟩ = some (.int .i64 g) := hb1.cell 1; have c2 : w1.cell? ⟨w.heap.size, 2, none⟩ = some (.int .i64 s) := hb1.cell 2))
          go_ret
          exact ⟨rfl, hl1⟩
      · have e : Wh.ok ⟨1, g, s⟩ = false := by
          unfold Wh.ok
          dsimp only
          rw [if_neg (show ¬ ((1 : Int) = 0) by decide), if_pos rfl]; exact decide_eq_false (by omega)
        rw [e]
        clear e
        have n1 : 7 < s := by omega
        go_enter Try.func28, Try.ntmps28
        go_wp2_with (first
          | ((with_reducible refine at_slot 1 ?_); refine wpList_box_blk rfl 24 _ rfl (.agg #[.int .i64 1, .int .i64 g, .int .i64 s]) rfl ?_; intro w1 hb1 hl1 hs1; clear hs1; have c0 : w1.cell? ⟨w.heap.size, 0, none⟩ = some (.int .i64 1) := hb1.cell 0; have c1 : w1.cell? ⟨w.heap.size, 1, none⟩ = some (.int .i64 g) := hb1.cell 1; have c2 : w1.cell? ⟨w.heap.size, 2, none⟩ = some (.int .i64 s) := hb1.cell 2))
        go_ret
        exact ⟨rfl, hl1⟩
    · have e : Wh.ok ⟨1, g, s⟩ = false := by
        unfold Wh.ok
        dsimp only
        rw [if_neg (show ¬ ((1 : Int) = 0) by decide), if_pos rfl]; exact decide_eq_false (by omega)
      rw [e]
      clear e
      have n1 : s < 0 := by omega
      go_enter Try.func28, Try.ntmps28
      go_wp2_with (first
        | ((with_reducible refine at_slot 1 ?_); refine wpList_box_blk rfl 24 _ rfl (.agg #[.int .i64 1, .int .i64 g, .int .i64 s]) rfl ?_; intro w1 hb1 hl1 hs1; clear hs1; have c0 : w1.cell? ⟨w.heap.size, 0, none⟩ = some (.int .i64 1) := hb1.cell 0; have c1 : w1.cell? ⟨w.heap.size, 1, none⟩ = some (.int .i64 g) := hb1.cell 1; have c2 : w1.cell? ⟨w.heap.size, 2, none⟩ = some (.int .i64 s) := hb1.cell 2))
      go_ret
      exact ⟨rfl, hl1⟩
  by_cases h2 : t = 2
  · subst h2
    by_cases a : 0 ≤ s
    · skip
      by_cases b : s ≤ 87
      · skip
        by_cases c : 0 ≤ g
        · skip
          by_cases d : g ≤ 255
          · have e : Wh.ok ⟨2, g, s⟩ = true := by
              unfold Wh.ok
              dsimp only
              rw [if_neg (show ¬ ((2 : Int) = 0) by decide), if_neg (show ¬ ((2 : Int) = 1) by decide), if_pos rfl]; exact decide_eq_true (by omega)
            rw [e]
            clear e
            go_enter Try.func28, Try.ntmps28
            go_wp2_with (first
              | ((with_reducible refine at_slot 1 ?_); refine wpList_box_blk rfl 24 _ rfl (.agg #[.int .i64 2, .int .i64 g, .int .i64 s]) rfl ?_; intro w1 hb1 hl1 hs1; clear hs1; have c0 : w1.cell? ⟨w.heap.size, 0, none⟩ = some (.int .i64 2) := hb1.cell 0; have c1 : w1.cell? ⟨w.heap.size, 1, none⟩ = some (.int .i64 g) := hb1.cell 1; have c2 : w1.cell? ⟨w.heap.size, 2, none⟩ = some (.int .i64 s) := hb1.cell 2))
            go_ret
            exact ⟨rfl, hl1⟩
          · have e : Wh.ok ⟨2, g, s⟩ = false := by
              unfold Wh.ok
              dsimp only
              rw [if_neg (show ¬ ((2 : Int) = 0) by decide), if_neg (show ¬ ((2 : Int) = 1) by decide), if_pos rfl]; exact decide_eq_false (by omega)
            rw [e]
            clear e
            have n1 : 255 < g := by omega
            go_enter Try.func28, Try.ntmps28
            go_wp2_with (first
              | ((with_reducible refine at_slot 1 ?_); refine wpList_box_blk rfl 24 _ rfl (.agg #[.int .i64 2, .int .i64 g, .int .i64 s]) rfl ?_; intro w1 hb1 hl1 hs1; clear hs1; have c0 : w1.cell? ⟨w.heap.size, 0, none⟩ = some (.int .i64 2) := hb1.cell 0; have c1 : w1.cell? ⟨w.heap.size, 1, none⟩ = some (.int .i64 g) := hb1.cell 1; have c2 : w1.cell? ⟨w.heap.size, 2, none⟩ = some (.int .i64 s) := hb1.cell 2))
            go_ret
            exact ⟨rfl, hl1⟩
        · have e : Wh.ok ⟨2, g, s⟩ = false := by
            unfold Wh.ok
            dsimp only
            rw [if_neg (show ¬ ((2 : Int) = 0) by decide), if_neg (show ¬ ((2 : Int) = 1) by decide), if_pos rfl]; exact decide_eq_false (by omega)
          rw [e]
          clear e
          have n1 : g < 0 := by omega
          go_enter Try.func28, Try.ntmps28
          go_wp2_with (first
            | ((with_reducible refine at_slot 1 ?_); refine wpList_box_blk rfl 24 _ rfl (.agg #[.int .i64 2, .int .i64 g, .int .i64 s]) rfl ?_; intro w1 hb1 hl1 hs1; clear hs1; have c0 : w1.cell? ⟨w.heap.size, 0, none⟩ = some (.int .i64 2) := hb1.cell 0; have c1 : w1.cell? ⟨w.heap.size, 1, none⟩ = some (.int .i64 g) := hb1.cell 1; have c2 : w1.cell? ⟨w.heap.size, 2, none⟩ = some (.int .i64 s) := hb1.cell 2))
          go_ret
          exact ⟨rfl, hl1⟩
      · have e : Wh.ok ⟨2, g, s⟩ = false := by
          unfold Wh.ok
          dsimp only
          rw [if_neg (show ¬ ((2 : Int) = 0) by decide), if_neg (show ¬ ((2 : Int) = 1) by decide), if_pos rfl]; exact decide_eq_false (by omega)
        rw [e]
        clear e
        have n1 : 87 < s := by omega
        go_enter Try.func28, Try.ntmps28
        go_wp2_with (first
          | ((with_reducible refine at_slot 1 ?_); refine wpList_box_blk rfl 24 _ rfl (.agg #[.int .i64 2, .int .i64 g, .int .i64 s]) rfl ?_; intro w1 hb1 hl1 hs1; clear hs1; have c0 : w1.cell? ⟨w.heap.size, 0, none⟩ = some (.int .i64 2) := hb1.cell 0; have c1 : w1.cell? ⟨w.heap.size, 1, none⟩ = some (.int .i64 g) := hb1.cell 1; have c2 : w1.cell? ⟨w.heap.size, 2, none⟩ = some (.int .i64 s) := hb1.cell 2))
        go_ret
        exact ⟨rfl, hl1⟩
    · have e : Wh.ok ⟨2, g, s⟩ = false := by
        unfold Wh.ok
        dsimp only
        rw [if_neg (show ¬ ((2 : Int) = 0) by decide), if_neg (show ¬ ((2 : Int) = 1) by decide), if_pos rfl]; exact decide_eq_false (by omega)
      rw [e]
      clear e
      have n1 : s < 0 := by omega
      go_enter Try.func28, Try.ntmps28
      go_wp2_with (first
        | ((with_reducible refine at_slot 1 ?_); refine wpList_box_blk rfl 24 _ rfl (.agg #[.int .i64 2, .int .i64 g, .int .i64 s]) rfl ?_; intro w1 hb1 hl1 hs1; clear hs1; have c0 : w1.cell? ⟨w.heap.size, 0, none⟩ = some (.int .i64 2) := hb1.cell 0; have c1 : w1.cell? ⟨w.heap.size, 1, none⟩ = some (.int .i64 g) := hb1.cell 1; have c2 : w1.cell? ⟨w.heap.size, 2, none⟩ = some (.int .i64 s) := hb1.cell 2))
      go_ret
      exact ⟨rfl, hl1⟩
  have e : Wh.ok ⟨t, g, s⟩ = false := by
    unfold Wh.ok
    rw [if_neg h0, if_neg h1, if_neg h2]
  rw [e]
  clear e
  have k0 : (t == 0) = false := by simpa using h0
  have k1 : (t == 1) = false := by simpa using h1
  have k2 : (t == 2) = false := by simpa using h2
  clear h0 h1 h2
  go_enter Try.func28, Try.ntmps28
  go_wp2_with (first
    | ((with_reducible refine at_slot 1 ?_); refine wpList_box_blk rfl 24 _ rfl (.agg #[.int .i64 t, .int .i64 g, .int .i64 s]) rfl ?_; intro w1 hb1 hl1 hs1; clear hs1; have c0 : w1.cell? ⟨w.heap.size, 0, none⟩ = some (.int .i64 t) := hb1.cell 0; have c1 : w1.cell? ⟨w.heap.size, 1, none⟩ = some (.int .i64 g) := hb1.cell 1; have c2 : w1.cell? ⟨w.heap.size, 2, none⟩ = some (.int .i64 s) := hb1.cell 2))
  go_ret
  exact ⟨rfl, hl1⟩
theorem rv_built (A : Option Addr) (n c : Nat) : Try.prog.built 39 [(0, .slice A n c)] = some #[.slice A n c] := by kernel_rfl
theorem rv_new {w w1 w3 : World} {n : Nat} (h1 : 1 ≤ n) (h2 : n ≤ 96) (hb1 : Blk w1 w.heap.size 24 (List.replicate n [Value.int .i64 0, .int .i64 0, .int .i64 0]).flatten.toArray) (hs1 : w.heap.size < w1.heap.size) (hb3 : Blk w3 w1.heap.size 39 #[.slice (some ⟨w.heap.size, 0, none⟩) n n]) (hl3 : Below w1.heap.size w1 w3) :
    RvIn w3 w1.heap.size w.heap.size n (List.replicate n [Value.int .i64 0, .int .i64 0, .int .i64 0]).flatten.toArray (List.replicate n Wh.none_) := by
  have hl : (List.replicate n Wh.none_).length = n := List.length_replicate ..
  refine ⟨by rw [hl]; exact hb3, hb1.below hl3 (by omega), ?_, by rw [hl]; exact Nat.le_refl _, by omega, ?_⟩
  · rw [hl]
    show (List.take (n * 3) _) = _
    rw [new_cells, List.take_of_length_le]
    rw [whsL_len, hl]
    exact Nat.le_refl _
  · refine ⟨List.pairwise_replicate.2 (.inr fun _ => rfl), fun w hw => ?_, by rw [hl]; exact h1, by rw [hl]; exact h2⟩
    rw [List.eq_of_mem_replicate hw]
    rfl
set_option maxRecDepth 100000 in
theorem rnew_core (ni : Int) (n : Nat) (hn : clampN ni = n) (w : World) :
    Calls Try.prog 11 #[.int .i64 ni] w fun e w' => ∃ r p c cur, e = .returned (.pointer (some ⟨r, 0, none⟩)) ∧ RvIn w' r p c cur (List.replicate n Wh.none_) ∧ w.heap.size ≤ r ∧ w.heap.size ≤ p ∧ Below w.heap.size w w' := by
  obtain ⟨i0, hi0, hz0, hz1, hz2⟩ := info_parts wh_parts
  have h12 := clampN_le ni
  rw [hn] at h12
  unfold clampN at hn
  have hmm : max 1 (min ni 96) = (n : Int) := by
    split at hn
    · omega
    · split at hn <;> omega
  have HMM := hide (congrArg (Value.int .i64) hmm)
  clear hn hmm
  have h121 := h12.1
  have h122 := h12.2
  go_enter Try.func11, Try.ntmps11
  go_wp2_with (first
    | ((with_reducible refine at_slot 6 ?_); refine wpList_make_blk rfl (.tmp 5) (.tmp 5) 35 rfl 24 i0 _ [Value.int .i64 0, .int .i64 0, .int .i64 0] Try.underlying35 hi0 hz0 rfl hz1 (by decide) n HMM.out HMM.out (by rw [hz2]; omega) (by omega) ?_; intro w1 hb1 hl1; have hq1 := hb1.lt)
    | ((with_reducible refine at_slot 7 ?_); refine wpList_build_is rfl 39 _ rfl _ rfl _ (rv_built _ _ _) ?_)
    | ((with_reducible refine at_slot 8 ?_); refine wpList_box_blk rfl 39 _ rfl (.agg #[.slice (some ⟨w.heap.size, 0, none⟩) n n]) rfl ?_; intro w3 hb3 hl3 hs3; clear hs3))
  go_ret
  exact ⟨_, _, _, _, rfl, rv_new h12.1 h12.2 hb1 hq1 hb3 hl3, by omega, Nat.le_refl _, hl1.trans (hl3.mono (by omega))⟩
theorem rnew_any (ni : Int) (w : World) :
    Calls Try.prog 11 #[.int .i64 ni] w fun e w' => ∃ r p c cur, e = .returned (.pointer (some ⟨r, 0, none⟩)) ∧ RvIn w' r p c cur (newV ni) ∧ w.heap.size ≤ r ∧ w.heap.size ≤ p ∧ Below w.heap.size w w' := rnew_core ni _ rfl w
section
variable {w w' : World} {r p c : Nat} {cur : Array Value} {V : List Wh}
set_option maxRecDepth 100000 in
theorem rat_any (h : RvIn w r p c cur V) (b : Int) : Calls Try.prog 17 #[.pointer (some ⟨r, 0, none⟩), .int .i64 b] w fun e w' => e = .returned (.tuple #[.agg (whC (atW V b)).toArray, .int .i64 (atE V b : Int)]) ∧ Below w.heap.size w w' := by
  have HH := hide h
  have hf := h.ok.few
  clear h
  cases hin : inB V.length b with
  | true =>
    have hbn : 0 ≤ b ∧ b < (V.length : Int) := by unfold inB at hin; exact of_decide_eq_true hin
    obtain ⟨k, rfl⟩ : ∃ k : Nat, b = (k : Int) := ⟨b.toNat, by omega⟩
    have hk : k < V.length := by omega
    obtain ⟨q, hq⟩ : ∃ q, V[k]? = some q := ⟨_, List.getElem?_eq_getElem hk⟩
    have e1 : atW V (k : Int) = q := by
      unfold atW
      rw [hin, if_pos rfl, Int.toNat_natCast, getD_at hq]
    have e2 : atE V (k : Int) = 0 := by
      unfold atE
      rw [hin, if_pos rfl]
    rw [e1, e2]
    have HQ := hide hq
    obtain ⟨n, hn⟩ : ∃ n, V.length = n := ⟨_, rfl⟩
    rw [hn] at hf hk
    have HN := hide hn
    have hkk : (k : Int) < (n : Int) := by omega
    clear hin hbn hq e1 e2 hn
    go_enter Try.func17, Try.ntmps17
    go_wp2_with (first
      | ((with_reducible refine at_slot 4 ?_); refine wpList_alloc_blk rfl 24 rfl _ (wh_zero _) ?_; intro w1 hb1 hl1 hs1; clear hs1; have HH1 := hide (HH.out.later hl1); have hc0 := HH1.out.c0; rw [HN.out] at hc0; obtain ⟨ad, hA, _, hcell, _, _⟩ := wh_at HH1.out.reads HQ.out; injection hA with hA; subst hA; rw [add0] at hcell; have HCL := hide hcell; clear hcell)
      | ((with_reducible refine at_slot 24 ?_); refine when_loadW rfl (.tmp 23) rfl _ q HCL.out rfl ?_)
      | ((with_reducible refine at_store 4 ?_); refine wpList_store_all rfl 24 (.tmp 4) (.tmp 24) rfl w.heap.size 24 _ hb1 rfl (whC q) rfl (wh_info q) rfl (wh_one q) ?_; intro w2 hb2 hg2 hs2; clear hs2))
    refine ret_cell_tmp rfl w.heap.size 24 (whC q) _ hb2 rfl Try.underlying24 rfl (wh_info q) (.int .i64 0) rfl rfl ?_
    exact ⟨rfl, hl1.grown hg2 hl1.size (fun g e => by injection e with e; omega)⟩
  | false =>
    have e1 : atW V b = Wh.none_ := by
      unfold atW
      rw [hin]
      rfl
    have e2 : atE V b = 3 := by
      unfold atE
      rw [hin]
      rfl
    rw [e1, e2]
    have hout : ¬ (0 ≤ b ∧ b < (V.length : Int)) := by unfold inB at hin; exact of_decide_eq_false hin
    obtain ⟨n, hn⟩ : ∃ n, V.length = n := ⟨_, rfl⟩
    rw [hn] at hout
    have HN := hide hn
    clear hin e1 e2 hn hf
    by_cases hb0 : b < 0
    · clear hout
      go_enter Try.func17, Try.ntmps17
      go_wp2_with (first
        | ((with_reducible refine at_slot 4 ?_); refine wpList_alloc_blk rfl 24 rfl _ (wh_zero _) ?_; intro w1 hb1 hl1 hs1; clear hs1; have HH1 := hide (HH.out.later hl1); have hc0 := HH1.out.c0; rw [HN.out] at hc0)
        | ((with_reducible refine at_slot 17 ?_); refine wpList_build_is rfl 24 _ rfl _ rfl _ wh_built0 ?_)
        | ((with_reducible refine at_store 4 ?_); refine wpList_store_all rfl 24 (.tmp 4) (.tmp 17) rfl w.heap.size 24 _ hb1 rfl (whC Wh.none_) rfl (wh_info _) rfl (wh_one _) ?_; intro w2 hb2 hg2 hs2; clear hs2))
      refine ret_cell_tmp rfl w.heap.size 24 (whC Wh.none_) _ hb2 rfl Try.underlying24 rfl (wh_info _) (.int .i64 3) rfl rfl ?_
      exact ⟨rfl, hl1.grown hg2 hl1.size (fun g e => by injection e with e; omega)⟩
    · have hbn : (n : Int) ≤ b := by omega
      clear hout
      go_enter Try.func17, Try.ntmps17
      go_wp2_with (first
        | ((with_reducible refine at_slot 4 ?_); refine wpList_alloc_blk rfl 24 rfl _ (wh_zero _) ?_; intro w1 hb1 hl1 hs1; clear hs1; have HH1 := hide (HH.out.later hl1); have hc0 := HH1.out.c0; rw [HN.out] at hc0)
        | ((with_reducible refine at_slot 17 ?_); refine wpList_build_is rfl 24 _ rfl _ rfl _ wh_built0 ?_)
        | ((with_reducible refine at_store 4 ?_); refine wpList_store_all rfl 24 (.tmp 4) (.tmp 17) rfl w.heap.size 24 _ hb1 rfl (whC Wh.none_) rfl (wh_info _) rfl (wh_one _) ?_; intro w2 hb2 hg2 hs2; clear hs2))
      refine ret_cell_tmp rfl w.heap.size 24 (whC Wh.none_) _ hb2 rfl Try.underlying24 rfl (wh_info _) (.int .i64 3) rfl rfl ?_
      exact ⟨rfl, hl1.grown hg2 hl1.size (fun g e => by injection e with e; omega)⟩
set_option maxRecDepth 100000 in
theorem rin_any (h : RvIn w r p c cur V) (g : Int) : Calls Try.prog 22 #[.pointer (some ⟨r, 0, none⟩), .int .i64 g] w fun e w' => ∃ v, e = .returned v ∧ w'.ownsRow w.heap.size 3 1 v (inZ V g V.length).length (I64 (inZ V g V.length)) ∧ Below w.heap.size w w' := by
  obtain ⟨i0, hi0, hz0, hz1i, hz2i⟩ := info_parts vint_parts
  have HH := hide h
  have hf := h.ok.few
  obtain ⟨n, hn⟩ : ∃ n, V.length = n := ⟨_, rfl⟩
  rw [hn] at hf
  have HN := hide hn
  clear h hn
  rw [HN.out]
  go_enter Try.func22, Try.ntmps22
  go_wp2
  go_loopw [5, 6] (fun v i wr => ∃ k : Nat, k ≤ n ∧ i = .int .i64 (k : Int) ∧ Hid (wr.ownsRow w.heap.size 3 1 v (inZ V g k).length (I64 (inZ V g k))) ∧ Hid (Below w.heap.size w wr)) (fun _ i _ => n - (intOf i).toNat)
  case atStart => exact ⟨0, Nat.zero_le _, rfl, hide ⟨rfl, .inl ⟨rfl, rfl⟩⟩, hide (Below.refl _ _)⟩
  case round =>
    obtain ⟨k, hk, rfl, HO, HB⟩ := hrel
    have HHr := hide (HH.out.later HB.out)
    have hc := HHr.out.c0
    rw [HN.out] at hc
    by_cases hkn : k < n
    · obtain ⟨q, hq⟩ : ∃ q, V[k]? = some q := ⟨_, List.getElem?_eq_getElem (by rw [HN.out]; exact hkn)⟩
      obtain ⟨ad, hA, _, hcell, q0, q1⟩ := wh_at HHr.out.reads hq
      injection hA with hA
      subst hA
      rw [add0] at q0 q1
      have HQ := hide hq
      have hkk : (k : Int) < (n : Int) := by omega
      have hll := inZ_len V g k
      clear hcell hq
      by_cases ht : q.t = 0
      · have hne : (q.t != 0) = false := by simpa using ht
        have HE := hide (inZ_no (g := g) HQ.out (fun h => h.1 ht))
        clear ht
        go_wp2_with fail
        have HO4 : Hid (wr.ownsRow w.heap.size 3 1 u5 (inZ V g (k + 1)).length (I64 (inZ V g (k + 1)))) := hide (by rw [HE.out]; exact HO.out)
        have HB4 := HB
        go_roundw
        case rel => exact ⟨k + 1, by omega, by go_num, HO4, HB4⟩
        case measure => simp [intOf]; omega
      · have hne : (q.t != 0) = true := by simpa using ht
        by_cases hg : q.g = g
        · have heq : (q.g == g) = true := by simpa using hg
          have HE := hide (inZ_yes HQ.out ht hg)
          have HM := hide (show (inZ V g k).length + 1 ≤ maxLen ∧ ((inZ V g k).length + 1) * 8 ≤ 140737488355328 by simp only [maxLen]; omega)
          clear ht hg
          go_wp2_with (first
            | ((with_reducible refine at_slot 40 ?_); refine wpList_append_any _ rfl (.tmp 37) (.tmp 39) _ rfl w.heap.size 3 i0 _ 1 8 Try.underlying45 hi0 hz0 hz1i hz2i rfl (by decide) _ (inZ V g k).length _ rfl (own_later HO.out (((Below.refl _ wr).alloc (Nat.le_refl _) _))) (wr.heap.size + 1) (some ⟨wr.heap.size, 0, none⟩) 1 1 [.int .i64 (k : Int)] rfl (Reads.one _ _ _ _ (by omega)) (by intro x hx; simp at hx; subst hx; rfl) HM.out.1 HM.out.2 (by rw [World.size_alloc]; have := HB.out.size; omega) ?_; intro v3 w3 hown3 hl3; have HO3 := hide hown3; have HL3 := hide hl3; clear hown3 hl3))
          have HO4 : Hid (w3.ownsRow w.heap.size 3 1 v3 (inZ V g (k + 1)).length (I64 (inZ V g (k + 1)))) := hide (by rw [HE.out, List.length_append, I64_append]; exact HO3.out)
          have HB4 : Hid (Below w.heap.size w w3) := hide ((HB.out.trans ((((Below.refl _ wr).alloc (Nat.le_refl _) _)).mono HB.out.size)).trans HL3.out)
          go_roundw
          case rel => exact ⟨k + 1, by omega, by go_num, HO4, HB4⟩
          case measure => simp [intOf]; omega
        · have heq : (q.g == g) = false := by simpa using hg
          have HE := hide (inZ_no (g := g) HQ.out (fun h => hg h.2))
          clear ht hg
          go_wp2_with fail
          have HO4 : Hid (wr.ownsRow w.heap.size 3 1 u5 (inZ V g (k + 1)).length (I64 (inZ V g (k + 1)))) := hide (by rw [HE.out]; exact HO.out)
          have HB4 := HB
          go_roundw
          case rel => exact ⟨k + 1, by omega, by go_num, HO4, HB4⟩
          case measure => simp [intOf]; omega
    · obtain rfl : k = n := by omega
      go_wp2
      go_ret
      exact ⟨_, rfl, HO.out, HB.out⟩
theorem hold_first {V : List Wh} {q : Wh} {k : Nat} (hq : V[k]? = some q) (ht : q.t ≠ 0) (hn : q ∉ V.take k) : hold V q = some k := by
  have h1 : hold (V.take (k + 1)) q = some k := by
    rw [take_snoc hq, hold_snoc_self ht hn, List.length_take]
    have := (List.getElem?_eq_some_iff.1 hq).1
    rw [Nat.min_eq_left (by omega)]
  unfold hold at h1 ⊢
  rw [if_neg ht] at h1 ⊢
  obtain ⟨h2, h3, h4⟩ := List.findIdx?_eq_some_iff_getElem.1 h1
  refine List.findIdx?_eq_some_iff_getElem.2 ⟨(List.getElem?_eq_some_iff.1 hq).1, ?_, fun j hj => ?_⟩
  · rw [List.getElem_take] at h3
    exact h3
  · have h5 := h4 j hj
    rw [List.getElem_take] at h5
    exact h5
theorem mem_next {V : List Wh} {q x : Wh} {k : Nat} (hn : q ∉ V.take k) (hx : V[k]? = some x) (hne : x ≠ q) : q ∉ V.take (k + 1) := by
  rw [take_snoc hx, List.mem_append, List.mem_singleton]
  rintro (h | h)
  · exact hn h
  · exact hne h.symm
set_option maxRecDepth 100000 in
theorem rholder_any (h : RvIn w r p c cur V) (q : Wh) : Calls Try.prog 19 #[.pointer (some ⟨r, 0, none⟩), .agg (whC q).toArray] w fun e w' => e = .returned (.tuple #[.int .i64 (((hold V q).getD 0 : Nat) : Int), .bool (hold V q).isSome]) ∧ Below w.heap.size w w' := by
  have HH := hide h
  have hf := h.ok.few
  obtain ⟨n, hn⟩ : ∃ n, V.length = n := ⟨_, rfl⟩
  rw [hn] at hf
  have HN := hide hn
  obtain ⟨R, hR⟩ : ∃ R, hold V q = R := ⟨_, rfl⟩
  rw [hR]
  have HRR := hide hR
  clear h hn hR
  go_enter Try.func19, Try.ntmps19
  go_wp2_with (first
    | ((with_reducible refine at_slot 3 ?_); refine wpList_box_blk rfl 24 _ rfl (.agg (whC q).toArray) rfl ?_; intro w1 hb1 hl1 hs1; clear hs1; have HBX := hide hb1; have HL1 := hide hl1; clear hl1 hb1))
  go_loopw [6] (fun i wr => ∃ k : Nat, k ≤ n ∧ i = .int .i64 (k : Int) ∧ Hid (q.t = 0 ∨ q ∉ V.take k) ∧ Hid (Below w1.heap.size w1 wr)) (fun i _ => n - (intOf i).toNat)
  case atStart => exact ⟨0, Nat.zero_le _, rfl, hide (.inr (by simp)), hide (Below.refl _ _)⟩
  case round =>
    obtain ⟨k, hk, rfl, HP, HB⟩ := hrel
    have HB0 := hide (HL1.out.trans (HB.out.mono HL1.out.size))
    have HHr := hide (HH.out.later HB0.out)
    have HBK := hide (HBX.out.below HB.out HBX.out.lt)
    have hc : wr.cell? ⟨r, 0, none⟩ = some (.slice (some ⟨p, 0, none⟩) n c) := by have h1 := HHr.out.c0; rw [HN.out] at h1; exact h1
    by_cases hkn : k < n
    · obtain ⟨x, hx⟩ : ∃ x, V[k]? = some x := ⟨_, List.getElem?_eq_getElem (by rw [HN.out]; exact hkn)⟩
      obtain ⟨ad, hA, _, hcell, _, _⟩ := wh_at HHr.out.reads hx
      injection hA with hA
      subst hA
      rw [add0] at hcell
      have HCL := hide hcell
      have HX := hide hx
      have hkk : (k : Int) < (n : Int) := by omega
      clear hcell hx
      go_wp2_with fail
      by_cases hxq : x = q
      · by_cases htz : q.t = 0
        · have hne : (q.t != 0) = false := by simpa using htz
          have HT := hide htz
          refine wp_region_held_drew (S := (fun W => W = wr.drew)) (by kernel_rfl) ?_ (fun hHeld => ?_)
          · exact rfl
          refine heldTake (i := 0) (v := ?_) rfl (by kernel_rfl) (by kernel_rfl) (by kernel_rfl) (fun _ _ _ h => h) (Or.inl ⟨by rfl, ?_⟩) (by assumption) ?_
          rotate_left
          · intro w hSw; (try dsimp only at hSw); go_simp <;> (with_reducible rfl)
          try simp only [Act.put, List.setIfInBounds_toArray, List.set_cons_zero, List.set_cons_succ]
          refine heldTake (i := 1) (v := ?_) rfl (by kernel_rfl) (by kernel_rfl) (by kernel_rfl) (fun _ _ _ h => h) (Or.inl ⟨by rfl, ?_⟩) (by assumption) ?_
          rotate_left
          · intro w hSw; (try dsimp only at hSw); go_simp <;> (with_reducible rfl)
          try simp only [Act.put, List.setIfInBounds_toArray, List.set_cons_zero, List.set_cons_succ]
          refine heldTake (i := 2) (v := ?_) rfl (by kernel_rfl) (by kernel_rfl) (by kernel_rfl) (fun _ _ _ h => h) (Or.inl ⟨by rfl, ?_⟩) (by assumption) ?_
          rotate_left
          · intro w hSw; (try dsimp only at hSw); go_simp <;> (with_reducible rfl)
          try simp only [Act.put, List.setIfInBounds_toArray, List.set_cons_zero, List.set_cons_succ]
          refine heldTake (i := 3) (v := .slice (some ⟨p, 0, none⟩) n c) rfl (by kernel_rfl) (by kernel_rfl) (by kernel_rfl) (fun _ _ _ h => h) (Or.inl ⟨by rfl, fun W hW => ?_⟩) (by assumption) ?_
          · dsimp only at hW
            subst hW
            have hc2 : wr.drew.cell? ⟨r, 0, none⟩ = some (.slice (some ⟨p, 0, none⟩) n c) := hc
            go_simp <;> rfl
          try simp only [Act.put, List.setIfInBounds_toArray, List.set_cons_zero, List.set_cons_succ]
          refine heldTake (i := 4) (v := ?_) rfl (by kernel_rfl) (by kernel_rfl) (by kernel_rfl) (fun _ _ _ h => h) (Or.inl ⟨by rfl, ?_⟩) (by assumption) ?_
          rotate_left
          · intro w hSw; (try dsimp only at hSw); go_simp <;> (with_reducible rfl)
          try simp only [Act.put, List.setIfInBounds_toArray, List.set_cons_zero, List.set_cons_succ]
          refine heldTake (i := 5) (v := ?_) rfl (by kernel_rfl) (by kernel_rfl) (by kernel_rfl) (fun _ _ _ h => h) (Or.inl ⟨by rfl, ?_⟩) (by assumption) ?_
          rotate_left
          · intro w hSw; (try dsimp only at hSw); go_simp <;> (with_reducible rfl)
          try simp only [Act.put, List.setIfInBounds_toArray, List.set_cons_zero, List.set_cons_succ]
          refine heldTake (i := 6) (v := .agg (whC x).toArray) rfl (by kernel_rfl) (by kernel_rfl) (by kernel_rfl) (fun _ _ _ h => h) (Or.inl ⟨by rfl, fun W hW => ?_⟩) (by assumption) ?_
          · dsimp only at hW
            subst hW
            exact run_load_wh _ _ (.tmp 21) rfl ⟨p, k * 3, none⟩ x HCL.out rfl
          try simp only [Act.put, List.setIfInBounds_toArray, List.set_cons_zero, List.set_cons_succ]
          refine heldTake (i := 7) (v := .agg (whC q).toArray) rfl (by kernel_rfl) (by kernel_rfl) (by kernel_rfl) (fun _ _ _ h => h) (Or.inl ⟨by rfl, fun W hW => ?_⟩) (by assumption) ?_
          · dsimp only at hW
            subst hW
            exact run_load_wh _ _ (.tmp 3) rfl ⟨w.heap.size, 0, none⟩ q (blk_at (w := wr.drew) (cs := whC q) HBK.out) rfl
          try simp only [Act.put, List.setIfInBounds_toArray, List.set_cons_zero, List.set_cons_succ]
          refine heldTake (i := 8) (v := .bool true) rfl (by kernel_rfl) (by kernel_rfl) (by kernel_rfl) (fun _ _ _ h => h) (Or.inl ⟨by rfl, fun W hW => ?_⟩) (by assumption) ?_
          · dsimp only at hW
            subst hW
            exact run_eqW _ _ (.tmp 22) (.tmp 23) _ rfl x q rfl rfl true (by simp [hxq])
          try simp only [Act.put, List.setIfInBounds_toArray, List.set_cons_zero, List.set_cons_succ]
          refine heldTake (i := 9) (v := ?_) rfl (by kernel_rfl) (by kernel_rfl) (by kernel_rfl) (fun _ _ _ h => h) (Or.inl ⟨by rfl, ?_⟩) (by assumption) ?_
          rotate_left
          · intro w hSw; (try dsimp only at hSw); go_simp <;> (with_reducible rfl)
          try simp only [Act.put, List.setIfInBounds_toArray, List.set_cons_zero, List.set_cons_succ]
          refine heldTake (i := 10) (v := ?_) rfl (by kernel_rfl) (by kernel_rfl) (by kernel_rfl) (fun _ _ _ h => h) (Or.inl ⟨by rfl, ?_⟩) (by assumption) ?_
          rotate_left
          · intro w hSw; (try dsimp only at hSw); go_simp <;> (with_reducible rfl)
          try simp only [Act.put, List.setIfInBounds_toArray, List.set_cons_zero, List.set_cons_succ]
          refine heldTake (i := 11) (v := .int .i64 q.t) rfl (by kernel_rfl) (by kernel_rfl) (by kernel_rfl) (fun _ _ _ h => h) (Or.inl ⟨by rfl, fun W hW => ?_⟩) (by assumption) ?_
          · dsimp only at hW
            subst hW
            have hc2 : wr.drew.cell? ⟨w.heap.size, 0, none⟩ = some (.int .i64 q.t) := HBK.out.cell 0
            go_simp <;> rfl
          try simp only [Act.put, List.setIfInBounds_toArray, List.set_cons_zero, List.set_cons_succ]
          refine heldTake (i := 12) (v := .bool false) rfl (by kernel_rfl) (by kernel_rfl) (by kernel_rfl) (fun _ _ _ h => h) (Or.inl ⟨by rfl, fun W hW => ?_⟩) (by assumption) ?_
          · dsimp only at hW
            subst hW
            go_simp <;> (first | rfl | simp [htz])
          try simp only [Act.put, List.setIfInBounds_toArray, List.set_cons_zero, List.set_cons_succ]
          refine heldTake (i := 13) (v := ?_) rfl (by kernel_rfl) (by kernel_rfl) (by kernel_rfl) (fun _ _ _ h => h) (Or.inl ⟨by rfl, ?_⟩) (by assumption) ?_
          rotate_left
          · intro w hSw; (try dsimp only at hSw); go_simp <;> (with_reducible rfl)
          try simp only [Act.put, List.setIfInBounds_toArray, List.set_cons_zero, List.set_cons_succ]
          refine wpAnyH_done (by kernel_rfl) ?_ _
          go_wp2
          have HB3 := hide (HB.out.drew)
          go_roundw
          case rel => exact ⟨k + 1, by omega, by go_num, hide (.inl HT.out), HB3⟩
          case measure => simp [intOf]; omega
        · have hne : (q.t != 0) = true := by simpa using htz
          have hr2 : R = some k := HRR.out.symm.trans (hold_first (by rw [← hxq]; exact HX.out) htz (HP.out.resolve_left htz))
          subst hr2
          refine wp_region_held_drew (S := (fun W => W = wr.drew)) (by kernel_rfl) ?_ (fun hHeld => ?_)
          · exact rfl
          refine heldTake (i := 0) (v := ?_) rfl (by kernel_rfl) (by kernel_rfl) (by kernel_rfl) (fun _ _ _ h => h) (Or.inl ⟨by rfl, ?_⟩) (by assumption) ?_
          rotate_left
          · intro w hSw; (try dsimp only at hSw); go_simp <;> (with_reducible rfl)
          try simp only [Act.put, List.setIfInBounds_toArray, List.set_cons_zero, List.set_cons_succ]
          refine heldTake (i := 1) (v := ?_) rfl (by kernel_rfl) (by kernel_rfl) (by kernel_rfl) (fun _ _ _ h => h) (Or.inl ⟨by rfl, ?_⟩) (by assumption) ?_
          rotate_left
          · intro w hSw; (try dsimp only at hSw); go_simp <;> (with_reducible rfl)
          try simp only [Act.put, List.setIfInBounds_toArray, List.set_cons_zero, List.set_cons_succ]
          refine heldTake (i := 2) (v := ?_) rfl (by kernel_rfl) (by kernel_rfl) (by kernel_rfl) (fun _ _ _ h => h) (Or.inl ⟨by rfl, ?_⟩) (by assumption) ?_
          rotate_left
          · intro w hSw; (try dsimp only at hSw); go_simp <;> (with_reducible rfl)
          try simp only [Act.put, List.setIfInBounds_toArray, List.set_cons_zero, List.set_cons_succ]
          refine heldTake (i := 3) (v := .slice (some ⟨p, 0, none⟩) n c) rfl (by kernel_rfl) (by kernel_rfl) (by kernel_rfl) (fun _ _ _ h => h) (Or.inl ⟨by rfl, fun W hW => ?_⟩) (by assumption) ?_
          · dsimp only at hW
            subst hW
            have hc2 : wr.drew.cell? ⟨r, 0, none⟩ = some (.slice (some ⟨p, 0, none⟩) n c) := hc
            go_simp <;> rfl
          try simp only [Act.put, List.setIfInBounds_toArray, List.set_cons_zero, List.set_cons_succ]
          refine heldTake (i := 4) (v := ?_) rfl (by kernel_rfl) (by kernel_rfl) (by kernel_rfl) (fun _ _ _ h => h) (Or.inl ⟨by rfl, ?_⟩) (by assumption) ?_
          rotate_left
          · intro w hSw; (try dsimp only at hSw); go_simp <;> (with_reducible rfl)
          try simp only [Act.put, List.setIfInBounds_toArray, List.set_cons_zero, List.set_cons_succ]
          refine heldTake (i := 5) (v := ?_) rfl (by kernel_rfl) (by kernel_rfl) (by kernel_rfl) (fun _ _ _ h => h) (Or.inl ⟨by rfl, ?_⟩) (by assumption) ?_
          rotate_left
          · intro w hSw; (try dsimp only at hSw); go_simp <;> (with_reducible rfl)
          try simp only [Act.put, List.setIfInBounds_toArray, List.set_cons_zero, List.set_cons_succ]
          refine heldTake (i := 6) (v := .agg (whC x).toArray) rfl (by kernel_rfl) (by kernel_rfl) (by kernel_rfl) (fun _ _ _ h => h) (Or.inl ⟨by rfl, fun W hW => ?_⟩) (by assumption) ?_
          · dsimp only at hW
            subst hW
            exact run_load_wh _ _ (.tmp 21) rfl ⟨p, k * 3, none⟩ x HCL.out rfl
          try simp only [Act.put, List.setIfInBounds_toArray, List.set_cons_zero, List.set_cons_succ]
          refine heldTake (i := 7) (v := .agg (whC q).toArray) rfl (by kernel_rfl) (by kernel_rfl) (by kernel_rfl) (fun _ _ _ h => h) (Or.inl ⟨by rfl, fun W hW => ?_⟩) (by assumption) ?_
          · dsimp only at hW
            subst hW
            exact run_load_wh _ _ (.tmp 3) rfl ⟨w.heap.size, 0, none⟩ q (blk_at (w := wr.drew) (cs := whC q) HBK.out) rfl
          try simp only [Act.put, List.setIfInBounds_toArray, List.set_cons_zero, List.set_cons_succ]
          refine heldTake (i := 8) (v := .bool true) rfl (by kernel_rfl) (by kernel_rfl) (by kernel_rfl) (fun _ _ _ h => h) (Or.inl ⟨by rfl, fun W hW => ?_⟩) (by assumption) ?_
          · dsimp only at hW
            subst hW
            exact run_eqW _ _ (.tmp 22) (.tmp 23) _ rfl x q rfl rfl true (by simp [hxq])
          try simp only [Act.put, List.setIfInBounds_toArray, List.set_cons_zero, List.set_cons_succ]
          refine heldTake (i := 9) (v := ?_) rfl (by kernel_rfl) (by kernel_rfl) (by kernel_rfl) (fun _ _ _ h => h) (Or.inl ⟨by rfl, ?_⟩) (by assumption) ?_
          rotate_left
          · intro w hSw; (try dsimp only at hSw); go_simp <;> (with_reducible rfl)
          try simp only [Act.put, List.setIfInBounds_toArray, List.set_cons_zero, List.set_cons_succ]
          refine heldTake (i := 10) (v := ?_) rfl (by kernel_rfl) (by kernel_rfl) (by kernel_rfl) (fun _ _ _ h => h) (Or.inl ⟨by rfl, ?_⟩) (by assumption) ?_
          rotate_left
          · intro w hSw; (try dsimp only at hSw); go_simp <;> (with_reducible rfl)
          try simp only [Act.put, List.setIfInBounds_toArray, List.set_cons_zero, List.set_cons_succ]
          refine heldTake (i := 11) (v := .int .i64 q.t) rfl (by kernel_rfl) (by kernel_rfl) (by kernel_rfl) (fun _ _ _ h => h) (Or.inl ⟨by rfl, fun W hW => ?_⟩) (by assumption) ?_
          · dsimp only at hW
            subst hW
            have hc2 : wr.drew.cell? ⟨w.heap.size, 0, none⟩ = some (.int .i64 q.t) := HBK.out.cell 0
            go_simp <;> rfl
          try simp only [Act.put, List.setIfInBounds_toArray, List.set_cons_zero, List.set_cons_succ]
          refine heldTake (i := 12) (v := .bool true) rfl (by kernel_rfl) (by kernel_rfl) (by kernel_rfl) (fun _ _ _ h => h) (Or.inl ⟨by rfl, fun W hW => ?_⟩) (by assumption) ?_
          · dsimp only at hW
            subst hW
            go_simp <;> (first | rfl | simp [htz])
          try simp only [Act.put, List.setIfInBounds_toArray, List.set_cons_zero, List.set_cons_succ]
          refine heldTake (i := 13) (v := ?_) rfl (by kernel_rfl) (by kernel_rfl) (by kernel_rfl) (fun _ _ _ h => h) (Or.inl ⟨by rfl, ?_⟩) (by assumption) ?_
          rotate_left
          · intro w hSw; (try dsimp only at hSw); go_simp <;> (with_reducible rfl)
          try simp only [Act.put, List.setIfInBounds_toArray, List.set_cons_zero, List.set_cons_succ]
          refine wpAnyH_done (by kernel_rfl) ?_ _
          go_wp2
          go_ret2
          exact ⟨rfl, HB0.out.drew⟩
      · have HN2 := hide (HP.out.imp id fun h => mem_next h HX.out hxq)
        refine wp_region_held_drew (S := (fun W => W = wr.drew)) (by kernel_rfl) ?_ (fun hHeld => ?_)
        · exact rfl
        refine heldTake (i := 0) (v := ?_) rfl (by kernel_rfl) (by kernel_rfl) (by kernel_rfl) (fun _ _ _ h => h) (Or.inl ⟨by rfl, ?_⟩) (by assumption) ?_
        rotate_left
        · intro w hSw; (try dsimp only at hSw); go_simp <;> (with_reducible rfl)
        try simp only [Act.put, List.setIfInBounds_toArray, List.set_cons_zero, List.set_cons_succ]
        refine heldTake (i := 1) (v := ?_) rfl (by kernel_rfl) (by kernel_rfl) (by kernel_rfl) (fun _ _ _ h => h) (Or.inl ⟨by rfl, ?_⟩) (by assumption) ?_
        rotate_left
        · intro w hSw; (try dsimp only at hSw); go_simp <;> (with_reducible rfl)
        try simp only [Act.put, List.setIfInBounds_toArray, List.set_cons_zero, List.set_cons_succ]
        refine heldTake (i := 2) (v := ?_) rfl (by kernel_rfl) (by kernel_rfl) (by kernel_rfl) (fun _ _ _ h => h) (Or.inl ⟨by rfl, ?_⟩) (by assumption) ?_
        rotate_left
        · intro w hSw; (try dsimp only at hSw); go_simp <;> (with_reducible rfl)
        try simp only [Act.put, List.setIfInBounds_toArray, List.set_cons_zero, List.set_cons_succ]
        refine heldTake (i := 3) (v := .slice (some ⟨p, 0, none⟩) n c) rfl (by kernel_rfl) (by kernel_rfl) (by kernel_rfl) (fun _ _ _ h => h) (Or.inl ⟨by rfl, fun W hW => ?_⟩) (by assumption) ?_
        · dsimp only at hW
          subst hW
          have hc2 : wr.drew.cell? ⟨r, 0, none⟩ = some (.slice (some ⟨p, 0, none⟩) n c) := hc
          go_simp <;> rfl
        try simp only [Act.put, List.setIfInBounds_toArray, List.set_cons_zero, List.set_cons_succ]
        refine heldTake (i := 4) (v := ?_) rfl (by kernel_rfl) (by kernel_rfl) (by kernel_rfl) (fun _ _ _ h => h) (Or.inl ⟨by rfl, ?_⟩) (by assumption) ?_
        rotate_left
        · intro w hSw; (try dsimp only at hSw); go_simp <;> (with_reducible rfl)
        try simp only [Act.put, List.setIfInBounds_toArray, List.set_cons_zero, List.set_cons_succ]
        refine heldTake (i := 5) (v := ?_) rfl (by kernel_rfl) (by kernel_rfl) (by kernel_rfl) (fun _ _ _ h => h) (Or.inl ⟨by rfl, ?_⟩) (by assumption) ?_
        rotate_left
        · intro w hSw; (try dsimp only at hSw); go_simp <;> (with_reducible rfl)
        try simp only [Act.put, List.setIfInBounds_toArray, List.set_cons_zero, List.set_cons_succ]
        refine heldTake (i := 6) (v := .agg (whC x).toArray) rfl (by kernel_rfl) (by kernel_rfl) (by kernel_rfl) (fun _ _ _ h => h) (Or.inl ⟨by rfl, fun W hW => ?_⟩) (by assumption) ?_
        · dsimp only at hW
          subst hW
          exact run_load_wh _ _ (.tmp 21) rfl ⟨p, k * 3, none⟩ x HCL.out rfl
        try simp only [Act.put, List.setIfInBounds_toArray, List.set_cons_zero, List.set_cons_succ]
        refine heldTake (i := 7) (v := .agg (whC q).toArray) rfl (by kernel_rfl) (by kernel_rfl) (by kernel_rfl) (fun _ _ _ h => h) (Or.inl ⟨by rfl, fun W hW => ?_⟩) (by assumption) ?_
        · dsimp only at hW
          subst hW
          exact run_load_wh _ _ (.tmp 3) rfl ⟨w.heap.size, 0, none⟩ q (blk_at (w := wr.drew) (cs := whC q) HBK.out) rfl
        try simp only [Act.put, List.setIfInBounds_toArray, List.set_cons_zero, List.set_cons_succ]
        refine heldTake (i := 8) (v := .bool false) rfl (by kernel_rfl) (by kernel_rfl) (by kernel_rfl) (fun _ _ _ h => h) (Or.inl ⟨by rfl, fun W hW => ?_⟩) (by assumption) ?_
        · dsimp only at hW
          subst hW
          exact run_eqW _ _ (.tmp 22) (.tmp 23) _ rfl x q rfl rfl false (by simp [hxq])
        try simp only [Act.put, List.setIfInBounds_toArray, List.set_cons_zero, List.set_cons_succ]
        refine heldTake (i := 9) (v := ?_) rfl (by kernel_rfl) (by kernel_rfl) (by kernel_rfl) (fun _ _ _ h => h) (Or.inl ⟨by rfl, ?_⟩) (by assumption) ?_
        rotate_left
        · intro w hSw; (try dsimp only at hSw); go_simp <;> (with_reducible rfl)
        try simp only [Act.put, List.setIfInBounds_toArray, List.set_cons_zero, List.set_cons_succ]
        refine heldTake (i := 10) (v := undef) rfl (by kernel_rfl) (by kernel_rfl) (by kernel_rfl) (fun _ _ _ h => h) (Or.inr ⟨by rfl, rfl⟩) (by assumption) ?_
        try simp only [Act.put, List.setIfInBounds_toArray, List.set_cons_zero, List.set_cons_succ]
        refine heldTake (i := 11) (v := undef) rfl (by kernel_rfl) (by kernel_rfl) (by kernel_rfl) (fun _ _ _ h => h) (Or.inr ⟨by rfl, rfl⟩) (by assumption) ?_
        try simp only [Act.put, List.setIfInBounds_toArray, List.set_cons_zero, List.set_cons_succ]
        refine heldTake (i := 12) (v := undef) rfl (by kernel_rfl) (by kernel_rfl) (by kernel_rfl) (fun _ _ _ h => h) (Or.inr ⟨by rfl, rfl⟩) (by assumption) ?_
        try simp only [Act.put, List.setIfInBounds_toArray, List.set_cons_zero, List.set_cons_succ]
        refine heldTake (i := 13) (v := ?_) rfl (by kernel_rfl) (by kernel_rfl) (by kernel_rfl) (fun _ _ _ h => h) (Or.inl ⟨by rfl, ?_⟩) (by assumption) ?_
        rotate_left
        · intro w hSw; (try dsimp only at hSw); go_simp <;> (with_reducible rfl)
        try simp only [Act.put, List.setIfInBounds_toArray, List.set_cons_zero, List.set_cons_succ]
        refine wpAnyH_done (by kernel_rfl) ?_ _
        go_wp2
        have HB3 := hide (HB.out.drew)
        go_roundw
        case rel => exact ⟨k + 1, by omega, by go_num, HN2, HB3⟩
        case measure => simp [intOf]; omega
    · obtain rfl : k = n := by omega
      have hr2 : R = none := by
        have h1 := HP.out
        rw [List.take_of_length_le (by rw [HN.out]; exact Nat.le_refl _)] at h1
        exact HRR.out.symm.trans ((hold_none q).2 h1)
      subst hr2
      go_wp2
      go_ret2
      exact ⟨rfl, HB0.out⟩
end
#print axioms rholder_any
end Go.Proofs.Ytfjgpnjhmfcpiaa
