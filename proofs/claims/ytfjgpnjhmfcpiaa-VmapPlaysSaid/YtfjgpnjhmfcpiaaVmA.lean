/- What the small calls of vmap answer: within, right, Len, At, Holder, All, New. -/
import Derived.Test.YtfjgpnjhmfcpiaaVm
namespace Go.Proofs.Ytfjgpnjhmfcpiaa
open Go.RowKit Go.Maps
set_option linter.unusedVariables false
set_option maxRecDepth 100000 in
theorem within_any (w : World) (i n : Int) : Calls Try.prog 29 #[.int .i64 i, .int .i64 n] w fun e w' => e = .returned (.bool (decide (0 ≤ i ∧ i < n))) ∧ w = w' := by
  by_cases h1 : 0 ≤ i
  · by_cases h2 : i < n
    · have e : decide (0 ≤ i ∧ i < n) = true := decide_eq_true ⟨h1, h2⟩
      rw [e]
      clear e
      go_enter Try.func29, Try.ntmps29
      go_wp2
      go_ret
      exact ⟨rfl, rfl⟩
    · have e : decide (0 ≤ i ∧ i < n) = false := decide_eq_false (fun h => h2 h.2)
      rw [e]
      clear e
      go_enter Try.func29, Try.ntmps29
      go_wp2
      go_ret
      exact ⟨rfl, rfl⟩
  · have e : decide (0 ≤ i ∧ i < n) = false := decide_eq_false (fun h => h1 h.1)
    have h3 : i < 0 := by omega
    rw [e]
    clear e
    go_enter Try.func29, Try.ntmps29
    go_wp2
    go_ret
    exact ⟨rfl, rfl⟩
theorem wh_zero (w : World) : (zeroValue 24).run Try.prog w = .ok (.agg #[.int .i64 0, .int .i64 0, .int .i64 0]) w := by kernel_rfl
theorem wh_built0 : Try.prog.built 24 [] = some #[.int .i64 0, .int .i64 0, .int .i64 0] := by kernel_rfl
theorem dec_false {p : Prop} [Decidable p] (h : ¬ p) : decide p = false := decide_eq_false h
/-- May a block be at a place? -/
theorem right_any (w : World) (p : Wh) : Calls Try.prog 30 #[.agg (whC p).toArray] w fun e w' => e = .returned (.bool p.ok) ∧ Below w.heap.size w w' := by
  have HWI := hide (within_any)
  by_cases h0 : p.t = 0
  · have e : p.ok = decide (p = Wh.none_) := by
      unfold Wh.ok
      rw [if_pos h0]
      have : (p.g = 0 ∧ p.s = 0) ↔ p = Wh.none_ := by
        cases p
        simp only [Wh.none_, Wh.mk.injEq]
        simp only at h0
        omega
      simp only [this]
    obtain ⟨r, hr⟩ : ∃ r, decide (p = Wh.none_) = r := ⟨_, rfl⟩
    rw [e, hr]
    have HRR := hide hr
    have HT := hide h0
    clear e hr h0
    go_enter Try.func30, Try.ntmps30
    go_wp2_with (first
      | ((with_reducible refine at_slot 1 ?_); refine wpList_box_blk rfl 24 _ rfl (.agg (whC p).toArray) rfl ?_; intro w1 hb1 hl1 hs1; clear hs1; have c0 : w1.cell? ⟨w.heap.size, 0, none⟩ = some (.int .i64 0) := (hb1.cell 0).trans (by rw [← HT.out]; rfl))
      | ((with_reducible refine at_slot 7 ?_); refine when_loadW rfl (.tmp 1) rfl ⟨w.heap.size, 0, none⟩ p (blk_at (cs := whC p) hb1) rfl ?_)
      | ((with_reducible refine at_slot 8 ?_); refine wpList_build_is rfl 24 _ rfl _ rfl _ wh_built0 ?_)
      | ((with_reducible refine at_slot 9 ?_); refine when_eqW rfl (.tmp 7) (.tmp 8) _ rfl p Wh.none_ rfl rfl r HRR.out ?_))
    go_ret
    exact ⟨rfl, hl1⟩
  · have hb0 : (p.t == 0) = false := by simpa using h0
    have hrow : ∀ m : Int, (p.t = 1 ∧ m = 8) ∨ (p.t = 2 ∧ m = 88) → p.ok = decide ((0 ≤ p.s ∧ p.s < m) ∧ 0 ≤ p.g ∧ p.g < 256) := by
      rintro m (⟨h1, rfl⟩ | ⟨h1, rfl⟩)
      · unfold Wh.ok
        rw [if_neg h0, if_pos h1]
        exact decide_eq_decide.2 (by omega)
      · unfold Wh.ok
        rw [if_neg h0, if_neg (by omega), if_pos h1]
        exact decide_eq_decide.2 (by omega)
    obtain ⟨ps, hps⟩ : ∃ x, x = p.s := ⟨_, rfl⟩
    obtain ⟨pg, hpg⟩ : ∃ x, x = p.g := ⟨_, rfl⟩
    by_cases h1 : p.t = 1
    · have e := hrow 8 (.inl ⟨h1, rfl⟩)
      rw [← hps, ← hpg] at e
      rw [e]
      have HC : Hid (whC p = [.int .i64 1, .int .i64 pg, .int .i64 ps]) := hide (by rw [hps, hpg, ← h1]; rfl)
      clear e hrow hb0 h0 h1 hps hpg
      obtain ⟨r1, hr1⟩ : ∃ r, decide (0 ≤ ps ∧ ps < 8) = r := ⟨_, rfl⟩
      obtain ⟨r2, hr2⟩ : ∃ r, decide (0 ≤ pg ∧ pg < 256) = r := ⟨_, rfl⟩
      have e2 : decide ((0 ≤ ps ∧ ps < 8) ∧ 0 ≤ pg ∧ pg < 256) = (r1 && r2) := by rw [← hr1, ← hr2, ← Bool.decide_and]
      rw [e2, HC.out]
      have W1 := hide (fun w => hr1 ▸ HWI.out w ps 8)
      have W2 := hide (fun w => hr2 ▸ HWI.out w pg 256)
      clear e2 hr1 hr2 HC HWI
      cases r1
      · go_enter Try.func30, Try.ntmps30
        go_wp2_with (first
          | ((with_reducible refine at_slot 1 ?_); refine wpList_box_blk rfl 24 _ rfl (.agg #[.int .i64 1, .int .i64 pg, .int .i64 ps]) rfl ?_; intro w1 hb1 hl1 hs1; clear hs1; have c0 : w1.cell? ⟨w.heap.size, 0, none⟩ = some (.int .i64 1) := (hb1.cell 0); have c1 : w1.cell? ⟨w.heap.size, 1, none⟩ = some (.int .i64 pg) := (hb1.cell 1); have c2 : w1.cell? ⟨w.heap.size, 2, none⟩ = some (.int .i64 ps) := (hb1.cell 2))
          | (go_at_call 29; refine (W1.out _).mono ?_; rintro _ _ ⟨rfl, rfl⟩))
        go_ret
        exact ⟨rfl, hl1⟩
      · go_enter Try.func30, Try.ntmps30
        go_wp2_with (first
          | ((with_reducible refine at_slot 1 ?_); refine wpList_box_blk rfl 24 _ rfl (.agg #[.int .i64 1, .int .i64 pg, .int .i64 ps]) rfl ?_; intro w1 hb1 hl1 hs1; clear hs1; have c0 : w1.cell? ⟨w.heap.size, 0, none⟩ = some (.int .i64 1) := (hb1.cell 0); have c1 : w1.cell? ⟨w.heap.size, 1, none⟩ = some (.int .i64 pg) := (hb1.cell 1); have c2 : w1.cell? ⟨w.heap.size, 2, none⟩ = some (.int .i64 ps) := (hb1.cell 2))
          | (go_at_call 29; with_reducible refine (W1.out _).mono ?_; rintro _ _ ⟨rfl, rfl⟩)
          | (go_at_call 29; with_reducible refine (W2.out _).mono ?_; rintro _ _ ⟨rfl, rfl⟩))
        go_ret
        exact ⟨by simp, hl1⟩
    · have hb1 : (p.t == 1) = false := by simpa using h1
      by_cases h2 : p.t = 2
      · have e := hrow 88 (.inr ⟨h2, rfl⟩)
        rw [← hps, ← hpg] at e
        rw [e]
        have HC : Hid (whC p = [.int .i64 2, .int .i64 pg, .int .i64 ps]) := hide (by rw [hps, hpg, ← h2]; rfl)
        clear e hrow hb0 h0 h1 h2 hb1 hps hpg
        obtain ⟨r1, hr1⟩ : ∃ r, decide (0 ≤ ps ∧ ps < 88) = r := ⟨_, rfl⟩
        obtain ⟨r2, hr2⟩ : ∃ r, decide (0 ≤ pg ∧ pg < 256) = r := ⟨_, rfl⟩
        have e2 : decide ((0 ≤ ps ∧ ps < 88) ∧ 0 ≤ pg ∧ pg < 256) = (r1 && r2) := by rw [← hr1, ← hr2, ← Bool.decide_and]
        rw [e2, HC.out]
        have W1 := hide (fun w => hr1 ▸ HWI.out w ps 88)
        have W2 := hide (fun w => hr2 ▸ HWI.out w pg 256)
        clear e2 hr1 hr2 HC HWI
        cases r1
        · go_enter Try.func30, Try.ntmps30
          go_wp2_with (first
            | ((with_reducible refine at_slot 1 ?_); refine wpList_box_blk rfl 24 _ rfl (.agg #[.int .i64 2, .int .i64 pg, .int .i64 ps]) rfl ?_; intro w1 hb1 hl1 hs1; clear hs1; have c0 : w1.cell? ⟨w.heap.size, 0, none⟩ = some (.int .i64 2) := (hb1.cell 0); have c1 : w1.cell? ⟨w.heap.size, 1, none⟩ = some (.int .i64 pg) := (hb1.cell 1); have c2 : w1.cell? ⟨w.heap.size, 2, none⟩ = some (.int .i64 ps) := (hb1.cell 2))
            | (go_at_call 29; refine (W1.out _).mono ?_; rintro _ _ ⟨rfl, rfl⟩))
          go_ret
          exact ⟨rfl, hl1⟩
        · go_enter Try.func30, Try.ntmps30
          go_wp2_with (first
            | ((with_reducible refine at_slot 1 ?_); refine wpList_box_blk rfl 24 _ rfl (.agg #[.int .i64 2, .int .i64 pg, .int .i64 ps]) rfl ?_; intro w1 hb1 hl1 hs1; clear hs1; have c0 : w1.cell? ⟨w.heap.size, 0, none⟩ = some (.int .i64 2) := (hb1.cell 0); have c1 : w1.cell? ⟨w.heap.size, 1, none⟩ = some (.int .i64 pg) := (hb1.cell 1); have c2 : w1.cell? ⟨w.heap.size, 2, none⟩ = some (.int .i64 ps) := (hb1.cell 2))
            | (go_at_call 29; with_reducible refine (W1.out _).mono ?_; rintro _ _ ⟨rfl, rfl⟩)
            | (go_at_call 29; with_reducible refine (W2.out _).mono ?_; rintro _ _ ⟨rfl, rfl⟩))
          go_ret
          exact ⟨by simp, hl1⟩
      · have hb2 : (p.t == 2) = false := by simpa using h2
        have e : p.ok = false := by
          unfold Wh.ok
          rw [if_neg h0, if_neg h1, if_neg h2]
        rw [e]
        obtain ⟨pt, hpt⟩ : ∃ x, x = p.t := ⟨_, rfl⟩
        rw [← hpt] at hb0 hb1 hb2
        have HC : Hid (whC p = [.int .i64 pt, .int .i64 pg, .int .i64 ps]) := hide (by rw [hps, hpg, hpt]; rfl)
        rw [HC.out]
        clear e hrow h0 h1 h2 hps hpg hpt HWI HC
        go_enter Try.func30, Try.ntmps30
        go_wp2_with (first
          | ((with_reducible refine at_slot 1 ?_); refine wpList_box_blk rfl 24 _ rfl (.agg #[.int .i64 pt, .int .i64 pg, .int .i64 ps]) rfl ?_; intro w1 hb1' hl1 hs1; clear hs1; have c0 : w1.cell? ⟨w.heap.size, 0, none⟩ = some (.int .i64 pt) := (hb1'.cell 0)))
        go_ret
        exact ⟨rfl, hl1⟩
section
variable {w w' : World} {m p y c : Nat} {cur : Array Value} {V : List Wh}
set_option maxRecDepth 100000 in
theorem len_any (h : VmIn w m p y c cur V) : Calls Try.prog 23 #[.pointer (some ⟨m, 0, none⟩)] w fun e w' => e = .returned (.int .i64 (V.length : Int)) ∧ w = w' := by
  have hc := h.c0
  generalize V.length = n at hc ⊢
  clear h
  go_enter Try.func23, Try.ntmps23
  go_wp2
  go_ret
  exact ⟨rfl, rfl⟩
set_option maxRecDepth 100000 in
theorem at_any (h : VmIn w m p y c cur V) (b : Int) : Calls Try.prog 16 #[.pointer (some ⟨m, 0, none⟩), .int .i64 b] w fun e w' => e = .returned (.tuple #[.agg (whC (atW V b)).toArray, .int .i64 (atE V b : Int)]) ∧ Below w.heap.size w w' := by
  have HH := hide h
  have HWI := hide (within_any)
  have hf := h.ok.few
  clear h
  cases hin : inB V.length b with
  | true =>
    have hbn : 0 ≤ b ∧ b < (V.length : Int) := by unfold inB at hin; exact of_decide_eq_true hin
    obtain ⟨k, rfl⟩ : ∃ k : Nat, b = (k : Int) := ⟨b.toNat, by omega⟩
    have hk : k < V.length := by omega
    obtain ⟨q, hq⟩ : ∃ q, V[k]? = some q := ⟨_, List.getElem?_eq_getElem hk⟩
    have e1 : atW V (k : Int) = q := by
      unfold atW
      rw [hin, if_pos rfl, Int.toNat_natCast, getD_at hq]
    have e2 : atE V (k : Int) = 0 := by
      unfold atE
      rw [hin, if_pos rfl]
    rw [e1, e2]
    have HD : Hid (decide (0 ≤ (k : Int) ∧ (k : Int) < (V.length : Int)) = true) := hide (decide_eq_true hbn)
    have HQ := hide hq
    obtain ⟨n, hn⟩ : ∃ n, V.length = n := ⟨_, rfl⟩
    rw [hn] at hf hk
    have HN := hide hn
    clear hin hbn hq e1 e2 hn
    go_enter Try.func16, Try.ntmps16
    go_wp2_with (first
      | ((with_reducible refine at_slot 4 ?_); refine wpList_alloc_blk rfl 24 rfl _ (wh_zero _) ?_; intro w1 hb1 hl1 hs1; clear hs1; have HH1 := hide (HH.out.later hl1); have hc0 := HH1.out.c0; rw [HN.out] at hc0; obtain ⟨ad, hA, _, hcell, _, _⟩ := wh_at HH1.out.reads HQ.out; injection hA with hA; subst hA; rw [add0] at hcell; have HCL := hide hcell; clear hcell)
      | (go_at_call 23; refine (len_any HH1.out).mono ?_; rintro _ _ ⟨rfl, rfl⟩; rw [HN.out])
      | (go_at_call 29; refine (HWI.out _ _ _).mono ?_; rintro _ _ ⟨rfl, rfl⟩; rw [HN.out] at HD; rw [HD.out])
      | ((with_reducible refine at_slot 18 ?_); refine when_loadW rfl (.tmp 17) rfl _ q HCL.out rfl ?_)
      | ((with_reducible refine at_store 4 ?_); refine wpList_store_all rfl 24 (.tmp 4) (.tmp 18) rfl w.heap.size 24 _ hb1 rfl (whC q) rfl (wh_info q) rfl (wh_one q) ?_; intro w2 hb2 hg2 hs2; clear hs2))
    refine ret_cell_tmp rfl w.heap.size 24 (whC q) _ hb2 rfl Try.underlying24 rfl (wh_info q) (.int .i64 0) rfl rfl ?_
    exact ⟨rfl, hl1.grown hg2 hl1.size (fun g e => by injection e with e; omega)⟩
  | false =>
    have e1 : atW V b = Wh.none_ := by
      unfold atW
      rw [hin]
      rfl
    have e2 : atE V b = 3 := by
      unfold atE
      rw [hin]
      rfl
    rw [e1, e2]
    have HD : Hid (decide (0 ≤ b ∧ b < (V.length : Int)) = false) := hide hin
    obtain ⟨n, hn⟩ : ∃ n, V.length = n := ⟨_, rfl⟩
    have HN := hide hn
    clear hin e1 e2 hn hf
    go_enter Try.func16, Try.ntmps16
    go_wp2_with (first
      | ((with_reducible refine at_slot 4 ?_); refine wpList_alloc_blk rfl 24 rfl _ (wh_zero _) ?_; intro w1 hb1 hl1 hs1; clear hs1; have HH1 := hide (HH.out.later hl1))
      | (go_at_call 23; refine (len_any HH1.out).mono ?_; rintro _ _ ⟨rfl, rfl⟩; rw [HN.out])
      | (go_at_call 29; refine (HWI.out _ _ _).mono ?_; rintro _ _ ⟨rfl, rfl⟩; rw [HN.out] at HD; rw [HD.out])
      | ((with_reducible refine at_slot 11 ?_); refine wpList_build_is rfl 24 _ rfl _ rfl _ wh_built0 ?_)
      | ((with_reducible refine at_store 4 ?_); refine wpList_store_all rfl 24 (.tmp 4) (.tmp 11) rfl w.heap.size 24 _ hb1 rfl (whC Wh.none_) rfl (wh_info _) rfl (wh_one _) ?_; intro w2 hb2 hg2 hs2; clear hs2))
    refine ret_cell_tmp rfl w.heap.size 24 (whC Wh.none_) _ hb2 rfl Try.underlying24 rfl (wh_info _) (.int .i64 3) rfl rfl ?_
    exact ⟨rfl, hl1.grown hg2 hl1.size (fun g e => by injection e with e; omega)⟩
theorem run_look {ι : Type} [DecidableEq ι] {C : Coded ι} {a : Act} (W : World) (o : Oper) (x k : Operand) (t e : TypeId) (c : Bool) (hop : o.op = Op.lookup t x k c) (ht : Try.prog.underlying t = some (.map C.kt e)) (z : Value) (hz : (zeroValue e).run Try.prog W = .ok z W) (b : Nat) (f : ι → Option Value)
    (hm : a.eval x = .map (some b)) (h : MapIs C W b f) (q : ι) (hx : a.eval k = C.enc q) (hko : C.ok q) (u : Value) (hu : (if c then .tuple #[(f q).getD z, .bool (f q).isSome] else (f q).getD z) = u) : (execOp a.eval o).run Try.prog W = .ok (.value u) W := by
  have hrun := h.look ht hz hko c
  rw [hu] at hrun
  unfold execOp
  simp [hop, hm, hx, hrun, Result.andThen]
theorem hF_look (V : List Wh) (q : Wh) : (hF V q).getD (.int .i64 0) = .int .i64 (((hold V q).getD 0 : Nat) : Int) ∧ (hF V q).isSome = (hold V q).isSome := by
  unfold hF
  cases hold V q <;> exact ⟨rfl, rfl⟩
set_option maxRecDepth 100000 in
theorem holder_any (h : VmIn w m p y c cur V) (q : Wh) (hq : q.fits) : Calls Try.prog 18 #[.pointer (some ⟨m, 0, none⟩), .agg (whC q).toArray] w fun e w' => e = .returned (.tuple #[.int .i64 (((hold V q).getD 0 : Nat) : Int), .bool (hold V q).isSome]) ∧ Below w.heap.size w w' := by
  have HH := hide h
  have HL := hide (hF_look V q)
  have HQ := hide (okWh_of hq)
  clear h hq
  obtain ⟨r1, hr1⟩ : ∃ r, r = (((hold V q).getD 0 : Nat) : Int) := ⟨_, rfl⟩
  obtain ⟨r2, hr2⟩ : ∃ r, r = (hold V q).isSome := ⟨_, rfl⟩
  rw [← hr1, ← hr2] at HL ⊢
  clear hr1 hr2
  go_enter Try.func18, Try.ntmps18
  go_wp2_with (first
    | ((with_reducible refine at_slot 3 ?_); refine wpList_box_blk rfl 24 _ rfl (.agg (whC q).toArray) rfl ?_; intro w1 hb1 hl1 hs1; clear hs1; have HH1 := hide (HH.out.later hl1)))
  refine wp_region_held_drew (S := (fun W => W = w1.drew)) (by kernel_rfl) ?_ (fun hHeld => ?_)
  · exact rfl
  refine heldTake (i := 0) (v := ?_) rfl (by kernel_rfl) (by kernel_rfl) (by kernel_rfl) (fun _ _ _ h => h) (Or.inl ⟨by rfl, ?_⟩) (by assumption) ?_
  rotate_left
  · intro w hSw; (try dsimp only at hSw); go_simp <;> (with_reducible rfl)
  try simp only [Act.put, List.setIfInBounds_toArray, List.set_cons_zero, List.set_cons_succ]
  refine heldTake (i := 1) (v := ?_) rfl (by kernel_rfl) (by kernel_rfl) (by kernel_rfl) (fun _ _ _ h => h) (Or.inl ⟨by rfl, ?_⟩) (by assumption) ?_
  rotate_left
  · intro w hSw; (try dsimp only at hSw); go_simp <;> (with_reducible rfl)
  try simp only [Act.put, List.setIfInBounds_toArray, List.set_cons_zero, List.set_cons_succ]
  refine heldTake (i := 2) (v := ?_) rfl (by kernel_rfl) (by kernel_rfl) (by kernel_rfl) (fun _ _ _ h => h) (Or.inl ⟨by rfl, ?_⟩) (by assumption) ?_
  rotate_left
  · intro w hSw; (try dsimp only at hSw); go_simp <;> (with_reducible rfl)
  try simp only [Act.put, List.setIfInBounds_toArray, List.set_cons_zero, List.set_cons_succ]
  refine heldTake (i := 3) (v := .map (some y)) rfl (by kernel_rfl) (by kernel_rfl) (by kernel_rfl) (fun _ _ _ h => h) (Or.inl ⟨by rfl, fun W hW => ?_⟩) (by assumption) ?_
  · dsimp only at hW
    subst hW
    have hc : w1.drew.cell? ⟨m, 1, none⟩ = some (.map (some y)) := HH1.out.c1
    go_simp <;> rfl
  try simp only [Act.put, List.setIfInBounds_toArray, List.set_cons_zero, List.set_cons_succ]
  refine heldTake (i := 4) (v := .agg (whC q).toArray) rfl (by kernel_rfl) (by kernel_rfl) (by kernel_rfl) (fun _ _ _ h => h) (Or.inl ⟨by rfl, fun W hW => ?_⟩) (by assumption) ?_
  · dsimp only at hW
    subst hW
    exact run_load_wh _ _ (.tmp 3) rfl ⟨w.heap.size, 0, none⟩ q (blk_at (w := w1.drew) (cs := whC q) hb1) rfl
  try simp only [Act.put, List.setIfInBounds_toArray, List.set_cons_zero, List.set_cons_succ]
  refine heldTake (i := 5) (v := .tuple #[.int .i64 r1, .bool r2]) rfl (by kernel_rfl) (by kernel_rfl) (by kernel_rfl) (fun _ _ _ h => h) (Or.inl ⟨by rfl, fun W hW => ?_⟩) (by assumption) ?_
  · dsimp only at hW
    subst hW
    exact run_look (C := whKey) _ _ (.tmp 12) (.tmp 13) 54 3 true rfl Try.underlying54 _ (Try.zeroValue3 _) y (hF V) rfl HH1.out.map.drew q rfl HQ.out _ (by rw [HL.out.1, HL.out.2]; rfl)
  try simp only [Act.put, List.setIfInBounds_toArray, List.set_cons_zero, List.set_cons_succ]
  refine heldTake (i := 6) (v := ?_) rfl (by kernel_rfl) (by kernel_rfl) (by kernel_rfl) (fun _ _ _ h => h) (Or.inl ⟨by rfl, ?_⟩) (by assumption) ?_
  rotate_left
  · intro w hSw; (try dsimp only at hSw); go_simp <;> (with_reducible rfl)
  try simp only [Act.put, List.setIfInBounds_toArray, List.set_cons_zero, List.set_cons_succ]
  refine heldTake (i := 7) (v := ?_) rfl (by kernel_rfl) (by kernel_rfl) (by kernel_rfl) (fun _ _ _ h => h) (Or.inl ⟨by rfl, ?_⟩) (by assumption) ?_
  rotate_left
  · intro w hSw; (try dsimp only at hSw); go_simp <;> (with_reducible rfl)
  try simp only [Act.put, List.setIfInBounds_toArray, List.set_cons_zero, List.set_cons_succ]
  refine heldTake (i := 8) (v := ?_) rfl (by kernel_rfl) (by kernel_rfl) (by kernel_rfl) (fun _ _ _ h => h) (Or.inl ⟨by rfl, ?_⟩) (by assumption) ?_
  rotate_left
  · intro w hSw; (try dsimp only at hSw); go_simp <;> (with_reducible rfl)
  try simp only [Act.put, List.setIfInBounds_toArray, List.set_cons_zero, List.set_cons_succ]
  refine heldTake (i := 9) (v := ?_) rfl (by kernel_rfl) (by kernel_rfl) (by kernel_rfl) (fun _ _ _ h => h) (Or.inl ⟨by rfl, ?_⟩) (by assumption) ?_
  rotate_left
  · intro w hSw; (try dsimp only at hSw); go_simp <;> (with_reducible rfl)
  try simp only [Act.put, List.setIfInBounds_toArray, List.set_cons_zero, List.set_cons_succ]
  refine heldTake (i := 10) (v := ?_) rfl (by kernel_rfl) (by kernel_rfl) (by kernel_rfl) (fun _ _ _ h => h) (Or.inl ⟨by rfl, ?_⟩) (by assumption) ?_
  rotate_left
  · intro w hSw; (try dsimp only at hSw); go_simp <;> (with_reducible rfl)
  try simp only [Act.put, List.setIfInBounds_toArray, List.set_cons_zero, List.set_cons_succ]
  refine wpAnyH_done (by kernel_rfl) ?_ _
  go_wp2
  go_ret2
  exact ⟨rfl, hl1.trans ((Below.refl _ _).drew.mono hl1.size)⟩
end
#print axioms at_any
end Go.Proofs.Ytfjgpnjhmfcpiaa
