/- Texts of the proof laid one behind the other: SyB SyC SyLaw. -/
import Derived.Test.YtmjjnbabfldbcaaGreatLump12
import Derived.Test.YtmjjnbabfldbcaaGreatStepB
import Derived.Deep.DeepCutAuto
import Derived.Test.YtmjjnbabfldbcaaGreatArgSt
import Derived.Test.YtmjjnbabfldbcaaGreatLump4
namespace Go.Proofs.YtmjjnbabfldbcaaGreat
open Go.RowKit
set_option linter.unusedVariables false
theorem step_alloc {P : Program} {ops : Array Oper} {o : Oper} {a : Act} {w : World} {K : Act → World → Prop} {Q : Exit → Act → World → Prop} {E : Prop} (hg : o.guard = none) (ty : TypeId) (ho : o.op = .alloc ty) (z : Value) (hz : (zeroValue ty).run P w = .ok z w)
    (hK : ∀ w', Blk w' w.heap.size ty z.cells → Below w.heap.size w w' → K (a.put o.dst (.pointer (some ⟨w.heap.size, 0, none⟩))) w') : if Region.wanted o (yielded ops a.tmps) = true then Oper.wp P o a w K Q else E := by
  have hw : Region.wanted o (yielded ops a.tmps) = true := by simp [Region.wanted, hg]
  rw [if_pos hw]
  have hrun : (Instr.alloc ty true (.tuple #[])).run P w = .ok (.pointer (some ⟨w.heap.size, 0, none⟩)) (w.alloc (.cells z.cells ty)) := by
    simp [Instr.alloc, hz, newVar, newRow, Result.andThen, go_sem]
  unfold Oper.wp
  simp [execOp, ho, hrun, Result.andThen]
  exact hK _ (Blk.new _ _ _) ((Below.refl _ _).alloc (Nat.le_refl _) _)
theorem step_store_all {P : Program} {ops : Array Oper} {o : Oper} {a : Act} {w : World} {K : Act → World → Prop} {Q : Exit → Act → World → Prop} {E : Prop} (hg : o.guard = none) (ty : TypeId) (x y : Operand) (ho : o.op = .store ty x y)
    (g : Nat) (t : TypeId) (cur : Array Value) (h : Blk w g t cur) (hx : a.eval x = .pointer (some ⟨g, 0, none⟩)) (cs : List Value) (hy : a.eval y = .agg cs.toArray) (hi : (P.info? ty).map (·.size) = some cs.length)
    (hl : cs.length = cur.size) (h1 : ∀ v ∈ cs, v.oneCell' = true)
    (hK : ∀ w', Blk w' g t cs.toArray → w.grownBy w' (some g) → K (a.put o.dst undef) w') : if Region.wanted o (yielded ops a.tmps) = true then Oper.wp P o a w K Q else E := by
  refine step_store_blk hg ty x y ho g 0 t cur h hx cs hy hi (by omega) h1 fun w' h2 h3 h4 => hK w' ?_ h3
  rw [List.take_zero, List.nil_append, List.drop_of_length_le (by rw [Array.length_toList]; omega), List.append_nil] at h2
  exact h2
section
variable {w0 w W W' : World} {b r nx cx : Nat} {S T : Bank} {U : List (Nat × TypeId × List Value)} {A : Option Addr} {X : List PlI}
theorem Duo.ownU {V V2 : List (Nat × TypeId × List Value)} (h : Duo w0 W b r S T ((V ++ V2) ++ U)) : OwnV W 0 (V ++ U) := (h.sub (U := V ++ U) fun p hp => by
  rcases List.mem_append.1 hp with hp | hp
  · exact List.mem_append.2 (.inl (List.mem_append.2 (.inl hp)))
  · exact List.mem_append.2 (.inr hp)).own
theorem Duo.pokeU {V : List (Nat × TypeId × List Value)} {g : Nat} {t : TypeId} {cs cs' : List Value} (h : Duo w0 W b r S T ((V ++ [(g, t, cs)]) ++ U)) (h0 : w0.heap.size ≤ g) (hV : ∀ p ∈ V, p.1 < g) (hU : ∀ p ∈ U, p.1 < g) (hb : Blk W' g t cs'.toArray) (hg : W.grownBy W' (some g)) : Duo w0 W' b r S T ((V ++ [(g, t, cs')]) ++ U) := by
  obtain ⟨hl, ⟨F, G, h1, h2, h3, h4, h5⟩, h6⟩ := h
  have hT : Turn (fun x => x = g) W W' := Turn.of_grown hg fun x e => by injection e with e; exact e.symm
  have hold : ∀ p : Nat × TypeId × List Value, p ∈ V ∨ p ∈ U → ∃ k : Nat, ((V ++ [(g, t, cs)]) ++ U)[k]? = some p := fun p hp => List.getElem?_of_mem (by
    rcases hp with hp | hp
    · exact List.mem_append.2 (.inl (List.mem_append.2 (.inl hp)))
    · exact List.mem_append.2 (.inr hp))
  obtain ⟨k0, hk0⟩ : ∃ k : Nat, ((V ++ [(g, t, cs)]) ++ U)[k]? = some (g, t, cs) := List.getElem?_of_mem (List.mem_append.2 (.inl (List.mem_append.2 (.inr (List.mem_singleton.2 rfl)))))
  have hpart : ∀ p : Nat × TypeId × List Value, p ∈ ((V ++ [(g, t, cs')]) ++ U) → p = (g, t, cs') ∨ (p ∈ V ∨ p ∈ U) := fun p hp => by
    rcases List.mem_append.1 hp with hp | hp
    · rcases List.mem_append.1 hp with hp | hp
      · exact .inr (.inl hp)
      · exact .inl (List.mem_singleton.1 hp)
    · exact .inr (.inr hp)
  have hne : ∀ p : Nat × TypeId × List Value, p ∈ V ∨ p ∈ U → p.1 < g := fun p hp => hp.elim (hV p) (hU p)
  refine ⟨hl.grown hg hl.size (fun x e => by injection e with e; omega), ⟨F, G, h1.kept hT (fun x hx e => ?_), h2.kept hT (fun x hx e => ?_), h3, h4, fun i p e => ?_⟩, fun i p e => ?_⟩
  · have e2 : x = g := e
    subst e2
    exact (h5 k0 _ hk0).1 hx
  · have e2 : x = g := e
    subst e2
    exact (h5 k0 _ hk0).2 hx
  · rcases hpart p (List.mem_of_getElem? e) with rfl | hp
    · exact (h5 k0 _ hk0 : ¬ F g ∧ ¬ G g)
    · obtain ⟨k, hk⟩ := hold p hp
      exact h5 k p hk
  · rcases hpart p (List.mem_of_getElem? e) with rfl | hp
    · exact ⟨Nat.zero_le _, hb⟩
    · obtain ⟨k, hk⟩ := hold p hp
      have := hne p hp
      exact ⟨Nat.zero_le _, (h6 k p hk).2.grown hg (by intro e; injection e with e; omega)⟩
theorem Duo.ltU {V : List (Nat × TypeId × List Value)} (h : Duo w0 W b r S T (V ++ U)) : ∀ p ∈ V, p.1 < W.heap.size := fun p hp => (List.getElem?_of_mem (List.mem_append.2 (.inl hp) : p ∈ V ++ U)).elim fun k hk => (h.own k p hk).2.lt
theorem Duo.ltV {V : List (Nat × TypeId × List Value)} (h : Duo w0 W b r S T (V ++ U)) : ∀ p ∈ U, p.1 < W.heap.size := fun p hp => (List.getElem?_of_mem (List.mem_append.2 (.inr hp) : p ∈ V ++ U)).elim fun k hk => (h.own k p hk).2.lt
theorem Duo.lowB {V : List (Nat × TypeId × List Value)} (h : Duo w0 W b r S T V) : w0.heap.size ≤ W.heap.size := h.low.size
theorem plug_wide {S : Bank} {X : List PlI} {t : Int} {d : Sec} (h : (S.splug X t d).2 = 0) : 2 ≤ X.length := by
  unfold Bank.splug at h
  split at h
  · rename_i he
    unfold homeE at he
    split at he
    · cases he
    · omega
  · rename_i he
    exact absurd h he
set_option maxRecDepth 100000 in
set_option maxHeartbeats 8000000 in
theorem doesS4_any (h : Duo w0 w b r S S U) (hw : S.writes < 4611686018427380000) (hx : ExtV U A nx cx X) (x t n more : Int) (a : Bool) (mk : Nat) (hx1 : I64In x) (ht1 : I64In t) (hn1 : I64In n) (hm : mk < 18446744073709551616) :
    Calls Tryz.prog 9 #[.pointer (some ⟨b, 0, none⟩), .pointer (some ⟨r, 0, none⟩), .slice A nx cx, .agg #[.int .i64 4, .int .i64 x, .int .i64 t, .int .i64 n, .int .i64 more, .bool a, .int .u64 (mk : Int)]] w fun e w' => e = .returned (.bool true) ∧ ∃ S', Duo w0 w' b r S' S' U ∧ S'.writes ≤ S.writes + 16 := by
  have HS_w : Hid (Duo w0 w b r S S ([] ++ U)) := hide h
  have HWR := hide hw
  have HX := hide hx
  have HX1 := hide hx1
  have HT1 := hide ht1
  have HN1 := hide hn1
  clear h hw hx hx1 ht1 hn1
  obtain ⟨d, hd⟩ : ∃ d, d = secOf n := ⟨_, rfl⟩
  have HA := hide (fun w => hd ▸ sector_any n w)
  clear hd
  obtain ⟨s, hs⟩ : ∃ z, (S.splug X t d).1 = z := ⟨_, rfl⟩
  have H_s := hide hs
  clear hs
  obtain ⟨e, he⟩ : ∃ z, (S.splug X t d).2 = z := ⟨_, rfl⟩
  have H_e := hide he
  clear he
  go_enter Tryz.func9, Tryz.ntmps9
  go_upto_region 18 with (first
    | ((with_reducible refine at_slot 7 ?_); refine wpList_box_blk rfl 35 _ rfl (.agg #[.int .i64 4, .int .i64 x, .int .i64 t, .int .i64 n, .int .i64 more, .bool a, .int .u64 (mk : Int)]) rfl ?_; intro y1 hbq hl1 hs1; have HS_y1 : Hid (Duo w0 y1 b r S S ([(w.heap.size, 35, [.int .i64 4, .int .i64 x, .int .i64 t, .int .i64 n, .int .i64 more, .bool a, .int .u64 (mk : Int)])] ++ U)) := hide (HS_w.out.varU hl1 (Nat.le_refl _) hbq); clear hbq hl1 hs1; have hc0_y1 : y1.cell? ⟨w.heap.size, 0, none⟩ = some (.int .i64 4) := (HS_y1.out.own.blk 0 rfl).cell 0))
  go_cut [19, 20] (fun s19 s20 wx => ∃ g1 : Nat, s19 = .pointer (some ⟨g1, 0, none⟩) ∧ s20 = .int .i64 (e : Int) ∧ Hid (Duo w0 wx b r S S ([(w.heap.size, 35, [.int .i64 4, .int .i64 x, .int .i64 t, .int .i64 n, .int .i64 more, .bool a, .int .u64 (mk : Int)]), (g1, 43, secL s)] ++ U)))
  case first => as_aux_lemma =>
    refine wp_region_held_drew (S := (fun W => OwnV W 0 ([(w.heap.size, 35, [.int .i64 4, .int .i64 x, .int .i64 t, .int .i64 n, .int .i64 more, .bool a, .int .u64 (mk : Int)])] ++ U))) (by kernel_rfl) ?_ (fun hHeld => ?_)
    · exact HS_y1.out.drew.own
    have HK0 := hide (HS_y1.out.drew)
    refine heldTake (i := 0) (v := ?_) rfl (by kernel_rfl) (by kernel_rfl) (by kernel_rfl) (fun _ _ _ h => h) (Or.inl ⟨by rfl, ?_⟩) (by assumption) ?_
    rotate_left
    · intro w hSw; (try dsimp only at hSw); go_simp <;> (with_reducible rfl)
    try simp only [Act.put, List.setIfInBounds_toArray, List.set_cons_zero, List.set_cons_succ]
    refine heldTake (i := 1) (v := ?_) rfl (by kernel_rfl) (by kernel_rfl) (by kernel_rfl) (fun _ _ _ h => h) (Or.inl ⟨by rfl, ?_⟩) (by assumption) ?_
    rotate_left
    · intro w hSw; (try dsimp only at hSw); go_simp <;> (with_reducible rfl)
    try simp only [Act.put, List.setIfInBounds_toArray, List.set_cons_zero, List.set_cons_succ]
    refine heldTake (i := 2) (v := ?_) rfl (by kernel_rfl) (by kernel_rfl) (by kernel_rfl) (fun _ _ _ h => h) (Or.inl ⟨by rfl, ?_⟩) (by assumption) ?_
    rotate_left
    · intro w hSw; (try dsimp only at hSw); go_simp <;> (with_reducible rfl)
    try simp only [Act.put, List.setIfInBounds_toArray, List.set_cons_zero, List.set_cons_succ]
    refine heldTake (i := 3) (v := .int .i64 t) rfl (by kernel_rfl) (by kernel_rfl) (by kernel_rfl) (fun _ _ _ h => h) (Or.inl ⟨by rfl, fun W hW => ?_⟩) (by assumption) ?_
    · have hc : W.cell? ⟨w.heap.size, 2, none⟩ = some (.int .i64 t) := (hW.blk 0 rfl).cell 2
      go_simp <;> rfl
    try simp only [Act.put, List.setIfInBounds_toArray, List.set_cons_zero, List.set_cons_succ]
    refine heldTake (i := 4) (v := ?_) rfl (by kernel_rfl) (by kernel_rfl) (by kernel_rfl) (fun _ _ _ h => h) (Or.inl ⟨by rfl, ?_⟩) (by assumption) ?_
    rotate_left
    · intro w hSw; (try dsimp only at hSw); go_simp <;> (with_reducible rfl)
    try simp only [Act.put, List.setIfInBounds_toArray, List.set_cons_zero, List.set_cons_succ]
    refine heldTake (i := 5) (v := .int .i64 n) rfl (by kernel_rfl) (by kernel_rfl) (by kernel_rfl) (fun _ _ _ h => h) (Or.inl ⟨by rfl, fun W hW => ?_⟩) (by assumption) ?_
    · have hc : W.cell? ⟨w.heap.size, 3, none⟩ = some (.int .i64 n) := (hW.blk 0 rfl).cell 3
      go_simp <;> rfl
    try simp only [Act.put, List.setIfInBounds_toArray, List.set_cons_zero, List.set_cons_succ]
    refine wpAnyH_ready (rs := [6, 11]) (by kernel_rfl) (by simp) ?_
    refine heldCons (i := 6) rfl (fun Kq hKq => ?_) (heldCons (i := 11) rfl (fun Kq hKq => ?_) AllReadyH.nil)
    · go_simp
      go_at_call 20
      refine (HA.out _).mono ?_
      rintro _ q1 ⟨rfl, hlq⟩
      have HK2 := hide (HK0.out.later hlq)
      clear hlq
      first | (refine hKq.out _ _ HK2.out.own (fun hHeld => ?_)) | (go_wp2_with fail; refine hKq.out _ _ HK2.out.own (fun hHeld => ?_))
      clear hKq Kq
      try simp only [Act.put, List.setIfInBounds_toArray, List.set_cons_zero, List.set_cons_succ]
      refine wpAnyH_ready (rs := [7, 11]) (by kernel_rfl) (by simp) ?_
      refine heldCons (i := 7) rfl (fun Kq hKq => ?_) (heldCons (i := 11) rfl (fun Kq hKq => ?_) AllReadyH.nil)
      · go_simp
        go_at_call 30
        refine (HK2.out.cplug (HX.out.ahead [(w.heap.size, 35, [.int .i64 4, .int .i64 x, .int .i64 t, .int .i64 n, .int .i64 more, .bool a, .int .u64 (mk : Int)])]) t HT1.out d).mono ?_
        rintro _ q3 ⟨rfl, hsq⟩
        rw [H_s.out, H_e.out]
        have HK4 := hide hsq
        clear hsq
        first | (refine hKq.out _ _ HK4.out.own (fun hHeld => ?_)) | (go_wp2_with fail; refine hKq.out _ _ HK4.out.own (fun hHeld => ?_))
        clear hKq Kq
        try simp only [Act.put, List.setIfInBounds_toArray, List.set_cons_zero, List.set_cons_succ]
        refine heldTake (i := 8) (v := ?_) rfl (by kernel_rfl) (by kernel_rfl) (by kernel_rfl) (fun _ _ _ h => h) (Or.inl ⟨by rfl, ?_⟩) (by assumption) ?_
        rotate_left
        · intro w hSw; (try dsimp only at hSw); go_simp <;> (with_reducible rfl)
        try simp only [Act.put, List.setIfInBounds_toArray, List.set_cons_zero, List.set_cons_succ]
        refine heldTake (i := 9) (v := ?_) rfl (by kernel_rfl) (by kernel_rfl) (by kernel_rfl) (fun _ _ _ h => h) (Or.inl ⟨by rfl, ?_⟩) (by assumption) ?_
        rotate_left
        · intro w hSw; (try dsimp only at hSw); go_simp <;> (with_reducible rfl)
        try simp only [Act.put, List.setIfInBounds_toArray, List.set_cons_zero, List.set_cons_succ]
        refine heldTake (i := 10) (v := ?_) rfl (by kernel_rfl) (by kernel_rfl) (by kernel_rfl) (fun _ _ _ h => h) (Or.inl ⟨by rfl, ?_⟩) (by assumption) ?_
        rotate_left
        · intro w hSw; (try dsimp only at hSw); go_simp <;> (with_reducible rfl)
        try simp only [Act.put, List.setIfInBounds_toArray, List.set_cons_zero, List.set_cons_succ]
        refine wpAnyH_ready (rs := [11]) (by kernel_rfl) (by simp) ?_
        refine heldCons (i := 11) rfl (fun Kq hKq => ?_) AllReadyH.nil
        refine step_alloc rfl 43 rfl _ (sec_zero _) ?_
        intro q5 hbq hl1
        have HK6 : Hid (Duo w0 q5 b r S S ([(w.heap.size, 35, [.int .i64 4, .int .i64 x, .int .i64 t, .int .i64 n, .int .i64 more, .bool a, .int .u64 (mk : Int)]), (q3.heap.size, 43, secL zeroSec)] ++ U)) := hide (HK4.out.varU (V := [(w.heap.size, 35, [.int .i64 4, .int .i64 x, .int .i64 t, .int .i64 n, .int .i64 more, .bool a, .int .u64 (mk : Int)])]) hl1 (Nat.le_refl _) (show Blk _ _ _ (secL zeroSec).toArray from hbq))
        have HG_HK6 := hide (show (∀ p ∈ ([(w.heap.size, 35, [.int .i64 4, .int .i64 x, .int .i64 t, .int .i64 n, .int .i64 more, .bool a, .int .u64 (mk : Int)])] : List (Nat × TypeId × List Value)), p.1 < q3.heap.size) ∧ (∀ p ∈ U, p.1 < q3.heap.size) ∧ w0.heap.size ≤ q3.heap.size from ⟨HK4.out.ltU (V := [(w.heap.size, 35, [.int .i64 4, .int .i64 x, .int .i64 t, .int .i64 n, .int .i64 more, .bool a, .int .u64 (mk : Int)])]), HK4.out.ltV, HK4.out.lowB⟩)
        clear hbq hl1
        first | (refine hKq.out _ _ (HK6.out.ownU (V := [(w.heap.size, 35, [.int .i64 4, .int .i64 x, .int .i64 t, .int .i64 n, .int .i64 more, .bool a, .int .u64 (mk : Int)])]) (V2 := [(q3.heap.size, 43, secL zeroSec)])) (fun hHeld => ?_)) | (go_wp2_with fail; refine hKq.out _ _ (HK6.out.ownU (V := [(w.heap.size, 35, [.int .i64 4, .int .i64 x, .int .i64 t, .int .i64 n, .int .i64 more, .bool a, .int .u64 (mk : Int)])]) (V2 := [(q3.heap.size, 43, secL zeroSec)])) (fun hHeld => ?_))
        clear hKq Kq
        try simp only [Act.put, List.setIfInBounds_toArray, List.set_cons_zero, List.set_cons_succ]
        refine wpAnyH_ready (rs := [12]) (by kernel_rfl) (by simp) ?_
        refine heldCons (i := 12) rfl (fun Kq hKq => ?_) AllReadyH.nil
        refine step_store_all rfl 43 (.tmp 19) (.tmp 131) rfl (q3.heap.size) 43 _ (HK6.out.own.blk 1 rfl) rfl (secL s) rfl (msec_size _) ((secL_length s).trans (secL_length zeroSec).symm) (secL_one _) ?_
        intro q7 hbz hgz
        have HK8 : Hid (Duo w0 q7 b r S S ([(w.heap.size, 35, [.int .i64 4, .int .i64 x, .int .i64 t, .int .i64 n, .int .i64 more, .bool a, .int .u64 (mk : Int)]), (q3.heap.size, 43, secL s)] ++ U)) := hide (HK6.out.pokeU (V := [(w.heap.size, 35, [.int .i64 4, .int .i64 x, .int .i64 t, .int .i64 n, .int .i64 more, .bool a, .int .u64 (mk : Int)])]) HG_HK6.out.2.2 HG_HK6.out.1 HG_HK6.out.2.1 hbz hgz)
        clear hbz hgz
        first | (refine hKq.out _ _ (HK8.out.ownU (V := [(w.heap.size, 35, [.int .i64 4, .int .i64 x, .int .i64 t, .int .i64 n, .int .i64 more, .bool a, .int .u64 (mk : Int)])]) (V2 := [(q3.heap.size, 43, secL s)])) (fun hHeld => ?_)) | (go_wp2_with fail; refine hKq.out _ _ (HK8.out.ownU (V := [(w.heap.size, 35, [.int .i64 4, .int .i64 x, .int .i64 t, .int .i64 n, .int .i64 more, .bool a, .int .u64 (mk : Int)])]) (V2 := [(q3.heap.size, 43, secL s)])) (fun hHeld => ?_))
        clear hKq Kq
        try simp only [Act.put]
        refine heldTake (i := 13) (v := ?_) rfl (by kernel_rfl) (by kernel_rfl) (by kernel_rfl) (fun _ _ _ h => h) (Or.inl ⟨by rfl, ?_⟩) (by assumption) ?_
        rotate_left
        · intro w hSw; (try dsimp only at hSw); go_simp <;> (with_reducible rfl)
        try simp only [Act.put, List.setIfInBounds_toArray, List.set_cons_zero, List.set_cons_succ]
        refine wpAnyH_done (by kernel_rfl) ?_ _
        go_wp2_with fail
        go_meet
        case rel => exact ⟨q3.heap.size, rfl, rfl, hide HK8.out⟩
      · refine step_alloc rfl 43 rfl _ (sec_zero _) ?_
        intro q9 hbq hl1
        have HK10 : Hid (Duo w0 q9 b r S S ([(w.heap.size, 35, [.int .i64 4, .int .i64 x, .int .i64 t, .int .i64 n, .int .i64 more, .bool a, .int .u64 (mk : Int)]), (q1.heap.size, 43, secL zeroSec)] ++ U)) := hide (HK2.out.varU (V := [(w.heap.size, 35, [.int .i64 4, .int .i64 x, .int .i64 t, .int .i64 n, .int .i64 more, .bool a, .int .u64 (mk : Int)])]) hl1 (Nat.le_refl _) (show Blk _ _ _ (secL zeroSec).toArray from hbq))
        have HG_HK10 := hide (show (∀ p ∈ ([(w.heap.size, 35, [.int .i64 4, .int .i64 x, .int .i64 t, .int .i64 n, .int .i64 more, .bool a, .int .u64 (mk : Int)])] : List (Nat × TypeId × List Value)), p.1 < q1.heap.size) ∧ (∀ p ∈ U, p.1 < q1.heap.size) ∧ w0.heap.size ≤ q1.heap.size from ⟨HK2.out.ltU (V := [(w.heap.size, 35, [.int .i64 4, .int .i64 x, .int .i64 t, .int .i64 n, .int .i64 more, .bool a, .int .u64 (mk : Int)])]), HK2.out.ltV, HK2.out.lowB⟩)
        clear hbq hl1
        first | (refine hKq.out _ _ (HK10.out.ownU (V := [(w.heap.size, 35, [.int .i64 4, .int .i64 x, .int .i64 t, .int .i64 n, .int .i64 more, .bool a, .int .u64 (mk : Int)])]) (V2 := [(q1.heap.size, 43, secL zeroSec)])) (fun hHeld => ?_)) | (go_wp2_with fail; refine hKq.out _ _ (HK10.out.ownU (V := [(w.heap.size, 35, [.int .i64 4, .int .i64 x, .int .i64 t, .int .i64 n, .int .i64 more, .bool a, .int .u64 (mk : Int)])]) (V2 := [(q1.heap.size, 43, secL zeroSec)])) (fun hHeld => ?_))
        clear hKq Kq
        try simp only [Act.put, List.setIfInBounds_toArray, List.set_cons_zero, List.set_cons_succ]
        refine wpAnyH_ready (rs := [7]) (by kernel_rfl) (by simp) ?_
        refine heldCons (i := 7) rfl (fun Kq hKq => ?_) AllReadyH.nil
        go_simp
        go_at_call 30
        refine (HK10.out.cplug (HX.out.ahead [(w.heap.size, 35, [.int .i64 4, .int .i64 x, .int .i64 t, .int .i64 n, .int .i64 more, .bool a, .int .u64 (mk : Int)]), (q1.heap.size, 43, secL zeroSec)]) t HT1.out d).mono ?_
        rintro _ q11 ⟨rfl, hsq⟩
        rw [H_s.out, H_e.out]
        have HK12 := hide hsq
        clear hsq
        first | (refine hKq.out _ _ (HK12.out.ownU (V := [(w.heap.size, 35, [.int .i64 4, .int .i64 x, .int .i64 t, .int .i64 n, .int .i64 more, .bool a, .int .u64 (mk : Int)])]) (V2 := [(q1.heap.size, 43, secL zeroSec)])) (fun hHeld => ?_)) | (go_wp2_with fail; refine hKq.out _ _ (HK12.out.ownU (V := [(w.heap.size, 35, [.int .i64 4, .int .i64 x, .int .i64 t, .int .i64 n, .int .i64 more, .bool a, .int .u64 (mk : Int)])]) (V2 := [(q1.heap.size, 43, secL zeroSec)])) (fun hHeld => ?_))
        clear hKq Kq
        try simp only [Act.put, List.setIfInBounds_toArray, List.set_cons_zero, List.set_cons_succ]
        refine heldTake (i := 8) (v := ?_) rfl (by kernel_rfl) (by kernel_rfl) (by kernel_rfl) (fun _ _ _ h => h) (Or.inl ⟨by rfl, ?_⟩) (by assumption) ?_
        rotate_left
        · intro w hSw; (try dsimp only at hSw); go_simp <;> (with_reducible rfl)
        try simp only [Act.put, List.setIfInBounds_toArray, List.set_cons_zero, List.set_cons_succ]
        refine heldTake (i := 9) (v := ?_) rfl (by kernel_rfl) (by kernel_rfl) (by kernel_rfl) (fun _ _ _ h => h) (Or.inl ⟨by rfl, ?_⟩) (by assumption) ?_
        rotate_left
        · intro w hSw; (try dsimp only at hSw); go_simp <;> (with_reducible rfl)
        try simp only [Act.put, List.setIfInBounds_toArray, List.set_cons_zero, List.set_cons_succ]
        refine heldTake (i := 10) (v := ?_) rfl (by kernel_rfl) (by kernel_rfl) (by kernel_rfl) (fun _ _ _ h => h) (Or.inl ⟨by rfl, ?_⟩) (by assumption) ?_
        rotate_left
        · intro w hSw; (try dsimp only at hSw); go_simp <;> (with_reducible rfl)
        try simp only [Act.put, List.setIfInBounds_toArray, List.set_cons_zero, List.set_cons_succ]
        refine wpAnyH_ready (rs := [12]) (by kernel_rfl) (by simp) ?_
        refine heldCons (i := 12) rfl (fun Kq hKq => ?_) AllReadyH.nil
        refine step_store_all rfl 43 (.tmp 19) (.tmp 131) rfl (q1.heap.size) 43 _ (HK12.out.own.blk 1 rfl) rfl (secL s) rfl (msec_size _) ((secL_length s).trans (secL_length zeroSec).symm) (secL_one _) ?_
        intro q13 hbz hgz
        have HK14 : Hid (Duo w0 q13 b r S S ([(w.heap.size, 35, [.int .i64 4, .int .i64 x, .int .i64 t, .int .i64 n, .int .i64 more, .bool a, .int .u64 (mk : Int)]), (q1.heap.size, 43, secL s)] ++ U)) := hide (HK12.out.pokeU (V := [(w.heap.size, 35, [.int .i64 4, .int .i64 x, .int .i64 t, .int .i64 n, .int .i64 more, .bool a, .int .u64 (mk : Int)])]) HG_HK10.out.2.2 HG_HK10.out.1 HG_HK10.out.2.1 hbz hgz)
        clear hbz hgz
        first | (refine hKq.out _ _ (HK14.out.ownU (V := [(w.heap.size, 35, [.int .i64 4, .int .i64 x, .int .i64 t, .int .i64 n, .int .i64 more, .bool a, .int .u64 (mk : Int)])]) (V2 := [(q1.heap.size, 43, secL s)])) (fun hHeld => ?_)) | (go_wp2_with fail; refine hKq.out _ _ (HK14.out.ownU (V := [(w.heap.size, 35, [.int .i64 4, .int .i64 x, .int .i64 t, .int .i64 n, .int .i64 more, .bool a, .int .u64 (mk : Int)])]) (V2 := [(q1.heap.size, 43, secL s)])) (fun hHeld => ?_))
        clear hKq Kq
        try simp only [Act.put]
        refine heldTake (i := 13) (v := ?_) rfl (by kernel_rfl) (by kernel_rfl) (by kernel_rfl) (fun _ _ _ h => h) (Or.inl ⟨by rfl, ?_⟩) (by assumption) ?_
        rotate_left
        · intro w hSw; (try dsimp only at hSw); go_simp <;> (with_reducible rfl)
        try simp only [Act.put, List.setIfInBounds_toArray, List.set_cons_zero, List.set_cons_succ]
        refine wpAnyH_done (by kernel_rfl) ?_ _
        go_wp2_with fail
        go_meet
        case rel => exact ⟨q1.heap.size, rfl, rfl, hide HK14.out⟩
    · refine step_alloc rfl 43 rfl _ (sec_zero _) ?_
      intro q15 hbq hl1
      have HK16 : Hid (Duo w0 q15 b r S S ([(w.heap.size, 35, [.int .i64 4, .int .i64 x, .int .i64 t, .int .i64 n, .int .i64 more, .bool a, .int .u64 (mk : Int)]), (y1.drew.heap.size, 43, secL zeroSec)] ++ U)) := hide (HK0.out.varU (V := [(w.heap.size, 35, [.int .i64 4, .int .i64 x, .int .i64 t, .int .i64 n, .int .i64 more, .bool a, .int .u64 (mk : Int)])]) hl1 (Nat.le_refl _) (show Blk _ _ _ (secL zeroSec).toArray from hbq))
      have HG_HK16 := hide (show (∀ p ∈ ([(w.heap.size, 35, [.int .i64 4, .int .i64 x, .int .i64 t, .int .i64 n, .int .i64 more, .bool a, .int .u64 (mk : Int)])] : List (Nat × TypeId × List Value)), p.1 < y1.drew.heap.size) ∧ (∀ p ∈ U, p.1 < y1.drew.heap.size) ∧ w0.heap.size ≤ y1.drew.heap.size from ⟨HK0.out.ltU (V := [(w.heap.size, 35, [.int .i64 4, .int .i64 x, .int .i64 t, .int .i64 n, .int .i64 more, .bool a, .int .u64 (mk : Int)])]), HK0.out.ltV, HK0.out.lowB⟩)
      clear hbq hl1
      first | (refine hKq.out _ _ (HK16.out.ownU (V := [(w.heap.size, 35, [.int .i64 4, .int .i64 x, .int .i64 t, .int .i64 n, .int .i64 more, .bool a, .int .u64 (mk : Int)])]) (V2 := [(y1.drew.heap.size, 43, secL zeroSec)])) (fun hHeld => ?_)) | (go_wp2_with fail; refine hKq.out _ _ (HK16.out.ownU (V := [(w.heap.size, 35, [.int .i64 4, .int .i64 x, .int .i64 t, .int .i64 n, .int .i64 more, .bool a, .int .u64 (mk : Int)])]) (V2 := [(y1.drew.heap.size, 43, secL zeroSec)])) (fun hHeld => ?_))
      clear hKq Kq
      try simp only [Act.put, List.setIfInBounds_toArray, List.set_cons_zero, List.set_cons_succ]
      refine wpAnyH_ready (rs := [6]) (by kernel_rfl) (by simp) ?_
      refine heldCons (i := 6) rfl (fun Kq hKq => ?_) AllReadyH.nil
      go_simp
      go_at_call 20
      refine (HA.out _).mono ?_
      rintro _ q17 ⟨rfl, hlq⟩
      have HK18 := hide (HK16.out.later hlq)
      clear hlq
      first | (refine hKq.out _ _ (HK18.out.ownU (V := [(w.heap.size, 35, [.int .i64 4, .int .i64 x, .int .i64 t, .int .i64 n, .int .i64 more, .bool a, .int .u64 (mk : Int)])]) (V2 := [(y1.drew.heap.size, 43, secL zeroSec)])) (fun hHeld => ?_)) | (go_wp2_with fail; refine hKq.out _ _ (HK18.out.ownU (V := [(w.heap.size, 35, [.int .i64 4, .int .i64 x, .int .i64 t, .int .i64 n, .int .i64 more, .bool a, .int .u64 (mk : Int)])]) (V2 := [(y1.drew.heap.size, 43, secL zeroSec)])) (fun hHeld => ?_))
      clear hKq Kq
      try simp only [Act.put, List.setIfInBounds_toArray, List.set_cons_zero, List.set_cons_succ]
      refine wpAnyH_ready (rs := [7]) (by kernel_rfl) (by simp) ?_
      refine heldCons (i := 7) rfl (fun Kq hKq => ?_) AllReadyH.nil
      go_simp
      go_at_call 30
      refine (HK18.out.cplug (HX.out.ahead [(w.heap.size, 35, [.int .i64 4, .int .i64 x, .int .i64 t, .int .i64 n, .int .i64 more, .bool a, .int .u64 (mk : Int)]), (y1.drew.heap.size, 43, secL zeroSec)]) t HT1.out d).mono ?_
      rintro _ q19 ⟨rfl, hsq⟩
      rw [H_s.out, H_e.out]
      have HK20 := hide hsq
      clear hsq
      first | (refine hKq.out _ _ (HK20.out.ownU (V := [(w.heap.size, 35, [.int .i64 4, .int .i64 x, .int .i64 t, .int .i64 n, .int .i64 more, .bool a, .int .u64 (mk : Int)])]) (V2 := [(y1.drew.heap.size, 43, secL zeroSec)])) (fun hHeld => ?_)) | (go_wp2_with fail; refine hKq.out _ _ (HK20.out.ownU (V := [(w.heap.size, 35, [.int .i64 4, .int .i64 x, .int .i64 t, .int .i64 n, .int .i64 more, .bool a, .int .u64 (mk : Int)])]) (V2 := [(y1.drew.heap.size, 43, secL zeroSec)])) (fun hHeld => ?_))
      clear hKq Kq
      try simp only [Act.put, List.setIfInBounds_toArray, List.set_cons_zero, List.set_cons_succ]
      refine heldTake (i := 8) (v := ?_) rfl (by kernel_rfl) (by kernel_rfl) (by kernel_rfl) (fun _ _ _ h => h) (Or.inl ⟨by rfl, ?_⟩) (by assumption) ?_
      rotate_left
      · intro w hSw; (try dsimp only at hSw); go_simp <;> (with_reducible rfl)
      try simp only [Act.put, List.setIfInBounds_toArray, List.set_cons_zero, List.set_cons_succ]
      refine heldTake (i := 9) (v := ?_) rfl (by kernel_rfl) (by kernel_rfl) (by kernel_rfl) (fun _ _ _ h => h) (Or.inl ⟨by rfl, ?_⟩) (by assumption) ?_
      rotate_left
      · intro w hSw; (try dsimp only at hSw); go_simp <;> (with_reducible rfl)
      try simp only [Act.put, List.setIfInBounds_toArray, List.set_cons_zero, List.set_cons_succ]
      refine heldTake (i := 10) (v := ?_) rfl (by kernel_rfl) (by kernel_rfl) (by kernel_rfl) (fun _ _ _ h => h) (Or.inl ⟨by rfl, ?_⟩) (by assumption) ?_
      rotate_left
      · intro w hSw; (try dsimp only at hSw); go_simp <;> (with_reducible rfl)
      try simp only [Act.put, List.setIfInBounds_toArray, List.set_cons_zero, List.set_cons_succ]
      refine wpAnyH_ready (rs := [12]) (by kernel_rfl) (by simp) ?_
      refine heldCons (i := 12) rfl (fun Kq hKq => ?_) AllReadyH.nil
      refine step_store_all rfl 43 (.tmp 19) (.tmp 131) rfl (y1.drew.heap.size) 43 _ (HK20.out.own.blk 1 rfl) rfl (secL s) rfl (msec_size _) ((secL_length s).trans (secL_length zeroSec).symm) (secL_one _) ?_
      intro q21 hbz hgz
      have HK22 : Hid (Duo w0 q21 b r S S ([(w.heap.size, 35, [.int .i64 4, .int .i64 x, .int .i64 t, .int .i64 n, .int .i64 more, .bool a, .int .u64 (mk : Int)]), (y1.drew.heap.size, 43, secL s)] ++ U)) := hide (HK20.out.pokeU (V := [(w.heap.size, 35, [.int .i64 4, .int .i64 x, .int .i64 t, .int .i64 n, .int .i64 more, .bool a, .int .u64 (mk : Int)])]) HG_HK16.out.2.2 HG_HK16.out.1 HG_HK16.out.2.1 hbz hgz)
      clear hbz hgz
      first | (refine hKq.out _ _ (HK22.out.ownU (V := [(w.heap.size, 35, [.int .i64 4, .int .i64 x, .int .i64 t, .int .i64 n, .int .i64 more, .bool a, .int .u64 (mk : Int)])]) (V2 := [(y1.drew.heap.size, 43, secL s)])) (fun hHeld => ?_)) | (go_wp2_with fail; refine hKq.out _ _ (HK22.out.ownU (V := [(w.heap.size, 35, [.int .i64 4, .int .i64 x, .int .i64 t, .int .i64 n, .int .i64 more, .bool a, .int .u64 (mk : Int)])]) (V2 := [(y1.drew.heap.size, 43, secL s)])) (fun hHeld => ?_))
      clear hKq Kq
      try simp only [Act.put]
      refine heldTake (i := 13) (v := ?_) rfl (by kernel_rfl) (by kernel_rfl) (by kernel_rfl) (fun _ _ _ h => h) (Or.inl ⟨by rfl, ?_⟩) (by assumption) ?_
      rotate_left
      · intro w hSw; (try dsimp only at hSw); go_simp <;> (with_reducible rfl)
      try simp only [Act.put, List.setIfInBounds_toArray, List.set_cons_zero, List.set_cons_succ]
      refine wpAnyH_done (by kernel_rfl) ?_ _
      go_wp2_with fail
      go_meet
      case rel => exact ⟨y1.drew.heap.size, rfl, rfl, hide HK22.out⟩
  obtain ⟨g1, rfl, rfl, HC1⟩ := hcut
  obtain ⟨x1, hx1⟩ : ∃ z, z = wc := ⟨_, rfl⟩
  subst hx1
  go_upto_region 19 with fail
  go_cut [21, 22] (fun s21 s22 wx => ∃ g2 : Nat, s21 = .pointer (some ⟨g2, 0, none⟩) ∧ s22 = .int .i64 (e : Int) ∧ Hid (Duo w0 wx b r S S ([(w.heap.size, 35, [.int .i64 4, .int .i64 x, .int .i64 t, .int .i64 n, .int .i64 more, .bool a, .int .u64 (mk : Int)]), (g1, 43, secL s), (g2, 43, secL s)] ++ U)))
  case first => as_aux_lemma =>
    refine wp_region_held_drew (S := (fun W => OwnV W 0 ([(w.heap.size, 35, [.int .i64 4, .int .i64 x, .int .i64 t, .int .i64 n, .int .i64 more, .bool a, .int .u64 (mk : Int)]), (g1, 43, secL s)] ++ U))) (by kernel_rfl) ?_ (fun hHeld => ?_)
    · exact HC1.out.drew.own
    have HK0 := hide (HC1.out.drew)
    refine heldTake (i := 0) (v := ?_) rfl (by kernel_rfl) (by kernel_rfl) (by kernel_rfl) (fun _ _ _ h => h) (Or.inl ⟨by rfl, ?_⟩) (by assumption) ?_
    rotate_left
    · intro w hSw; (try dsimp only at hSw); go_simp <;> (with_reducible rfl)
    try simp only [Act.put, List.setIfInBounds_toArray, List.set_cons_zero, List.set_cons_succ]
    refine heldTake (i := 1) (v := ?_) rfl (by kernel_rfl) (by kernel_rfl) (by kernel_rfl) (fun _ _ _ h => h) (Or.inl ⟨by rfl, ?_⟩) (by assumption) ?_
    rotate_left
    · intro w hSw; (try dsimp only at hSw); go_simp <;> (with_reducible rfl)
    try simp only [Act.put, List.setIfInBounds_toArray, List.set_cons_zero, List.set_cons_succ]
    refine heldTake (i := 2) (v := ?_) rfl (by kernel_rfl) (by kernel_rfl) (by kernel_rfl) (fun _ _ _ h => h) (Or.inl ⟨by rfl, ?_⟩) (by assumption) ?_
    rotate_left
    · intro w hSw; (try dsimp only at hSw); go_simp <;> (with_reducible rfl)
    try simp only [Act.put, List.setIfInBounds_toArray, List.set_cons_zero, List.set_cons_succ]
    refine heldTake (i := 3) (v := .int .i64 t) rfl (by kernel_rfl) (by kernel_rfl) (by kernel_rfl) (fun _ _ _ h => h) (Or.inl ⟨by rfl, fun W hW => ?_⟩) (by assumption) ?_
    · have hc : W.cell? ⟨w.heap.size, 2, none⟩ = some (.int .i64 t) := (hW.blk 0 rfl).cell 2
      go_simp <;> rfl
    try simp only [Act.put, List.setIfInBounds_toArray, List.set_cons_zero, List.set_cons_succ]
    refine heldTake (i := 4) (v := ?_) rfl (by kernel_rfl) (by kernel_rfl) (by kernel_rfl) (fun _ _ _ h => h) (Or.inl ⟨by rfl, ?_⟩) (by assumption) ?_
    rotate_left
    · intro w hSw; (try dsimp only at hSw); go_simp <;> (with_reducible rfl)
    try simp only [Act.put, List.setIfInBounds_toArray, List.set_cons_zero, List.set_cons_succ]
    refine heldTake (i := 5) (v := .int .i64 n) rfl (by kernel_rfl) (by kernel_rfl) (by kernel_rfl) (fun _ _ _ h => h) (Or.inl ⟨by rfl, fun W hW => ?_⟩) (by assumption) ?_
    · have hc : W.cell? ⟨w.heap.size, 3, none⟩ = some (.int .i64 n) := (hW.blk 0 rfl).cell 3
      go_simp <;> rfl
    try simp only [Act.put, List.setIfInBounds_toArray, List.set_cons_zero, List.set_cons_succ]
    refine wpAnyH_ready (rs := [6, 11]) (by kernel_rfl) (by simp) ?_
    refine heldCons (i := 6) rfl (fun Kq hKq => ?_) (heldCons (i := 11) rfl (fun Kq hKq => ?_) AllReadyH.nil)
    · go_simp
      go_at_call 20
      refine (HA.out _).mono ?_
      rintro _ q1 ⟨rfl, hlq⟩
      have HK2 := hide (HK0.out.later hlq)
      clear hlq
      first | (refine hKq.out _ _ HK2.out.own (fun hHeld => ?_)) | (go_wp2_with fail; refine hKq.out _ _ HK2.out.own (fun hHeld => ?_))
      clear hKq Kq
      try simp only [Act.put, List.setIfInBounds_toArray, List.set_cons_zero, List.set_cons_succ]
      refine wpAnyH_ready (rs := [7, 11]) (by kernel_rfl) (by simp) ?_
      refine heldCons (i := 7) rfl (fun Kq hKq => ?_) (heldCons (i := 11) rfl (fun Kq hKq => ?_) AllReadyH.nil)
      · go_simp
        go_at_call 31
        refine (HK2.out.dplug (HX.out.ahead [(w.heap.size, 35, [.int .i64 4, .int .i64 x, .int .i64 t, .int .i64 n, .int .i64 more, .bool a, .int .u64 (mk : Int)]), (g1, 43, secL s)]) t d).mono ?_
        rintro _ q3 ⟨rfl, hsq⟩
        rw [H_s.out, H_e.out]
        have HK4 := hide hsq
        clear hsq
        first | (refine hKq.out _ _ HK4.out.own (fun hHeld => ?_)) | (go_wp2_with fail; refine hKq.out _ _ HK4.out.own (fun hHeld => ?_))
        clear hKq Kq
        try simp only [Act.put, List.setIfInBounds_toArray, List.set_cons_zero, List.set_cons_succ]
        refine heldTake (i := 8) (v := ?_) rfl (by kernel_rfl) (by kernel_rfl) (by kernel_rfl) (fun _ _ _ h => h) (Or.inl ⟨by rfl, ?_⟩) (by assumption) ?_
        rotate_left
        · intro w hSw; (try dsimp only at hSw); go_simp <;> (with_reducible rfl)
        try simp only [Act.put, List.setIfInBounds_toArray, List.set_cons_zero, List.set_cons_succ]
        refine heldTake (i := 9) (v := ?_) rfl (by kernel_rfl) (by kernel_rfl) (by kernel_rfl) (fun _ _ _ h => h) (Or.inl ⟨by rfl, ?_⟩) (by assumption) ?_
        rotate_left
        · intro w hSw; (try dsimp only at hSw); go_simp <;> (with_reducible rfl)
        try simp only [Act.put, List.setIfInBounds_toArray, List.set_cons_zero, List.set_cons_succ]
        refine heldTake (i := 10) (v := ?_) rfl (by kernel_rfl) (by kernel_rfl) (by kernel_rfl) (fun _ _ _ h => h) (Or.inl ⟨by rfl, ?_⟩) (by assumption) ?_
        rotate_left
        · intro w hSw; (try dsimp only at hSw); go_simp <;> (with_reducible rfl)
        try simp only [Act.put, List.setIfInBounds_toArray, List.set_cons_zero, List.set_cons_succ]
        refine wpAnyH_ready (rs := [11]) (by kernel_rfl) (by simp) ?_
        refine heldCons (i := 11) rfl (fun Kq hKq => ?_) AllReadyH.nil
        refine step_alloc rfl 43 rfl _ (sec_zero _) ?_
        intro q5 hbq hl1
        have HK6 : Hid (Duo w0 q5 b r S S ([(w.heap.size, 35, [.int .i64 4, .int .i64 x, .int .i64 t, .int .i64 n, .int .i64 more, .bool a, .int .u64 (mk : Int)]), (g1, 43, secL s), (q3.heap.size, 43, secL zeroSec)] ++ U)) := hide (HK4.out.varU (V := [(w.heap.size, 35, [.int .i64 4, .int .i64 x, .int .i64 t, .int .i64 n, .int .i64 more, .bool a, .int .u64 (mk : Int)]), (g1, 43, secL s)]) hl1 (Nat.le_refl _) (show Blk _ _ _ (secL zeroSec).toArray from hbq))
        have HG_HK6 := hide (show (∀ p ∈ ([(w.heap.size, 35, [.int .i64 4, .int .i64 x, .int .i64 t, .int .i64 n, .int .i64 more, .bool a, .int .u64 (mk : Int)]), (g1, 43, secL s)] : List (Nat × TypeId × List Value)), p.1 < q3.heap.size) ∧ (∀ p ∈ U, p.1 < q3.heap.size) ∧ w0.heap.size ≤ q3.heap.size from ⟨HK4.out.ltU (V := [(w.heap.size, 35, [.int .i64 4, .int .i64 x, .int .i64 t, .int .i64 n, .int .i64 more, .bool a, .int .u64 (mk : Int)]), (g1, 43, secL s)]), HK4.out.ltV, HK4.out.lowB⟩)
        clear hbq hl1
        first | (refine hKq.out _ _ (HK6.out.ownU (V := [(w.heap.size, 35, [.int .i64 4, .int .i64 x, .int .i64 t, .int .i64 n, .int .i64 more, .bool a, .int .u64 (mk : Int)]), (g1, 43, secL s)]) (V2 := [(q3.heap.size, 43, secL zeroSec)])) (fun hHeld => ?_)) | (go_wp2_with fail; refine hKq.out _ _ (HK6.out.ownU (V := [(w.heap.size, 35, [.int .i64 4, .int .i64 x, .int .i64 t, .int .i64 n, .int .i64 more, .bool a, .int .u64 (mk : Int)]), (g1, 43, secL s)]) (V2 := [(q3.heap.size, 43, secL zeroSec)])) (fun hHeld => ?_))
        clear hKq Kq
        try simp only [Act.put, List.setIfInBounds_toArray, List.set_cons_zero, List.set_cons_succ]
        refine wpAnyH_ready (rs := [12]) (by kernel_rfl) (by simp) ?_
        refine heldCons (i := 12) rfl (fun Kq hKq => ?_) AllReadyH.nil
        refine step_store_all rfl 43 (.tmp 21) (.tmp 142) rfl (q3.heap.size) 43 _ (HK6.out.own.blk 2 rfl) rfl (secL s) rfl (msec_size _) ((secL_length s).trans (secL_length zeroSec).symm) (secL_one _) ?_
        intro q7 hbz hgz
        have HK8 : Hid (Duo w0 q7 b r S S ([(w.heap.size, 35, [.int .i64 4, .int .i64 x, .int .i64 t, .int .i64 n, .int .i64 more, .bool a, .int .u64 (mk : Int)]), (g1, 43, secL s), (q3.heap.size, 43, secL s)] ++ U)) := hide (HK6.out.pokeU (V := [(w.heap.size, 35, [.int .i64 4, .int .i64 x, .int .i64 t, .int .i64 n, .int .i64 more, .bool a, .int .u64 (mk : Int)]), (g1, 43, secL s)]) HG_HK6.out.2.2 HG_HK6.out.1 HG_HK6.out.2.1 hbz hgz)
        clear hbz hgz
        first | (refine hKq.out _ _ (HK8.out.ownU (V := [(w.heap.size, 35, [.int .i64 4, .int .i64 x, .int .i64 t, .int .i64 n, .int .i64 more, .bool a, .int .u64 (mk : Int)]), (g1, 43, secL s)]) (V2 := [(q3.heap.size, 43, secL s)])) (fun hHeld => ?_)) | (go_wp2_with fail; refine hKq.out _ _ (HK8.out.ownU (V := [(w.heap.size, 35, [.int .i64 4, .int .i64 x, .int .i64 t, .int .i64 n, .int .i64 more, .bool a, .int .u64 (mk : Int)]), (g1, 43, secL s)]) (V2 := [(q3.heap.size, 43, secL s)])) (fun hHeld => ?_))
        clear hKq Kq
        try simp only [Act.put]
        refine heldTake (i := 13) (v := ?_) rfl (by kernel_rfl) (by kernel_rfl) (by kernel_rfl) (fun _ _ _ h => h) (Or.inl ⟨by rfl, ?_⟩) (by assumption) ?_
        rotate_left
        · intro w hSw; (try dsimp only at hSw); go_simp <;> (with_reducible rfl)
        try simp only [Act.put, List.setIfInBounds_toArray, List.set_cons_zero, List.set_cons_succ]
        refine wpAnyH_done (by kernel_rfl) ?_ _
        go_wp2_with fail
        go_meet
        case rel => exact ⟨q3.heap.size, rfl, rfl, hide HK8.out⟩
      · refine step_alloc rfl 43 rfl _ (sec_zero _) ?_
        intro q9 hbq hl1
        have HK10 : Hid (Duo w0 q9 b r S S ([(w.heap.size, 35, [.int .i64 4, .int .i64 x, .int .i64 t, .int .i64 n, .int .i64 more, .bool a, .int .u64 (mk : Int)]), (g1, 43, secL s), (q1.heap.size, 43, secL zeroSec)] ++ U)) := hide (HK2.out.varU (V := [(w.heap.size, 35, [.int .i64 4, .int .i64 x, .int .i64 t, .int .i64 n, .int .i64 more, .bool a, .int .u64 (mk : Int)]), (g1, 43, secL s)]) hl1 (Nat.le_refl _) (show Blk _ _ _ (secL zeroSec).toArray from hbq))
        have HG_HK10 := hide (show (∀ p ∈ ([(w.heap.size, 35, [.int .i64 4, .int .i64 x, .int .i64 t, .int .i64 n, .int .i64 more, .bool a, .int .u64 (mk : Int)]), (g1, 43, secL s)] : List (Nat × TypeId × List Value)), p.1 < q1.heap.size) ∧ (∀ p ∈ U, p.1 < q1.heap.size) ∧ w0.heap.size ≤ q1.heap.size from ⟨HK2.out.ltU (V := [(w.heap.size, 35, [.int .i64 4, .int .i64 x, .int .i64 t, .int .i64 n, .int .i64 more, .bool a, .int .u64 (mk : Int)]), (g1, 43, secL s)]), HK2.out.ltV, HK2.out.lowB⟩)
        clear hbq hl1
        first | (refine hKq.out _ _ (HK10.out.ownU (V := [(w.heap.size, 35, [.int .i64 4, .int .i64 x, .int .i64 t, .int .i64 n, .int .i64 more, .bool a, .int .u64 (mk : Int)]), (g1, 43, secL s)]) (V2 := [(q1.heap.size, 43, secL zeroSec)])) (fun hHeld => ?_)) | (go_wp2_with fail; refine hKq.out _ _ (HK10.out.ownU (V := [(w.heap.size, 35, [.int .i64 4, .int .i64 x, .int .i64 t, .int .i64 n, .int .i64 more, .bool a, .int .u64 (mk : Int)]), (g1, 43, secL s)]) (V2 := [(q1.heap.size, 43, secL zeroSec)])) (fun hHeld => ?_))
        clear hKq Kq
        try simp only [Act.put, List.setIfInBounds_toArray, List.set_cons_zero, List.set_cons_succ]
        refine wpAnyH_ready (rs := [7]) (by kernel_rfl) (by simp) ?_
        refine heldCons (i := 7) rfl (fun Kq hKq => ?_) AllReadyH.nil
        go_simp
        go_at_call 31
        refine (HK10.out.dplug (HX.out.ahead [(w.heap.size, 35, [.int .i64 4, .int .i64 x, .int .i64 t, .int .i64 n, .int .i64 more, .bool a, .int .u64 (mk : Int)]), (g1, 43, secL s), (q1.heap.size, 43, secL zeroSec)]) t d).mono ?_
        rintro _ q11 ⟨rfl, hsq⟩
        rw [H_s.out, H_e.out]
        have HK12 := hide hsq
        clear hsq
        first | (refine hKq.out _ _ (HK12.out.ownU (V := [(w.heap.size, 35, [.int .i64 4, .int .i64 x, .int .i64 t, .int .i64 n, .int .i64 more, .bool a, .int .u64 (mk : Int)]), (g1, 43, secL s)]) (V2 := [(q1.heap.size, 43, secL zeroSec)])) (fun hHeld => ?_)) | (go_wp2_with fail; refine hKq.out _ _ (HK12.out.ownU (V := [(w.heap.size, 35, [.int .i64 4, .int .i64 x, .int .i64 t, .int .i64 n, .int .i64 more, .bool a, .int .u64 (mk : Int)]), (g1, 43, secL s)]) (V2 := [(q1.heap.size, 43, secL zeroSec)])) (fun hHeld => ?_))
        clear hKq Kq
        try simp only [Act.put, List.setIfInBounds_toArray, List.set_cons_zero, List.set_cons_succ]
        refine heldTake (i := 8) (v := ?_) rfl (by kernel_rfl) (by kernel_rfl) (by kernel_rfl) (fun _ _ _ h => h) (Or.inl ⟨by rfl, ?_⟩) (by assumption) ?_
        rotate_left
        · intro w hSw; (try dsimp only at hSw); go_simp <;> (with_reducible rfl)
        try simp only [Act.put, List.setIfInBounds_toArray, List.set_cons_zero, List.set_cons_succ]
        refine heldTake (i := 9) (v := ?_) rfl (by kernel_rfl) (by kernel_rfl) (by kernel_rfl) (fun _ _ _ h => h) (Or.inl ⟨by rfl, ?_⟩) (by assumption) ?_
        rotate_left
        · intro w hSw; (try dsimp only at hSw); go_simp <;> (with_reducible rfl)
        try simp only [Act.put, List.setIfInBounds_toArray, List.set_cons_zero, List.set_cons_succ]
        refine heldTake (i := 10) (v := ?_) rfl (by kernel_rfl) (by kernel_rfl) (by kernel_rfl) (fun _ _ _ h => h) (Or.inl ⟨by rfl, ?_⟩) (by assumption) ?_
        rotate_left
        · intro w hSw; (try dsimp only at hSw); go_simp <;> (with_reducible rfl)
        try simp only [Act.put, List.setIfInBounds_toArray, List.set_cons_zero, List.set_cons_succ]
        refine wpAnyH_ready (rs := [12]) (by kernel_rfl) (by simp) ?_
        refine heldCons (i := 12) rfl (fun Kq hKq => ?_) AllReadyH.nil
        refine step_store_all rfl 43 (.tmp 21) (.tmp 142) rfl (q1.heap.size) 43 _ (HK12.out.own.blk 2 rfl) rfl (secL s) rfl (msec_size _) ((secL_length s).trans (secL_length zeroSec).symm) (secL_one _) ?_
        intro q13 hbz hgz
        have HK14 : Hid (Duo w0 q13 b r S S ([(w.heap.size, 35, [.int .i64 4, .int .i64 x, .int .i64 t, .int .i64 n, .int .i64 more, .bool a, .int .u64 (mk : Int)]), (g1, 43, secL s), (q1.heap.size, 43, secL s)] ++ U)) := hide (HK12.out.pokeU (V := [(w.heap.size, 35, [.int .i64 4, .int .i64 x, .int .i64 t, .int .i64 n, .int .i64 more, .bool a, .int .u64 (mk : Int)]), (g1, 43, secL s)]) HG_HK10.out.2.2 HG_HK10.out.1 HG_HK10.out.2.1 hbz hgz)
        clear hbz hgz
        first | (refine hKq.out _ _ (HK14.out.ownU (V := [(w.heap.size, 35, [.int .i64 4, .int .i64 x, .int .i64 t, .int .i64 n, .int .i64 more, .bool a, .int .u64 (mk : Int)]), (g1, 43, secL s)]) (V2 := [(q1.heap.size, 43, secL s)])) (fun hHeld => ?_)) | (go_wp2_with fail; refine hKq.out _ _ (HK14.out.ownU (V := [(w.heap.size, 35, [.int .i64 4, .int .i64 x, .int .i64 t, .int .i64 n, .int .i64 more, .bool a, .int .u64 (mk : Int)]), (g1, 43, secL s)]) (V2 := [(q1.heap.size, 43, secL s)])) (fun hHeld => ?_))
        clear hKq Kq
        try simp only [Act.put]
        refine heldTake (i := 13) (v := ?_) rfl (by kernel_rfl) (by kernel_rfl) (by kernel_rfl) (fun _ _ _ h => h) (Or.inl ⟨by rfl, ?_⟩) (by assumption) ?_
        rotate_left
        · intro w hSw; (try dsimp only at hSw); go_simp <;> (with_reducible rfl)
        try simp only [Act.put, List.setIfInBounds_toArray, List.set_cons_zero, List.set_cons_succ]
        refine wpAnyH_done (by kernel_rfl) ?_ _
        go_wp2_with fail
        go_meet
        case rel => exact ⟨q1.heap.size, rfl, rfl, hide HK14.out⟩
    · refine step_alloc rfl 43 rfl _ (sec_zero _) ?_
      intro q15 hbq hl1
      have HK16 : Hid (Duo w0 q15 b r S S ([(w.heap.size, 35, [.int .i64 4, .int .i64 x, .int .i64 t, .int .i64 n, .int .i64 more, .bool a, .int .u64 (mk : Int)]), (g1, 43, secL s), (x1.drew.heap.size, 43, secL zeroSec)] ++ U)) := hide (HK0.out.varU (V := [(w.heap.size, 35, [.int .i64 4, .int .i64 x, .int .i64 t, .int .i64 n, .int .i64 more, .bool a, .int .u64 (mk : Int)]), (g1, 43, secL s)]) hl1 (Nat.le_refl _) (show Blk _ _ _ (secL zeroSec).toArray from hbq))
      have HG_HK16 := hide (show (∀ p ∈ ([(w.heap.size, 35, [.int .i64 4, .int .i64 x, .int .i64 t, .int .i64 n, .int .i64 more, .bool a, .int .u64 (mk : Int)]), (g1, 43, secL s)] : List (Nat × TypeId × List Value)), p.1 < x1.drew.heap.size) ∧ (∀ p ∈ U, p.1 < x1.drew.heap.size) ∧ w0.heap.size ≤ x1.drew.heap.size from ⟨HK0.out.ltU (V := [(w.heap.size, 35, [.int .i64 4, .int .i64 x, .int .i64 t, .int .i64 n, .int .i64 more, .bool a, .int .u64 (mk : Int)]), (g1, 43, secL s)]), HK0.out.ltV, HK0.out.lowB⟩)
      clear hbq hl1
      first | (refine hKq.out _ _ (HK16.out.ownU (V := [(w.heap.size, 35, [.int .i64 4, .int .i64 x, .int .i64 t, .int .i64 n, .int .i64 more, .bool a, .int .u64 (mk : Int)]), (g1, 43, secL s)]) (V2 := [(x1.drew.heap.size, 43, secL zeroSec)])) (fun hHeld => ?_)) | (go_wp2_with fail; refine hKq.out _ _ (HK16.out.ownU (V := [(w.heap.size, 35, [.int .i64 4, .int .i64 x, .int .i64 t, .int .i64 n, .int .i64 more, .bool a, .int .u64 (mk : Int)]), (g1, 43, secL s)]) (V2 := [(x1.drew.heap.size, 43, secL zeroSec)])) (fun hHeld => ?_))
      clear hKq Kq
      try simp only [Act.put, List.setIfInBounds_toArray, List.set_cons_zero, List.set_cons_succ]
      refine wpAnyH_ready (rs := [6]) (by kernel_rfl) (by simp) ?_
      refine heldCons (i := 6) rfl (fun Kq hKq => ?_) AllReadyH.nil
      go_simp
      go_at_call 20
      refine (HA.out _).mono ?_
      rintro _ q17 ⟨rfl, hlq⟩
      have HK18 := hide (HK16.out.later hlq)
      clear hlq
      first | (refine hKq.out _ _ (HK18.out.ownU (V := [(w.heap.size, 35, [.int .i64 4, .int .i64 x, .int .i64 t, .int .i64 n, .int .i64 more, .bool a, .int .u64 (mk : Int)]), (g1, 43, secL s)]) (V2 := [(x1.drew.heap.size, 43, secL zeroSec)])) (fun hHeld => ?_)) | (go_wp2_with fail; refine hKq.out _ _ (HK18.out.ownU (V := [(w.heap.size, 35, [.int .i64 4, .int .i64 x, .int .i64 t, .int .i64 n, .int .i64 more, .bool a, .int .u64 (mk : Int)]), (g1, 43, secL s)]) (V2 := [(x1.drew.heap.size, 43, secL zeroSec)])) (fun hHeld => ?_))
      clear hKq Kq
      try simp only [Act.put, List.setIfInBounds_toArray, List.set_cons_zero, List.set_cons_succ]
      refine wpAnyH_ready (rs := [7]) (by kernel_rfl) (by simp) ?_
      refine heldCons (i := 7) rfl (fun Kq hKq => ?_) AllReadyH.nil
      go_simp
      go_at_call 31
      refine (HK18.out.dplug (HX.out.ahead [(w.heap.size, 35, [.int .i64 4, .int .i64 x, .int .i64 t, .int .i64 n, .int .i64 more, .bool a, .int .u64 (mk : Int)]), (g1, 43, secL s), (x1.drew.heap.size, 43, secL zeroSec)]) t d).mono ?_
      rintro _ q19 ⟨rfl, hsq⟩
      rw [H_s.out, H_e.out]
      have HK20 := hide hsq
      clear hsq
      first | (refine hKq.out _ _ (HK20.out.ownU (V := [(w.heap.size, 35, [.int .i64 4, .int .i64 x, .int .i64 t, .int .i64 n, .int .i64 more, .bool a, .int .u64 (mk : Int)]), (g1, 43, secL s)]) (V2 := [(x1.drew.heap.size, 43, secL zeroSec)])) (fun hHeld => ?_)) | (go_wp2_with fail; refine hKq.out _ _ (HK20.out.ownU (V := [(w.heap.size, 35, [.int .i64 4, .int .i64 x, .int .i64 t, .int .i64 n, .int .i64 more, .bool a, .int .u64 (mk : Int)]), (g1, 43, secL s)]) (V2 := [(x1.drew.heap.size, 43, secL zeroSec)])) (fun hHeld => ?_))
      clear hKq Kq
      try simp only [Act.put, List.setIfInBounds_toArray, List.set_cons_zero, List.set_cons_succ]
      refine heldTake (i := 8) (v := ?_) rfl (by kernel_rfl) (by kernel_rfl) (by kernel_rfl) (fun _ _ _ h => h) (Or.inl ⟨by rfl, ?_⟩) (by assumption) ?_
      rotate_left
      · intro w hSw; (try dsimp only at hSw); go_simp <;> (with_reducible rfl)
      try simp only [Act.put, List.setIfInBounds_toArray, List.set_cons_zero, List.set_cons_succ]
      refine heldTake (i := 9) (v := ?_) rfl (by kernel_rfl) (by kernel_rfl) (by kernel_rfl) (fun _ _ _ h => h) (Or.inl ⟨by rfl, ?_⟩) (by assumption) ?_
      rotate_left
      · intro w hSw; (try dsimp only at hSw); go_simp <;> (with_reducible rfl)
      try simp only [Act.put, List.setIfInBounds_toArray, List.set_cons_zero, List.set_cons_succ]
      refine heldTake (i := 10) (v := ?_) rfl (by kernel_rfl) (by kernel_rfl) (by kernel_rfl) (fun _ _ _ h => h) (Or.inl ⟨by rfl, ?_⟩) (by assumption) ?_
      rotate_left
      · intro w hSw; (try dsimp only at hSw); go_simp <;> (with_reducible rfl)
      try simp only [Act.put, List.setIfInBounds_toArray, List.set_cons_zero, List.set_cons_succ]
      refine wpAnyH_ready (rs := [12]) (by kernel_rfl) (by simp) ?_
      refine heldCons (i := 12) rfl (fun Kq hKq => ?_) AllReadyH.nil
      refine step_store_all rfl 43 (.tmp 21) (.tmp 142) rfl (x1.drew.heap.size) 43 _ (HK20.out.own.blk 2 rfl) rfl (secL s) rfl (msec_size _) ((secL_length s).trans (secL_length zeroSec).symm) (secL_one _) ?_
      intro q21 hbz hgz
      have HK22 : Hid (Duo w0 q21 b r S S ([(w.heap.size, 35, [.int .i64 4, .int .i64 x, .int .i64 t, .int .i64 n, .int .i64 more, .bool a, .int .u64 (mk : Int)]), (g1, 43, secL s), (x1.drew.heap.size, 43, secL s)] ++ U)) := hide (HK20.out.pokeU (V := [(w.heap.size, 35, [.int .i64 4, .int .i64 x, .int .i64 t, .int .i64 n, .int .i64 more, .bool a, .int .u64 (mk : Int)]), (g1, 43, secL s)]) HG_HK16.out.2.2 HG_HK16.out.1 HG_HK16.out.2.1 hbz hgz)
      clear hbz hgz
      first | (refine hKq.out _ _ (HK22.out.ownU (V := [(w.heap.size, 35, [.int .i64 4, .int .i64 x, .int .i64 t, .int .i64 n, .int .i64 more, .bool a, .int .u64 (mk : Int)]), (g1, 43, secL s)]) (V2 := [(x1.drew.heap.size, 43, secL s)])) (fun hHeld => ?_)) | (go_wp2_with fail; refine hKq.out _ _ (HK22.out.ownU (V := [(w.heap.size, 35, [.int .i64 4, .int .i64 x, .int .i64 t, .int .i64 n, .int .i64 more, .bool a, .int .u64 (mk : Int)]), (g1, 43, secL s)]) (V2 := [(x1.drew.heap.size, 43, secL s)])) (fun hHeld => ?_))
      clear hKq Kq
      try simp only [Act.put]
      refine heldTake (i := 13) (v := ?_) rfl (by kernel_rfl) (by kernel_rfl) (by kernel_rfl) (fun _ _ _ h => h) (Or.inl ⟨by rfl, ?_⟩) (by assumption) ?_
      rotate_left
      · intro w hSw; (try dsimp only at hSw); go_simp <;> (with_reducible rfl)
      try simp only [Act.put, List.setIfInBounds_toArray, List.set_cons_zero, List.set_cons_succ]
      refine wpAnyH_done (by kernel_rfl) ?_ _
      go_wp2_with fail
      go_meet
      case rel => exact ⟨x1.drew.heap.size, rfl, rfl, hide HK22.out⟩
  obtain ⟨g2, rfl, rfl, HC2⟩ := hcut
  obtain ⟨x2, hx2⟩ : ∃ z, z = wc := ⟨_, rfl⟩
  subst hx2
  by_cases he0 : e = 0
  · subst he0
    have hnx2 : 2 ≤ nx := by have h1 := plug_wide H_e.out; have h2 := reads_len (HC2.out.xin (HX.out.ahead _)).reads; omega
    have hq0 : ((nx : Int) - 1 == 0) = false := by simp; omega
    have hq1 : ¬ ((nx : Int) - 1 = 0) := by omega
    have hnx12 : nx ≤ 12 := HX.out.few
    have hc2_x2 : x2.cell? ⟨w.heap.size, 2, none⟩ = some (.int .i64 t) := (HC2.out.own.blk 0 rfl).cell 2
    obtain ⟨pp, hpp⟩ : ∃ z, homeR X nx t = z := ⟨_, rfl⟩
    have HPP := hide hpp
    clear hpp
    obtain ⟨qq, hqq⟩ : ∃ z, parR X nx (wrap64 (t.tdiv ((nx : Int) - 1))) = z := ⟨_, rfl⟩
    have HQQ := hide hqq
    clear hqq
    obtain ⟨S1, hS1⟩ : ∃ z, (S.write (nI pp.1) (nI pp.2) d).2 = z := ⟨_, rfl⟩
    have H_S1 := hide hS1
    obtain ⟨e1, he1⟩ : ∃ z, (S.write (nI pp.1) (nI pp.2) d).1 = z := ⟨_, rfl⟩
    have H_e1 := hide he1
    obtain ⟨S2, hS2⟩ : ∃ z, (S1.write (nI qq.1) (nI qq.2) s).2 = z := ⟨_, rfl⟩
    have H_S2 := hide hS2
    obtain ⟨e2, he2⟩ : ∃ z, (S1.write (nI qq.1) (nI qq.2) s).1 = z := ⟨_, rfl⟩
    have H_e2 := hide he2
    have HFW1 := hide (show S1.writes ≤ S.writes + 1 by rw [← hS1]; exact zwrite_writes S (nI pp.1) (nI pp.2) d)
    have HFW2 := hide (show S2.writes ≤ S1.writes + 1 by rw [← hS2]; exact zwrite_writes S1 (nI qq.1) (nI qq.2) s)
    clear hS1 he1 hS2 he2
    go_upto_region 25 with (first
      | ((with_reducible refine at_slot 144 ?_); refine when_own rfl (.tmp 19) rfl HC2.out.own 1 rfl rfl Tryz.underlying43 rfl (msec_size _) ?_)
      | ((with_reducible refine at_slot 145 ?_); refine when_own rfl (.tmp 21) rfl HC2.out.own 2 rfl rfl Tryz.underlying43 rfl (msec_size _) ?_)
      | ((with_reducible refine at_slot 146 ?_); refine when_neS rfl (.tmp 144) (.tmp 145) _ rfl s s rfl rfl false (by simp) ?_)
      | (go_at_call 32; refine (HC2.out.dhome (HX.out.ahead _) t).mono ?_; rintro _ y61 ⟨rfl, hsq⟩; rw [HPP.out]; have HS_y61 : Hid (Duo w0 y61 b r S S ([(w.heap.size, 35, [.int .i64 4, .int .i64 x, .int .i64 t, .int .i64 n, .int .i64 more, .bool a, .int .u64 (mk : Int)]), (g1, 43, secL s), (g2, 43, secL s)] ++ U)) := hide (hsq); clear hsq)
      | ((with_reducible refine at_slot 23 ?_); refine wpList_alloc_blk rfl 47 rfl _ (mplace_zero _) ?_; intro y62 hbq hl1 hs1; clear hs1)
      | ((with_reducible refine at_store 23 ?_); refine wpList_store_all rfl 47 (.tmp 23) (.tmp 159) rfl y61.heap.size 47 _ hbq rfl (plL (pp.1) (pp.2)) rfl mplace_info rfl (mplace_one _ _) ?_; intro y63 hbz hg hs; have HS_y63 : Hid (Duo w0 y63 b r S S ([(w.heap.size, 35, [.int .i64 4, .int .i64 x, .int .i64 t, .int .i64 n, .int .i64 more, .bool a, .int .u64 (mk : Int)]), (g1, 43, secL s), (g2, 43, secL s), (y61.heap.size, 47, plL (pp.1) (pp.2))] ++ U)) := hide (HS_y61.out.newU hl1 hg hbz); clear hs hbq hl1 hg hbz; have hc2_y63 : y63.cell? ⟨w.heap.size, 2, none⟩ = some (.int .i64 t) := (HS_y63.out.own.blk 0 rfl).cell 2)
      | (go_at_call 33; refine (HS_y63.out.dpar (HX.out.ahead _) (wrap64 (t.tdiv ((nx : Int) - 1)))).mono ?_; rintro _ y64 ⟨rfl, hsq⟩; rw [HQQ.out]; have HS_y64 : Hid (Duo w0 y64 b r S S ([(w.heap.size, 35, [.int .i64 4, .int .i64 x, .int .i64 t, .int .i64 n, .int .i64 more, .bool a, .int .u64 (mk : Int)]), (g1, 43, secL s), (g2, 43, secL s), (y61.heap.size, 47, plL (pp.1) (pp.2))] ++ U)) := hide (hsq); clear hsq)
      | ((with_reducible refine at_slot 25 ?_); refine wpList_alloc_blk rfl 47 rfl _ (mplace_zero _) ?_; intro y65 hbq hl1 hs1; clear hs1)
      | ((with_reducible refine at_store 25 ?_); refine wpList_store_all rfl 47 (.tmp 25) (.tmp 170) rfl y64.heap.size 47 _ hbq rfl (plL (qq.1) (qq.2)) rfl mplace_info rfl (mplace_one _ _) ?_; intro y66 hbz hg hs; have HS_y66 : Hid (Duo w0 y66 b r S S ([(w.heap.size, 35, [.int .i64 4, .int .i64 x, .int .i64 t, .int .i64 n, .int .i64 more, .bool a, .int .u64 (mk : Int)]), (g1, 43, secL s), (g2, 43, secL s), (y61.heap.size, 47, plL (pp.1) (pp.2)), (y64.heap.size, 47, plL (qq.1) (qq.2))] ++ U)) := hide (HS_y64.out.newU hl1 hg hbz); clear hs hbq hl1 hg hbz))
    refine wp_region_held_drew (S := (fun W => OwnV W 0 ([(w.heap.size, 35, [.int .i64 4, .int .i64 x, .int .i64 t, .int .i64 n, .int .i64 more, .bool a, .int .u64 (mk : Int)]), (g1, 43, secL s), (g2, 43, secL s), (y61.heap.size, 47, plL (pp.1) (pp.2)), (y64.heap.size, 47, plL (qq.1) (qq.2))] ++ U))) (by kernel_rfl) ?_ (fun hHeld => ?_)
    · exact HS_y66.out.drew.own
    have HS_dy66 := hide (HS_y66.out.drew)
    refine heldTake (i := 0) (v := ?_) rfl (by kernel_rfl) (by kernel_rfl) (by kernel_rfl) (fun _ _ _ h => h) (Or.inl ⟨by rfl, ?_⟩) (by assumption) ?_
    rotate_left
    · intro w hSw; (try dsimp only at hSw); go_simp <;> (with_reducible rfl)
    try simp only [Act.put, List.setIfInBounds_toArray, List.set_cons_zero, List.set_cons_succ]
    refine heldTake (i := 1) (v := .agg (plL pp.1 pp.2).toArray) rfl (by kernel_rfl) (by kernel_rfl) (by kernel_rfl) (fun _ _ _ h => h) (yieldsIf_load_mid (by rfl) _ _ rfl _ _ rfl (plL pp.1 pp.2) _ (fun W hW => hW.range 3 rfl) Tryz.underlying47 rfl mplace_info) (by assumption) ?_
    try simp only [Act.put, List.setIfInBounds_toArray, List.set_cons_zero, List.set_cons_succ]
    refine heldTake (i := 2) (v := ?_) rfl (by kernel_rfl) (by kernel_rfl) (by kernel_rfl) (fun _ _ _ h => h) (Or.inl ⟨by rfl, ?_⟩) (by assumption) ?_
    rotate_left
    · intro w hSw; (try dsimp only at hSw); go_simp <;> (with_reducible rfl)
    try simp only [Act.put, List.setIfInBounds_toArray, List.set_cons_zero, List.set_cons_succ]
    refine heldTake (i := 3) (v := .int .i64 n) rfl (by kernel_rfl) (by kernel_rfl) (by kernel_rfl) (fun _ _ _ h => h) (Or.inl ⟨by rfl, fun W hW => ?_⟩) (by assumption) ?_
    · have hc : W.cell? ⟨w.heap.size, 3, none⟩ = some (.int .i64 n) := (hW.blk 0 rfl).cell 3
      go_simp <;> rfl
    try simp only [Act.put, List.setIfInBounds_toArray, List.set_cons_zero, List.set_cons_succ]
    refine heldTake (i := 6) (v := ?_) rfl (by kernel_rfl) (by kernel_rfl) (by kernel_rfl) (fun _ _ _ h => h) (Or.inl ⟨by rfl, ?_⟩) (by assumption) ?_
    rotate_left
    · intro w hSw; (try dsimp only at hSw); go_simp <;> (with_reducible rfl)
    try simp only [Act.put, List.setIfInBounds_toArray, List.set_cons_zero, List.set_cons_succ]
    refine heldTake (i := 7) (v := .agg (plL pp.1 pp.2).toArray) rfl (by kernel_rfl) (by kernel_rfl) (by kernel_rfl) (fun _ _ _ h => h) (yieldsIf_load_mid (by rfl) _ _ rfl _ _ rfl (plL pp.1 pp.2) _ (fun W hW => hW.range 3 rfl) Tryz.underlying47 rfl mplace_info) (by assumption) ?_
    try simp only [Act.put, List.setIfInBounds_toArray, List.set_cons_zero, List.set_cons_succ]
    refine heldTake (i := 8) (v := ?_) rfl (by kernel_rfl) (by kernel_rfl) (by kernel_rfl) (fun _ _ _ h => h) (Or.inl ⟨by rfl, ?_⟩) (by assumption) ?_
    rotate_left
    · intro w hSw; (try dsimp only at hSw); go_simp <;> (with_reducible rfl)
    try simp only [Act.put, List.setIfInBounds_toArray, List.set_cons_zero, List.set_cons_succ]
    refine heldTake (i := 9) (v := .int .i64 n) rfl (by kernel_rfl) (by kernel_rfl) (by kernel_rfl) (fun _ _ _ h => h) (Or.inl ⟨by rfl, fun W hW => ?_⟩) (by assumption) ?_
    · have hc : W.cell? ⟨w.heap.size, 3, none⟩ = some (.int .i64 n) := (hW.blk 0 rfl).cell 3
      go_simp <;> rfl
    try simp only [Act.put, List.setIfInBounds_toArray, List.set_cons_zero, List.set_cons_succ]
    refine wpAnyH_ready (rs := [4]) (by kernel_rfl) (by simp) ?_
    refine heldCons (i := 4) rfl (fun Kq hKq => ?_) AllReadyH.nil
    go_simp
    go_at_call 20
    (with_reducible refine (HA.out _).mono ?_)
    rintro _ y67 ⟨rfl, hlq⟩
    have HS_y67 : Hid (Duo w0 y67 b r S S ([(w.heap.size, 35, [.int .i64 4, .int .i64 x, .int .i64 t, .int .i64 n, .int .i64 more, .bool a, .int .u64 (mk : Int)]), (g1, 43, secL s), (g2, 43, secL s), (y61.heap.size, 47, plL (pp.1) (pp.2)), (y64.heap.size, 47, plL (qq.1) (qq.2))] ++ U)) := hide (HS_dy66.out.later hlq)
    clear hlq
    first | (refine hKq.out _ _ HS_y67.out.own (fun hHeld => ?_)) | (go_wp2_with fail; refine hKq.out _ _ HS_y67.out.own (fun hHeld => ?_))
    clear hKq Kq
    try simp only [Act.put, List.setIfInBounds_toArray, List.set_cons_zero, List.set_cons_succ]
    refine wpAnyH_ready (rs := [5]) (by kernel_rfl) (by simp) ?_
    refine heldCons (i := 5) rfl (fun Kq hKq => ?_) AllReadyH.nil
    go_simp
    go_at_call 34
    (with_reducible refine (HS_y67.out.code (fun F hB => onI_write hB (by have := HWR.out; omega) pp.1 pp.2 d)).mono ?_)
    rintro _ y68 ⟨rfl, hsq⟩
    rw [H_S1.out] at hsq
    rw [H_e1.out]
    have HS_y68 : Hid (Duo w0 y68 b r S1 S ([(w.heap.size, 35, [.int .i64 4, .int .i64 x, .int .i64 t, .int .i64 n, .int .i64 more, .bool a, .int .u64 (mk : Int)]), (g1, 43, secL s), (g2, 43, secL s), (y61.heap.size, 47, plL (pp.1) (pp.2)), (y64.heap.size, 47, plL (qq.1) (qq.2))] ++ U)) := hide (hsq)
    clear hsq
    first | (refine hKq.out _ _ HS_y68.out.own (fun hHeld => ?_)) | (go_wp2_with fail; refine hKq.out _ _ HS_y68.out.own (fun hHeld => ?_))
    clear hKq Kq
    try simp only [Act.put, List.setIfInBounds_toArray, List.set_cons_zero, List.set_cons_succ]
    refine wpAnyH_ready (rs := [10]) (by kernel_rfl) (by simp) ?_
    refine heldCons (i := 10) rfl (fun Kq hKq => ?_) AllReadyH.nil
    go_simp
    go_at_call 20
    (with_reducible refine (HA.out _).mono ?_)
    rintro _ y69 ⟨rfl, hlq⟩
    have HS_y69 : Hid (Duo w0 y69 b r S1 S ([(w.heap.size, 35, [.int .i64 4, .int .i64 x, .int .i64 t, .int .i64 n, .int .i64 more, .bool a, .int .u64 (mk : Int)]), (g1, 43, secL s), (g2, 43, secL s), (y61.heap.size, 47, plL (pp.1) (pp.2)), (y64.heap.size, 47, plL (qq.1) (qq.2))] ++ U)) := hide (HS_y68.out.later hlq)
    clear hlq
    first | (refine hKq.out _ _ HS_y69.out.own (fun hHeld => ?_)) | (go_wp2_with fail; refine hKq.out _ _ HS_y69.out.own (fun hHeld => ?_))
    clear hKq Kq
    try simp only [Act.put, List.setIfInBounds_toArray, List.set_cons_zero, List.set_cons_succ]
    refine wpAnyH_ready (rs := [11]) (by kernel_rfl) (by simp) ?_
    refine heldCons (i := 11) rfl (fun Kq hKq => ?_) AllReadyH.nil
    go_simp
    go_at_call 35
    (with_reducible refine (HS_y69.out.ref (fun G hB => rOnI_write hB (by have := HWR.out; omega) pp.1 pp.2 d)).mono ?_)
    rintro _ y70 ⟨rfl, hsq⟩
    rw [H_S1.out] at hsq
    rw [H_e1.out]
    have HS_y70 : Hid (Duo w0 y70 b r S1 S1 ([(w.heap.size, 35, [.int .i64 4, .int .i64 x, .int .i64 t, .int .i64 n, .int .i64 more, .bool a, .int .u64 (mk : Int)]), (g1, 43, secL s), (g2, 43, secL s), (y61.heap.size, 47, plL (pp.1) (pp.2)), (y64.heap.size, 47, plL (qq.1) (qq.2))] ++ U)) := hide (hsq)
    clear hsq
    first | (refine hKq.out _ _ HS_y70.out.own (fun hHeld => ?_)) | (go_wp2_with fail; refine hKq.out _ _ HS_y70.out.own (fun hHeld => ?_))
    clear hKq Kq
    try simp only [Act.put, List.setIfInBounds_toArray, List.set_cons_zero, List.set_cons_succ]
    refine heldTake (i := 12) (v := ?_) rfl (by kernel_rfl) (by kernel_rfl) (by kernel_rfl) (fun _ _ _ h => h) (Or.inl ⟨by rfl, ?_⟩) (by assumption) ?_
    rotate_left
    · intro w hSw; (try dsimp only at hSw); go_simp <;> (with_reducible rfl)
    try simp only [Act.put, List.setIfInBounds_toArray, List.set_cons_zero, List.set_cons_succ]
    refine heldTake (i := 13) (v := ?_) rfl (by kernel_rfl) (by kernel_rfl) (by kernel_rfl) (fun _ _ _ h => h) (Or.inl ⟨by rfl, ?_⟩) (by assumption) ?_
    rotate_left
    · intro w hSw; (try dsimp only at hSw); go_simp <;> (with_reducible rfl)
    try simp only [Act.put, List.setIfInBounds_toArray, List.set_cons_zero, List.set_cons_succ]
    refine heldTake (i := 14) (v := ?_) rfl (by kernel_rfl) (by kernel_rfl) (by kernel_rfl) (fun _ _ _ h => h) (Or.inl ⟨by rfl, ?_⟩) (by assumption) ?_
    rotate_left
    · intro w hSw; (try dsimp only at hSw); go_simp <;> (with_reducible rfl)
    try simp only [Act.put, List.setIfInBounds_toArray, List.set_cons_zero, List.set_cons_succ]
    refine heldTake (i := 15) (v := .agg (plL qq.1 qq.2).toArray) rfl (by kernel_rfl) (by kernel_rfl) (by kernel_rfl) (fun _ _ _ h => h) (yieldsIf_load_mid (by rfl) _ _ rfl _ _ rfl (plL qq.1 qq.2) _ (fun W hW => hW.range 4 rfl) Tryz.underlying47 rfl mplace_info) (by assumption) ?_
    try simp only [Act.put, List.setIfInBounds_toArray, List.set_cons_zero, List.set_cons_succ]
    refine heldTake (i := 16) (v := .agg (secL s).toArray) rfl (by kernel_rfl) (by kernel_rfl) (by kernel_rfl) (fun _ _ _ h => h) (yieldsIf_load_mid (by rfl) _ _ rfl _ _ rfl (secL s) _ (fun W hW => hW.range 1 rfl) Tryz.underlying43 rfl (msec_size _)) (by assumption) ?_
    try simp only [Act.put, List.setIfInBounds_toArray, List.set_cons_zero, List.set_cons_succ]
    refine heldTake (i := 18) (v := ?_) rfl (by kernel_rfl) (by kernel_rfl) (by kernel_rfl) (fun _ _ _ h => h) (Or.inl ⟨by rfl, ?_⟩) (by assumption) ?_
    rotate_left
    · intro w hSw; (try dsimp only at hSw); go_simp <;> (with_reducible rfl)
    try simp only [Act.put, List.setIfInBounds_toArray, List.set_cons_zero, List.set_cons_succ]
    refine heldTake (i := 19) (v := .agg (plL qq.1 qq.2).toArray) rfl (by kernel_rfl) (by kernel_rfl) (by kernel_rfl) (fun _ _ _ h => h) (yieldsIf_load_mid (by rfl) _ _ rfl _ _ rfl (plL qq.1 qq.2) _ (fun W hW => hW.range 4 rfl) Tryz.underlying47 rfl mplace_info) (by assumption) ?_
    try simp only [Act.put, List.setIfInBounds_toArray, List.set_cons_zero, List.set_cons_succ]
    refine heldTake (i := 20) (v := .agg (secL s).toArray) rfl (by kernel_rfl) (by kernel_rfl) (by kernel_rfl) (fun _ _ _ h => h) (yieldsIf_load_mid (by rfl) _ _ rfl _ _ rfl (secL s) _ (fun W hW => hW.range 1 rfl) Tryz.underlying43 rfl (msec_size _)) (by assumption) ?_
    try simp only [Act.put, List.setIfInBounds_toArray, List.set_cons_zero, List.set_cons_succ]
    refine wpAnyH_ready (rs := [17]) (by kernel_rfl) (by simp) ?_
    refine heldCons (i := 17) rfl (fun Kq hKq => ?_) AllReadyH.nil
    go_simp
    go_at_call 34
    refine (HS_y70.out.code (fun F hB => onI_write hB (by have := HWR.out; have := HFW1.out; omega) qq.1 qq.2 s)).mono ?_
    rintro _ y71 ⟨rfl, hsq⟩
    rw [H_S2.out] at hsq
    rw [H_e2.out]
    have HS_y71 : Hid (Duo w0 y71 b r S2 S1 ([(w.heap.size, 35, [.int .i64 4, .int .i64 x, .int .i64 t, .int .i64 n, .int .i64 more, .bool a, .int .u64 (mk : Int)]), (g1, 43, secL s), (g2, 43, secL s), (y61.heap.size, 47, plL (pp.1) (pp.2)), (y64.heap.size, 47, plL (qq.1) (qq.2))] ++ U)) := hide (hsq)
    clear hsq
    first | (refine hKq.out _ _ HS_y71.out.own (fun hHeld => ?_)) | (go_wp2_with fail; refine hKq.out _ _ HS_y71.out.own (fun hHeld => ?_))
    clear hKq Kq
    try simp only [Act.put, List.setIfInBounds_toArray, List.set_cons_zero, List.set_cons_succ]
    refine wpAnyH_ready (rs := [21]) (by kernel_rfl) (by simp) ?_
    refine heldCons (i := 21) rfl (fun Kq hKq => ?_) AllReadyH.nil
    go_simp
    go_at_call 35
    refine (HS_y71.out.ref (fun G hB => rOnI_write hB (by have := HWR.out; have := HFW1.out; omega) qq.1 qq.2 s)).mono ?_
    rintro _ y72 ⟨rfl, hsq⟩
    rw [H_S2.out] at hsq
    rw [H_e2.out]
    have HS_y72 : Hid (Duo w0 y72 b r S2 S2 ([(w.heap.size, 35, [.int .i64 4, .int .i64 x, .int .i64 t, .int .i64 n, .int .i64 more, .bool a, .int .u64 (mk : Int)]), (g1, 43, secL s), (g2, 43, secL s), (y61.heap.size, 47, plL (pp.1) (pp.2)), (y64.heap.size, 47, plL (qq.1) (qq.2))] ++ U)) := hide (hsq)
    clear hsq
    first | (refine hKq.out _ _ HS_y72.out.own (fun hHeld => ?_)) | (go_wp2_with fail; refine hKq.out _ _ HS_y72.out.own (fun hHeld => ?_))
    clear hKq Kq
    try simp only [Act.put, List.setIfInBounds_toArray, List.set_cons_zero, List.set_cons_succ]
    refine heldTake (i := 22) (v := ?_) rfl (by kernel_rfl) (by kernel_rfl) (by kernel_rfl) (fun _ _ _ h => h) (Or.inl ⟨by rfl, ?_⟩) (by assumption) ?_
    rotate_left
    · intro w hSw; (try dsimp only at hSw); go_simp <;> (with_reducible rfl)
    try simp only [Act.put, List.setIfInBounds_toArray, List.set_cons_zero, List.set_cons_succ]
    refine heldTake (i := 23) (v := ?_) rfl (by kernel_rfl) (by kernel_rfl) (by kernel_rfl) (fun _ _ _ h => h) (Or.inl ⟨by rfl, ?_⟩) (by assumption) ?_
    rotate_left
    · intro w hSw; (try dsimp only at hSw); go_simp <;> (with_reducible rfl)
    try simp only [Act.put, List.setIfInBounds_toArray, List.set_cons_zero, List.set_cons_succ]
    refine heldTake (i := 24) (v := ?_) rfl (by kernel_rfl) (by kernel_rfl) (by kernel_rfl) (fun _ _ _ h => h) (Or.inl ⟨by rfl, ?_⟩) (by assumption) ?_
    rotate_left
    · intro w hSw; (try dsimp only at hSw); go_simp <;> (with_reducible rfl)
    try simp only [Act.put, List.setIfInBounds_toArray, List.set_cons_zero, List.set_cons_succ]
    refine wpAnyH_done (by kernel_rfl) ?_ _
    go_wp2_with fail
    go_ret
    exact ⟨by simp, S2, HS_y72.out.cutU, by have := HFW1.out; have := HFW2.out; omega⟩
  · have hne : ((e : Int) == 0) = false := by simpa using he0
    have hne2 : ¬ (e : Int) = 0 := by omega
    go_wp2_with (first
      | ((with_reducible refine at_slot 144 ?_); refine when_own rfl (.tmp 19) rfl HC2.out.own 1 rfl rfl Tryz.underlying43 rfl (msec_size _) ?_)
      | ((with_reducible refine at_slot 145 ?_); refine when_own rfl (.tmp 21) rfl HC2.out.own 2 rfl rfl Tryz.underlying43 rfl (msec_size _) ?_)
      | ((with_reducible refine at_slot 146 ?_); refine when_neS rfl (.tmp 144) (.tmp 145) _ rfl s s rfl rfl false (by simp) ?_))
    go_ret
    exact ⟨rfl, S, HC2.out.cutU, by omega⟩
end
end Go.Proofs.YtmjjnbabfldbcaaGreat
namespace Go.Proofs.YtmjjnbabfldbcaaGreat
open Go.RowKit
set_option linter.unusedVariables false
section
variable {w0 w : World} {b r nx cx : Nat} {S : Bank} {U : List (Nat × TypeId × List Value)} {A : Option Addr} {X : List PlI}
theorem doesS_any (h : Duo w0 w b r S S U) (hw : S.writes < 4611686018427380000) (hx : ExtV U A nx cx X) (s : OpS) (hf : s.fits) :
    Calls Tryz.prog 9 #[.pointer (some ⟨b, 0, none⟩), .pointer (some ⟨r, 0, none⟩), .slice A nx cx, .agg s.cells.toArray] w fun e w' => e = .returned (.bool true) ∧ ∃ S', Duo w0 w' b r S' S' U ∧ S'.writes ≤ S.writes + 16 := by
  obtain ⟨k, x, t, n, more, a, mk⟩ := s
  have h1 : I64In x := hf.x
  have h2 : I64In t := hf.t
  have h3 : I64In n := hf.n
  have h4 : mk < 18446744073709551616 := hf.m
  unfold OpS.cells
  dsimp only
  by_cases k1 : k = 1
  · subst k1
    exact doesS1_any h hw hx x t n more a mk h1 h2 h3 h4
  by_cases k2 : k = 2
  · subst k2
    exact doesS2_any h hw hx x t n more a mk h1 h2 h3 h4
  by_cases k3 : k = 3
  · subst k3
    exact doesS3_any h hw hx x t n more a mk h1 h2 h3 h4
  by_cases k4 : k = 4
  · subst k4
    exact doesS4_any h hw hx x t n more a mk h1 h2 h3 h4
  by_cases k5 : k = 5
  · subst k5
    exact doesS5_any h hw hx x t n more a mk h1 h2 h3 h4
  by_cases k6 : k = 6
  · subst k6
    exact doesS6_any h hw hx x t n more a mk h1 h2 h3 h4
  by_cases k7 : k = 7
  · subst k7
    exact doesS7_any h hw hx x t n more a mk h1 h2 h3 h4
  by_cases k8 : k = 8
  · subst k8
    exact doesS8_any h hw hx x t n more a mk h1 h2 h3 h4
  by_cases k9 : k = 9
  · subst k9
    exact doesS9_any h hw hx x t n more a mk h1 h2 h3 h4
  by_cases k10 : k = 10
  · subst k10
    exact doesS10_any h hw hx x t n more a mk h1 h2 h3 h4
  by_cases k11 : k = 11
  · subst k11
    exact doesS11_any h hw hx x t n more a mk h1 h2 h3 h4
  exact doesSE_any h hw hx k x t n more a mk h1 h2 h3 h4 (fun j h1 h2 => by
    have h3 : j = 1 ∨ j = 2 ∨ j = 3 ∨ j = 4 ∨ j = 5 ∨ j = 6 ∨ j = 7 ∨ j = 8 ∨ j = 9 ∨ j = 10 ∨ j = 11 := by omega
    rcases h3 with rfl | rfl | rfl | rfl | rfl | rfl | rfl | rfl | rfl | rfl | rfl
    · exact k1
    · exact k2
    · exact k3
    · exact k4
    · exact k5
    · exact k6
    · exact k7
    · exact k8
    · exact k9
    · exact k10
    · exact k11)
end
end Go.Proofs.YtmjjnbabfldbcaaGreat
namespace Go.Proofs.YtmjjnbabfldbcaaGreat
open Go.RowKit
set_option linter.unusedVariables false
theorem opS_info : (Tryz.prog.info? 35).map (·.size) = some 7 := by kernel_rfl
theorem laidS_writes : ∀ n, (LaidS n).writes = 0
  | 0 => rfl
  | n + 1 => laidS_writes n
theorem sdiv20 (k : Nat) : nI ((k : Int) / 20) = k / 20 := by
  have : ((k : Int) / 20) = ((k / 20 : Nat) : Int) := by omega
  rw [this, nI_nat]
theorem smod20 (k : Nat) : nI ((k : Int) % 20) = k % 20 := by
  have : ((k : Int) % 20) = ((k % 20 : Nat) : Int) := by omega
  rw [this, nI_nat]
theorem rel_reads {w w' : World} {A : Option Addr} {n : Nat} {X : List PlI} (h : Reads w w.heap.size 2 A n (plsL X)) (hb : Below w.heap.size w w') : Reads w' w'.heap.size 2 A n (plsL X) :=
  ⟨h.1, fun hn => by
    obtain ⟨ad, e, h1, h2⟩ := h.2 hn
    exact ⟨ad, e, Nat.lt_of_lt_of_le h1 hb.size, fun j u hu => (hb.cell (p := ad.add j) (by rw [block_of_add]; exact h1)).trans (h2 j u hu)⟩⟩
/-- A row that few made is put among the variables. -/
theorem Duo.few {w0 W W' : World} {b r : Nat} {S T : Bank} {V : List (Nat × TypeId × List Value)} (h : Duo w0 W b r S T V) {A : Option Addr} {m c : Nat} {F : List PlI} (hb : Below W.heap.size W W') (ho : XtOwn W' W.heap.size A m c F) (hm : m ≤ 9) (hF : FewX F) : ∃ U, Duo w0 W' b r S T (V ++ U) ∧ ExtV (V ++ U) A m c F := by
  obtain ⟨U, h1, h2⟩ := h.row hb ho (Nat.le_refl _)
  obtain ⟨Aq, cq, hq, h3, h4⟩ := own_shape ho
  injection hq with hq1 _ hq2
  subst hq1
  subst hq2
  exact ⟨U, h1, h2, hF.small, by omega, h3, h4⟩
set_option maxRecDepth 100000 in
set_option maxHeartbeats 8000000 in
theorem stripePlays_walk (K : StrK) (A0 : Option Addr) (n0 c0 : Nat) (X0 : List PlI) (A1 : Option Addr) (n1 c1 : Nat) (X1 : List PlI) (A2 : Option Addr) (n c2 : Nat) (f : Nat → OpS) (w : World) (x0 : Reads w w.heap.size 2 A0 n0 (plsL X0)) (g0 : n0 ≤ c0) (z0 : c0 ≤ 9223372036854775807) (x1 : Reads w w.heap.size 2 A1 n1 (plsL X1)) (g1 : n1 ≤ c1) (z1 : c1 ≤ 9223372036854775807) (hst : OpsS w w.heap.size A2 n f) (g2 : n ≤ c2) (z2 : c2 ≤ 9223372036854775807) :
    Calls Tryz.prog 3 #[.slice A0 n0 c0, .slice A1 n1 c1, .slice A2 n c2] w fun e w' => e = .returned (.bool true) ∧ Below w.heap.size w w' := by
  have HSH := hide (fun w => shown13_any K w)
  have HST := hide hst
  have HX0 := hide (fun (w' : World) (hb : Below w.heap.size w w') => few_any (rel_reads x0 hb) g0 z0)
  have HX1 := hide (fun (w' : World) (hb : Below w.heap.size w w') => few_any (rel_reads x1 hb) g1 z1)
  clear hst x0 x1 g0 z0 g1 z1
  go_enter Tryz.func3, Tryz.ntmps3
  go_wp2_with (first
    | (go_at_call 4; refine (HSH.out w).mono ?_; rintro _ y1 ⟨rfl, hlq⟩; have HL1 := hide hlq; clear hlq)
    | (go_at_call 5; refine (laid_any y1 5 (by decide)).mono ?_; rintro _ y2 ⟨rfl, hB, hl⟩; have HB2 := hide hB; have HL2 := hide hl; clear hB hl)
    | (go_at_call 6; refine (rNew_any y2).mono ?_; rintro _ y3 ⟨rfl, hR, hl, hz⟩; have HS_y3 : Hid (Duo w y3 y1.heap.size y2.heap.size (LaidS 5) (LaidS 0) []) := hide (Duo.start HL1.out HB2.out HL2.out hR hl); clear hR hl hz))
  go_loopw [10] (fun s6 wr => ∃ i : Nat, s6 = .int .i64 (i : Int) ∧ i ≤ 5 ∧ Hid (Duo w wr y1.heap.size y2.heap.size (LaidS 5) (LaidS i) [])) (fun s6 _ => 5 - (intOf s6).toNat)
  case atStart => exact ⟨0, rfl, by decide, HS_y3⟩
  case round =>
    obtain ⟨i, rfl, hi4, HS_z3⟩ := hrel
    obtain ⟨z3, rfl⟩ : ∃ z3, z3 = wr := ⟨_, rfl⟩
    by_cases hiw : (i : Int) < 5
    · have HN := hide (show (LaidS i).n < 32 by rw [LaidS_n]; omega)
      go_wp2_with (go_at_call 7; refine (HS_z3.out.ref (R := fun e => ∃ v, e = .returned v) (fun G hB => rOn_add hB 20 (by decide) (by decide) HN.out)).mono ?_; rintro _ z4 ⟨⟨v, rfl⟩, hsq⟩; have HS_z4 : Hid (Duo w z4 y1.heap.size y2.heap.size (LaidS 5) (LaidS (i + 1)) []) := hide hsq; clear hsq)
      go_roundw
      case rel => exact ⟨i + 1, by simp, by omega, HS_z4⟩
      case measure => simp [intOf]; omega
    · obtain rfl : i = 5 := by omega
      go_wp2_with (first
        | (go_at_call 8; (with_reducible refine (HX0.out z3 HS_z3.out.low).mono ?_); rintro _ z4 ⟨B0, m0, d0, F0, rfl, hm0, _, hF0, ho0, hl0⟩; obtain ⟨U0, hd4, he4⟩ := Duo.few HS_z3.out hl0 ho0 hm0 hF0; have HS_z4 := hide hd4; have HE0 := hide he4; clear hm0 hF0 ho0 hl0 hd4 he4)
        | (go_at_call 8; (with_reducible refine (HX1.out z4 HS_z4.out.low).mono ?_); rintro _ z5 ⟨B1, m1, d1, F1, rfl, hm1, _, hF1, ho1, hl1⟩; obtain ⟨U1, hd5, he5⟩ := Duo.few HS_z4.out hl1 ho1 hm1 hF1; have HS_z5 := hide hd5; have HE1 := hide he5; clear hm1 hF1 ho1 hl1 hd5 he5))
      obtain ⟨U, hU⟩ : ∃ U, U = ([] ++ U0) ++ U1 := ⟨_, rfl⟩
      have HE2 := hide (HE0.out.more U1)
      rw [← hU] at HS_z5 HE1 HE2
      clear hU HS_z4 HE0 HS_z3 hi4 hiw
      go_loopw [11, 12, 13] (fun s7 _ _ wr => ∃ (i : Nat) (S : Bank), s7 = .int .i64 (i : Int) ∧ i ≤ 100 ∧ Hid (S.writes ≤ 16 * i) ∧ Hid (Duo w wr y1.heap.size y2.heap.size S S U)) (fun s7 _ _ _ => 100 - (intOf s7).toNat)
      case atStart => exact ⟨0, LaidS 5, rfl, by decide, hide (by rw [laidS_writes]; decide), HS_z5⟩
      case round =>
        obtain ⟨i, S, rfl, hi150, HW, HS_z6⟩ := hrel
        obtain ⟨z6, rfl⟩ : ∃ z6, z6 = wr := ⟨_, rfl⟩
        by_cases h150 : (i : Int) < 100
        · by_cases hin : (i : Int) < (n : Int)
          · obtain ⟨ad, hA, hab, hcell⟩ := (HST.out.below HS_z6.out.low) (by omega)
            subst hA
            obtain ⟨hcl, hft⟩ := hcell i (by omega)
            have hc5 : z6.cell? ⟨(ad.add (i * 7)).block, (ad.add (i * 7)).off + 5, none⟩ = some (.bool (f i).a) := by
              have h1 := hcl 5 _ rfl
              have hadd : (ad.add (i * 7)).add 5 = ⟨(ad.add (i * 7)).block, (ad.add (i * 7)).off + 5, none⟩ := by unfold Addr.add; rw [if_neg (by decide)]
              rwa [hadd] at h1
            have HCL := hide hcl
            have HFT := hide hft
            have HOI := hide (show (Tryz.prog.info? 35).map (·.size) = some (f i).cells.length from opS_info)
            clear hcell hcl hft
            cases hav : (f i).a with
            | true =>
              rw [hav] at hc5
              clear hav
              go_upto_region 19 with (first
                | ((with_reducible refine at_slot 58 ?_); refine wpList_load_at rfl 35 (.tmp 57) rfl (ad.add (i * 7)) rfl (f i).cells _ HCL.out Tryz.underlying35 rfl HOI.out ?_)
                | (go_at_call 9; refine (doesS_any HS_z6.out (by have := HW.out; omega) HE2.out (f i) HFT.out).mono ?_; rintro _ z7 ⟨rfl, S1, hsq, hfw⟩; have HS_z7 : Hid (Duo w z7 y1.heap.size y2.heap.size S1 S1 U) := hide hsq; have HW1 := hide (show S1.writes ≤ 16 * (i + 1) by have := HW.out; omega); clear hsq hfw))
              obtain ⟨la, lc, hc1, hc2', hc3⟩ := HS_z7.out.fields
              have HC1 := hide hc1
              have HC2 := hide hc2'
              have HC3 := hide hc3
              have HSd := hide (HS_z7.out.drew)
              clear hc1 hc2' hc3
              refine wp_region_held_drew (S := (fun W => W = z7.drew)) (by kernel_rfl) ?_ (fun hHeld => ?_)
              · exact rfl
              refine heldTake (i := 0) (v := ?_) rfl (by kernel_rfl) (by kernel_rfl) (by kernel_rfl) (fun _ _ _ h => h) (Or.inl ⟨by rfl, ?_⟩) (by assumption) ?_
              rotate_left
              · intro w hSw; (try dsimp only at hSw); go_simp <;> (with_reducible rfl)
              try simp only [Act.put, List.setIfInBounds_toArray, List.set_cons_zero, List.set_cons_succ]
              refine heldTake (i := 1) (v := ?_) rfl (by kernel_rfl) (by kernel_rfl) (by kernel_rfl) (fun _ _ _ h => h) (Or.inl ⟨by rfl, ?_⟩) (by assumption) ?_
              rotate_left
              · intro w hSw; (try dsimp only at hSw); go_simp <;> (with_reducible rfl)
              try simp only [Act.put, List.setIfInBounds_toArray, List.set_cons_zero, List.set_cons_succ]
              refine heldTake (i := 2) (v := ?_) rfl (by kernel_rfl) (by kernel_rfl) (by kernel_rfl) (fun _ _ _ h => h) (Or.inl ⟨by rfl, ?_⟩) (by assumption) ?_
              rotate_left
              · intro w hSw; (try dsimp only at hSw); go_simp <;> (with_reducible rfl)
              try simp only [Act.put, List.setIfInBounds_toArray, List.set_cons_zero, List.set_cons_succ]
              refine heldTake (i := 3) (v := ?_) rfl (by kernel_rfl) (by kernel_rfl) (by kernel_rfl) (fun _ _ _ h => h) (Or.inl ⟨by rfl, ?_⟩) (by assumption) ?_
              rotate_left
              · intro w hSw; (try dsimp only at hSw); go_simp <;> (with_reducible rfl)
              try simp only [Act.put, List.setIfInBounds_toArray, List.set_cons_zero, List.set_cons_succ]
              refine heldTake (i := 5) (v := ?_) rfl (by kernel_rfl) (by kernel_rfl) (by kernel_rfl) (fun _ _ _ h => h) (Or.inl ⟨by rfl, ?_⟩) (by assumption) ?_
              rotate_left
              · intro w hSw; (try dsimp only at hSw); go_simp <;> (with_reducible rfl)
              try simp only [Act.put, List.setIfInBounds_toArray, List.set_cons_zero, List.set_cons_succ]
              refine heldTake (i := 6) (v := ?_) rfl (by kernel_rfl) (by kernel_rfl) (by kernel_rfl) (fun _ _ _ h => h) (Or.inl ⟨by rfl, ?_⟩) (by assumption) ?_
              rotate_left
              · intro w hSw; (try dsimp only at hSw); go_simp <;> (with_reducible rfl)
              try simp only [Act.put, List.setIfInBounds_toArray, List.set_cons_zero, List.set_cons_succ]
              refine heldTake (i := 7) (v := ?_) rfl (by kernel_rfl) (by kernel_rfl) (by kernel_rfl) (fun _ _ _ h => h) (Or.inl ⟨by rfl, ?_⟩) (by assumption) ?_
              rotate_left
              · intro w hSw; (try dsimp only at hSw); go_simp <;> (with_reducible rfl)
              try simp only [Act.put, List.setIfInBounds_toArray, List.set_cons_zero, List.set_cons_succ]
              refine heldTake (i := 8) (v := .int .i64 (S1.writes : Int)) rfl (by kernel_rfl) (by kernel_rfl) (by kernel_rfl) (fun _ _ _ h => h) (Or.inl ⟨by rfl, fun W hW => ?_⟩) (by assumption) ?_
              · dsimp only at hW
                subst hW
                have hc : z7.drew.cell? ⟨y2.heap.size, 3, none⟩ = some (.int .i64 (S1.writes : Int)) := HC3.out
                go_simp <;> rfl
              try simp only [Act.put, List.setIfInBounds_toArray, List.set_cons_zero, List.set_cons_succ]
              refine wpAnyH_ready (rs := [4]) (by kernel_rfl) (by simp) ?_
              refine heldCons (i := 4) rfl (fun Kq hKq => ?_) AllReadyH.nil
              go_simp
              go_at_call 10
              refine (HSd.out.still (fun F hB => onI_writes hB)).mono ?_
              rintro _ _ ⟨rfl, rfl⟩
              first | (refine hKq.out _ _ rfl (fun hHeld => ?_)) | (go_wp2_with fail; refine hKq.out _ _ rfl (fun hHeld => ?_))
              clear hKq Kq
              try simp only [Act.put, List.setIfInBounds_toArray, List.set_cons_zero, List.set_cons_succ]
              refine heldTake (i := 9) (v := ?_) rfl (by kernel_rfl) (by kernel_rfl) (by kernel_rfl) (fun _ _ _ h => h) (Or.inl ⟨by rfl, ?_⟩) (by assumption) ?_
              rotate_left
              · intro w hSw; (try dsimp only at hSw); go_simp <;> (with_reducible rfl)
              try simp only [Act.put, List.setIfInBounds_toArray, List.set_cons_zero, List.set_cons_succ]
              refine heldTake (i := 10) (v := ?_) rfl (by kernel_rfl) (by kernel_rfl) (by kernel_rfl) (fun _ _ _ h => h) (Or.inl ⟨by rfl, ?_⟩) (by assumption) ?_
              rotate_left
              · intro w hSw; (try dsimp only at hSw); go_simp <;> (with_reducible rfl)
              try simp only [Act.put, List.setIfInBounds_toArray, List.set_cons_zero, List.set_cons_succ]
              refine heldTake (i := 11) (v := ?_) rfl (by kernel_rfl) (by kernel_rfl) (by kernel_rfl) (fun _ _ _ h => h) (Or.inl ⟨by rfl, ?_⟩) (by assumption) ?_
              rotate_left
              · intro w hSw; (try dsimp only at hSw); go_simp <;> (with_reducible rfl)
              try simp only [Act.put, List.setIfInBounds_toArray, List.set_cons_zero, List.set_cons_succ]
              refine heldTake (i := 12) (v := ?_) rfl (by kernel_rfl) (by kernel_rfl) (by kernel_rfl) (fun _ _ _ h => h) (Or.inl ⟨by rfl, ?_⟩) (by assumption) ?_
              rotate_left
              · intro w hSw; (try dsimp only at hSw); go_simp <;> (with_reducible rfl)
              try simp only [Act.put, List.setIfInBounds_toArray, List.set_cons_zero, List.set_cons_succ]
              refine heldTake (i := 14) (v := ?_) rfl (by kernel_rfl) (by kernel_rfl) (by kernel_rfl) (fun _ _ _ h => h) (Or.inl ⟨by rfl, ?_⟩) (by assumption) ?_
              rotate_left
              · intro w hSw; (try dsimp only at hSw); go_simp <;> (with_reducible rfl)
              try simp only [Act.put, List.setIfInBounds_toArray, List.set_cons_zero, List.set_cons_succ]
              refine heldTake (i := 15) (v := ?_) rfl (by kernel_rfl) (by kernel_rfl) (by kernel_rfl) (fun _ _ _ h => h) (Or.inl ⟨by rfl, ?_⟩) (by assumption) ?_
              rotate_left
              · intro w hSw; (try dsimp only at hSw); go_simp <;> (with_reducible rfl)
              try simp only [Act.put, List.setIfInBounds_toArray, List.set_cons_zero, List.set_cons_succ]
              refine heldTake (i := 16) (v := ?_) rfl (by kernel_rfl) (by kernel_rfl) (by kernel_rfl) (fun _ _ _ h => h) (Or.inl ⟨by rfl, ?_⟩) (by assumption) ?_
              rotate_left
              · intro w hSw; (try dsimp only at hSw); go_simp <;> (with_reducible rfl)
              try simp only [Act.put, List.setIfInBounds_toArray, List.set_cons_zero, List.set_cons_succ]
              refine heldTake (i := 17) (v := .bool S1.down) rfl (by kernel_rfl) (by kernel_rfl) (by kernel_rfl) (fun _ _ _ h => h) (Or.inl ⟨by rfl, fun W hW => ?_⟩) (by assumption) ?_
              · dsimp only at hW
                subst hW
                have hc : z7.drew.cell? ⟨y2.heap.size, 2, none⟩ = some (.bool S1.down) := HC2.out
                go_simp <;> rfl
              try simp only [Act.put, List.setIfInBounds_toArray, List.set_cons_zero, List.set_cons_succ]
              refine wpAnyH_ready (rs := [13]) (by kernel_rfl) (by simp) ?_
              refine heldCons (i := 13) rfl (fun Kq hKq => ?_) AllReadyH.nil
              go_simp
              go_at_call 11
              refine (HSd.out.still (fun F hB => on_up hB)).mono ?_
              rintro _ _ ⟨rfl, rfl⟩
              first | (refine hKq.out _ _ rfl (fun hHeld => ?_)) | (go_wp2_with fail; refine hKq.out _ _ rfl (fun hHeld => ?_))
              clear hKq Kq
              try simp only [Act.put, List.setIfInBounds_toArray, List.set_cons_zero, List.set_cons_succ]
              refine heldTake (i := 18) (v := .bool false) rfl (by kernel_rfl) (by kernel_rfl) (by kernel_rfl) (fun _ _ _ h => h) (Or.inl ⟨by rfl, fun W hW => ?_⟩) (by assumption) ?_
              · go_simp <;> (first | rfl | (cases S1.down <;> rfl))
              try simp only [Act.put, List.setIfInBounds_toArray, List.set_cons_zero, List.set_cons_succ]
              refine heldTake (i := 19) (v := ?_) rfl (by kernel_rfl) (by kernel_rfl) (by kernel_rfl) (fun _ _ _ h => h) (Or.inl ⟨by rfl, ?_⟩) (by assumption) ?_
              rotate_left
              · intro w hSw; (try dsimp only at hSw); go_simp <;> (with_reducible rfl)
              try simp only [Act.put, List.setIfInBounds_toArray, List.set_cons_zero, List.set_cons_succ]
              refine heldTake (i := 20) (v := ?_) rfl (by kernel_rfl) (by kernel_rfl) (by kernel_rfl) (fun _ _ _ h => h) (Or.inl ⟨by rfl, ?_⟩) (by assumption) ?_
              rotate_left
              · intro w hSw; (try dsimp only at hSw); go_simp <;> (with_reducible rfl)
              try simp only [Act.put, List.setIfInBounds_toArray, List.set_cons_zero, List.set_cons_succ]
              refine heldTake (i := 21) (v := ?_) rfl (by kernel_rfl) (by kernel_rfl) (by kernel_rfl) (fun _ _ _ h => h) (Or.inl ⟨by rfl, ?_⟩) (by assumption) ?_
              rotate_left
              · intro w hSw; (try dsimp only at hSw); go_simp <;> (with_reducible rfl)
              try simp only [Act.put, List.setIfInBounds_toArray, List.set_cons_zero, List.set_cons_succ]
              refine heldTake (i := 23) (v := ?_) rfl (by kernel_rfl) (by kernel_rfl) (by kernel_rfl) (fun _ _ _ h => h) (Or.inl ⟨by rfl, ?_⟩) (by assumption) ?_
              rotate_left
              · intro w hSw; (try dsimp only at hSw); go_simp <;> (with_reducible rfl)
              try simp only [Act.put, List.setIfInBounds_toArray, List.set_cons_zero, List.set_cons_succ]
              refine heldTake (i := 24) (v := ?_) rfl (by kernel_rfl) (by kernel_rfl) (by kernel_rfl) (fun _ _ _ h => h) (Or.inl ⟨by rfl, ?_⟩) (by assumption) ?_
              rotate_left
              · intro w hSw; (try dsimp only at hSw); go_simp <;> (with_reducible rfl)
              try simp only [Act.put, List.setIfInBounds_toArray, List.set_cons_zero, List.set_cons_succ]
              refine heldTake (i := 25) (v := ?_) rfl (by kernel_rfl) (by kernel_rfl) (by kernel_rfl) (fun _ _ _ h => h) (Or.inl ⟨by rfl, ?_⟩) (by assumption) ?_
              rotate_left
              · intro w hSw; (try dsimp only at hSw); go_simp <;> (with_reducible rfl)
              try simp only [Act.put, List.setIfInBounds_toArray, List.set_cons_zero, List.set_cons_succ]
              refine heldTake (i := 26) (v := .slice la S1.order.length lc) rfl (by kernel_rfl) (by kernel_rfl) (by kernel_rfl) (fun _ _ _ h => h) (Or.inl ⟨by rfl, fun W hW => ?_⟩) (by assumption) ?_
              · dsimp only at hW
                subst hW
                have hc : z7.drew.cell? ⟨y2.heap.size, 1, none⟩ = some (.slice la S1.order.length lc) := HC1.out
                go_simp <;> rfl
              try simp only [Act.put, List.setIfInBounds_toArray, List.set_cons_zero, List.set_cons_succ]
              refine heldTake (i := 27) (v := ?_) rfl (by kernel_rfl) (by kernel_rfl) (by kernel_rfl) (fun _ _ _ h => h) (Or.inl ⟨by rfl, ?_⟩) (by assumption) ?_
              rotate_left
              · intro w hSw; (try dsimp only at hSw); go_simp <;> (with_reducible rfl)
              try simp only [Act.put, List.setIfInBounds_toArray, List.set_cons_zero, List.set_cons_succ]
              refine wpAnyH_ready (rs := [22]) (by kernel_rfl) (by simp) ?_
              refine heldCons (i := 22) rfl (fun Kq hKq => ?_) AllReadyH.nil
              go_simp
              go_at_call 12
              refine (HSd.out.still (fun F hB => onI_loose hB)).mono ?_
              rintro _ _ ⟨rfl, rfl⟩
              first | (refine hKq.out _ _ rfl (fun hHeld => ?_)) | (go_wp2_with fail; refine hKq.out _ _ rfl (fun hHeld => ?_))
              clear hKq Kq
              try simp only [Act.put, List.setIfInBounds_toArray, List.set_cons_zero, List.set_cons_succ]
              refine heldTake (i := 28) (v := ?_) rfl (by kernel_rfl) (by kernel_rfl) (by kernel_rfl) (fun _ _ _ h => h) (Or.inl ⟨by rfl, ?_⟩) (by assumption) ?_
              rotate_left
              · intro w hSw; (try dsimp only at hSw); go_simp <;> (with_reducible rfl)
              try simp only [Act.put, List.setIfInBounds_toArray, List.set_cons_zero, List.set_cons_succ]
              refine heldTake (i := 29) (v := ?_) rfl (by kernel_rfl) (by kernel_rfl) (by kernel_rfl) (fun _ _ _ h => h) (Or.inl ⟨by rfl, ?_⟩) (by assumption) ?_
              rotate_left
              · intro w hSw; (try dsimp only at hSw); go_simp <;> (with_reducible rfl)
              try simp only [Act.put, List.setIfInBounds_toArray, List.set_cons_zero, List.set_cons_succ]
              refine wpAnyH_done (by kernel_rfl) ?_ _
              clear hHeld
              go_wp2_with fail
              go_roundw
              case rel => exact ⟨i + 1, S1, by simp, by omega, HW1, HSd⟩
              case measure => simp [intOf]; omega
            | false =>
              rw [hav] at hc5
              clear hav
              go_upto_region 19 with (first
                | ((with_reducible refine at_slot 58 ?_); refine wpList_load_at rfl 35 (.tmp 57) rfl (ad.add (i * 7)) rfl (f i).cells _ HCL.out Tryz.underlying35 rfl HOI.out ?_)
                | (go_at_call 9; refine (doesS_any HS_z6.out (by have := HW.out; omega) HE1.out (f i) HFT.out).mono ?_; rintro _ z7 ⟨rfl, S1, hsq, hfw⟩; have HS_z7 : Hid (Duo w z7 y1.heap.size y2.heap.size S1 S1 U) := hide hsq; have HW1 := hide (show S1.writes ≤ 16 * (i + 1) by have := HW.out; omega); clear hsq hfw))
              obtain ⟨la, lc, hc1, hc2', hc3⟩ := HS_z7.out.fields
              have HC1 := hide hc1
              have HC2 := hide hc2'
              have HC3 := hide hc3
              have HSd := hide (HS_z7.out.drew)
              clear hc1 hc2' hc3
              refine wp_region_held_drew (S := (fun W => W = z7.drew)) (by kernel_rfl) ?_ (fun hHeld => ?_)
              · exact rfl
              refine heldTake (i := 0) (v := ?_) rfl (by kernel_rfl) (by kernel_rfl) (by kernel_rfl) (fun _ _ _ h => h) (Or.inl ⟨by rfl, ?_⟩) (by assumption) ?_
              rotate_left
              · intro w hSw; (try dsimp only at hSw); go_simp <;> (with_reducible rfl)
              try simp only [Act.put, List.setIfInBounds_toArray, List.set_cons_zero, List.set_cons_succ]
              refine heldTake (i := 1) (v := ?_) rfl (by kernel_rfl) (by kernel_rfl) (by kernel_rfl) (fun _ _ _ h => h) (Or.inl ⟨by rfl, ?_⟩) (by assumption) ?_
              rotate_left
              · intro w hSw; (try dsimp only at hSw); go_simp <;> (with_reducible rfl)
              try simp only [Act.put, List.setIfInBounds_toArray, List.set_cons_zero, List.set_cons_succ]
              refine heldTake (i := 2) (v := ?_) rfl (by kernel_rfl) (by kernel_rfl) (by kernel_rfl) (fun _ _ _ h => h) (Or.inl ⟨by rfl, ?_⟩) (by assumption) ?_
              rotate_left
              · intro w hSw; (try dsimp only at hSw); go_simp <;> (with_reducible rfl)
              try simp only [Act.put, List.setIfInBounds_toArray, List.set_cons_zero, List.set_cons_succ]
              refine heldTake (i := 3) (v := ?_) rfl (by kernel_rfl) (by kernel_rfl) (by kernel_rfl) (fun _ _ _ h => h) (Or.inl ⟨by rfl, ?_⟩) (by assumption) ?_
              rotate_left
              · intro w hSw; (try dsimp only at hSw); go_simp <;> (with_reducible rfl)
              try simp only [Act.put, List.setIfInBounds_toArray, List.set_cons_zero, List.set_cons_succ]
              refine heldTake (i := 5) (v := ?_) rfl (by kernel_rfl) (by kernel_rfl) (by kernel_rfl) (fun _ _ _ h => h) (Or.inl ⟨by rfl, ?_⟩) (by assumption) ?_
              rotate_left
              · intro w hSw; (try dsimp only at hSw); go_simp <;> (with_reducible rfl)
              try simp only [Act.put, List.setIfInBounds_toArray, List.set_cons_zero, List.set_cons_succ]
              refine heldTake (i := 6) (v := ?_) rfl (by kernel_rfl) (by kernel_rfl) (by kernel_rfl) (fun _ _ _ h => h) (Or.inl ⟨by rfl, ?_⟩) (by assumption) ?_
              rotate_left
              · intro w hSw; (try dsimp only at hSw); go_simp <;> (with_reducible rfl)
              try simp only [Act.put, List.setIfInBounds_toArray, List.set_cons_zero, List.set_cons_succ]
              refine heldTake (i := 7) (v := ?_) rfl (by kernel_rfl) (by kernel_rfl) (by kernel_rfl) (fun _ _ _ h => h) (Or.inl ⟨by rfl, ?_⟩) (by assumption) ?_
              rotate_left
              · intro w hSw; (try dsimp only at hSw); go_simp <;> (with_reducible rfl)
              try simp only [Act.put, List.setIfInBounds_toArray, List.set_cons_zero, List.set_cons_succ]
              refine heldTake (i := 8) (v := .int .i64 (S1.writes : Int)) rfl (by kernel_rfl) (by kernel_rfl) (by kernel_rfl) (fun _ _ _ h => h) (Or.inl ⟨by rfl, fun W hW => ?_⟩) (by assumption) ?_
              · dsimp only at hW
                subst hW
                have hc : z7.drew.cell? ⟨y2.heap.size, 3, none⟩ = some (.int .i64 (S1.writes : Int)) := HC3.out
                go_simp <;> rfl
              try simp only [Act.put, List.setIfInBounds_toArray, List.set_cons_zero, List.set_cons_succ]
              refine wpAnyH_ready (rs := [4]) (by kernel_rfl) (by simp) ?_
              refine heldCons (i := 4) rfl (fun Kq hKq => ?_) AllReadyH.nil
              go_simp
              go_at_call 10
              refine (HSd.out.still (fun F hB => onI_writes hB)).mono ?_
              rintro _ _ ⟨rfl, rfl⟩
              first | (refine hKq.out _ _ rfl (fun hHeld => ?_)) | (go_wp2_with fail; refine hKq.out _ _ rfl (fun hHeld => ?_))
              clear hKq Kq
              try simp only [Act.put, List.setIfInBounds_toArray, List.set_cons_zero, List.set_cons_succ]
              refine heldTake (i := 9) (v := ?_) rfl (by kernel_rfl) (by kernel_rfl) (by kernel_rfl) (fun _ _ _ h => h) (Or.inl ⟨by rfl, ?_⟩) (by assumption) ?_
              rotate_left
              · intro w hSw; (try dsimp only at hSw); go_simp <;> (with_reducible rfl)
              try simp only [Act.put, List.setIfInBounds_toArray, List.set_cons_zero, List.set_cons_succ]
              refine heldTake (i := 10) (v := ?_) rfl (by kernel_rfl) (by kernel_rfl) (by kernel_rfl) (fun _ _ _ h => h) (Or.inl ⟨by rfl, ?_⟩) (by assumption) ?_
              rotate_left
              · intro w hSw; (try dsimp only at hSw); go_simp <;> (with_reducible rfl)
              try simp only [Act.put, List.setIfInBounds_toArray, List.set_cons_zero, List.set_cons_succ]
              refine heldTake (i := 11) (v := ?_) rfl (by kernel_rfl) (by kernel_rfl) (by kernel_rfl) (fun _ _ _ h => h) (Or.inl ⟨by rfl, ?_⟩) (by assumption) ?_
              rotate_left
              · intro w hSw; (try dsimp only at hSw); go_simp <;> (with_reducible rfl)
              try simp only [Act.put, List.setIfInBounds_toArray, List.set_cons_zero, List.set_cons_succ]
              refine heldTake (i := 12) (v := ?_) rfl (by kernel_rfl) (by kernel_rfl) (by kernel_rfl) (fun _ _ _ h => h) (Or.inl ⟨by rfl, ?_⟩) (by assumption) ?_
              rotate_left
              · intro w hSw; (try dsimp only at hSw); go_simp <;> (with_reducible rfl)
              try simp only [Act.put, List.setIfInBounds_toArray, List.set_cons_zero, List.set_cons_succ]
              refine heldTake (i := 14) (v := ?_) rfl (by kernel_rfl) (by kernel_rfl) (by kernel_rfl) (fun _ _ _ h => h) (Or.inl ⟨by rfl, ?_⟩) (by assumption) ?_
              rotate_left
              · intro w hSw; (try dsimp only at hSw); go_simp <;> (with_reducible rfl)
              try simp only [Act.put, List.setIfInBounds_toArray, List.set_cons_zero, List.set_cons_succ]
              refine heldTake (i := 15) (v := ?_) rfl (by kernel_rfl) (by kernel_rfl) (by kernel_rfl) (fun _ _ _ h => h) (Or.inl ⟨by rfl, ?_⟩) (by assumption) ?_
              rotate_left
              · intro w hSw; (try dsimp only at hSw); go_simp <;> (with_reducible rfl)
              try simp only [Act.put, List.setIfInBounds_toArray, List.set_cons_zero, List.set_cons_succ]
              refine heldTake (i := 16) (v := ?_) rfl (by kernel_rfl) (by kernel_rfl) (by kernel_rfl) (fun _ _ _ h => h) (Or.inl ⟨by rfl, ?_⟩) (by assumption) ?_
              rotate_left
              · intro w hSw; (try dsimp only at hSw); go_simp <;> (with_reducible rfl)
              try simp only [Act.put, List.setIfInBounds_toArray, List.set_cons_zero, List.set_cons_succ]
              refine heldTake (i := 17) (v := .bool S1.down) rfl (by kernel_rfl) (by kernel_rfl) (by kernel_rfl) (fun _ _ _ h => h) (Or.inl ⟨by rfl, fun W hW => ?_⟩) (by assumption) ?_
              · dsimp only at hW
                subst hW
                have hc : z7.drew.cell? ⟨y2.heap.size, 2, none⟩ = some (.bool S1.down) := HC2.out
                go_simp <;> rfl
              try simp only [Act.put, List.setIfInBounds_toArray, List.set_cons_zero, List.set_cons_succ]
              refine wpAnyH_ready (rs := [13]) (by kernel_rfl) (by simp) ?_
              refine heldCons (i := 13) rfl (fun Kq hKq => ?_) AllReadyH.nil
              go_simp
              go_at_call 11
              refine (HSd.out.still (fun F hB => on_up hB)).mono ?_
              rintro _ _ ⟨rfl, rfl⟩
              first | (refine hKq.out _ _ rfl (fun hHeld => ?_)) | (go_wp2_with fail; refine hKq.out _ _ rfl (fun hHeld => ?_))
              clear hKq Kq
              try simp only [Act.put, List.setIfInBounds_toArray, List.set_cons_zero, List.set_cons_succ]
              refine heldTake (i := 18) (v := .bool false) rfl (by kernel_rfl) (by kernel_rfl) (by kernel_rfl) (fun _ _ _ h => h) (Or.inl ⟨by rfl, fun W hW => ?_⟩) (by assumption) ?_
              · go_simp <;> (first | rfl | (cases S1.down <;> rfl))
              try simp only [Act.put, List.setIfInBounds_toArray, List.set_cons_zero, List.set_cons_succ]
              refine heldTake (i := 19) (v := ?_) rfl (by kernel_rfl) (by kernel_rfl) (by kernel_rfl) (fun _ _ _ h => h) (Or.inl ⟨by rfl, ?_⟩) (by assumption) ?_
              rotate_left
              · intro w hSw; (try dsimp only at hSw); go_simp <;> (with_reducible rfl)
              try simp only [Act.put, List.setIfInBounds_toArray, List.set_cons_zero, List.set_cons_succ]
              refine heldTake (i := 20) (v := ?_) rfl (by kernel_rfl) (by kernel_rfl) (by kernel_rfl) (fun _ _ _ h => h) (Or.inl ⟨by rfl, ?_⟩) (by assumption) ?_
              rotate_left
              · intro w hSw; (try dsimp only at hSw); go_simp <;> (with_reducible rfl)
              try simp only [Act.put, List.setIfInBounds_toArray, List.set_cons_zero, List.set_cons_succ]
              refine heldTake (i := 21) (v := ?_) rfl (by kernel_rfl) (by kernel_rfl) (by kernel_rfl) (fun _ _ _ h => h) (Or.inl ⟨by rfl, ?_⟩) (by assumption) ?_
              rotate_left
              · intro w hSw; (try dsimp only at hSw); go_simp <;> (with_reducible rfl)
              try simp only [Act.put, List.setIfInBounds_toArray, List.set_cons_zero, List.set_cons_succ]
              refine heldTake (i := 23) (v := ?_) rfl (by kernel_rfl) (by kernel_rfl) (by kernel_rfl) (fun _ _ _ h => h) (Or.inl ⟨by rfl, ?_⟩) (by assumption) ?_
              rotate_left
              · intro w hSw; (try dsimp only at hSw); go_simp <;> (with_reducible rfl)
              try simp only [Act.put, List.setIfInBounds_toArray, List.set_cons_zero, List.set_cons_succ]
              refine heldTake (i := 24) (v := ?_) rfl (by kernel_rfl) (by kernel_rfl) (by kernel_rfl) (fun _ _ _ h => h) (Or.inl ⟨by rfl, ?_⟩) (by assumption) ?_
              rotate_left
              · intro w hSw; (try dsimp only at hSw); go_simp <;> (with_reducible rfl)
              try simp only [Act.put, List.setIfInBounds_toArray, List.set_cons_zero, List.set_cons_succ]
              refine heldTake (i := 25) (v := ?_) rfl (by kernel_rfl) (by kernel_rfl) (by kernel_rfl) (fun _ _ _ h => h) (Or.inl ⟨by rfl, ?_⟩) (by assumption) ?_
              rotate_left
              · intro w hSw; (try dsimp only at hSw); go_simp <;> (with_reducible rfl)
              try simp only [Act.put, List.setIfInBounds_toArray, List.set_cons_zero, List.set_cons_succ]
              refine heldTake (i := 26) (v := .slice la S1.order.length lc) rfl (by kernel_rfl) (by kernel_rfl) (by kernel_rfl) (fun _ _ _ h => h) (Or.inl ⟨by rfl, fun W hW => ?_⟩) (by assumption) ?_
              · dsimp only at hW
                subst hW
                have hc : z7.drew.cell? ⟨y2.heap.size, 1, none⟩ = some (.slice la S1.order.length lc) := HC1.out
                go_simp <;> rfl
              try simp only [Act.put, List.setIfInBounds_toArray, List.set_cons_zero, List.set_cons_succ]
              refine heldTake (i := 27) (v := ?_) rfl (by kernel_rfl) (by kernel_rfl) (by kernel_rfl) (fun _ _ _ h => h) (Or.inl ⟨by rfl, ?_⟩) (by assumption) ?_
              rotate_left
              · intro w hSw; (try dsimp only at hSw); go_simp <;> (with_reducible rfl)
              try simp only [Act.put, List.setIfInBounds_toArray, List.set_cons_zero, List.set_cons_succ]
              refine wpAnyH_ready (rs := [22]) (by kernel_rfl) (by simp) ?_
              refine heldCons (i := 22) rfl (fun Kq hKq => ?_) AllReadyH.nil
              go_simp
              go_at_call 12
              refine (HSd.out.still (fun F hB => onI_loose hB)).mono ?_
              rintro _ _ ⟨rfl, rfl⟩
              first | (refine hKq.out _ _ rfl (fun hHeld => ?_)) | (go_wp2_with fail; refine hKq.out _ _ rfl (fun hHeld => ?_))
              clear hKq Kq
              try simp only [Act.put, List.setIfInBounds_toArray, List.set_cons_zero, List.set_cons_succ]
              refine heldTake (i := 28) (v := ?_) rfl (by kernel_rfl) (by kernel_rfl) (by kernel_rfl) (fun _ _ _ h => h) (Or.inl ⟨by rfl, ?_⟩) (by assumption) ?_
              rotate_left
              · intro w hSw; (try dsimp only at hSw); go_simp <;> (with_reducible rfl)
              try simp only [Act.put, List.setIfInBounds_toArray, List.set_cons_zero, List.set_cons_succ]
              refine heldTake (i := 29) (v := ?_) rfl (by kernel_rfl) (by kernel_rfl) (by kernel_rfl) (fun _ _ _ h => h) (Or.inl ⟨by rfl, ?_⟩) (by assumption) ?_
              rotate_left
              · intro w hSw; (try dsimp only at hSw); go_simp <;> (with_reducible rfl)
              try simp only [Act.put, List.setIfInBounds_toArray, List.set_cons_zero, List.set_cons_succ]
              refine wpAnyH_done (by kernel_rfl) ?_ _
              clear hHeld
              go_wp2_with fail
              go_roundw
              case rel => exact ⟨i + 1, S1, by simp, by omega, HW1, HSd⟩
              case measure => simp [intOf]; omega
          · go_wp2_with fail
            go_loopw [14, 15, 16, 17, 18] (fun s14 _ _ _ _ wr => ∃ k : Nat, s14 = .int .i64 (k : Int) ∧ k ≤ 100 ∧ Hid (Duo w wr y1.heap.size y2.heap.size S S ([] ++ U))) (fun s14 _ _ _ _ _ => 100 - (intOf s14).toNat)
            case atStart => exact ⟨0, rfl, by decide, HS_z6⟩
            case round =>
              obtain ⟨k, rfl, hk48, HS_z8⟩ := hrel
              obtain ⟨z8, rfl⟩ : ∃ z8, z8 = wr := ⟨_, rfl⟩
              by_cases hkw : (k : Int) < 100
              · obtain ⟨s, hs⟩ : ∃ s, S.readS (k / 20) (k % 20) = s := ⟨_, rfl⟩
                obtain ⟨e, he⟩ : ∃ e, S.place (k / 20) (k % 20) = e := ⟨_, rfl⟩
                have HSE := hide (And.intro hs he)
                clear hs he
                go_wp2_with (first
                  | (go_at_call 13; (with_reducible refine (HS_z8.out.read (di := (k : Int) / 20) (ki := (k : Int) % 20) (d := k / 20) (k := k % 20) (sdiv20 k) (smod20 k)).mono ?_); rintro _ y41 ⟨rfl, hsq⟩; rw [HSE.out.1, HSE.out.2]; have HS_y41 : Hid (Duo w y41 y1.heap.size y2.heap.size S S ([] ++ U)) := hide (hsq); clear hsq)
                  | ((with_reducible refine at_slot 15 ?_); refine wpList_alloc_blk rfl 43 rfl _ (sec_zero _) ?_; intro y42 hbq hl1 hs1; clear hs1)
                  | ((with_reducible refine at_store 15 ?_); refine wpList_store_all rfl 43 (.tmp 15) (.tmp 102) rfl y41.heap.size 43 _ hbq rfl (secL s) rfl (msec_size _) (msec_len _ _) (secL_one _) ?_; intro y43 hbz hg hs; have HS_y43 : Hid (Duo w y43 y1.heap.size y2.heap.size S S ([(y41.heap.size, 43, secL s)] ++ U)) := hide (HS_y41.out.newU hl1 hg hbz); clear hs hbq hl1 hg hbz)
                  | (go_at_call 14; (with_reducible refine (HS_y43.out.rread (di := (k : Int) / 20) (ki := (k : Int) % 20) (d := k / 20) (k := k % 20) (sdiv20 k) (smod20 k)).mono ?_); rintro _ y44 ⟨rfl, hsq⟩; rw [HSE.out.1, HSE.out.2]; have HS_y44 : Hid (Duo w y44 y1.heap.size y2.heap.size S S ([(y41.heap.size, 43, secL s)] ++ U)) := hide (hsq); clear hsq)
                  | ((with_reducible refine at_slot 17 ?_); refine wpList_alloc_blk rfl 43 rfl _ (sec_zero _) ?_; intro y45 hbq hl1 hs1; clear hs1)
                  | ((with_reducible refine at_store 17 ?_); refine wpList_store_all rfl 43 (.tmp 17) (.tmp 112) rfl y44.heap.size 43 _ hbq rfl (secL s) rfl (msec_size _) (msec_len _ _) (secL_one _) ?_; intro y46 hbz hg hs; have HS_y46 : Hid (Duo w y46 y1.heap.size y2.heap.size S S ([(y41.heap.size, 43, secL s), (y44.heap.size, 43, secL s)] ++ U)) := hide (HS_y44.out.newU hl1 hg hbz); clear hs hbq hl1 hg hbz)
                  | ((with_reducible refine at_slot 114 ?_); refine when_own rfl (.tmp 15) rfl HS_y46.out.own 0 rfl rfl Tryz.underlying43 rfl (msec_size _) ?_)
                  | ((with_reducible refine at_slot 115 ?_); refine when_own rfl (.tmp 17) rfl HS_y46.out.own 1 rfl rfl Tryz.underlying43 rfl (msec_size _) ?_)
                  | ((with_reducible refine at_slot 116 ?_); refine when_neS rfl (.tmp 114) (.tmp 115) _ rfl s s rfl rfl false (by simp) ?_))
                go_roundw
                case rel => exact ⟨k + 1, by simp, by omega, hide (HS_y46.out.cutU)⟩
                case measure => simp [intOf]; omega
              · obtain rfl : k = 100 := by omega
                go_wp2_with fail
                go_ret
                exact ⟨rfl, HS_z8.out.low⟩
        · by_cases hin : (i : Int) < (n : Int)
          · go_wp2_with fail
            go_loopw [14, 15, 16, 17, 18] (fun s14 _ _ _ _ wr => ∃ k : Nat, s14 = .int .i64 (k : Int) ∧ k ≤ 100 ∧ Hid (Duo w wr y1.heap.size y2.heap.size S S ([] ++ U))) (fun s14 _ _ _ _ _ => 100 - (intOf s14).toNat)
            case atStart => exact ⟨0, rfl, by decide, HS_z6⟩
            case round =>
              obtain ⟨k, rfl, hk48, HS_z8⟩ := hrel
              obtain ⟨z8, rfl⟩ : ∃ z8, z8 = wr := ⟨_, rfl⟩
              by_cases hkw : (k : Int) < 100
              · obtain ⟨s, hs⟩ : ∃ s, S.readS (k / 20) (k % 20) = s := ⟨_, rfl⟩
                obtain ⟨e, he⟩ : ∃ e, S.place (k / 20) (k % 20) = e := ⟨_, rfl⟩
                have HSE := hide (And.intro hs he)
                clear hs he
                go_wp2_with (first
                  | (go_at_call 13; (with_reducible refine (HS_z8.out.read (di := (k : Int) / 20) (ki := (k : Int) % 20) (d := k / 20) (k := k % 20) (sdiv20 k) (smod20 k)).mono ?_); rintro _ y41 ⟨rfl, hsq⟩; rw [HSE.out.1, HSE.out.2]; have HS_y41 : Hid (Duo w y41 y1.heap.size y2.heap.size S S ([] ++ U)) := hide (hsq); clear hsq)
                  | ((with_reducible refine at_slot 15 ?_); refine wpList_alloc_blk rfl 43 rfl _ (sec_zero _) ?_; intro y42 hbq hl1 hs1; clear hs1)
                  | ((with_reducible refine at_store 15 ?_); refine wpList_store_all rfl 43 (.tmp 15) (.tmp 102) rfl y41.heap.size 43 _ hbq rfl (secL s) rfl (msec_size _) (msec_len _ _) (secL_one _) ?_; intro y43 hbz hg hs; have HS_y43 : Hid (Duo w y43 y1.heap.size y2.heap.size S S ([(y41.heap.size, 43, secL s)] ++ U)) := hide (HS_y41.out.newU hl1 hg hbz); clear hs hbq hl1 hg hbz)
                  | (go_at_call 14; (with_reducible refine (HS_y43.out.rread (di := (k : Int) / 20) (ki := (k : Int) % 20) (d := k / 20) (k := k % 20) (sdiv20 k) (smod20 k)).mono ?_); rintro _ y44 ⟨rfl, hsq⟩; rw [HSE.out.1, HSE.out.2]; have HS_y44 : Hid (Duo w y44 y1.heap.size y2.heap.size S S ([(y41.heap.size, 43, secL s)] ++ U)) := hide (hsq); clear hsq)
                  | ((with_reducible refine at_slot 17 ?_); refine wpList_alloc_blk rfl 43 rfl _ (sec_zero _) ?_; intro y45 hbq hl1 hs1; clear hs1)
                  | ((with_reducible refine at_store 17 ?_); refine wpList_store_all rfl 43 (.tmp 17) (.tmp 112) rfl y44.heap.size 43 _ hbq rfl (secL s) rfl (msec_size _) (msec_len _ _) (secL_one _) ?_; intro y46 hbz hg hs; have HS_y46 : Hid (Duo w y46 y1.heap.size y2.heap.size S S ([(y41.heap.size, 43, secL s), (y44.heap.size, 43, secL s)] ++ U)) := hide (HS_y44.out.newU hl1 hg hbz); clear hs hbq hl1 hg hbz)
                  | ((with_reducible refine at_slot 114 ?_); refine when_own rfl (.tmp 15) rfl HS_y46.out.own 0 rfl rfl Tryz.underlying43 rfl (msec_size _) ?_)
                  | ((with_reducible refine at_slot 115 ?_); refine when_own rfl (.tmp 17) rfl HS_y46.out.own 1 rfl rfl Tryz.underlying43 rfl (msec_size _) ?_)
                  | ((with_reducible refine at_slot 116 ?_); refine when_neS rfl (.tmp 114) (.tmp 115) _ rfl s s rfl rfl false (by simp) ?_))
                go_roundw
                case rel => exact ⟨k + 1, by simp, by omega, hide (HS_y46.out.cutU)⟩
                case measure => simp [intOf]; omega
              · obtain rfl : k = 100 := by omega
                go_wp2_with fail
                go_ret
                exact ⟨rfl, HS_z8.out.low⟩
          · go_wp2_with fail
            go_loopw [14, 15, 16, 17, 18] (fun s14 _ _ _ _ wr => ∃ k : Nat, s14 = .int .i64 (k : Int) ∧ k ≤ 100 ∧ Hid (Duo w wr y1.heap.size y2.heap.size S S ([] ++ U))) (fun s14 _ _ _ _ _ => 100 - (intOf s14).toNat)
            case atStart => exact ⟨0, rfl, by decide, HS_z6⟩
            case round =>
              obtain ⟨k, rfl, hk48, HS_z8⟩ := hrel
              obtain ⟨z8, rfl⟩ : ∃ z8, z8 = wr := ⟨_, rfl⟩
              by_cases hkw : (k : Int) < 100
              · obtain ⟨s, hs⟩ : ∃ s, S.readS (k / 20) (k % 20) = s := ⟨_, rfl⟩
                obtain ⟨e, he⟩ : ∃ e, S.place (k / 20) (k % 20) = e := ⟨_, rfl⟩
                have HSE := hide (And.intro hs he)
                clear hs he
                go_wp2_with (first
                  | (go_at_call 13; (with_reducible refine (HS_z8.out.read (di := (k : Int) / 20) (ki := (k : Int) % 20) (d := k / 20) (k := k % 20) (sdiv20 k) (smod20 k)).mono ?_); rintro _ y41 ⟨rfl, hsq⟩; rw [HSE.out.1, HSE.out.2]; have HS_y41 : Hid (Duo w y41 y1.heap.size y2.heap.size S S ([] ++ U)) := hide (hsq); clear hsq)
                  | ((with_reducible refine at_slot 15 ?_); refine wpList_alloc_blk rfl 43 rfl _ (sec_zero _) ?_; intro y42 hbq hl1 hs1; clear hs1)
                  | ((with_reducible refine at_store 15 ?_); refine wpList_store_all rfl 43 (.tmp 15) (.tmp 102) rfl y41.heap.size 43 _ hbq rfl (secL s) rfl (msec_size _) (msec_len _ _) (secL_one _) ?_; intro y43 hbz hg hs; have HS_y43 : Hid (Duo w y43 y1.heap.size y2.heap.size S S ([(y41.heap.size, 43, secL s)] ++ U)) := hide (HS_y41.out.newU hl1 hg hbz); clear hs hbq hl1 hg hbz)
                  | (go_at_call 14; (with_reducible refine (HS_y43.out.rread (di := (k : Int) / 20) (ki := (k : Int) % 20) (d := k / 20) (k := k % 20) (sdiv20 k) (smod20 k)).mono ?_); rintro _ y44 ⟨rfl, hsq⟩; rw [HSE.out.1, HSE.out.2]; have HS_y44 : Hid (Duo w y44 y1.heap.size y2.heap.size S S ([(y41.heap.size, 43, secL s)] ++ U)) := hide (hsq); clear hsq)
                  | ((with_reducible refine at_slot 17 ?_); refine wpList_alloc_blk rfl 43 rfl _ (sec_zero _) ?_; intro y45 hbq hl1 hs1; clear hs1)
                  | ((with_reducible refine at_store 17 ?_); refine wpList_store_all rfl 43 (.tmp 17) (.tmp 112) rfl y44.heap.size 43 _ hbq rfl (secL s) rfl (msec_size _) (msec_len _ _) (secL_one _) ?_; intro y46 hbz hg hs; have HS_y46 : Hid (Duo w y46 y1.heap.size y2.heap.size S S ([(y41.heap.size, 43, secL s), (y44.heap.size, 43, secL s)] ++ U)) := hide (HS_y44.out.newU hl1 hg hbz); clear hs hbq hl1 hg hbz)
                  | ((with_reducible refine at_slot 114 ?_); refine when_own rfl (.tmp 15) rfl HS_y46.out.own 0 rfl rfl Tryz.underlying43 rfl (msec_size _) ?_)
                  | ((with_reducible refine at_slot 115 ?_); refine when_own rfl (.tmp 17) rfl HS_y46.out.own 1 rfl rfl Tryz.underlying43 rfl (msec_size _) ?_)
                  | ((with_reducible refine at_slot 116 ?_); refine when_neS rfl (.tmp 114) (.tmp 115) _ rfl s s rfl rfl false (by simp) ?_))
                go_roundw
                case rel => exact ⟨k + 1, by simp, by omega, hide (HS_y46.out.cutU)⟩
                case measure => simp [intOf]; omega
              · obtain rfl : k = 100 := by omega
                go_wp2_with fail
                go_ret
                exact ⟨rfl, HS_z8.out.low⟩
end Go.Proofs.YtmjjnbabfldbcaaGreat
