/- What the calls of a table that turn it do: a group's count, a slot made dead; what the three maps hold then. -/
import Derived.Test.YtgoglgghnjgcdaaUsgD
namespace Go.Proofs.Ytgoglgghnjgcdaa
open Go.RowKit Go.Maps

/-! ### What the maps hold behind each turn -/
section
variable {S : Us}
theorem gF_killed (h : S.Ok) {g s b : Int} (e : S.at_ g s = some b) : ∀ x, upd (gF S) g (some (.agg #[.int .i64 (S.slots g), .int .i64 (((S.cnt g : Nat) : Int) + -1)])) x = gF (S.killed g s) x := by
  intro x
  have hk := Us.killed_cnt h e x
  have hg := (Us.at_has h e).1
  by_cases hx : x = g
  · subst hx
    rw [upd_self]
    unfold gF
    rw [if_pos rfl] at hk
    rw [Us.killed_has, if_pos hg, Us.killed_slots]
    unfold tallyV
    have : ((S.cnt x : Nat) : Int) + -1 = (((S.killed x s).cnt x : Nat) : Int) := by omega
    rw [this]
  · rw [upd_ne _ _ hx]
    unfold gF
    rw [if_neg (fun e => hx e.symm)] at hk
    rw [Us.killed_has, Us.killed_slots]
    have : S.cnt x = (S.killed g s).cnt x := by omega
    rw [this]
theorem bF_killed (S : Us) (g s : Int) : ∀ p, upd (bF S) (g, s) none p = bF (S.killed g s) p := by
  intro p
  obtain ⟨x, y⟩ := p
  unfold bF
  rw [Us.killed_at]
  by_cases e : x = g ∧ y = s
  · obtain ⟨rfl, rfl⟩ := e
    rw [upd_self]
    simp
  · rw [upd_ne _ _ (fun e2 => e (by injection e2 with e1 e2; exact ⟨e1, e2⟩)), if_neg e]
theorem pF_killed (h : S.Ok) {g s b : Int} (e : S.at_ g s = some b) : ∀ c, upd (pF S) b none c = pF (S.killed g s) c := by
  intro c
  unfold pF
  rw [Us.killed_fnd h]
  by_cases hc : c = b
  · subst hc
    rw [upd_self, if_pos ((Us.at_fnd h).1 e)]
    rfl
  · rw [upd_ne _ _ hc, if_neg (fun e2 => hc ?_)]
    have h1 := (Us.at_fnd h).2 e2
    rw [e] at h1
    injection h1 with h1
    exact h1.symm
theorem gF_put {g s b : Int} (hg : S.has g = true) : ∀ x, upd (gF (S.freed b)) g (some (.agg #[.int .i64 (S.slots g), .int .i64 ((((S.freed b).cnt g : Nat) : Int) + 1)])) x = gF (S.put g s b) x := by
  intro x
  unfold gF
  rw [Us.put_has, Us.put_slots, Us.put_cnt]
  by_cases hx : x = g
  · subst hx
    rw [upd_self, if_pos hg, if_pos rfl]
    rfl
  · have h0 : (if g = x then 1 else 0) = 0 := if_neg (fun e => hx e.symm)
    rw [upd_ne _ _ hx, h0, Nat.add_zero]
    rfl
theorem bF_put (h : S.Ok) {g s b : Int} (h0 : S.at_ g s = none) : ∀ p, upd (bF (S.freed b)) (g, s) (some (.int .i64 b)) p = bF (S.put g s b) p := by
  intro p
  obtain ⟨x, y⟩ := p
  unfold bF
  rw [Us.put_at h h0]
  by_cases e : x = g ∧ y = s
  · obtain ⟨rfl, rfl⟩ := e
    rw [upd_self]
    simp
  · rw [upd_ne _ _ (fun e2 => e (by injection e2 with e1 e2; exact ⟨e1, e2⟩)), if_neg e, Us.freed_at h]
theorem pF_put (S : Us) (g s b : Int) : ∀ c, upd (pF (S.freed b)) b (some (encPl (g, s))) c = pF (S.put g s b) c := by
  intro c
  unfold pF
  rw [Us.put_fnd]
  by_cases hc : c = b
  · subst hc
    rw [upd_self]
    simp
  · rw [upd_ne _ _ hc, if_neg hc, Us.freed_fnd, if_neg hc]
theorem gF_opened {g n : Int} (h0 : S.has g = false) (h : S.Ok) : ∀ x, upd (gF S) g (some (.agg #[.int .i64 n, .int .i64 0])) x = gF (S.opened g n) x := by
  intro x
  unfold gF
  rw [Us.opened_has, Us.opened_slots h0, Us.opened_cnt]
  by_cases hx : x = g
  · subst hx
    rw [upd_self, Us.cnt_none h h0]
    simp [tallyV]
  · have hn : ¬ g = x := fun e => hx e.symm
    rw [upd_ne _ _ hx]
    simp [hx, hn]
end

/-! ### Steps -/
section
variable {P : Program} {ops : Array Oper} {o : Oper} {rest : List Oper} {a : Act}
theorem quiet_look {C : World → Prop} {Q : Act → Prop} (hgd : o.guard = none) (t : TypeId) (m x : Operand) (c : Bool) (hop : o.op = .lookup t m x c) (mv kv : Value) (hm : a.eval m = mv) (hx : a.eval x = kv) (u : Value) (hrun : ∀ w, C w → (Instr.lookup t mv kv c).run P w = .ok u w)
    (h : wpQuiet P ops C Q rest (a.put o.dst u)) : wpQuiet P ops C Q (o :: rest) a := quiet_gives hgd u (fun w hC => by have hr := hrun w hC; unfold execOp; simp [hop, hm, hx, hr, Result.andThen]) h
theorem still_look {w : World} {Q : Act → Prop} (hgd : o.guard = none) (t : TypeId) (m x : Operand) (c : Bool) (hop : o.op = .lookup t m x c) (mv kv : Value) (hm : a.eval m = mv) (hx : a.eval x = kv) (u : Value) (hrun : (Instr.lookup t mv kv c).run P w = .ok u w)
    (h : wpStill P ops w Q rest (a.put o.dst u)) : wpStill P ops w Q (o :: rest) a := still_gives hgd u (by unfold execOp; simp [hop, hm, hx, hrun, Result.andThen]) h
end
section
variable {S : Us} {w : World} {t x y z : Nat} {f : Int → Option Value} {h : Int × Int → Option Value} {k : Int → Option Value}
set_option maxRecDepth 100000 in
/-- 'count': so many live slots more of one group. -/
theorem tally_any (m : UsM w t x y z f h k) (g n c d : Int) (hg : okI64 g) (hf : f g = some (.agg #[.int .i64 n, .int .i64 c])) (hd1 : -9223372036854775808 ≤ c + d) (hd2 : c + d ≤ 9223372036854775807) (ks : List Int) (hks : ks.Nodup) (hkm : ∀ k, k ∈ ks ↔ (f k).isSome = true) (hkl : ks.length < 1073741824) :
    Calls Try.prog 46 #[.pointer (some ⟨t, 0, none⟩), .int .i64 g, .int .i64 d] w fun e w' => e = .returned (.tuple #[]) ∧ UsM w' t x y z (upd f g (some (.agg #[.int .i64 n, .int .i64 (c + d)]))) h k ∧ Turn (UFoot t x y z) w w' := by
  have HU := hide m
  have hc0 := m.c0
  have hlt := m.head.lt
  have HM := hide m.gm
  have HG := hide hg
  have HF := hide (show (f g).getD (.agg #[.int .i64 0, .int .i64 0]) = .agg #[.int .i64 n, .int .i64 c] by rw [hf]; rfl)
  have HK := hide (And.intro hks (And.intro hkm hkl))
  clear m hg hf hks hkm hkl
  go_enter Try.func46, Try.ntmps46
  go_wp2_with (first
    | (refine wpList_look rfl (.tmp 10) (.tmp 11) 52 63 false rfl Try.underlying52 _ (Try.zeroValue63 _) x f rfl HM.out g rfl HG.out _ HF.out ?_)
    | (refine wpList_alloc_blk rfl 63 rfl _ (Try.zeroValue63 _) ?_; intro w1 hb1 hl1 hs1; clear hs1)
    | (refine wpList_store_all rfl 63 (.tmp 6) (.tmp 12) rfl w.heap.size 63 _ hb1 rfl [.int .i64 n, .int .i64 c] rfl tally_info rfl (two_one _ _) ?_; intro w2 hb2 hg2 hs2; clear hs2; have q1 : w2.cell? ⟨w.heap.size, 1, none⟩ = some (.int .i64 c) := hb2.cell 1)
    | (refine wpList_poke rfl 3 (.tmp 17) (.tmp 16) rfl w.heap.size 1 63 _ hb2 rfl (.int .i64 (c + d)) rfl rfl (by kernel_rfl) (show 1 < 2 by decide) ?_; intro w3 hb3 hg3 hs3; clear hs3))
  have hl3 : Below w.heap.size w w3 := (hl1.grown hg2 hl1.size (fun g e => by injection e with e; omega)).grown hg3 (by have := hg2.size; have := hl1.size; omega) (fun g e => by injection e with e; omega)
  have HU3 := hide (HU.out.later hl3).drew
  have hc3 : w3.drew.cell? ⟨t, 0, none⟩ = some (.map (some x)) := HU3.out.c0
  have hb3' : Blk w3 w.heap.size 63 ([.int .i64 n, .int .i64 (c + d)] : List Value).toArray := hb3
  have HB3 := hide (fun (j : Nat) (v : Value) (hj : ([.int .i64 n, .int .i64 (c + d)] : List Value)[j]? = some v) => (blk_at hb3'.drew j v hj))
  clear hb1 hb2 hb3 hb3' hl1 hg2 hg3 q1
  refine wp_region_still_tail 6 (by kernel_rfl) (by kernel_rfl) ?_
  change wpStill _ _ w3.drew _ _ _
  simp only [List.take_succ_cons, List.take_zero, List.drop_succ_cons, List.drop_zero]
  iterate 5 still_step
  refine still_load_at rfl 63 (.tmp 6) rfl ⟨w.heap.size, 0, none⟩ rfl [.int .i64 n, .int .i64 (c + d)] _ HB3.out Try.underlying63 rfl tally_info ?_
  refine wpStill_nil ?_
  change wpList _ _ _ _ _ w3.drew
  go_wp2_with (first
    | (refine wpList_put rfl (.tmp 21) (.tmp 22) (.tmp 23) 52 63 rfl Try.underlying52 x f rfl HU3.out.gm g HG.out (.agg #[.int .i64 n, .int .i64 (c + d)]) rfl rfl ks HK.out.1 HK.out.2.1 HK.out.2.2 ?_; intro w4 hm4 hg4))
  go_end0
  exact ⟨rfl, HU3.out.setG hm4 hg4, ((Turn.of_below hl3).drew).grown hg4 (fun g e => by injection e with e; subst e; exact .inl (.inr (.inl rfl)))⟩
set_option maxRecDepth 100000 in
/-- 'kill': a live slot is dead. -/
theorem kill_any (m : UsIn w t x y z S) (hok : Few S) {g s b : Int} (e : S.at_ g s = some b) :
    Calls Try.prog 45 #[.pointer (some ⟨t, 0, none⟩), .agg #[.int .i64 g, .int .i64 s]] w fun e w' => e = .returned (.tuple #[]) ∧ UsIn w' t x y z (S.killed g s) ∧ Turn (UFoot t x y z) w w' := by
  have hh := Us.at_has hok.ok e
  have hsl := Us.slots_pos hok.ok hh.1
  have hcl := S.cnt_le g
  have hls := hok.ls
  have HGF := hide (gF_killed hok.ok e)
  have HBF := hide (bF_killed S g s)
  have HPF := hide (pF_killed hok.ok e)
  have HOK := hide hok
  have HU : Hid (UsM w t x y z (gF S) (bF S) (pF S)) := hide m
  have HG : Hid (okI64 g) := hide (by unfold okI64; omega)
  have HP : Hid (okPl (g, s)) := hide (by unfold okPl okI64; simp only; omega)
  have HB : Hid (okI64 b) := hide (by unfold okI64; omega)
  have hlb := look_b S g s
  rw [e] at hlb
  have HL := hide hlb.1
  have HGY := hide (gF_yes hh.1)
  have hlt := HU.out.head.lt
  have hk1 : -9223372036854775808 ≤ ((S.cnt g : Nat) : Int) + -1 := by omega
  have hk2 : ((S.cnt g : Nat) : Int) + -1 ≤ 9223372036854775807 := by omega
  have HK := hide (And.intro hk1 hk2)
  clear m hok e hh hsl hlb hcl hls hk1 hk2
  go_enter Try.func45, Try.ntmps45
  go_wp2_with (first
    | (refine wpList_box_blk rfl 66 (.tmp 1) rfl (.agg #[.int .i64 g, .int .i64 s]) rfl ?_; intro w1 hb1 hl1 hs1; clear hs1))
  have HU1 := hide (HU.out.later hl1).drew
  have c1 : w1.drew.cell? ⟨t, 1, none⟩ = some (.map (some y)) := HU1.out.c1
  have c2 : w1.drew.cell? ⟨t, 2, none⟩ = some (.map (some z)) := HU1.out.c2
  have hb1' : Blk w1 w.heap.size 66 ([.int .i64 g, .int .i64 s] : List Value).toArray := hb1
  have HB1 := hide (fun (j : Nat) (v : Value) (hj : ([.int .i64 g, .int .i64 s] : List Value)[j]? = some v) => (blk_at hb1'.drew j v hj))
  have HBK := hide hb1'
  clear hb1 hb1'
  refine wp_region_still_tail 10 (by kernel_rfl) (by kernel_rfl) ?_
  change wpStill _ _ w1.drew _ _ _
  simp only [List.take_succ_cons, List.take_zero, List.drop_succ_cons, List.drop_zero]
  iterate 8 still_step
  refine still_load_at rfl 66 (.tmp 3) rfl ⟨w.heap.size, 0, none⟩ rfl [.int .i64 g, .int .i64 s] _ HB1.out Try.underlying66 rfl place_info ?_
  refine still_look rfl 53 (.tmp 11) (.tmp 12) false rfl (.map (some y)) (encPl (g, s)) rfl rfl (.int .i64 b) (by
    have := HU1.out.bm.look (C := placeKey) Try.underlying53 (Try.zeroValue3 w1.drew) HP.out false
    rw [if_neg (by simp), HL.out] at this
    exact this) ?_
  refine wpStill_nil ?_
  change wpList _ _ _ _ _ w1.drew
  go_wp2_with (first
    | (refine wpList_del (C := intKey) rfl (.tmp 7) (.tmp 13) 54 66 rfl Try.underlying54 z (pF S) rfl HU1.out.pm b HB.out rfl ?_; intro w2 hm2 hg2))
  have hwz : w.heap.size ≠ z := by have := HU.out.pm.lt; omega
  have hwy : w.heap.size ≠ y := by have := HU.out.bm.lt; omega
  have HU2 := hide (HU1.out.setP hm2 hg2).drew
  have c1 : w2.drew.cell? ⟨t, 1, none⟩ = some (.map (some y)) := HU2.out.c1
  have hb2 := HBK.out.drew.grown hg2 (fun e => hwz (by injection e))
  have HB2 := hide (fun (j : Nat) (v : Value) (hj : ([.int .i64 g, .int .i64 s] : List Value)[j]? = some v) => (blk_at hb2.drew j v hj))
  have HBK2 := hide hb2
  have ht2 : Turn (UFoot t x y z) w w2 := ((Turn.of_below hl1).drew).grown hg2 (fun g e => by injection e with e; subst e; exact .inl (.inr (.inr (.inr rfl))))
  clear hb2 hm2 hg2
  refine wp_region_still_tail 5 (by kernel_rfl) (by kernel_rfl) ?_
  change wpStill _ _ w2.drew _ _ _
  simp only [List.take_succ_cons, List.take_zero, List.drop_succ_cons, List.drop_zero]
  iterate 4 still_step
  refine still_load_at rfl 66 (.tmp 3) rfl ⟨w.heap.size, 0, none⟩ rfl [.int .i64 g, .int .i64 s] _ HB2.out Try.underlying66 rfl place_info ?_
  refine wpStill_nil ?_
  change wpList _ _ _ _ _ w2.drew
  go_wp2_with (first
    | (refine wpList_del (C := placeKey) rfl (.tmp 17) (.tmp 18) 53 3 rfl Try.underlying53 y (bF S) rfl HU2.out.bm (g, s) HP.out rfl ?_; intro w3 hm3 hg3; have hb3 := HBK2.out.drew.grown hg3 (fun e => hwy (by injection e)); have q0 : w3.cell? ⟨w.heap.size, 0, none⟩ = some (.int .i64 g) := hb3.cell 0; have HU3 := hide (HU2.out.setB hm3 hg3))
    | (go_at_call 46; refine (tally_any HU3.out g (S.slots g) ((S.cnt g : Nat) : Int) (-1) HG.out HGY.out HK.out.1 HK.out.2 (S.G.map Gr.id) HOK.out.ok.ids (gF_mem S) (by have := HOK.out.gs; rw [List.length_map]; omega)).mono ?_; rintro _ w4 ⟨rfl, hm4, ht4⟩))
  go_end0
  refine ⟨rfl, hm4.congr HGF.out HBF.out HPF.out, ?_⟩
  exact ((ht2.drew).grown hg3 (fun g e => by injection e with e; subst e; exact .inl (.inr (.inr (.inl rfl))))).trans ht4
end
#print axioms kill_any
end Go.Proofs.Ytgoglgghnjgcdaa
