/- What Has, TakeAt and Free of extent do. -/
import Derived.Test.YtmaiikmgpeafkabDoorExtF
namespace Go.Proofs.YtmaiikmgpeafkabDoor
open Go.RowKit

theorem rules_built (f : Nat) (c : Int) : Tryd.prog.built 68 [(0, .func (.func f) #[] #[]), (1, .int .i64 c)] = some #[.func (.func f) #[] #[], .int .i64 c] := by kernel_rfl
theorem run_rules (w : World) (f g : Nat) : (Instr.buildSlice 76 2 #[(0, .agg #[.func (.func f) #[] #[], .int .i64 1]), (1, .agg #[.func (.func g) #[] #[], .int .i64 9])]).run Tryd.prog w = .ok (.slice (some ⟨w.heap.size, 0, none⟩) 2 2) (w.alloc (.cells (rulesC f g) 68)) := by kernel_rfl
section
variable {ops : Array Oper} {rest : List Oper} {o : Oper} {a : Act} {w : World} {Q : Exit → Act → World → Prop}
theorem wpList_rules (hgd : o.guard = none) (x y : Operand) (hop : o.op = .buildSlice 76 2 #[(0, x), (1, y)]) (f g : Nat) (hx : a.eval x = .agg #[.func (.func f) #[] #[], .int .i64 1]) (hy : a.eval y = .agg #[.func (.func g) #[] #[], .int .i64 9])
    (hK : ∀ w', Blk w' w.heap.size 68 (rulesC f g) → Below w.heap.size w w' → w'.heap.size = w.heap.size + 1 → wpList Tryd.prog ops Q rest (a.put o.dst (.slice (some ⟨w.heap.size, 0, none⟩) 2 2)) w') : wpList Tryd.prog ops Q (o :: rest) a w :=
  wpList_plain hgd fun _ hK' => by
    have hrun := run_rules w f g
    unfold Oper.wp
    simp [execOp, hop, hx, hy, hrun, Result.andThen]
    exact hK' _ _ (hK _ (Blk.new _ _ _) ((Below.refl _ _).alloc (Nat.le_refl _) _) (World.size_alloc _ _))
end
/-- What is taken of the map behind TakeAt (v: true) or Free (v: false). -/
def Ext.poke (S : Ext) (d p : Int) (v : Bool) : Ext := if findE S d p (!v) = 0 then S.setT d.toNat (put (S.t d.toNat) (idxI p) v) else S
theorem findE_zero {S : Ext} {d p : Int} {v : Bool} (h : findE S d p v = 0) : ∃ m : Nat, d = (m : Int) ∧ m ∈ S.ks ∧ oneB (S.n m) p = true ∧ S.t m (idxI p) = v := by
  unfold findE at h
  cases hd : inE S d with
  | false => rw [hd] at h; cases h
  | true =>
    obtain ⟨m, rfl, hm⟩ := inE_nat hd
    rw [if_pos hd, Int.toNat_natCast] at h
    by_cases ho : oneB (S.n m) p = true
    · rw [if_pos ho] at h
      by_cases ht : S.t m (idxI p) = v
      · exact ⟨m, rfl, hm, ho, ht⟩
      · rw [if_neg ht] at h; cases h
    · rw [if_neg ho] at h; cases h
section
variable {b x : Nat} {q : Nat → Nat} {S : Ext} {w : World}
set_option maxRecDepth 100000 in
set_option maxHeartbeats 1000000 in
theorem has_any (h : ExtIn w b x q S) (hok : S.Ok) (d p : Int) (h1 : -9223372036854775808 ≤ p) (h2 : p < 9223372036854775808) (g1 : -9223372036854775808 ≤ d) (g2 : d < 9223372036854775808) :
    Calls Tryd.prog 22 #[.pointer (some ⟨b, 0, none⟩), .agg #[.int .i64 d, .int .i64 p]] w fun e w' => e = .returned (.bool (decide (findE S d p true = 0))) ∧ Below w.heap.size w w' := by
  have HH := hide h
  by_cases h0 : findE S d p true = 0
  · have HV : Hid (findV q S d p true = .tuple #[.pointer (some ⟨q d.toNat, 0, none⟩), .int .i64 (idxI p : Int), .int .i64 0]) := hide (by unfold findV; rw [if_pos h0])
    have HZ : Hid (decide (findE S d p true = 0) = true) := hide (by simpa using h0)
    clear h0 h
    go_enter Tryd.func22, Tryd.ntmps22
    go_wp2_with (first
      | (refine wpList_box_blk rfl 36 (.tmp 1) rfl (.agg #[.int .i64 d, .int .i64 p]) rfl ?_; intro w1 hb1 hl1 hs1; clear hs1)
      | (refine wpList_load_blk rfl 36 (.tmp 3) rfl w.heap.size 0 36 _ hb1 rfl [.int .i64 d, .int .i64 p] _ (fun j v hj => by rw [Nat.zero_add]; simpa [Value.cells] using hj) Tryd.underlying36 rfl ext2_info ?_)
      | (refine wpList_build_is rfl 68 #[(0, .func 36), (1, .const (.int .i64 1))] rfl [(0, .func (.func 36) #[] #[]), (1, .int .i64 1)] (by simp only [List.map_toArray, List.map_cons, List.map_nil]; rfl) _ (rules_built _ _) ?_)
      | (refine wpList_build_is rfl 68 #[(0, .func 40), (1, .const (.int .i64 9))] rfl [(0, .func (.func 40) #[] #[]), (1, .int .i64 9)] (by simp only [List.map_toArray, List.map_cons, List.map_nil]; rfl) _ (rules_built _ _) ?_)
      | (refine wpList_rules rfl (.tmp 11) (.tmp 12) rfl _ _ rfl rfl ?_; intro w2 hb2 hl2 hs2; clear hs2; have hl02 : Below w.heap.size w w2 := hl1.trans (hl2.mono hl1.size); have HI2 := hide (HH.out.later hl02); have HB2 := hide hb2; clear hb2)
      | (go_at_call 35; refine (find_true HI2.out hok d p h1 h2 g1 g2 _ HB2.out).mono ?_; rw [HV.out]; rintro _ w3 ⟨rfl, hl3⟩; have hl03 : Below w.heap.size w w3 := hl02.trans (hl3.mono hl02.size)))
    go_ret
    exact ⟨by rw [HZ.out]; rfl, hl03⟩
  · have HZ : Hid (decide (findE S d p true = 0) = false) := hide (by simpa using h0)
    obtain ⟨c, hc⟩ : ∃ c, c = findE S d p true := ⟨_, rfl⟩
    have HV : Hid (findV q S d p true = .tuple #[.pointer none, .int .i64 0, .int .i64 c]) := hide (by unfold findV; rw [if_neg h0, ← hc])
    have hne : (c == 0) = false := by rw [hc]; simpa using h0
    clear h0 h hc
    go_enter Tryd.func22, Tryd.ntmps22
    go_wp2_with (first
      | (refine wpList_box_blk rfl 36 (.tmp 1) rfl (.agg #[.int .i64 d, .int .i64 p]) rfl ?_; intro w1 hb1 hl1 hs1; clear hs1)
      | (refine wpList_load_blk rfl 36 (.tmp 3) rfl w.heap.size 0 36 _ hb1 rfl [.int .i64 d, .int .i64 p] _ (fun j v hj => by rw [Nat.zero_add]; simpa [Value.cells] using hj) Tryd.underlying36 rfl ext2_info ?_)
      | (refine wpList_build_is rfl 68 #[(0, .func 36), (1, .const (.int .i64 1))] rfl [(0, .func (.func 36) #[] #[]), (1, .int .i64 1)] (by simp only [List.map_toArray, List.map_cons, List.map_nil]; rfl) _ (rules_built _ _) ?_)
      | (refine wpList_build_is rfl 68 #[(0, .func 40), (1, .const (.int .i64 9))] rfl [(0, .func (.func 40) #[] #[]), (1, .int .i64 9)] (by simp only [List.map_toArray, List.map_cons, List.map_nil]; rfl) _ (rules_built _ _) ?_)
      | (refine wpList_rules rfl (.tmp 11) (.tmp 12) rfl _ _ rfl rfl ?_; intro w2 hb2 hl2 hs2; clear hs2; have hl02 : Below w.heap.size w w2 := hl1.trans (hl2.mono hl1.size); have HI2 := hide (HH.out.later hl02); have HB2 := hide hb2; clear hb2)
      | (go_at_call 35; refine (find_true HI2.out hok d p h1 h2 g1 g2 _ HB2.out).mono ?_; rw [HV.out]; rintro _ w3 ⟨rfl, hl3⟩; have hl03 : Below w.heap.size w w3 := hl02.trans (hl3.mono hl02.size)))
    go_ret
    exact ⟨by rw [HZ.out]; rfl, hl03⟩
set_option maxRecDepth 100000 in
set_option maxHeartbeats 1000000 in
theorem extTakeAt_any (h : ExtIn w b x q S) (hok : S.Ok) (d p : Int) (h1 : -9223372036854775808 ≤ p) (h2 : p < 9223372036854775808) (g1 : -9223372036854775808 ≤ d) (g2 : d < 9223372036854775808) :
    Calls Tryd.prog 18 #[.pointer (some ⟨b, 0, none⟩), .agg #[.int .i64 d, .int .i64 p]] w fun e w' => e = .returned (.int .i64 (findE S d p false)) ∧ ExtIn w' b x q (S.poke d p true) ∧ Turn (EFoot b x q S) w w' := by
  have HH := hide h
  by_cases h0 : findE S d p false = 0
  · have HV : Hid (findV q S d p false = .tuple #[.pointer (some ⟨q d.toNat, 0, none⟩), .int .i64 (idxI p : Int), .int .i64 0]) := hide (by unfold findV; rw [if_pos h0])
    have HP : Hid (S.poke d p true = S.setT d.toNat (put (S.t d.toNat) (idxI p) true)) := hide (by unfold Ext.poke; exact if_pos h0)
    obtain ⟨m, hdm, hm, ho, ht⟩ := findE_zero h0
    have hdn : d.toNat = m := by omega
    rw [hdn] at HV HP
    have HM := hide (h.mem m hm)
    have HK := hide hm
    have HI := hide (oneB_parts ho).2
    have HT := hide ht
    have HE := hide h0
    clear h0 h hm ho ht hdn hdm
    go_enter Tryd.func18, Tryd.ntmps18
    go_wp2_with (first
      | (refine wpList_box_blk rfl 36 (.tmp 1) rfl (.agg #[.int .i64 d, .int .i64 p]) rfl ?_; intro w1 hb1 hl1 hs1; clear hs1)
      | (refine wpList_load_blk rfl 36 (.tmp 3) rfl w.heap.size 0 36 _ hb1 rfl [.int .i64 d, .int .i64 p] _ (fun j v hj => by rw [Nat.zero_add]; simpa [Value.cells] using hj) Tryd.underlying36 rfl ext2_info ?_)
      | (refine wpList_build_is rfl 68 #[(0, .func 36), (1, .const (.int .i64 1))] rfl [(0, .func (.func 36) #[] #[]), (1, .int .i64 1)] (by simp only [List.map_toArray, List.map_cons, List.map_nil]; rfl) _ (rules_built _ _) ?_)
      | (refine wpList_build_is rfl 68 #[(0, .func 37), (1, .const (.int .i64 9))] rfl [(0, .func (.func 37) #[] #[]), (1, .int .i64 9)] (by simp only [List.map_toArray, List.map_cons, List.map_nil]; rfl) _ (rules_built _ _) ?_)
      | (refine wpList_rules rfl (.tmp 11) (.tmp 12) rfl _ _ rfl rfl ?_; intro w2 hb2 hl2 hs2; clear hs2; have hl02 : Below w.heap.size w w2 := hl1.trans (hl2.mono hl1.size); have HI2 := hide (HH.out.later hl02); have HB2 := hide hb2; clear hb2)
      | (go_at_call 35; refine (find_false HI2.out hok d p h1 h2 g1 g2 _ HB2.out).mono ?_; rw [HV.out]; rintro _ w3 ⟨rfl, hl3⟩; have hl03 : Below w.heap.size w w3 := hl02.trans (hl3.mono hl02.size)))
    refine (takeAt_yes (idxI p) ((HM.out.later hl03)) HI.out HT.out).mono ?_
    rintro _ w4 ⟨rfl, hm4, hg4⟩
    have HM4 := hide hm4
    have HG4 := hide hg4
    clear hm4 hg4
    go_wp2
    go_ret
    refine ⟨by rw [HE.out]; rfl, ?_, (Turn.of_below hl03).grown HG4.out (fun g e => by injection e with e; subst e; exact .inl (.inr (.inr ⟨m, HK.out, rfl⟩)))⟩
    rw [HP.out]
    exact (HH.out.later hl03).setT HK.out HM4.out HG4.out
  · obtain ⟨c, hc⟩ : ∃ c, c = findE S d p false := ⟨_, rfl⟩
    have HV : Hid (findV q S d p false = .tuple #[.pointer none, .int .i64 0, .int .i64 c]) := hide (by unfold findV; rw [if_neg h0, ← hc])
    have HP : Hid (S.poke d p true = S) := hide (by unfold Ext.poke; exact if_neg h0)
    have hne : (c != 0) = true := by rw [hc]; simpa using h0
    have HC := hide hc
    clear h0 h hc
    go_enter Tryd.func18, Tryd.ntmps18
    go_wp2_with (first
      | (refine wpList_box_blk rfl 36 (.tmp 1) rfl (.agg #[.int .i64 d, .int .i64 p]) rfl ?_; intro w1 hb1 hl1 hs1; clear hs1)
      | (refine wpList_load_blk rfl 36 (.tmp 3) rfl w.heap.size 0 36 _ hb1 rfl [.int .i64 d, .int .i64 p] _ (fun j v hj => by rw [Nat.zero_add]; simpa [Value.cells] using hj) Tryd.underlying36 rfl ext2_info ?_)
      | (refine wpList_build_is rfl 68 #[(0, .func 36), (1, .const (.int .i64 1))] rfl [(0, .func (.func 36) #[] #[]), (1, .int .i64 1)] (by simp only [List.map_toArray, List.map_cons, List.map_nil]; rfl) _ (rules_built _ _) ?_)
      | (refine wpList_build_is rfl 68 #[(0, .func 37), (1, .const (.int .i64 9))] rfl [(0, .func (.func 37) #[] #[]), (1, .int .i64 9)] (by simp only [List.map_toArray, List.map_cons, List.map_nil]; rfl) _ (rules_built _ _) ?_)
      | (refine wpList_rules rfl (.tmp 11) (.tmp 12) rfl _ _ rfl rfl ?_; intro w2 hb2 hl2 hs2; clear hs2; have hl02 : Below w.heap.size w w2 := hl1.trans (hl2.mono hl1.size); have HI2 := hide (HH.out.later hl02); have HB2 := hide hb2; clear hb2)
      | (go_at_call 35; refine (find_false HI2.out hok d p h1 h2 g1 g2 _ HB2.out).mono ?_; rw [HV.out]; rintro _ w3 ⟨rfl, hl3⟩; have hl03 : Below w.heap.size w w3 := hl02.trans (hl3.mono hl02.size)))
    go_ret
    refine ⟨by rw [← HC.out]; rfl, ?_, Turn.of_below hl03⟩
    rw [HP.out]
    exact HH.out.later hl03
set_option maxRecDepth 100000 in
set_option maxHeartbeats 1000000 in
theorem extFree_any (h : ExtIn w b x q S) (hok : S.Ok) (d p : Int) (h1 : -9223372036854775808 ≤ p) (h2 : p < 9223372036854775808) (g1 : -9223372036854775808 ≤ d) (g2 : d < 9223372036854775808) :
    Calls Tryd.prog 20 #[.pointer (some ⟨b, 0, none⟩), .agg #[.int .i64 d, .int .i64 p]] w fun e w' => e = .returned (.int .i64 (findE S d p true)) ∧ ExtIn w' b x q (S.poke d p false) ∧ Turn (EFoot b x q S) w w' := by
  have HH := hide h
  by_cases h0 : findE S d p true = 0
  · have HV : Hid (findV q S d p true = .tuple #[.pointer (some ⟨q d.toNat, 0, none⟩), .int .i64 (idxI p : Int), .int .i64 0]) := hide (by unfold findV; rw [if_pos h0])
    have HP : Hid (S.poke d p false = S.setT d.toNat (put (S.t d.toNat) (idxI p) false)) := hide (by unfold Ext.poke; exact if_pos h0)
    obtain ⟨m, hdm, hm, ho, ht⟩ := findE_zero h0
    have hdn : d.toNat = m := by omega
    rw [hdn] at HV HP
    have HM := hide (h.mem m hm)
    have HK := hide hm
    have HI := hide (oneB_parts ho).2
    have HT := hide ht
    have HE := hide h0
    clear h0 h hm ho ht hdn hdm
    go_enter Tryd.func20, Tryd.ntmps20
    go_wp2_with (first
      | (refine wpList_box_blk rfl 36 (.tmp 1) rfl (.agg #[.int .i64 d, .int .i64 p]) rfl ?_; intro w1 hb1 hl1 hs1; clear hs1)
      | (refine wpList_load_blk rfl 36 (.tmp 3) rfl w.heap.size 0 36 _ hb1 rfl [.int .i64 d, .int .i64 p] _ (fun j v hj => by rw [Nat.zero_add]; simpa [Value.cells] using hj) Tryd.underlying36 rfl ext2_info ?_)
      | (refine wpList_build_is rfl 68 #[(0, .func 36), (1, .const (.int .i64 1))] rfl [(0, .func (.func 36) #[] #[]), (1, .int .i64 1)] (by simp only [List.map_toArray, List.map_cons, List.map_nil]; rfl) _ (rules_built _ _) ?_)
      | (refine wpList_build_is rfl 68 #[(0, .func 40), (1, .const (.int .i64 9))] rfl [(0, .func (.func 40) #[] #[]), (1, .int .i64 9)] (by simp only [List.map_toArray, List.map_cons, List.map_nil]; rfl) _ (rules_built _ _) ?_)
      | (refine wpList_rules rfl (.tmp 11) (.tmp 12) rfl _ _ rfl rfl ?_; intro w2 hb2 hl2 hs2; clear hs2; have hl02 : Below w.heap.size w w2 := hl1.trans (hl2.mono hl1.size); have HI2 := hide (HH.out.later hl02); have HB2 := hide hb2; clear hb2)
      | (go_at_call 35; refine (find_true HI2.out hok d p h1 h2 g1 g2 _ HB2.out).mono ?_; rw [HV.out]; rintro _ w3 ⟨rfl, hl3⟩; have hl03 : Below w.heap.size w w3 := hl02.trans (hl3.mono hl02.size)))
    refine (free_yes (idxI p) ((HM.out.later hl03)) HI.out HT.out).mono ?_
    rintro _ w4 ⟨rfl, hm4, hg4⟩
    have HM4 := hide hm4
    have HG4 := hide hg4
    clear hm4 hg4
    go_wp2
    go_ret
    refine ⟨by rw [HE.out]; rfl, ?_, (Turn.of_below hl03).grown HG4.out (fun g e => by injection e with e; subst e; exact .inl (.inr (.inr ⟨m, HK.out, rfl⟩)))⟩
    rw [HP.out]
    exact (HH.out.later hl03).setT HK.out HM4.out HG4.out
  · obtain ⟨c, hc⟩ : ∃ c, c = findE S d p true := ⟨_, rfl⟩
    have HV : Hid (findV q S d p true = .tuple #[.pointer none, .int .i64 0, .int .i64 c]) := hide (by unfold findV; rw [if_neg h0, ← hc])
    have HP : Hid (S.poke d p false = S) := hide (by unfold Ext.poke; exact if_neg h0)
    have hne : (c != 0) = true := by rw [hc]; simpa using h0
    have HC := hide hc
    clear h0 h hc
    go_enter Tryd.func20, Tryd.ntmps20
    go_wp2_with (first
      | (refine wpList_box_blk rfl 36 (.tmp 1) rfl (.agg #[.int .i64 d, .int .i64 p]) rfl ?_; intro w1 hb1 hl1 hs1; clear hs1)
      | (refine wpList_load_blk rfl 36 (.tmp 3) rfl w.heap.size 0 36 _ hb1 rfl [.int .i64 d, .int .i64 p] _ (fun j v hj => by rw [Nat.zero_add]; simpa [Value.cells] using hj) Tryd.underlying36 rfl ext2_info ?_)
      | (refine wpList_build_is rfl 68 #[(0, .func 36), (1, .const (.int .i64 1))] rfl [(0, .func (.func 36) #[] #[]), (1, .int .i64 1)] (by simp only [List.map_toArray, List.map_cons, List.map_nil]; rfl) _ (rules_built _ _) ?_)
      | (refine wpList_build_is rfl 68 #[(0, .func 40), (1, .const (.int .i64 9))] rfl [(0, .func (.func 40) #[] #[]), (1, .int .i64 9)] (by simp only [List.map_toArray, List.map_cons, List.map_nil]; rfl) _ (rules_built _ _) ?_)
      | (refine wpList_rules rfl (.tmp 11) (.tmp 12) rfl _ _ rfl rfl ?_; intro w2 hb2 hl2 hs2; clear hs2; have hl02 : Below w.heap.size w w2 := hl1.trans (hl2.mono hl1.size); have HI2 := hide (HH.out.later hl02); have HB2 := hide hb2; clear hb2)
      | (go_at_call 35; refine (find_true HI2.out hok d p h1 h2 g1 g2 _ HB2.out).mono ?_; rw [HV.out]; rintro _ w3 ⟨rfl, hl3⟩; have hl03 : Below w.heap.size w w3 := hl02.trans (hl3.mono hl02.size)))
    go_ret
    refine ⟨by rw [← HC.out]; rfl, ?_, Turn.of_below hl03⟩
    rw [HP.out]
    exact HH.out.later hl03
end
#print axioms extFree_any
end Go.Proofs.YtmaiikmgpeafkabDoor
