/- What isOne, isTaken, isFree and find of extent answer. -/
import Derived.Test.YtmaiikmgpeafkabDoorExt
import Derived.Deep.QuietTactic
import Derived.BigQuiet
import Derived.OwnWalk
namespace Go.Proofs.YtmaiikmgpeafkabDoor
open Go.RowKit

/-- An extent of a member of n extents begins at p. -/
def oneB (n : Nat) (p : Int) : Bool := okI p && decide (idxI p < n)
theorem oneB_parts {n : Nat} {p : Int} (h : oneB n p = true) : okI p = true ∧ idxI p < n := by
  unfold oneB at h
  simpa using h
theorem idxI_le {p : Int} (h2 : p < 9223372036854775808) : idxI p < 1152921504606846977 := by
  unfold idxI
  split <;> omega
section
variable {b n : Nat} {t : Nat → Bool} {w : World}
theorem isOne_any (hm : MapAt w b n t) (p : Int) (h1 : -9223372036854775808 ≤ p) (h2 : p < 9223372036854775808) :
    Calls Tryd.prog 36 #[.pointer (some ⟨b, 0, none⟩), .int .i64 p] w fun e w' => e = .returned (.bool (oneB n p)) ∧ w = w' := by
  have HM := hide hm
  unfold oneB
  have hlt := idxI_le h2
  cases ho : okI p
  · have HO := hide ho
    clear ho hm
    go_enter Tryd.func36, Tryd.ntmps36
    go_wp2_with (first
      | (go_at_call 13; refine (extIndex_any p h1 h2).mono ?_; rw [HO.out]; rintro _ _ ⟨rfl, rfl⟩)
      | (go_at_call 46; refine (len_any HM.out).mono ?_; rintro _ _ ⟨rfl, rfl⟩))
    go_ret
    exact ⟨rfl, rfl⟩
  · have HO := hide ho
    clear ho hm
    go_enter Tryd.func36, Tryd.ntmps36
    go_wp2_with (first
      | (go_at_call 13; refine (extIndex_any p h1 h2).mono ?_; rw [HO.out]; rintro _ _ ⟨rfl, rfl⟩)
      | (go_at_call 46; refine (len_any HM.out).mono ?_; rintro _ _ ⟨rfl, rfl⟩))
    go_ret
    exact ⟨rfl, rfl⟩
theorem isTaken_any (hm : MapAt w b n t) (p : Int) (h1 : -9223372036854775808 ≤ p) (h2 : p < 9223372036854775808) (ho : oneB n p = true) :
    Calls Tryd.prog 40 #[.pointer (some ⟨b, 0, none⟩), .int .i64 p] w fun e w' => e = .returned (.bool (t (idxI p))) ∧ ∃ k, w' = w.drewN k := by
  have hlt := idxI_le h2
  obtain ⟨hk, hin⟩ := oneB_parts ho
  have HK := hide hk
  have HM := hide hm
  clear ho hk hm
  obtain ⟨i, hi⟩ : ∃ i, i = idxI p := ⟨_, rfl⟩
  rw [← hi] at hin hlt ⊢
  have HI := hide hi
  clear hi
  go_enter Tryd.func40, Tryd.ntmps40
  go_wp2_with (first
    | (go_at_call 13; refine (extIndex_any p h1 h2).mono ?_; rw [HK.out, ← HI.out]; rintro _ _ ⟨rfl, rfl⟩)
    | (go_at_call 49; refine (has_in i HM.out hin).mono ?_; rintro _ _ ⟨rfl, k, rfl⟩))
  go_ret
  exact ⟨rfl, k, rfl⟩
theorem isFree_any (hm : MapAt w b n t) (p : Int) (h1 : -9223372036854775808 ≤ p) (h2 : p < 9223372036854775808) (ho : oneB n p = true) :
    Calls Tryd.prog 37 #[.pointer (some ⟨b, 0, none⟩), .int .i64 p] w fun e w' => e = .returned (.bool (!t (idxI p))) ∧ ∃ k, w' = w.drewN k := by
  go_enter Tryd.func37, Tryd.ntmps37
  go_wp2_with (first
    | (go_at_call 40; refine (isTaken_any hm p h1 h2 ho).mono ?_; rintro _ _ ⟨rfl, k, rfl⟩))
  go_ret
  exact ⟨rfl, k, rfl⟩
end
/-- What find (v: is it to be taken?) says is wrong, and what it answers. -/
def findE (S : Ext) (d p : Int) (v : Bool) : Int := if inE S d then (if oneB (S.n d.toNat) p then (if S.t d.toNat (idxI p) = v then 0 else 9) else 1) else 8
def findV (q : Nat → Nat) (S : Ext) (d p : Int) (v : Bool) : Value :=
  if findE S d p v = 0 then .tuple #[.pointer (some ⟨q d.toNat, 0, none⟩), .int .i64 (idxI p : Int), .int .i64 0] else .tuple #[.pointer none, .int .i64 0, .int .i64 (findE S d p v)]
/-- Two rules. -/
def rulesC (f g : Nat) : Array Value := #[.func (.func f) #[] #[], .int .i64 1, .func (.func g) #[] #[], .int .i64 9]
theorem below_drewN {B : Nat} {a c : World} (h : Below B a c) (k : Nat) : Below B a (c.drewN k) := ⟨h.os, h.tape, h.output, h.size, h.block⟩
theorem rules_cut0 (f g : Nat) : ∀ j v, ([.func (.func f) #[] #[], .int .i64 1] : List Value)[j]? = some v → (rulesC f g)[0 + j]? = some v := by
  intro j v h
  match j, h with
  | 0, h => exact h
  | 1, h => exact h
  | n + 2, h => cases h
theorem rules_cut1 (f g : Nat) : ∀ j v, ([.func (.func g) #[] #[], .int .i64 9] : List Value)[j]? = some v → (rulesC f g)[2 + j]? = some v := by
  intro j v h
  match j, h with
  | 0, h => exact h
  | 1, h => exact h
  | n + 2, h => cases h
theorem rule_info : (Tryd.prog.info? 68).map (·.size) = some 2 := by kernel_rfl
theorem rule_one (f : Nat) (c : Int) : ∀ v ∈ ([.func (.func f) #[] #[], .int .i64 c] : List Value), v.oneCell' = true := by
  intro v hv
  simp only [List.mem_cons, List.not_mem_nil, or_false] at hv
  rcases hv with rfl | rfl <;> rfl
section
variable {b x : Nat} {q : Nat → Nat} {S : Ext} {w : World}

set_option maxRecDepth 100000 in
set_option maxHeartbeats 1000000 in
theorem find_true (h : ExtIn w b x q S) (_hok : S.Ok) (d p : Int) (h1 : -9223372036854775808 ≤ p) (h2 : p < 9223372036854775808) (g1 : -9223372036854775808 ≤ d) (g2 : d < 9223372036854775808) (r : Nat)
    (hr : Blk w r 68 (rulesC 36 40)) :
    Calls Tryd.prog 35 #[.pointer (some ⟨b, 0, none⟩), .agg #[.int .i64 d, .int .i64 p], .slice (some ⟨r, 0, none⟩) 2 2] w fun e w' => e = .returned (findV q S d p true) ∧ Below w.heap.size w w' := by
  obtain ⟨z, hz⟩ : ∃ z, z = findV q S d p true := ⟨_, rfl⟩
  have HZ := hide hz
  rw [← hz]
  have HH := hide h
  have hrl := hr.lt
  have HL := hide (fun (w1 : World) (hi : ExtIn w1 b x q S) => hi.look d g1 g2)
  cases hd : inE S d with
  | true =>
    obtain ⟨m, rfl, hm⟩ := inE_nat hd
    have hmm := h.mem m hm
    rw [lookV_in hm] at HL
    have HMM := hide hmm
    have HD := hide hd
    have HMK := hide hm
    have HRB := hide hr
    clear hz hr h hmm hd hm
    go_enter Tryd.func35, Tryd.ntmps35
    go_wp2_with (first
      | (refine wpList_box_blk rfl 36 (.tmp 1) rfl (.agg #[.int .i64 (m : Int), .int .i64 p]) rfl ?_; intro w1 hb1 hl1 hs1; clear hs1))
    have p0 : w1.cell? ⟨w.heap.size, 0, none⟩ = some (.int .i64 (m : Int)) := hb1.cell 0
    have hi1 := HH.out.later hl1
    have k0 := hi1.c0
    have HL2 := hide (fun k => HL.out _ (hi1.drewN k))
    clear hi1
    refine wp_region_quiet_lit (by kernel_rfl) (by kernel_rfl) ?_
    iterate 6 (go_big_quiet_step (fail))
    refine quiet_look rfl 42 (.tmp 19) (.tmp 21) true rfl _ _ rfl rfl _ (by rintro w2 ⟨q2, rfl⟩; exact HL2.out q2) ?_
    simp only [Act.put, List.setIfInBounds_toArray, List.set_cons_succ, List.set_cons_zero]
    iterate 5 (go_big_quiet_step (fail))
    refine wpQuiet_nil ?_
    rintro w2 ⟨nq, rfl⟩
    clear HL2
    go_wp2
    have hl1d : Below w.heap.size w (w1.drewN nq) := below_drewN hl1 _
    have HB1 := hide (hb1.drewN nq)
    have HZ1 := hide hl1d.size
    obtain ⟨w2, hw2⟩ : ∃ w2, w2 = w1.drewN nq := ⟨_, rfl⟩
    rw [← hw2] at hl1d HB1 HZ1 ⊢
    clear hb1 p0 k0 hl1 hw2
    go_loopw [29] (fun i wr => (i = .int .i64 0 ∨ (i = .int .i64 1 ∧ Hid (oneB (S.n m) p = true)) ∨ (i = .int .i64 2 ∧ Hid (oneB (S.n m) p = true) ∧ Hid (S.t m (idxI p) = true))) ∧ Hid (Blk wr w.heap.size 36 #[.int .i64 (m : Int), .int .i64 p]) ∧ Below w.heap.size w wr) (fun i _ => 3 - (intOf i).toNat)
    case atStart => exact ⟨.inl rfl, HB1, hl1d⟩
    case round =>
      obtain ⟨hi, HBR, hbel⟩ := hrel
      have hrr := hide (HRB.out.below hbel hrl)
      have hmr := hide ((HMM.out).below hbel HMM.out.lt)
      have hwr := hbel.size
      have hz1 := HZ1.out
      rcases hi with rfl | ⟨rfl, HO⟩ | ⟨rfl, HO, HT⟩
      · have HC : Hid (∀ w3, Below wr.heap.size wr w3 → Calls Tryd.prog 36 #[.pointer (some ⟨q m, 0, none⟩), .int .i64 p] w3 fun e w' => e = .returned (.bool (oneB (S.n m) p)) ∧ ∃ k, w' = w3.drewN k) := fun w3 hl => ((isOne_any (hmr.out.later hl) p h1 h2).mono (fun _ _ ⟨h, k⟩ => ⟨h, 0, k.symm⟩))
        clear hmr
        cases ho : (oneB (S.n m) p) with
        | false =>
          rw [ho] at HC
          have HFV : Hid (findV q S (m : Int) p true = .tuple #[.pointer none, .int .i64 0, .int .i64 1]) := by
            show findV q S (m : Int) p true = _
            have e : findE S (m : Int) p true = 1 := by unfold findE; rw [if_pos HD.out, Int.toNat_natCast]; rw [ho]; rfl
            unfold findV
            rw [if_neg (by rw [e]; decide), e]
          clear ho
          go_wp2_with (first
                    | (refine wpList_load_blk rfl 68 (.tmp 31) rfl r 0 68 _ hrr.out rfl [.func (.func 36) #[] #[], .int .i64 1] _ (rules_cut0 _ _) Tryd.underlying68 rfl rule_info ?_)
                    | (refine wpList_alloc_blk rfl 68 rfl _ (Tryd.zeroValue68 _) ?_; intro w2 hb2 hl2 hs2; clear hs2)
                    | (refine wpList_store_all rfl 68 (.tmp 12) (.tmp 32) rfl wr.heap.size 68 _ hb2 rfl [.func (.func 36) #[] #[], .int .i64 1] rfl rule_info rfl (rule_one _ _) ?_; intro w3 hb3 hg3 hs3; clear hs3; have hl3 : Below wr.heap.size wr w3 := hl2.grown hg3 hl2.size (fun g e => by injection e with e; omega); have f0 : w3.cell? ⟨wr.heap.size, 0, none⟩ = some (.func (.func 36) #[] #[]) := hb3.cell 0; have HB3 := hide hb3; have HBR3 := hide (HBR.out.below hl3 HBR.out.lt); have p1 : w3.cell? ⟨w.heap.size, 1, none⟩ = some (.int .i64 p) := HBR3.out.cell 1; have HL3 := hide hl3; clear hb2 hl2 hb3 hg3 hl3)
                    | (go_at_call 36; refine (HC.out w3 HL3.out).mono ?_; rintro _ _ ⟨rfl, kd, rfl⟩))
          have f1 : w3.cell? ⟨wr.heap.size, 1, none⟩ = some (.int .i64 1) := HB3.out.cell 1
          go_quiet (first | fail)
          go_wp2
          go_ret3
          exact ⟨by rw [HZ.out, HFV.out]; rfl, hbel.trans ((below_drewN (below_drewN HL3.out _) _).mono hwr)⟩
        | true =>
          rw [ho] at HC
          have HY : Hid (oneB (S.n m) p = true) := hide (ho)
          clear ho
          go_wp2_with (first
                    | (refine wpList_load_blk rfl 68 (.tmp 31) rfl r 0 68 _ hrr.out rfl [.func (.func 36) #[] #[], .int .i64 1] _ (rules_cut0 _ _) Tryd.underlying68 rfl rule_info ?_)
                    | (refine wpList_alloc_blk rfl 68 rfl _ (Tryd.zeroValue68 _) ?_; intro w2 hb2 hl2 hs2; clear hs2)
                    | (refine wpList_store_all rfl 68 (.tmp 12) (.tmp 32) rfl wr.heap.size 68 _ hb2 rfl [.func (.func 36) #[] #[], .int .i64 1] rfl rule_info rfl (rule_one _ _) ?_; intro w3 hb3 hg3 hs3; clear hs3; have hl3 : Below wr.heap.size wr w3 := hl2.grown hg3 hl2.size (fun g e => by injection e with e; omega); have f0 : w3.cell? ⟨wr.heap.size, 0, none⟩ = some (.func (.func 36) #[] #[]) := hb3.cell 0; have HB3 := hide hb3; have HBR3 := hide (HBR.out.below hl3 HBR.out.lt); have p1 : w3.cell? ⟨w.heap.size, 1, none⟩ = some (.int .i64 p) := HBR3.out.cell 1; have HL3 := hide hl3; clear hb2 hl2 hb3 hg3 hl3)
                    | (go_at_call 36; refine (HC.out w3 HL3.out).mono ?_; rintro _ _ ⟨rfl, kd, rfl⟩))
          go_roundw
          case rel => exact ⟨.inr (.inl ⟨by go_num, by first | exact HY | exact hide trivial⟩), hide (HBR3.out.drewN _), hbel.trans ((below_drewN HL3.out _).mono hwr)⟩
          case measure => simp [intOf]
      · have HC : Hid (∀ w3, Below wr.heap.size wr w3 → Calls Tryd.prog 40 #[.pointer (some ⟨q m, 0, none⟩), .int .i64 p] w3 fun e w' => e = .returned (.bool (S.t m (idxI p))) ∧ ∃ k, w' = w3.drewN k) := fun w3 hl => (isTaken_any (hmr.out.later hl) p h1 h2 HO.out)
        clear hmr
        cases ho : (S.t m (idxI p)) with
        | false =>
          rw [ho] at HC
          have HFV : Hid (findV q S (m : Int) p true = .tuple #[.pointer none, .int .i64 0, .int .i64 9]) := by
            show findV q S (m : Int) p true = _
            have e : findE S (m : Int) p true = 9 := by unfold findE; rw [if_pos HD.out, Int.toNat_natCast]; rw [if_pos HO.out, if_neg (by simpa using ho)]
            unfold findV
            rw [if_neg (by rw [e]; decide), e]
          clear ho
          go_wp2_with (first
                    | (refine wpList_load_blk rfl 68 (.tmp 31) rfl r 2 68 _ hrr.out rfl [.func (.func 40) #[] #[], .int .i64 9] _ (rules_cut1 _ _) Tryd.underlying68 rfl rule_info ?_)
                    | (refine wpList_alloc_blk rfl 68 rfl _ (Tryd.zeroValue68 _) ?_; intro w2 hb2 hl2 hs2; clear hs2)
                    | (refine wpList_store_all rfl 68 (.tmp 12) (.tmp 32) rfl wr.heap.size 68 _ hb2 rfl [.func (.func 40) #[] #[], .int .i64 9] rfl rule_info rfl (rule_one _ _) ?_; intro w3 hb3 hg3 hs3; clear hs3; have hl3 : Below wr.heap.size wr w3 := hl2.grown hg3 hl2.size (fun g e => by injection e with e; omega); have f0 : w3.cell? ⟨wr.heap.size, 0, none⟩ = some (.func (.func 40) #[] #[]) := hb3.cell 0; have HB3 := hide hb3; have HBR3 := hide (HBR.out.below hl3 HBR.out.lt); have p1 : w3.cell? ⟨w.heap.size, 1, none⟩ = some (.int .i64 p) := HBR3.out.cell 1; have HL3 := hide hl3; clear hb2 hl2 hb3 hg3 hl3)
                    | (go_at_call 40; refine (HC.out w3 HL3.out).mono ?_; rintro _ _ ⟨rfl, kd, rfl⟩))
          have f1 : w3.cell? ⟨wr.heap.size, 1, none⟩ = some (.int .i64 9) := HB3.out.cell 1
          go_quiet (first | fail)
          go_wp2
          go_ret3
          exact ⟨by rw [HZ.out, HFV.out]; rfl, hbel.trans ((below_drewN (below_drewN HL3.out _) _).mono hwr)⟩
        | true =>
          rw [ho] at HC
          have HY : Hid (S.t m (idxI p) = true) := hide (by simpa using ho)
          clear ho
          go_wp2_with (first
                    | (refine wpList_load_blk rfl 68 (.tmp 31) rfl r 2 68 _ hrr.out rfl [.func (.func 40) #[] #[], .int .i64 9] _ (rules_cut1 _ _) Tryd.underlying68 rfl rule_info ?_)
                    | (refine wpList_alloc_blk rfl 68 rfl _ (Tryd.zeroValue68 _) ?_; intro w2 hb2 hl2 hs2; clear hs2)
                    | (refine wpList_store_all rfl 68 (.tmp 12) (.tmp 32) rfl wr.heap.size 68 _ hb2 rfl [.func (.func 40) #[] #[], .int .i64 9] rfl rule_info rfl (rule_one _ _) ?_; intro w3 hb3 hg3 hs3; clear hs3; have hl3 : Below wr.heap.size wr w3 := hl2.grown hg3 hl2.size (fun g e => by injection e with e; omega); have f0 : w3.cell? ⟨wr.heap.size, 0, none⟩ = some (.func (.func 40) #[] #[]) := hb3.cell 0; have HB3 := hide hb3; have HBR3 := hide (HBR.out.below hl3 HBR.out.lt); have p1 : w3.cell? ⟨w.heap.size, 1, none⟩ = some (.int .i64 p) := HBR3.out.cell 1; have HL3 := hide hl3; clear hb2 hl2 hb3 hg3 hl3)
                    | (go_at_call 40; refine (HC.out w3 HL3.out).mono ?_; rintro _ _ ⟨rfl, kd, rfl⟩))
          go_roundw
          case rel => exact ⟨.inr (.inr ⟨by go_num, HO, by first | exact HY | exact hide trivial⟩), hide (HBR3.out.drewN _), hbel.trans ((below_drewN HL3.out _).mono hwr)⟩
          case measure => simp [intOf]
      · clear hmr
        have HFV : Hid (findV q S (m : Int) p true = .tuple #[.pointer (some ⟨q m, 0, none⟩), .int .i64 (idxI p : Int), .int .i64 0]) := by
          show findV q S (m : Int) p true = _
          have e : findE S (m : Int) p true = 0 := by unfold findE; rw [if_pos HD.out, Int.toNat_natCast, if_pos HO.out, if_pos HT.out]
          unfold findV
          rw [if_pos e]
          rfl
        have HK := hide (oneB_parts HO.out).1
        have p1 : wr.cell? ⟨w.heap.size, 1, none⟩ = some (.int .i64 p) := HBR.out.cell 1
        go_wp2_with (first
          | (go_at_call 13; refine (extIndex_any p h1 h2).mono ?_; rw [HK.out]; rintro _ _ ⟨rfl, rfl⟩))
        go_ret3
        exact ⟨by rw [HZ.out, HFV.out]; rfl, hbel⟩
  | false =>
    rw [lookV_out hd] at HL
    have HZ2 : Hid (z = .tuple #[.pointer none, .int .i64 0, .int .i64 8]) := by
      show z = _
      rw [HZ.out]
      unfold findV findE
      rw [hd]
      rfl
    clear HZ hz hr h hd
    go_enter Tryd.func35, Tryd.ntmps35
    go_wp2_with (first
      | (refine wpList_box_blk rfl 36 (.tmp 1) rfl (.agg #[.int .i64 d, .int .i64 p]) rfl ?_; intro w1 hb1 hl1 hs1; clear hs1))
    have p0 : w1.cell? ⟨w.heap.size, 0, none⟩ = some (.int .i64 d) := hb1.cell 0
    have hi1 := HH.out.later hl1
    have k0 := hi1.c0
    have HL2 := hide (fun k => HL.out _ (hi1.drewN k))
    clear hi1
    refine wp_region_quiet_lit (by kernel_rfl) (by kernel_rfl) ?_
    iterate 6 (go_big_quiet_step (fail))
    refine quiet_look rfl 42 (.tmp 19) (.tmp 21) true rfl _ _ rfl rfl _ (by rintro w2 ⟨q2, rfl⟩; exact HL2.out q2) ?_
    simp only [Act.put, List.setIfInBounds_toArray, List.set_cons_succ, List.set_cons_zero]
    iterate 5 (go_big_quiet_step (fail))
    refine wpQuiet_nil ?_
    rintro w2 ⟨nq, rfl⟩
    clear HL2
    go_wp2
    have hl1d : Below w.heap.size w (w1.drewN nq) := below_drewN hl1 _
    go_ret3
    exact ⟨by rw [HZ2.out]; rfl, hl1d⟩

set_option maxRecDepth 100000 in
set_option maxHeartbeats 1000000 in
theorem find_false (h : ExtIn w b x q S) (_hok : S.Ok) (d p : Int) (h1 : -9223372036854775808 ≤ p) (h2 : p < 9223372036854775808) (g1 : -9223372036854775808 ≤ d) (g2 : d < 9223372036854775808) (r : Nat)
    (hr : Blk w r 68 (rulesC 36 37)) :
    Calls Tryd.prog 35 #[.pointer (some ⟨b, 0, none⟩), .agg #[.int .i64 d, .int .i64 p], .slice (some ⟨r, 0, none⟩) 2 2] w fun e w' => e = .returned (findV q S d p false) ∧ Below w.heap.size w w' := by
  obtain ⟨z, hz⟩ : ∃ z, z = findV q S d p false := ⟨_, rfl⟩
  have HZ := hide hz
  rw [← hz]
  have HH := hide h
  have hrl := hr.lt
  have HL := hide (fun (w1 : World) (hi : ExtIn w1 b x q S) => hi.look d g1 g2)
  cases hd : inE S d with
  | true =>
    obtain ⟨m, rfl, hm⟩ := inE_nat hd
    have hmm := h.mem m hm
    rw [lookV_in hm] at HL
    have HMM := hide hmm
    have HD := hide hd
    have HMK := hide hm
    have HRB := hide hr
    clear hz hr h hmm hd hm
    go_enter Tryd.func35, Tryd.ntmps35
    go_wp2_with (first
      | (refine wpList_box_blk rfl 36 (.tmp 1) rfl (.agg #[.int .i64 (m : Int), .int .i64 p]) rfl ?_; intro w1 hb1 hl1 hs1; clear hs1))
    have p0 : w1.cell? ⟨w.heap.size, 0, none⟩ = some (.int .i64 (m : Int)) := hb1.cell 0
    have hi1 := HH.out.later hl1
    have k0 := hi1.c0
    have HL2 := hide (fun k => HL.out _ (hi1.drewN k))
    clear hi1
    refine wp_region_quiet_lit (by kernel_rfl) (by kernel_rfl) ?_
    iterate 6 (go_big_quiet_step (fail))
    refine quiet_look rfl 42 (.tmp 19) (.tmp 21) true rfl _ _ rfl rfl _ (by rintro w2 ⟨q2, rfl⟩; exact HL2.out q2) ?_
    simp only [Act.put, List.setIfInBounds_toArray, List.set_cons_succ, List.set_cons_zero]
    iterate 5 (go_big_quiet_step (fail))
    refine wpQuiet_nil ?_
    rintro w2 ⟨nq, rfl⟩
    clear HL2
    go_wp2
    have hl1d : Below w.heap.size w (w1.drewN nq) := below_drewN hl1 _
    have HB1 := hide (hb1.drewN nq)
    have HZ1 := hide hl1d.size
    obtain ⟨w2, hw2⟩ : ∃ w2, w2 = w1.drewN nq := ⟨_, rfl⟩
    rw [← hw2] at hl1d HB1 HZ1 ⊢
    clear hb1 p0 k0 hl1 hw2
    go_loopw [29] (fun i wr => (i = .int .i64 0 ∨ (i = .int .i64 1 ∧ Hid (oneB (S.n m) p = true)) ∨ (i = .int .i64 2 ∧ Hid (oneB (S.n m) p = true) ∧ Hid (S.t m (idxI p) = false))) ∧ Hid (Blk wr w.heap.size 36 #[.int .i64 (m : Int), .int .i64 p]) ∧ Below w.heap.size w wr) (fun i _ => 3 - (intOf i).toNat)
    case atStart => exact ⟨.inl rfl, HB1, hl1d⟩
    case round =>
      obtain ⟨hi, HBR, hbel⟩ := hrel
      have hrr := hide (HRB.out.below hbel hrl)
      have hmr := hide ((HMM.out).below hbel HMM.out.lt)
      have hwr := hbel.size
      have hz1 := HZ1.out
      rcases hi with rfl | ⟨rfl, HO⟩ | ⟨rfl, HO, HT⟩
      · have HC : Hid (∀ w3, Below wr.heap.size wr w3 → Calls Tryd.prog 36 #[.pointer (some ⟨q m, 0, none⟩), .int .i64 p] w3 fun e w' => e = .returned (.bool (oneB (S.n m) p)) ∧ ∃ k, w' = w3.drewN k) := fun w3 hl => ((isOne_any (hmr.out.later hl) p h1 h2).mono (fun _ _ ⟨h, k⟩ => ⟨h, 0, k.symm⟩))
        clear hmr
        cases ho : (oneB (S.n m) p) with
        | false =>
          rw [ho] at HC
          have HFV : Hid (findV q S (m : Int) p false = .tuple #[.pointer none, .int .i64 0, .int .i64 1]) := by
            show findV q S (m : Int) p false = _
            have e : findE S (m : Int) p false = 1 := by unfold findE; rw [if_pos HD.out, Int.toNat_natCast]; rw [ho]; rfl
            unfold findV
            rw [if_neg (by rw [e]; decide), e]
          clear ho
          go_wp2_with (first
                    | (refine wpList_load_blk rfl 68 (.tmp 31) rfl r 0 68 _ hrr.out rfl [.func (.func 36) #[] #[], .int .i64 1] _ (rules_cut0 _ _) Tryd.underlying68 rfl rule_info ?_)
                    | (refine wpList_alloc_blk rfl 68 rfl _ (Tryd.zeroValue68 _) ?_; intro w2 hb2 hl2 hs2; clear hs2)
                    | (refine wpList_store_all rfl 68 (.tmp 12) (.tmp 32) rfl wr.heap.size 68 _ hb2 rfl [.func (.func 36) #[] #[], .int .i64 1] rfl rule_info rfl (rule_one _ _) ?_; intro w3 hb3 hg3 hs3; clear hs3; have hl3 : Below wr.heap.size wr w3 := hl2.grown hg3 hl2.size (fun g e => by injection e with e; omega); have f0 : w3.cell? ⟨wr.heap.size, 0, none⟩ = some (.func (.func 36) #[] #[]) := hb3.cell 0; have HB3 := hide hb3; have HBR3 := hide (HBR.out.below hl3 HBR.out.lt); have p1 : w3.cell? ⟨w.heap.size, 1, none⟩ = some (.int .i64 p) := HBR3.out.cell 1; have HL3 := hide hl3; clear hb2 hl2 hb3 hg3 hl3)
                    | (go_at_call 36; refine (HC.out w3 HL3.out).mono ?_; rintro _ _ ⟨rfl, kd, rfl⟩))
          have f1 : w3.cell? ⟨wr.heap.size, 1, none⟩ = some (.int .i64 1) := HB3.out.cell 1
          go_quiet (first | fail)
          go_wp2
          go_ret3
          exact ⟨by rw [HZ.out, HFV.out]; rfl, hbel.trans ((below_drewN (below_drewN HL3.out _) _).mono hwr)⟩
        | true =>
          rw [ho] at HC
          have HY : Hid (oneB (S.n m) p = true) := hide (ho)
          clear ho
          go_wp2_with (first
                    | (refine wpList_load_blk rfl 68 (.tmp 31) rfl r 0 68 _ hrr.out rfl [.func (.func 36) #[] #[], .int .i64 1] _ (rules_cut0 _ _) Tryd.underlying68 rfl rule_info ?_)
                    | (refine wpList_alloc_blk rfl 68 rfl _ (Tryd.zeroValue68 _) ?_; intro w2 hb2 hl2 hs2; clear hs2)
                    | (refine wpList_store_all rfl 68 (.tmp 12) (.tmp 32) rfl wr.heap.size 68 _ hb2 rfl [.func (.func 36) #[] #[], .int .i64 1] rfl rule_info rfl (rule_one _ _) ?_; intro w3 hb3 hg3 hs3; clear hs3; have hl3 : Below wr.heap.size wr w3 := hl2.grown hg3 hl2.size (fun g e => by injection e with e; omega); have f0 : w3.cell? ⟨wr.heap.size, 0, none⟩ = some (.func (.func 36) #[] #[]) := hb3.cell 0; have HB3 := hide hb3; have HBR3 := hide (HBR.out.below hl3 HBR.out.lt); have p1 : w3.cell? ⟨w.heap.size, 1, none⟩ = some (.int .i64 p) := HBR3.out.cell 1; have HL3 := hide hl3; clear hb2 hl2 hb3 hg3 hl3)
                    | (go_at_call 36; refine (HC.out w3 HL3.out).mono ?_; rintro _ _ ⟨rfl, kd, rfl⟩))
          go_roundw
          case rel => exact ⟨.inr (.inl ⟨by go_num, by first | exact HY | exact hide trivial⟩), hide (HBR3.out.drewN _), hbel.trans ((below_drewN HL3.out _).mono hwr)⟩
          case measure => simp [intOf]
      · have HC : Hid (∀ w3, Below wr.heap.size wr w3 → Calls Tryd.prog 37 #[.pointer (some ⟨q m, 0, none⟩), .int .i64 p] w3 fun e w' => e = .returned (.bool (!S.t m (idxI p))) ∧ ∃ k, w' = w3.drewN k) := fun w3 hl => (isFree_any (hmr.out.later hl) p h1 h2 HO.out)
        clear hmr
        cases ho : (!S.t m (idxI p)) with
        | false =>
          rw [ho] at HC
          have HFV : Hid (findV q S (m : Int) p false = .tuple #[.pointer none, .int .i64 0, .int .i64 9]) := by
            show findV q S (m : Int) p false = _
            have e : findE S (m : Int) p false = 9 := by unfold findE; rw [if_pos HD.out, Int.toNat_natCast]; rw [if_pos HO.out, if_neg (by simpa using ho)]
            unfold findV
            rw [if_neg (by rw [e]; decide), e]
          clear ho
          go_wp2_with (first
                    | (refine wpList_load_blk rfl 68 (.tmp 31) rfl r 2 68 _ hrr.out rfl [.func (.func 37) #[] #[], .int .i64 9] _ (rules_cut1 _ _) Tryd.underlying68 rfl rule_info ?_)
                    | (refine wpList_alloc_blk rfl 68 rfl _ (Tryd.zeroValue68 _) ?_; intro w2 hb2 hl2 hs2; clear hs2)
                    | (refine wpList_store_all rfl 68 (.tmp 12) (.tmp 32) rfl wr.heap.size 68 _ hb2 rfl [.func (.func 37) #[] #[], .int .i64 9] rfl rule_info rfl (rule_one _ _) ?_; intro w3 hb3 hg3 hs3; clear hs3; have hl3 : Below wr.heap.size wr w3 := hl2.grown hg3 hl2.size (fun g e => by injection e with e; omega); have f0 : w3.cell? ⟨wr.heap.size, 0, none⟩ = some (.func (.func 37) #[] #[]) := hb3.cell 0; have HB3 := hide hb3; have HBR3 := hide (HBR.out.below hl3 HBR.out.lt); have p1 : w3.cell? ⟨w.heap.size, 1, none⟩ = some (.int .i64 p) := HBR3.out.cell 1; have HL3 := hide hl3; clear hb2 hl2 hb3 hg3 hl3)
                    | (go_at_call 37; refine (HC.out w3 HL3.out).mono ?_; rintro _ _ ⟨rfl, kd, rfl⟩))
          have f1 : w3.cell? ⟨wr.heap.size, 1, none⟩ = some (.int .i64 9) := HB3.out.cell 1
          go_quiet (first | fail)
          go_wp2
          go_ret3
          exact ⟨by rw [HZ.out, HFV.out]; rfl, hbel.trans ((below_drewN (below_drewN HL3.out _) _).mono hwr)⟩
        | true =>
          rw [ho] at HC
          have HY : Hid (S.t m (idxI p) = false) := hide (by simpa using ho)
          clear ho
          go_wp2_with (first
                    | (refine wpList_load_blk rfl 68 (.tmp 31) rfl r 2 68 _ hrr.out rfl [.func (.func 37) #[] #[], .int .i64 9] _ (rules_cut1 _ _) Tryd.underlying68 rfl rule_info ?_)
                    | (refine wpList_alloc_blk rfl 68 rfl _ (Tryd.zeroValue68 _) ?_; intro w2 hb2 hl2 hs2; clear hs2)
                    | (refine wpList_store_all rfl 68 (.tmp 12) (.tmp 32) rfl wr.heap.size 68 _ hb2 rfl [.func (.func 37) #[] #[], .int .i64 9] rfl rule_info rfl (rule_one _ _) ?_; intro w3 hb3 hg3 hs3; clear hs3; have hl3 : Below wr.heap.size wr w3 := hl2.grown hg3 hl2.size (fun g e => by injection e with e; omega); have f0 : w3.cell? ⟨wr.heap.size, 0, none⟩ = some (.func (.func 37) #[] #[]) := hb3.cell 0; have HB3 := hide hb3; have HBR3 := hide (HBR.out.below hl3 HBR.out.lt); have p1 : w3.cell? ⟨w.heap.size, 1, none⟩ = some (.int .i64 p) := HBR3.out.cell 1; have HL3 := hide hl3; clear hb2 hl2 hb3 hg3 hl3)
                    | (go_at_call 37; refine (HC.out w3 HL3.out).mono ?_; rintro _ _ ⟨rfl, kd, rfl⟩))
          go_roundw
          case rel => exact ⟨.inr (.inr ⟨by go_num, HO, by first | exact HY | exact hide trivial⟩), hide (HBR3.out.drewN _), hbel.trans ((below_drewN HL3.out _).mono hwr)⟩
          case measure => simp [intOf]
      · clear hmr
        have HFV : Hid (findV q S (m : Int) p false = .tuple #[.pointer (some ⟨q m, 0, none⟩), .int .i64 (idxI p : Int), .int .i64 0]) := by
          show findV q S (m : Int) p false = _
          have e : findE S (m : Int) p false = 0 := by unfold findE; rw [if_pos HD.out, Int.toNat_natCast, if_pos HO.out, if_pos HT.out]
          unfold findV
          rw [if_pos e]
          rfl
        have HK := hide (oneB_parts HO.out).1
        have p1 : wr.cell? ⟨w.heap.size, 1, none⟩ = some (.int .i64 p) := HBR.out.cell 1
        go_wp2_with (first
          | (go_at_call 13; refine (extIndex_any p h1 h2).mono ?_; rw [HK.out]; rintro _ _ ⟨rfl, rfl⟩))
        go_ret3
        exact ⟨by rw [HZ.out, HFV.out]; rfl, hbel⟩
  | false =>
    rw [lookV_out hd] at HL
    have HZ2 : Hid (z = .tuple #[.pointer none, .int .i64 0, .int .i64 8]) := by
      show z = _
      rw [HZ.out]
      unfold findV findE
      rw [hd]
      rfl
    clear HZ hz hr h hd
    go_enter Tryd.func35, Tryd.ntmps35
    go_wp2_with (first
      | (refine wpList_box_blk rfl 36 (.tmp 1) rfl (.agg #[.int .i64 d, .int .i64 p]) rfl ?_; intro w1 hb1 hl1 hs1; clear hs1))
    have p0 : w1.cell? ⟨w.heap.size, 0, none⟩ = some (.int .i64 d) := hb1.cell 0
    have hi1 := HH.out.later hl1
    have k0 := hi1.c0
    have HL2 := hide (fun k => HL.out _ (hi1.drewN k))
    clear hi1
    refine wp_region_quiet_lit (by kernel_rfl) (by kernel_rfl) ?_
    iterate 6 (go_big_quiet_step (fail))
    refine quiet_look rfl 42 (.tmp 19) (.tmp 21) true rfl _ _ rfl rfl _ (by rintro w2 ⟨q2, rfl⟩; exact HL2.out q2) ?_
    simp only [Act.put, List.setIfInBounds_toArray, List.set_cons_succ, List.set_cons_zero]
    iterate 5 (go_big_quiet_step (fail))
    refine wpQuiet_nil ?_
    rintro w2 ⟨nq, rfl⟩
    clear HL2
    go_wp2
    have hl1d : Below w.heap.size w (w1.drewN nq) := below_drewN hl1 _
    go_ret3
    exact ⟨by rw [HZ2.out]; rfl, hl1d⟩
end
#print axioms find_true
end Go.Proofs.YtmaiikmgpeafkabDoor
