/- Texts of the proof laid one behind the other: ZHome ZRow ZSlot RngF ZIn ZBut ZCol ZMat. -/
import Derived.Test.YtmjjnbabfldbcaaGreatLump3
import Derived.Test.YtmjjnbabfldbcaaGreatStepB
import Derived.Test.YtmjjnbabfldbcaaGreatTwoRows
import Derived.Test.YtmjjnbabfldbcaaGreatLump2
import Derived.RangeFuncBox
import Derived.RangeFuncLeaves
import Derived.OwnWalkIn
import Derived.TacticsInMore
import Derived.LoopNIn
import Derived.LoopIn
import Derived.Test.YtmjjnbabfldbcaaGreatAgg
import Derived.Test.YtmjjnbabfldbcaaGreatPoke
import Derived.Maps.AppendAt
import Derived.Stop.RegionWithIn
namespace Go.Proofs.YtmjjnbabfldbcaaGreat
open Go.RowKit
set_option linter.unusedVariables false
section
variable {P : Program} {ops : Array Oper} {o : Oper} {a : Act} {w : World} {K : Act → World → Prop} {Q : Exit → Act → World → Prop} {E : Prop}
theorem step_alloc_blk (hg : o.guard = none) (ty : TypeId) (ho : o.op = .alloc ty) (z : Value) (hz : (zeroValue ty).run P w = .ok z w)
    (hK : ∀ w', Blk w' w.heap.size ty z.cells → Below w.heap.size w w' → w'.heap.size = w.heap.size + 1 → K (a.put o.dst (.pointer (some ⟨w.heap.size, 0, none⟩))) w') :
    if Region.wanted o (yielded ops a.tmps) = true then Oper.wp P o a w K Q else E := by
  have hw : Region.wanted o (yielded ops a.tmps) = true := by simp [Region.wanted, hg]
  rw [if_pos hw]
  have hrun : (Instr.alloc ty true (.tuple #[])).run P w = .ok (.pointer (some ⟨w.heap.size, 0, none⟩)) (w.alloc (.cells z.cells ty)) := by
    simp [Instr.alloc, hz, newVar, newRow, Result.andThen, go_sem]
  unfold Oper.wp
  simp [execOp, ho, hrun, Result.andThen]
  exact hK _ (Blk.new _ _ _) ((Below.refl _ _).alloc (Nat.le_refl _) _) (World.size_alloc _ _)
end
/-- A row: the extents, and which stripe of them. -/
def rowL (A : Option Addr) (n c : Nat) (t : Nat) : List Value := [.slice A n c, .int .i64 (t : Int)]
def rowV (A : Option Addr) (n c : Nat) (t : Nat) : Value := .agg (rowL A n c t).toArray
theorem rowL_one (A : Option Addr) (n c t : Nat) : ∀ v ∈ rowL A n c t, v.oneCell' = true := by
  intro v hv
  rcases List.mem_cons.1 hv with e | hv
  · subst e; rfl
  · rw [List.mem_singleton.1 hv]; rfl
theorem row_info : (Tryz.prog.info? 90).map (·.size) = some 2 := by kernel_rfl
theorem row_zero (w : World) : (zeroValue 90).run Tryz.prog w = .ok (.agg #[.slice none 0 0, .int .i64 0]) w := by kernel_rfl
theorem row_none : Tryz.prog.built 90 [] = some #[.slice none 0 0, .int .i64 0] := by kernel_rfl
theorem row_two (A : Option Addr) (n c : Nat) (t : Int) : Tryz.prog.built 90 [(0, .slice A n c), (1, .int .i64 t)] = some #[.slice A n c, .int .i64 t] := by kernel_rfl
set_option maxRecDepth 100000 in
theorem mhome_any (w : World) (ed ea slot : Int) (h1 : 0 ≤ ea) (h2 : ea ≤ 1000000) (h0 : 0 ≤ slot) (h8 : slot < 8) :
    Calls Tryz.prog 88 #[.agg #[.int .i64 ed, .int .i64 ea], .int .i64 slot] w fun e w' => e = .returned (.tuple #[.agg (plC (ed, ea + slot)).toArray, .bool true]) ∧ Below w.heap.size w w' := by
  have hn0 : ¬ slot < 0 := by omega
  have hn8 : ¬ slot ≥ 8 := by omega
  have hn8' : ¬ 8 ≤ slot := by omega
  have hwr : IntKind.i64.wrap (ea + slot) = ea + slot := by rw [IntWalk.i64_in] <;> omega
  go_enter Tryz.func88, Tryz.ntmps88
  go_wp2_with (first
    | ((with_reducible refine at_slot 2 ?_); refine wpList_box_blk rfl 64 _ rfl (.agg #[.int .i64 ed, .int .i64 ea]) rfl ?_; intro y1 hb1 hl1 hs1)
    | ((with_reducible refine at_slot 4 ?_); refine wpList_alloc_blk rfl 47 rfl _ (pl_zero _) ?_; intro y2 hb2 hl2 hs2; have hb1' := hb1.below hl2 hb1.lt; have c0 : y2.cell? ⟨w.heap.size, 0, none⟩ = some (.int .i64 ed) := (hb1'.cell 0).trans rfl; have c1 : y2.cell? ⟨w.heap.size, 1, none⟩ = some (.int .i64 ea) := (hb1'.cell 1).trans rfl; have hl := hide (hl1.trans (hl2.mono hl1.size)); have hls := hide hl1.size; clear hb1 hb1' hl1 hl2 hs1 hs2)
    | ((with_reducible refine at_slot 19 ?_); refine wpList_build_is rfl 47 #[(0, .tmp 14), (1, .tmp 18)] rfl [(0, .int .i64 ed), (1, .int .i64 (ea + slot))] (by simp only [List.map_toArray, List.map_cons, List.map_nil]; rfl) (plC (ed, ea + slot)).toArray (pl_built _ _) ?_)
    | ((with_reducible refine at_store 4 ?_); refine wpList_store_all rfl 47 (.tmp 4) (.tmp 19) rfl y1.heap.size 47 _ hb2 rfl (plC (ed, ea + slot)) rfl pl_info rfl (plC_one _) ?_; intro y3 hb3 hg3 hs3; clear hs3))
  refine ret_cell_tmp rfl _ 47 (plC (ed, ea + slot)) _ hb3 rfl Tryz.underlying47 rfl pl_info (.bool true) rfl rfl ⟨rfl, ?_⟩
  exact hl.out.grown hg3 hl.out.size (fun g e => by injection e with e; have := hls.out; omega)
set_option maxRecDepth 100000 in
set_option maxHeartbeats 4000000 in
theorem on_any {w : World} {A : Option Addr} {n c k t : Nat} {X : List PlI} {p : PlI} (hr : Reads w w.heap.size 2 A n (plsL X)) (hk : X[k]? = some p) (hs : SmallX X) (hn : n ≤ 1000000) (ht : t < 8) :
    Calls Tryz.prog 51 #[rowV A n c t, .int .i64 (k : Int)] w fun e w' => e = .returned (.agg (plC (p.1, p.2 + (t : Int))).toArray) ∧ Below w.heap.size w w' := by
  obtain ⟨h1, h2⟩ := hs p (List.mem_of_getElem? hk)
  have hX : X.length = n := by have := hr.1; rw [plsL_length] at this; omega
  have hkn : k < n := by rw [← hX]; exact (List.getElem?_eq_some_iff.1 hk).1
  have hki : (k : Int) < (n : Int) := by omega
  obtain ⟨ad, rfl, hb, c0, c1⟩ := hr.pl_at hk
  obtain ⟨ed, ea⟩ := p
  have HM := hide (fun w => mhome_any w ed ea (t : Int) h1 h2 (by omega) (by omega))
  obtain ⟨pv, hpv⟩ : ∃ pv, pv = plC (ed, ea + (t : Int)) := ⟨_, rfl⟩
  rw [← hpv] at HM
  have hp1 := hide (hpv ▸ plC_one (ed, ea + (t : Int)))
  have hp2 := hide (show pv.length = 2 by rw [hpv]; rfl)
  have C0 := hide c0
  have C1 := hide c1
  have HB := hide hb
  show Calls _ _ _ w fun e w' => e = .returned (.agg (plC (ed, ea + (t : Int))).toArray) ∧ Below w.heap.size w w'
  rw [← hpv]
  clear hk hs hX c0 c1 hb hr h1 h2 hpv
  go_enter Tryz.func51, Tryz.ntmps51
  go_wp2_with (first
    | ((with_reducible refine at_slot 2 ?_); refine wpList_box_blk rfl 90 _ rfl (rowV (some ad) n c t) rfl ?_; intro y1 hb1q hl1q hs1; have HB1 : Hid (Blk y1 w.heap.size 90 (rowL (some ad) n c t).toArray) := hide hb1q; have HL1 := hide hl1q; clear hb1q hl1q hs1)
    | ((with_reducible refine at_slot 4 ?_); refine wpList_alloc_blk rfl 47 rfl _ (pl_zero _) ?_; intro y2 hb2q hl2q hs2; have HB2 : Hid (Blk y2 y1.heap.size 47 (plC (0, 0)).toArray) := hide hb2q; have HL2 := hide hl2q; clear hb2q hl2q hs2))
  have HY := hide (HL1.out.trans (HL2.out.mono HL1.out.size))
  have HR1 := hide (HB1.out.below HL2.out HB1.out.lt)
  obtain ⟨q1, hq1⟩ : ∃ q, q = y1.heap.size := ⟨_, rfl⟩
  have HQ := hide (show w.heap.size ≤ q1 by rw [hq1]; exact HL1.out.size)
  have HQ2 := hide (show q1 < y2.heap.size by rw [hq1]; exact HB2.out.lt)
  have HB3 : Hid (Blk y2 q1 47 (plC (0, 0)).toArray) := hide (by rw [hq1]; exact HB2.out)
  rw [← hq1]
  have HS := hide (fun (W : World) (h : Below y2.heap.size y2 W) => show (W.cell? ⟨w.heap.size, 0, none⟩ = some (.slice (some ad) n c) ∧ W.cell? ⟨w.heap.size, 1, none⟩ = some (.int .i64 (t : Int))) ∧ W.cell? (ad.add (k * 2)) = some (.int .i64 ed) ∧ W.cell? ⟨(ad.add (k * 2)).block, (ad.add (k * 2)).off + 1, none⟩ = some (.int .i64 ea) ∧ Below y2.heap.size y2 W from
    ⟨⟨((HR1.out.below h HR1.out.lt).cell 0).trans rfl, ((HR1.out.below h HR1.out.lt).cell 1).trans rfl⟩, ((HY.out.trans (h.mono HY.out.size)).cell (p := ad.add (k * 2)) (by rw [block_of_add]; exact HB.out)).trans C0.out, ((HY.out.trans (h.mono HY.out.size)).cell (p := (ad.add (k * 2)).add 1) (by rw [block_of_add, block_of_add]; exact HB.out)).trans C1.out, h⟩)
  clear hq1
  refine wp_region_held_drew (S := (fun W => (W.cell? ⟨w.heap.size, 0, none⟩ = some (.slice (some ad) n c) ∧ W.cell? ⟨w.heap.size, 1, none⟩ = some (.int .i64 (t : Int))) ∧ W.cell? (ad.add (k * 2)) = some (.int .i64 ed) ∧ W.cell? ⟨(ad.add (k * 2)).block, (ad.add (k * 2)).off + 1, none⟩ = some (.int .i64 ea) ∧ Below y2.heap.size y2 W)) (by kernel_rfl) ?_ (fun hHeld => ?_)
  · exact HS.out _ ((Below.refl _ _).drew)
  refine heldTake (i := 0) (v := ?_) rfl (by kernel_rfl) (by kernel_rfl) (by kernel_rfl) (fun _ _ _ h => h) (Or.inl ⟨by rfl, ?_⟩) (by assumption) ?_
  rotate_left
  · intro w hSw; (try dsimp only at hSw); go_simp <;> (with_reducible rfl)
  try simp only [Act.put, List.setIfInBounds_toArray, List.set_cons_zero, List.set_cons_succ]
  refine heldTake (i := 1) (v := ?_) rfl (by kernel_rfl) (by kernel_rfl) (by kernel_rfl) (fun _ _ _ h => h) (Or.inl ⟨by rfl, ?_⟩) (by assumption) ?_
  rotate_left
  · intro w hSw; (try dsimp only at hSw); go_simp <;> (with_reducible rfl)
  try simp only [Act.put, List.setIfInBounds_toArray, List.set_cons_zero, List.set_cons_succ]
  refine heldTake (i := 2) (v := ?_) rfl (by kernel_rfl) (by kernel_rfl) (by kernel_rfl) (fun _ _ _ h => h) (Or.inl ⟨by rfl, ?_⟩) (by assumption) ?_
  rotate_left
  · intro w hSw; (try dsimp only at hSw); go_simp <;> (with_reducible rfl)
  try simp only [Act.put, List.setIfInBounds_toArray, List.set_cons_zero, List.set_cons_succ]
  refine heldTake (i := 3) (v := ?_) rfl (by kernel_rfl) (by kernel_rfl) (by kernel_rfl) (fun _ _ _ h => h) (Or.inl ⟨by rfl, ?_⟩) (by assumption) ?_
  rotate_left
  · intro w hSw; (try dsimp only at hSw); go_simp <;> (with_reducible rfl)
  try simp only [Act.put, List.setIfInBounds_toArray, List.set_cons_zero, List.set_cons_succ]
  refine heldTake (i := 4) (v := .agg #[.int .i64 ed, .int .i64 ea]) rfl (by kernel_rfl) (by kernel_rfl) (by kernel_rfl) (fun _ _ _ h => h) (Or.inl ⟨by rfl, fun W hW => ?_⟩) (by assumption) ?_
  · obtain ⟨_, e0, e1, _⟩ := hW
    go_simp
    try rfl
  try simp only [Act.put, List.setIfInBounds_toArray, List.set_cons_zero, List.set_cons_succ]
  refine heldTake (i := 5) (v := ?_) rfl (by kernel_rfl) (by kernel_rfl) (by kernel_rfl) (fun _ _ _ h => h) (Or.inl ⟨by rfl, ?_⟩) (by assumption) ?_
  rotate_left
  · intro w hSw; (try dsimp only at hSw); go_simp <;> (with_reducible rfl)
  try simp only [Act.put, List.setIfInBounds_toArray, List.set_cons_zero, List.set_cons_succ]
  refine heldTake (i := 6) (v := ?_) rfl (by kernel_rfl) (by kernel_rfl) (by kernel_rfl) (fun _ _ _ h => h) (Or.inl ⟨by rfl, ?_⟩) (by assumption) ?_
  rotate_left
  · intro w hSw; (try dsimp only at hSw); go_simp <;> (with_reducible rfl)
  try simp only [Act.put, List.setIfInBounds_toArray, List.set_cons_zero, List.set_cons_succ]
  have HD0 := hide (show Below y2.heap.size y2 y2.drew from (Below.refl _ _).drew)
  refine wpAnyH_ready (rs := [7, 11]) (by kernel_rfl) (by simp) ?_
  refine heldCons (i := 7) rfl (fun Kq hKq => ?_) (heldCons (i := 11) rfl (fun Kq hKq => ?_) AllReadyH.nil)
  · clear hHeld
    go_simp
    go_at_call 88
    refine (HM.out _).mono ?_
    rintro _ w3 ⟨rfl, hl3⟩
    have HD3 := hide (HD0.out.trans (hl3.mono HD0.out.size))
    have HL3 := hide hl3
    clear hl3
    first | (refine hKq.out _ _ (HS.out _ HD3.out) (fun hHeld => ?_)) | (go_wp2_with fail; refine hKq.out _ _ (HS.out _ HD3.out) (fun hHeld => ?_))
    clear hKq Kq
    try simp only [Act.put, List.setIfInBounds_toArray, List.set_cons_zero, List.set_cons_succ]
    refine heldTake (i := 8) (v := ?_) rfl (by kernel_rfl) (by kernel_rfl) (by kernel_rfl) (fun _ _ _ h => h) (Or.inl ⟨by rfl, ?_⟩) (by assumption) ?_
    rotate_left
    · intro w hSw; (try dsimp only at hSw); go_simp <;> (with_reducible rfl)
    try simp only [Act.put, List.setIfInBounds_toArray, List.set_cons_zero, List.set_cons_succ]
    refine heldTake (i := 9) (v := ?_) rfl (by kernel_rfl) (by kernel_rfl) (by kernel_rfl) (fun _ _ _ h => h) (Or.inl ⟨by rfl, ?_⟩) (by assumption) ?_
    rotate_left
    · intro w hSw; (try dsimp only at hSw); go_simp <;> (with_reducible rfl)
    try simp only [Act.put, List.setIfInBounds_toArray, List.set_cons_zero, List.set_cons_succ]
    refine heldTake (i := 10) (v := ?_) rfl (by kernel_rfl) (by kernel_rfl) (by kernel_rfl) (fun _ _ _ h => h) (Or.inl ⟨by rfl, ?_⟩) (by assumption) ?_
    rotate_left
    · intro w hSw; (try dsimp only at hSw); go_simp <;> (with_reducible rfl)
    try simp only [Act.put, List.setIfInBounds_toArray, List.set_cons_zero, List.set_cons_succ]
    refine wpAnyH_ready (rs := [11]) (by kernel_rfl) (by simp) ?_
    refine heldCons (i := 11) rfl (fun Kq hKq => ?_) AllReadyH.nil
    refine step_alloc_blk rfl 47 rfl _ (pl_zero _) ?_
    intro w4 hbp hlp hsp
    have HDP := hide (HD3.out.trans (hlp.mono HD3.out.size))
    have HBP : Hid (Blk w4 w3.heap.size 47 (plC (0, 0)).toArray) := hide hbp
    have HLP := hide hlp
    clear hbp hlp hsp
    refine hKq.out _ _ (HS.out _ HDP.out) (fun hHeld => ?_)
    clear hKq Kq
    try simp only [Act.put, List.setIfInBounds_toArray, List.set_cons_zero, List.set_cons_succ]
    refine wpAnyH_ready (rs := [12]) (by kernel_rfl) (by simp) ?_
    refine heldCons (i := 12) rfl (fun Kq hKq => ?_) AllReadyH.nil
    refine step_store_blk rfl 47 (.tmp 5) (.tmp 16) rfl w3.heap.size 0 47 _ HBP.out rfl pv rfl (by rw [hp2.out]; exact pl_info) (by rw [hp2.out]; decide) hp1.out ?_
    intro w7 hb7q hg7 hs7
    have hb7 : Blk w7 (w3.heap.size) 47 pv.toArray := by
      rw [List.take_zero, List.nil_append, hp2.out, List.drop_of_length_le (by decide), List.append_nil] at hb7q
      exact hb7q
    have HD7 := hide (HDP.out.grown hg7 HDP.out.size (fun g e => by injection e with e; subst e; exact HD3.out.size))
    refine hKq.out _ _ (HS.out _ HD7.out) (fun hHeld => ?_)
    clear hKq Kq
    try simp only [Act.put]
    refine heldTake (i := 13) (v := ?_) rfl (by kernel_rfl) (by kernel_rfl) (by kernel_rfl) (fun _ _ _ h => h) (Or.inl ⟨by rfl, ?_⟩) (by assumption) ?_
    rotate_left
    · intro w hSw; (try dsimp only at hSw); go_simp <;> (with_reducible rfl)
    try simp only [Act.put, List.setIfInBounds_toArray, List.set_cons_zero, List.set_cons_succ]
    refine wpAnyH_done (by kernel_rfl) ?_ _
    have HB9 := hide (HB3.out.below HD7.out HB3.out.lt)
    have HBZ := hide hb7
    clear hb7
    go_wp2_with (first
      | ((with_reducible refine at_slot 18 ?_); refine wpList_load_blk rfl 47 (.tmp 5) rfl _ 0 47 _ HBZ.out rfl pv _ (fun j v hj => by rw [Nat.zero_add]; simpa using hj) Tryz.underlying47 rfl (by rw [hp2.out]; exact pl_info) ?_)
      | ((with_reducible refine at_store 4 ?_); refine wpList_store_all rfl 47 (.tmp 4) (.tmp 18) rfl q1 47 _ HB9.out rfl pv rfl (by rw [hp2.out]; exact pl_info) (by rw [hp2.out]; rfl) hp1.out ?_; intro y9 hb9 hg9 hs9; clear hs9))
    refine ret_cell rfl q1 47 pv _ hb9 rfl Tryz.underlying47 rfl (by rw [hp2.out]; exact pl_info) rfl ⟨rfl, ?_⟩
    exact ((HY.out.trans (HD7.out.mono HY.out.size)).grown hg9 (HY.out.trans (HD7.out.mono HY.out.size)).size (fun g e => by injection e with e; have := HQ.out; omega))
  · clear hHeld
    refine step_alloc_blk rfl 47 rfl _ (pl_zero _) ?_
    intro w2 hbp hlp hsp
    have HDP := hide (HD0.out.trans (hlp.mono HD0.out.size))
    have HBP : Hid (Blk w2 y2.drew.heap.size 47 (plC (0, 0)).toArray) := hide hbp
    have HLP := hide hlp
    clear hbp hlp hsp
    refine hKq.out _ _ (HS.out _ HDP.out) (fun hHeld => ?_)
    clear hKq Kq
    try simp only [Act.put, List.setIfInBounds_toArray, List.set_cons_zero, List.set_cons_succ]
    refine wpAnyH_ready (rs := [7]) (by kernel_rfl) (by simp) ?_
    refine heldCons (i := 7) rfl (fun Kq hKq => ?_) AllReadyH.nil
    go_simp
    go_at_call 88
    refine (HM.out _).mono ?_
    rintro _ w3 ⟨rfl, hl3⟩
    have HD3 := hide (HDP.out.trans (hl3.mono HDP.out.size))
    have HL3 := hide hl3
    clear hl3
    first | (refine hKq.out _ _ (HS.out _ HD3.out) (fun hHeld => ?_)) | (go_wp2_with fail; refine hKq.out _ _ (HS.out _ HD3.out) (fun hHeld => ?_))
    clear hKq Kq
    try simp only [Act.put, List.setIfInBounds_toArray, List.set_cons_zero, List.set_cons_succ]
    refine heldTake (i := 8) (v := ?_) rfl (by kernel_rfl) (by kernel_rfl) (by kernel_rfl) (fun _ _ _ h => h) (Or.inl ⟨by rfl, ?_⟩) (by assumption) ?_
    rotate_left
    · intro w hSw; (try dsimp only at hSw); go_simp <;> (with_reducible rfl)
    try simp only [Act.put, List.setIfInBounds_toArray, List.set_cons_zero, List.set_cons_succ]
    refine heldTake (i := 9) (v := ?_) rfl (by kernel_rfl) (by kernel_rfl) (by kernel_rfl) (fun _ _ _ h => h) (Or.inl ⟨by rfl, ?_⟩) (by assumption) ?_
    rotate_left
    · intro w hSw; (try dsimp only at hSw); go_simp <;> (with_reducible rfl)
    try simp only [Act.put, List.setIfInBounds_toArray, List.set_cons_zero, List.set_cons_succ]
    refine heldTake (i := 10) (v := ?_) rfl (by kernel_rfl) (by kernel_rfl) (by kernel_rfl) (fun _ _ _ h => h) (Or.inl ⟨by rfl, ?_⟩) (by assumption) ?_
    rotate_left
    · intro w hSw; (try dsimp only at hSw); go_simp <;> (with_reducible rfl)
    try simp only [Act.put, List.setIfInBounds_toArray, List.set_cons_zero, List.set_cons_succ]
    refine wpAnyH_ready (rs := [12]) (by kernel_rfl) (by simp) ?_
    refine heldCons (i := 12) rfl (fun Kq hKq => ?_) AllReadyH.nil
    refine step_store_blk rfl 47 (.tmp 5) (.tmp 16) rfl y2.drew.heap.size 0 47 _ (HBP.out.below HL3.out HBP.out.lt) rfl pv rfl (by rw [hp2.out]; exact pl_info) (by rw [hp2.out]; decide) hp1.out ?_
    intro w7 hb7q hg7 hs7
    have hb7 : Blk w7 (y2.drew.heap.size) 47 pv.toArray := by
      rw [List.take_zero, List.nil_append, hp2.out, List.drop_of_length_le (by decide), List.append_nil] at hb7q
      exact hb7q
    have HD7 := hide (HD3.out.grown hg7 HD3.out.size (fun g e => by injection e with e; subst e; exact (Nat.le_refl _)))
    refine hKq.out _ _ (HS.out _ HD7.out) (fun hHeld => ?_)
    clear hKq Kq
    try simp only [Act.put]
    refine heldTake (i := 13) (v := ?_) rfl (by kernel_rfl) (by kernel_rfl) (by kernel_rfl) (fun _ _ _ h => h) (Or.inl ⟨by rfl, ?_⟩) (by assumption) ?_
    rotate_left
    · intro w hSw; (try dsimp only at hSw); go_simp <;> (with_reducible rfl)
    try simp only [Act.put, List.setIfInBounds_toArray, List.set_cons_zero, List.set_cons_succ]
    refine wpAnyH_done (by kernel_rfl) ?_ _
    have HB9 := hide (HB3.out.below HD7.out HB3.out.lt)
    have HBZ := hide hb7
    clear hb7
    go_wp2_with (first
      | ((with_reducible refine at_slot 18 ?_); refine wpList_load_blk rfl 47 (.tmp 5) rfl _ 0 47 _ HBZ.out rfl pv _ (fun j v hj => by rw [Nat.zero_add]; simpa using hj) Tryz.underlying47 rfl (by rw [hp2.out]; exact pl_info) ?_)
      | ((with_reducible refine at_store 4 ?_); refine wpList_store_all rfl 47 (.tmp 4) (.tmp 18) rfl q1 47 _ HB9.out rfl pv rfl (by rw [hp2.out]; exact pl_info) (by rw [hp2.out]; rfl) hp1.out ?_; intro y9 hb9 hg9 hs9; clear hs9))
    refine ret_cell rfl q1 47 pv _ hb9 rfl Tryz.underlying47 rfl (by rw [hp2.out]; exact pl_info) rfl ⟨rfl, ?_⟩
    exact ((HY.out.trans (HD7.out.mono HY.out.size)).grown hg9 (HY.out.trans (HD7.out.mono HY.out.size)).size (fun g e => by injection e with e; have := HQ.out; omega))
end Go.Proofs.YtmjjnbabfldbcaaGreat
namespace Go.Proofs.YtmjjnbabfldbcaaGreat
open Go.RowKit
set_option linter.unusedVariables false
theorem slost_any (e : Nat) (w : World) : Calls Tryz.prog 59 #[.int .i64 (e : Int)] w fun r w' => r = .returned (.bool (lostB e)) ∧ w = w' := by
  by_cases h7 : e = 7
  · subst h7
    show Calls _ _ _ w fun r w' => r = .returned (.bool true) ∧ w = w'
    go_enter Tryz.func59, Tryz.ntmps59
    go_wp2
    go_ret
    exact ⟨rfl, rfl⟩
  · have h7w : ¬ ((e : Int) = 7) := by omega
    by_cases h8 : e = 8
    · subst h8
      show Calls _ _ _ w fun r w' => r = .returned (.bool true) ∧ w = w'
      go_enter Tryz.func59, Tryz.ntmps59
      go_wp2
      go_ret
      exact ⟨rfl, rfl⟩
    · have h8w : ¬ ((e : Int) = 8) := by omega
      rw [show lostB e = false by unfold lostB; simp [h7, h8]]
      have hd : ((e : Int) == 7 || (e : Int) == 8) = false := by simp [h7w, h8w]
      have HD := hide hd
      clear h7 h8 hd
      go_enter Tryz.func59, Tryz.ntmps59
      go_wp2
      go_ret
      exact ⟨congrArg Ending.returned (congrArg Value.bool HD.out), rfl⟩
theorem slots_any (v : Int) (h1 : -1000000 ≤ v) (h2 : v ≤ 1000000) (w : World) :
    Calls Tryz.prog 23 #[.int .i64 v] w fun e w' => e = .returned (.int .i64 (slotsN v.toNat : Int)) ∧ w = w' := by
  by_cases hv : v < 2
  · have e : slotsN v.toNat = 0 := by unfold slotsN; omega
    rw [e]
    clear e
    go_enter Tryz.func23, Tryz.ntmps23
    go_wp2
    go_ret
    exact ⟨rfl, rfl⟩
  · obtain ⟨q, hq⟩ : ∃ q : Nat, q = slotsN v.toNat := ⟨_, rfl⟩
    have e : (8 * (v - 1)) = (q : Int) := by rw [hq]; unfold slotsN; omega
    rw [← hq]
    clear hq
    go_enter Tryz.func23, Tryz.ntmps23
    go_wp2
    go_ret
    exact ⟨rfl, rfl⟩
theorem below_drewN {B : Nat} {a b : World} (h : Below B a b) (k : Nat) : Below B a (b.drewN k) := ⟨h.os, h.tape, h.output, h.size, h.block⟩
set_option maxRecDepth 100000 in
theorem rpar_any {A : Option Addr} {n c : Nat} (t : Nat) (hn : 0 < n) (hn2 : n ≤ 1000000) (ht : t < 8) (w : World) :
    Calls Tryz.prog 52 #[rowV A n c t] w fun e w' => e = .returned (.int .i64 (strH n t : Int)) ∧ Below w.heap.size w w' := by
  have hm : ((t : Int).tmod (n : Int)) = ((t % n : Nat) : Int) := by rw [Int.tmod_eq_emod_of_nonneg (by omega)]; rfl
  have hl : t % n < n := Nat.mod_lt _ hn
  have hne : ¬ ((n : Int) = 0) := by omega
  obtain ⟨q, hq⟩ : ∃ q, q = t % n := ⟨_, rfl⟩
  have e : ((n : Int) - 1 - (q : Int)) = ((strH n t : Nat) : Int) := by unfold strH; omega
  have hw1 : IntKind.i64.wrap ((n : Int) - 1) = (n : Int) - 1 := IntWalk.i64_in _ (by omega)
  have hw2 : IntKind.i64.wrap ((n : Int) - 1 - (q : Int)) = (n : Int) - 1 - (q : Int) := IntWalk.i64_in _ (by omega)
  have hwq : IntKind.i64.wrap (q : Int) = (q : Int) := IntWalk.i64_in _ (by omega)
  rw [← hq] at hm hl
  rw [← e]
  clear e hq hn ht
  go_enter Tryz.func52, Tryz.ntmps52
  go_wp2_with (first
    | ((with_reducible refine at_slot 1 ?_); refine wpList_box_blk rfl 90 _ rfl (rowV A n c t) rfl ?_; intro y1 hb1 hl1 hs1; have c0 : y1.cell? ⟨w.heap.size, 0, none⟩ = some (.slice A n c) := (hb1.cell 0).trans rfl; have c1 : y1.cell? ⟨w.heap.size, 1, none⟩ = some (.int .i64 (t : Int)) := (hb1.cell 1).trans rfl; clear hb1 hs1))
  go_quiet (fail)
  go_wp2
  go_ret
  exact ⟨rfl, below_drewN hl1 _⟩
theorem run_build_is {P : Program} {o : Oper} {a : Act} (ty : TypeId) (parts : Array (Nat × Operand)) (ho : o.op = .build ty parts) (vs : List (Nat × Value))
    (hv : (parts.map fun (i, x) => (i, a.eval x)).toList = vs) (cells : Array Value) (hb : P.built ty vs = some cells) (w : World) : (execOp a.eval o).run P w = .ok (.value (.agg cells)) w := by
  unfold execOp
  simp only [ho, Sem.run_bind, run_build w ty _ cells (by rw [hv]; exact hb), Result.andThen_ok, Sem.run_pure]
/-- What rowOf hands back beside its error. -/
def rowG (A : Option Addr) (n c : Nat) (t : Int) : List Value := if strE n t = 0 then rowL A n c t.toNat else [.slice none 0 0, .int .i64 0]
set_option maxRecDepth 100000 in
theorem rowOf_any (A : Option Addr) (n c : Nat) (t : Int) (hn : n ≤ 1000000) (w : World) :
    Calls Tryz.prog 50 #[.slice A n c, .int .i64 t] w fun e w' => e = .returned (.tuple #[.agg (rowG A n c t).toArray, .int .i64 (strE n t : Int)]) ∧ Below w.heap.size w w' := by
  have hz : ∀ v ∈ [Value.slice none 0 0, .int .i64 0], v.oneCell' = true := by
    intro v hv
    rcases List.mem_cons.1 hv with e | hv
    · subst e; rfl
    · rw [List.mem_singleton.1 hv]; rfl
  by_cases h : n < 2
  · have hs : strE n t = 1 := if_pos h
    have hg : rowG A n c t = [.slice none 0 0, .int .i64 0] := by unfold rowG; rw [hs]; rfl
    rw [hs, hg]
    have hi : (n : Int) < 2 := by omega
    clear hs hg
    go_enter Tryz.func50, Tryz.ntmps50
    go_wp2_with (first
      | ((with_reducible refine at_slot 4 ?_); refine wpList_alloc_blk rfl 90 rfl _ (row_zero _) ?_; intro y1 hb1 hl1 hs1)
      | ((with_reducible refine at_slot 9 ?_); refine wpList_build_is rfl 90 #[] rfl [] (by simp) _ row_none ?_)
      | ((with_reducible refine at_store 4 ?_); refine wpList_store_all rfl 90 (.tmp 4) (.tmp 9) rfl w.heap.size 90 _ hb1 rfl [.slice none 0 0, .int .i64 0] rfl row_info rfl hz ?_; intro y3 hb3 hg3 hs3; clear hs3))
    refine ret_cell_tmp rfl _ 90 [.slice none 0 0, .int .i64 0] _ hb3 rfl Tryz.underlying90 rfl row_info (.int .i64 1) rfl rfl ⟨rfl, ?_⟩
    exact hl1.grown hg3 hl1.size (fun g e => by injection e with e; omega)
  · have hi : ¬ (n : Int) < 2 := by omega
    by_cases h0 : t < 0 ∨ 8 ≤ t
    · have hs : strE n t = 3 := by unfold strE; rw [if_neg h, if_pos h0]
      have hg : rowG A n c t = [.slice none 0 0, .int .i64 0] := by unfold rowG; rw [hs]; rfl
      rw [hs, hg]
      clear hs hg
      by_cases h1 : t < 0
      · clear h0
        go_enter Tryz.func50, Tryz.ntmps50
        go_wp2_with (first
          | ((with_reducible refine at_slot 4 ?_); refine wpList_alloc_blk rfl 90 rfl _ (row_zero _) ?_; intro y1 hb1 hl1 hs1)
          | ((with_reducible refine at_slot 16 ?_); refine wpList_build_is rfl 90 #[] rfl [] (by simp) _ row_none ?_)
          | ((with_reducible refine at_store 4 ?_); refine wpList_store_all rfl 90 (.tmp 4) (.tmp 16) rfl w.heap.size 90 _ hb1 rfl [.slice none 0 0, .int .i64 0] rfl row_info rfl hz ?_; intro y3 hb3 hg3 hs3; clear hs3))
        refine ret_cell_tmp rfl _ 90 [.slice none 0 0, .int .i64 0] _ hb3 rfl Tryz.underlying90 rfl row_info (.int .i64 3) rfl rfl ⟨rfl, ?_⟩
        exact hl1.grown hg3 hl1.size (fun g e => by injection e with e; omega)
      · have h8 : 8 ≤ t := by omega
        have h8' : t ≥ 8 := h8
        clear h0
        go_enter Tryz.func50, Tryz.ntmps50
        go_wp2_with (first
          | ((with_reducible refine at_slot 4 ?_); refine wpList_alloc_blk rfl 90 rfl _ (row_zero _) ?_; intro y1 hb1 hl1 hs1)
          | ((with_reducible refine at_slot 16 ?_); refine wpList_build_is rfl 90 #[] rfl [] (by simp) _ row_none ?_)
          | ((with_reducible refine at_store 4 ?_); refine wpList_store_all rfl 90 (.tmp 4) (.tmp 16) rfl w.heap.size 90 _ hb1 rfl [.slice none 0 0, .int .i64 0] rfl row_info rfl hz ?_; intro y3 hb3 hg3 hs3; clear hs3))
        refine ret_cell_tmp rfl _ 90 [.slice none 0 0, .int .i64 0] _ hb3 rfl Tryz.underlying90 rfl row_info (.int .i64 3) rfl rfl ⟨rfl, ?_⟩
        exact hl1.grown hg3 hl1.size (fun g e => by injection e with e; omega)
    · have hs : strE n t = 0 := by unfold strE; rw [if_neg h, if_neg h0]
      have hg : rowG A n c t = rowL A n c t.toNat := by unfold rowG; rw [hs]; rfl
      rw [hs, hg]
      obtain ⟨k, rfl⟩ : ∃ k : Nat, t = (k : Int) := ⟨t.toNat, by omega⟩
      rw [Int.toNat_natCast]
      have hn0 : ¬ (k : Int) < 0 := by omega
      have hn8 : ¬ (k : Int) ≥ 8 := by omega
      have hn8' : ¬ 8 ≤ (k : Int) := by omega
      have hn8'' : ¬ 8 ≤ k := by omega
      have hR1 := hide (rowL_one A n c k)
      clear hs hg h0 hz
      go_enter Tryz.func50, Tryz.ntmps50
      go_wp2_with (first
        | ((with_reducible refine at_slot 4 ?_); refine wpList_alloc_blk rfl 90 rfl _ (row_zero _) ?_; intro y1 hb1 hl1 hs1)
        | ((with_reducible refine at_slot 19 ?_); refine wpList_build_is rfl 90 #[(0, .tmp 17), (1, .tmp 18)] rfl [(0, .slice A n c), (1, .int .i64 (k : Int))] (by simp only [List.map_toArray, List.map_cons, List.map_nil]; rfl) (rowL A n c k).toArray (row_two _ _ _ _) ?_)
        | ((with_reducible refine at_store 4 ?_); refine wpList_store_all rfl 90 (.tmp 4) (.tmp 19) rfl w.heap.size 90 _ hb1 rfl (rowL A n c k) rfl row_info rfl hR1.out ?_; intro y3 hb3 hg3 hs3; clear hs3))
      refine ret_cell_tmp rfl _ 90 (rowL A n c k) _ hb3 rfl Tryz.underlying90 rfl row_info (.int .i64 0) rfl rfl ⟨rfl, ?_⟩
      exact hl1.grown hg3 hl1.size (fun g e => by injection e with e; omega)
/-- Is a number among some. -/
def IdxAns (L : List Int) (v : Int) (e : Ending) : Prop := ∃ i : Int, e = .returned (.int .i64 i) ∧ (0 ≤ i ↔ v ∈ L)
theorem index_any {w : World} {A : Option Addr} {n c : Nat} {L : List Int} (hr : Reads w w.heap.size 1 A n (I64 L)) (hn : n ≤ 1000000) (v : Int) :
    Calls Tryz.prog 101 #[.slice A n c, .int .i64 v] w fun e w' => IdxAns L v e ∧ w = w' := by
  have hL : L.length = n := by have := hr.1; rw [I64_length] at this; omega
  have HR := hide hr
  have HL := hide hL
  clear hr hL
  go_enter Tryz.func101, Tryz.ntmps101
  go_wp2
  go_loopw [8] (fun i wx => ∃ k : Nat, k ≤ n ∧ i = .int .i64 (k : Int) ∧ wx = w ∧ Hid (v ∉ L.take k)) (fun i _ => n - (intOf i).toNat)
  case atStart => exact ⟨0, Nat.zero_le _, rfl, rfl, hide (by simp)⟩
  case round =>
    obtain ⟨k, hk, rfl, rfl, HV⟩ := hrel
    by_cases hkn : k < n
    · have hkn2 : (k : Int) < (n : Int) := by omega
      obtain ⟨ad, x, rfl, hab, hx, hcx⟩ := HR.out.i64_at hkn
      have HX := hide hx
      have hwr : IntKind.i64.wrap ((k : Int) + 1) = (k : Int) + 1 := IntWalk.i64_in _ (by omega)
      by_cases hvx : v = x
      · have HM := hide (show v ∈ L by rw [hvx]; exact List.mem_of_getElem? HX.out)
        subst hvx
        clear hx
        go_wp2
        go_ret
        exact ⟨⟨(k : Int), rfl, fun _ => HM.out, fun _ => by omega⟩, rfl⟩
      · have HM := hide hvx
        clear hx
        go_wp2
        go_roundw
        case rel => exact ⟨k + 1, by omega, by simp, by trivial, hide (by
          have hlt : k < L.length := by rw [HL.out]; exact hkn
          have hxx : L[k] = x := by have := HX.out; rw [List.getElem?_eq_getElem hlt] at this; simpa using this
          rw [List.take_succ_eq_append_getElem hlt]
          intro hm
          rcases List.mem_append.1 hm with h | h
          · exact HV.out h
          · exact HM.out (by rw [List.mem_singleton.1 h]; exact hxx))⟩
        case measure => simp [intOf]; omega
    · obtain rfl : k = n := by omega
      go_wp2
      go_ret
      exact ⟨⟨-1, rfl, fun h => by omega, fun h => absurd (by rw [List.take_of_length_le (Nat.le_of_eq HL.out)]; exact h) HV.out⟩, rfl⟩
theorem contains_any {w : World} {A : Option Addr} {n c : Nat} {L : List Int} (hr : Reads w w.heap.size 1 A n (I64 L)) (hn : n ≤ 1000000) (v : Int) :
    Calls Tryz.prog 92 #[.slice A n c, .int .i64 v] w fun e w' => e = .returned (.bool (decide (v ∈ L))) ∧ w = w' := by
  have HI := hide (index_any (c := c) hr hn v)
  by_cases hv : v ∈ L
  · rw [decide_eq_true hv]
    clear hr
    go_enter Tryz.func92, Tryz.ntmps92
    go_wp2_with (first
      | (go_at_call 101; (with_reducible refine HI.out.mono ?_); rintro _ _ ⟨⟨i, rfl, hiv⟩, rfl⟩; have hge : i ≥ 0 := (hiv.2 hv); have hge' : 0 ≤ i := hge; clear hiv))
    go_ret
    exact ⟨rfl, rfl⟩
  · rw [decide_eq_false hv]
    clear hr
    go_enter Tryz.func92, Tryz.ntmps92
    go_wp2_with (first
      | (go_at_call 101; (with_reducible refine HI.out.mono ?_); rintro _ _ ⟨⟨i, rfl, hiv⟩, rfl⟩; have hge : ¬ i ≥ 0 := (fun h => hv (hiv.1 h)); have hge' : ¬ 0 ≤ i := hge; clear hiv))
    go_ret
    exact ⟨congrArg Ending.returned (congrArg Value.bool (decide_eq_false (by omega))), rfl⟩
/-! ### What makes the functions that are ranged over -/
theorem but_make (A : Option Addr) (n c t : Nat) (A2 : Option Addr) (m c2 : Nat) (w : World) :
    Calls Tryz.prog 56 #[rowV A n c t, .slice A2 m c2] w fun e w' => e = .returned (.func (.func 91) #[] #[.pointer (some ⟨w.heap.size, 0, none⟩), .pointer (some ⟨w.heap.size + 1, 0, none⟩)]) ∧
      Blk w' w.heap.size 90 (rowL A n c t).toArray ∧ Blk w' (w.heap.size + 1) 132 #[.slice A2 m c2] ∧ Below w.heap.size w w' ∧ w'.heap.size = w.heap.size + 2 := by
  have hmf : ∀ (fn : Fn) (first cap : Array Value) (w : World), (Instr.makeFunc fn first cap).run Tryz.prog w = .ok (.func fn first cap) w := fun _ _ _ _ => rfl
  go_enter Tryz.func56, Tryz.ntmps56
  go_wp2_with (first
    | ((with_reducible refine at_slot 2 ?_); refine wpList_box_blk rfl 90 _ rfl (rowV A n c t) rfl ?_; intro y1 hb1q hl1q hs1q; have HB1 : Hid (Blk y1 w.heap.size 90 (rowL A n c t).toArray) := hide hb1q; have HL1 := hide hl1q; have HS1 := hide hs1q; clear hb1q hl1q hs1q)
    | ((with_reducible refine at_slot 3 ?_); refine wpList_box_blk rfl 132 _ rfl (.slice A2 m c2) rfl ?_; intro y2 hb2q hl2q hs2q; have HB2 : Hid (Blk y2 y1.heap.size 132 #[.slice A2 m c2]) := hide hb2q; have HL2 := hide hl2q; have HS2 := hide hs2q; clear hb2q hl2q hs2q))
  go_ret
  refine ⟨by rw [← HS1.out]; rfl, HB1.out.below HL2.out HB1.out.lt, by rw [← HS1.out]; exact HB2.out, HL1.out.trans (HL2.out.mono HL1.out.size), by rw [HS2.out, HS1.out]⟩
theorem mates_make (A : Option Addr) (n c t k : Nat) (w : World) :
    Calls Tryz.prog 55 #[rowV A n c t, .int .i64 (k : Int)] w fun e w' => e = .returned (.func (.func 90) #[] #[.pointer (some ⟨w.heap.size, 0, none⟩), .pointer (some ⟨w.heap.size + 1, 0, none⟩)]) ∧
      Blk w' w.heap.size 90 (rowL A n c t).toArray ∧ Blk w' (w.heap.size + 1) 3 #[.int .i64 (k : Int)] ∧ Below w.heap.size w w' ∧ w'.heap.size = w.heap.size + 2 := by
  have hmf : ∀ (fn : Fn) (first cap : Array Value) (w : World), (Instr.makeFunc fn first cap).run Tryz.prog w = .ok (.func fn first cap) w := fun _ _ _ _ => rfl
  go_enter Tryz.func55, Tryz.ntmps55
  go_wp2_with (first
    | ((with_reducible refine at_slot 2 ?_); refine wpList_box_blk rfl 90 _ rfl (rowV A n c t) rfl ?_; intro y1 hb1q hl1q hs1q; have HB1 : Hid (Blk y1 w.heap.size 90 (rowL A n c t).toArray) := hide hb1q; have HL1 := hide hl1q; have HS1 := hide hs1q; clear hb1q hl1q hs1q)
    | ((with_reducible refine at_slot 3 ?_); refine wpList_box_blk rfl 3 _ rfl (.int .i64 (k : Int)) rfl ?_; intro y2 hb2q hl2q hs2q; have HB2 : Hid (Blk y2 y1.heap.size 3 #[.int .i64 (k : Int)]) := hide hb2q; have HL2 := hide hl2q; have HS2 := hide hs2q; clear hb2q hl2q hs2q))
  go_ret
  refine ⟨by rw [← HS1.out]; rfl, HB1.out.below HL2.out HB1.out.lt, by rw [← HS1.out]; exact HB2.out, HL1.out.trans (HL2.out.mono HL1.out.size), by rw [HS2.out, HS1.out]⟩
theorem values_make (A : Option Addr) (n c : Nat) (w : World) :
    Calls Tryz.prog 70 #[.slice A n c] w fun e w' => e = .returned (.func (.func 95) #[] #[.pointer (some ⟨w.heap.size, 0, none⟩)]) ∧
      Blk w' w.heap.size 39 #[.slice A n c] ∧ Below w.heap.size w w' ∧ w'.heap.size = w.heap.size + 1 := by
  have hmf : ∀ (fn : Fn) (first cap : Array Value) (w : World), (Instr.makeFunc fn first cap).run Tryz.prog w = .ok (.func fn first cap) w := fun _ _ _ _ => rfl
  go_enter Tryz.func70, Tryz.ntmps70
  go_wp2_with (first
    | ((with_reducible refine at_slot 1 ?_); refine wpList_box_blk rfl 39 _ rfl (.slice A n c) rfl ?_; intro y1 hb1q hl1q hs1q; have HB1 : Hid (Blk y1 w.heap.size 39 #[.slice A n c]) := hide hb1q; have HL1 := hide hl1q; have HS1 := hide hs1q; clear hb1q hl1q hs1q))
  go_ret
  exact ⟨rfl, HB1.out, HL1.out, HS1.out⟩
end Go.Proofs.YtmjjnbabfldbcaaGreat
namespace Go.Proofs.YtmjjnbabfldbcaaGreat
open Go.RowKit
set_option linter.unusedVariables false
/-- Which extent a slot is on. -/
def kOf (n s : Nat) : Nat := if strH n (s / (n - 1)) ≤ s % (n - 1) then s % (n - 1) + 1 else s % (n - 1)
def rowSG (A : Option Addr) (n c : Nat) (slot : Int) : List Value := if homeE n slot = 0 then rowL A n c (slot.toNat / (n - 1)) else [.slice none 0 0, .int .i64 0]
def kSG (n : Nat) (slot : Int) : Nat := if homeE n slot = 0 then kOf n slot.toNat else 0
theorem rowZ_one : ∀ v ∈ [Value.slice none 0 0, .int .i64 0], v.oneCell' = true := by
  intro v hv
  rcases List.mem_cons.1 hv with e | hv
  · subst e; rfl
  · rw [List.mem_singleton.1 hv]; rfl
set_option maxRecDepth 100000 in
set_option maxHeartbeats 4000000 in
theorem rowSlot_any (A : Option Addr) (n c : Nat) (slot : Int) (hn : n ≤ 1000000) (hsl : I64In slot) (w : World) :
    Calls Tryz.prog 53 #[.slice A n c, .int .i64 slot] w fun e w' => e = .returned (.tuple #[.agg (rowSG A n c slot).toArray, .int .i64 (kSG n slot : Int), .int .i64 (homeE n slot : Int)]) ∧ Below w.heap.size w w' := by
  have HSL := hide (fun w => slots_any (n : Int) (by omega) (by omega) w)
  by_cases h : n < 2
  · have hs : homeE n slot = 1 := if_pos h
    have hi : (n : Int) < 2 := by omega
    have hg : rowSG A n c slot = [.slice none 0 0, .int .i64 0] := by unfold rowSG; rw [hs]; rfl
    have hk : kSG n slot = 0 := by unfold kSG; rw [hs]; rfl
    rw [hs, hg, hk]
    clear hs hg hk
    go_enter Tryz.func53, Tryz.ntmps53
    go_wp2_with (first
      | ((with_reducible refine at_slot 4 ?_); refine wpList_alloc_blk rfl 90 rfl _ (row_zero _) ?_; intro y1 hb1 hl1 hs1)
      | ((with_reducible refine at_slot 13 ?_); refine wpList_build_is rfl 90 #[] rfl [] (by simp) _ row_none ?_)
      | ((with_reducible refine at_store 4 ?_); refine wpList_store_all rfl 90 (.tmp 4) (.tmp 13) rfl w.heap.size 90 _ hb1 rfl [.slice none 0 0, .int .i64 0] rfl row_info rfl rowZ_one ?_; intro y3 hb3 hg3 hs3; clear hs3))
    refine ret_cell_two rfl _ 90 [.slice none 0 0, .int .i64 0] _ hb3 rfl Tryz.underlying90 rfl row_info (.int .i64 0) (.int .i64 1) rfl rfl rfl ⟨rfl, ?_⟩
    exact hl1.grown hg3 hl1.size (fun g e => by injection e with e; omega)
  have hi : ¬ (n : Int) < 2 := by omega
  by_cases h0 : slot < 0
  · have hs : homeE n slot = 3 := by unfold homeE; rw [if_neg h, if_pos (.inl h0)]
    have hg : rowSG A n c slot = [.slice none 0 0, .int .i64 0] := by unfold rowSG; rw [hs]; rfl
    have hk : kSG n slot = 0 := by unfold kSG; rw [hs]; rfl
    rw [hs, hg, hk]
    clear hs hg hk
    go_enter Tryz.func53, Tryz.ntmps53
    go_wp2_with (first
      | ((with_reducible refine at_slot 4 ?_); refine wpList_alloc_blk rfl 90 rfl _ (row_zero _) ?_; intro y1 hb1 hl1 hs1)
      | ((with_reducible refine at_slot 23 ?_); refine wpList_build_is rfl 90 #[] rfl [] (by simp) _ row_none ?_)
      | ((with_reducible refine at_store 4 ?_); refine wpList_store_all rfl 90 (.tmp 4) (.tmp 23) rfl w.heap.size 90 _ hb1 rfl [.slice none 0 0, .int .i64 0] rfl row_info rfl rowZ_one ?_; intro y3 hb3 hg3 hs3; clear hs3))
    refine ret_cell_two rfl _ 90 [.slice none 0 0, .int .i64 0] _ hb3 rfl Tryz.underlying90 rfl row_info (.int .i64 0) (.int .i64 3) rfl rfl rfl ⟨rfl, ?_⟩
    exact hl1.grown hg3 hl1.size (fun g e => by injection e with e; omega)
  by_cases h8 : (slotsN n : Int) ≤ slot
  · have hs : homeE n slot = 3 := by unfold homeE; rw [if_neg h, if_pos (.inr h8)]
    have hge : slot ≥ (slotsN ((n : Int)).toNat : Int) := by rw [Int.toNat_natCast]; exact h8
    have hge' : (slotsN ((n : Int)).toNat : Int) ≤ slot := hge
    obtain ⟨q, hq⟩ : ∃ q : Nat, q = slotsN ((n : Int)).toNat := ⟨_, rfl⟩
    have HSQ : Hid (∀ w, Calls Tryz.prog 23 #[.int .i64 (n : Int)] w fun e w' => e = .returned (.int .i64 (q : Int)) ∧ w = w') := hide (by rw [hq]; exact HSL.out)
    rw [← hq] at hge hge'
    have hg : rowSG A n c slot = [.slice none 0 0, .int .i64 0] := by unfold rowSG; rw [hs]; rfl
    have hk : kSG n slot = 0 := by unfold kSG; rw [hs]; rfl
    rw [hs, hg, hk]
    clear hs hg hk h8 hq HSL
    go_enter Tryz.func53, Tryz.ntmps53
    go_wp2_with (first
      | ((with_reducible refine at_slot 4 ?_); refine wpList_alloc_blk rfl 90 rfl _ (row_zero _) ?_; intro y1 hb1 hl1 hs1)
      | (go_at_call 23; (with_reducible refine (HSQ.out _).mono ?_); rintro _ _ ⟨rfl, rfl⟩)
      | ((with_reducible refine at_slot 23 ?_); refine wpList_build_is rfl 90 #[] rfl [] (by simp) _ row_none ?_)
      | ((with_reducible refine at_store 4 ?_); refine wpList_store_all rfl 90 (.tmp 4) (.tmp 23) rfl w.heap.size 90 _ hb1 rfl [.slice none 0 0, .int .i64 0] rfl row_info rfl rowZ_one ?_; intro y3 hb3 hg3 hs3; clear hs3))
    refine ret_cell_two rfl _ 90 [.slice none 0 0, .int .i64 0] _ hb3 rfl Tryz.underlying90 rfl row_info (.int .i64 0) (.int .i64 3) rfl rfl rfl ⟨rfl, ?_⟩
    exact hl1.grown hg3 hl1.size (fun g e => by injection e with e; omega)
  have hs : homeE n slot = 0 := by unfold homeE; rw [if_neg h, if_neg (by omega)]
  obtain ⟨s, rfl⟩ : ∃ s : Nat, slot = (s : Int) := ⟨slot.toNat, by omega⟩
  have hg : rowSG A n c (s : Int) = rowL A n c (s / (n - 1)) := by unfold rowSG; rw [hs]; rfl
  have hk : kSG n (s : Int) = kOf n s := by unfold kSG; rw [hs]; rfl
  rw [hs, hg, hk]
  clear hs hg hk
  obtain ⟨q, hq⟩ : ∃ q : Nat, q = slotsN ((n : Int)).toNat := ⟨_, rfl⟩
  have hqs : s < q := by rw [hq, Int.toNat_natCast]; omega
  have HSQ : Hid (∀ w, Calls Tryz.prog 23 #[.int .i64 (n : Int)] w fun e w' => e = .returned (.int .i64 (q : Int)) ∧ w = w') := hide (by rw [hq]; exact HSL.out)
  have hqm : q ≤ 8 * (n - 1) := by rw [hq, Int.toNat_natCast]; exact Nat.le_refl _
  clear h8 hq HSL
  have hge : ¬ (s : Int) ≥ (q : Int) := by omega
  have hge' : ¬ (q : Int) ≤ (s : Int) := by omega
  have hge2 : ¬ q ≤ s := by omega
  obtain ⟨u, hu⟩ : ∃ u, u = n - 1 := ⟨_, rfl⟩
  have hu0 : 0 < u := by omega
  have hsu : s < 8 * u := by omega
  obtain ⟨t, ht⟩ : ∃ t, t = s / u := ⟨_, rfl⟩
  obtain ⟨j, hj⟩ : ∃ j, j = s % u := ⟨_, rfl⟩
  have ht8 : t < 8 := by rw [ht]; exact (Nat.div_lt_iff_lt_mul hu0).2 hsu
  have hju : j < u := by rw [hj]; exact Nat.mod_lt _ hu0
  have hkk : kOf n s = if strH n t ≤ j then j + 1 else j := by unfold kOf; rw [← hu, ← ht, ← hj]
  have hun2 : (n : Int) - 1 = (u : Int) := by omega
  have hune : ¬ ((u : Int) = 0) := by omega
  have hdv : (s : Int).tdiv (u : Int) = (t : Int) := by rw [Int.tdiv_eq_ediv_of_nonneg (by omega), ht]; rfl
  have hmd : (s : Int).tmod (u : Int) = (j : Int) := by rw [Int.tmod_eq_emod_of_nonneg (by omega), hj]; rfl
  have hub : u ≤ 1000000 := by omega
  have hune2 : ¬ u = 0 := by omega
  have hdv2 : (s : Int) / (u : Int) = (t : Int) := by rw [ht]; rfl
  have hwt : IntKind.i64.wrap (t : Int) = (t : Int) := IntWalk.i64_in _ (by omega)
  have hwj : IntKind.i64.wrap (j : Int) = (j : Int) := IntWalk.i64_in _ (by omega)
  have hwj1 : IntKind.i64.wrap ((j : Int) + 1) = (j : Int) + 1 := IntWalk.i64_in _ (by omega)
  have HP := hide (fun w => rpar_any (A := A) (c := c) t (show 0 < n by omega) hn ht8 w)
  have hR1 := hide (rowL_one A n c t)
  have HKK := hide hkk
  have hZ := hide rowZ_one
  have hb01 : ¬ (s : Int) < 0 := by omega
  rw [← hu, ← ht]
  clear hu ht hj hkk h h0 hqm hsl hsu hqs hju ht8 hn
  go_enter Tryz.func53, Tryz.ntmps53
  go_wp2_with (first
    | ((with_reducible refine at_slot 4 ?_); refine wpList_alloc_blk rfl 90 rfl _ (row_zero _) ?_; intro y1 hb1q hl1q hs1q; have HB1 := hide hb1q; have HL1 := hide hl1q; clear hb1q hl1q hs1q)
    | (go_at_call 23; (with_reducible refine (HSQ.out _).mono ?_); rintro _ _ ⟨rfl, rfl⟩))
  refine wp_region_held_drew (S := (fun _ => True)) (by kernel_rfl) ?_ (fun hHeld => ?_)
  · exact trivial
  refine heldTake (i := 0) (v := ?_) rfl (by kernel_rfl) (by kernel_rfl) (by kernel_rfl) (fun _ _ _ h => h) (Or.inl ⟨by rfl, ?_⟩) (by assumption) ?_
  rotate_left
  · intro w hSw; (try dsimp only at hSw); go_simp <;> (with_reducible rfl)
  try simp only [Act.put, List.setIfInBounds_toArray, List.set_cons_zero, List.set_cons_succ]
  refine heldTake (i := 1) (v := ?_) rfl (by kernel_rfl) (by kernel_rfl) (by kernel_rfl) (fun _ _ _ h => h) (Or.inl ⟨by rfl, ?_⟩) (by assumption) ?_
  rotate_left
  · intro w hSw; (try dsimp only at hSw); go_simp <;> (with_reducible rfl)
  try simp only [Act.put, List.setIfInBounds_toArray, List.set_cons_zero, List.set_cons_succ]
  refine heldTake (i := 2) (v := ?_) rfl (by kernel_rfl) (by kernel_rfl) (by kernel_rfl) (fun _ _ _ h => h) (Or.inl ⟨by rfl, ?_⟩) (by assumption) ?_
  rotate_left
  · intro w hSw; (try dsimp only at hSw); go_simp <;> (with_reducible rfl)
  try simp only [Act.put, List.setIfInBounds_toArray, List.set_cons_zero, List.set_cons_succ]
  refine heldTake (i := 3) (v := ?_) rfl (by kernel_rfl) (by kernel_rfl) (by kernel_rfl) (fun _ _ _ h => h) (Or.inl ⟨by rfl, ?_⟩) (by assumption) ?_
  rotate_left
  · intro w hSw; (try dsimp only at hSw); go_simp <;> (with_reducible rfl)
  try simp only [Act.put, List.setIfInBounds_toArray, List.set_cons_zero, List.set_cons_succ]
  refine heldTake (i := 4) (v := .agg (rowL A n c t).toArray) rfl (by kernel_rfl) (by kernel_rfl) (by kernel_rfl) (fun _ _ _ h => h) (Or.inl ⟨by rfl, fun W _ => run_build_is 90 #[(0, .tmp 27), (1, .tmp 30)] rfl [(0, .slice A n c), (1, .int .i64 (t : Int))] (by simp only [List.map_toArray, List.map_cons, List.map_nil]; rfl) (rowL A n c t).toArray (row_two _ _ _ _) W⟩) (by assumption) ?_
  try simp only [Act.put, List.setIfInBounds_toArray, List.set_cons_zero, List.set_cons_succ]
  refine heldTake (i := 5) (v := ?_) rfl (by kernel_rfl) (by kernel_rfl) (by kernel_rfl) (fun _ _ _ h => h) (Or.inl ⟨by rfl, ?_⟩) (by assumption) ?_
  rotate_left
  · intro w hSw; (try dsimp only at hSw); go_simp <;> (with_reducible rfl)
  try simp only [Act.put, List.setIfInBounds_toArray, List.set_cons_zero, List.set_cons_succ]
  refine heldTake (i := 6) (v := ?_) rfl (by kernel_rfl) (by kernel_rfl) (by kernel_rfl) (fun _ _ _ h => h) (Or.inl ⟨by rfl, ?_⟩) (by assumption) ?_
  rotate_left
  · intro w hSw; (try dsimp only at hSw); go_simp <;> (with_reducible rfl)
  try simp only [Act.put, List.setIfInBounds_toArray, List.set_cons_zero, List.set_cons_succ]
  refine heldTake (i := 7) (v := ?_) rfl (by kernel_rfl) (by kernel_rfl) (by kernel_rfl) (fun _ _ _ h => h) (Or.inl ⟨by rfl, ?_⟩) (by assumption) ?_
  rotate_left
  · intro w hSw; (try dsimp only at hSw); go_simp <;> (with_reducible rfl)
  try simp only [Act.put, List.setIfInBounds_toArray, List.set_cons_zero, List.set_cons_succ]
  refine wpAnyH_ready (rs := [8]) (by kernel_rfl) (by simp) ?_
  refine heldCons (i := 8) rfl (fun Kq hKq => ?_) AllReadyH.nil
  refine step_alloc_blk rfl 90 rfl _ (row_zero _) ?_
  intro y2 hb2q hl2q hs2q
  have HB2 : Hid (Blk y2 y1.drew.heap.size 90 #[.slice none 0 0, .int .i64 0]) := hide hb2q
  have HL2 := hide (show Below y1.heap.size y1 y2 from ((Below.refl y1.heap.size y1).drew).trans hl2q)
  clear hb2q hl2q hs2q
  refine hKq.out _ _ trivial (fun hHeld => ?_)
  clear hKq Kq
  try simp only [Act.put, List.setIfInBounds_toArray, List.set_cons_zero, List.set_cons_succ]
  refine wpAnyH_ready (rs := [9]) (by kernel_rfl) (by simp) ?_
  refine heldCons (i := 9) rfl (fun Kq hKq => ?_) AllReadyH.nil
  refine step_store_blk rfl 90 (.tmp 8) (.tmp 31) rfl y1.drew.heap.size 0 90 _ HB2.out rfl (rowL A n c t) rfl row_info (show 0 + (rowL A n c t).length ≤ 2 from Nat.le_refl 2) hR1.out ?_
  intro y3 hb3q hg3 hs3
  have HB3 : Hid (Blk y3 y1.drew.heap.size 90 (rowL A n c t).toArray) := hide hb3q
  have HL3 := hide (HL2.out.grown hg3 HL2.out.size (fun g e => by injection e with e; subst e; exact Nat.le_refl _))
  clear hb3q hs3 hg3
  refine hKq.out _ _ trivial (fun hHeld => ?_)
  clear hKq Kq
  try simp only [Act.put]
  refine heldTake (i := 10) (v := ?_) rfl (by kernel_rfl) (by kernel_rfl) (by kernel_rfl) (fun _ _ _ h => h) (Or.inl ⟨by rfl, ?_⟩) (by assumption) ?_
  rotate_left
  · intro w hSw; (try dsimp only at hSw); go_simp <;> (with_reducible rfl)
  try simp only [Act.put, List.setIfInBounds_toArray, List.set_cons_zero, List.set_cons_succ]
  refine wpAnyH_done (by kernel_rfl) ?_ _
  by_cases hp : strH n t ≤ j
  ·
    have HK1 := hide (HKK.out.trans (if_pos hp))
    have hp1 : (j : Int) ≥ ((strH n t : Nat) : Int) := by omega
    have hp2 : ((strH n t : Nat) : Int) ≤ (j : Int) := by omega
    clear hp
    go_wp2_with (first
      | ((with_reducible refine at_slot 36 ?_); refine wpList_load_blk rfl 90 (.tmp 8) rfl _ 0 90 _ HB3.out rfl (rowL A n c t) _ (fun j v hj => by rw [Nat.zero_add]; simpa using hj) Tryz.underlying90 rfl row_info ?_)
      | (go_at_call 52; refine (HP.out _).mono ?_; rintro _ y4 ⟨rfl, hl4q⟩; have HL4 := hide hl4q; clear hl4q)
      | ((with_reducible refine at_slot 41 ?_); refine wpList_load_blk rfl 90 (.tmp 8) rfl _ 0 90 _ (HB3.out.below HL4.out HB3.out.lt) rfl (rowL A n c t) _ (fun j v hj => by rw [Nat.zero_add]; simpa using hj) Tryz.underlying90 rfl row_info ?_)
      | ((with_reducible refine at_store 4 ?_); refine wpList_store_all rfl 90 (.tmp 4) (.tmp 41) rfl w.heap.size 90 _ ((HB1.out.below (HL3.out.trans (HL4.out.mono HL3.out.size)) HB1.out.lt)) rfl (rowL A n c t) rfl row_info rfl hR1.out ?_; intro y5 hb5 hg5 hs5; clear hs5))
    refine ret_cell_two rfl _ 90 (rowL A n c t) _ hb5 rfl Tryz.underlying90 rfl row_info (.int .i64 (((j + 1 : Nat) : Int))) (.int .i64 0) rfl rfl rfl ⟨by rw [HK1.out]; rfl, ?_⟩
    have hz := (HL1.out.trans ((HL3.out.trans (HL4.out.mono HL3.out.size)).mono HL1.out.size))
    exact hz.grown hg5 hz.size (fun g e => by injection e with e; omega)
  ·
    have HK1 := hide (HKK.out.trans (if_neg hp))
    have hp1 : ¬ (j : Int) ≥ ((strH n t : Nat) : Int) := by omega
    have hp2 : ¬ ((strH n t : Nat) : Int) ≤ (j : Int) := by omega
    clear hp
    go_wp2_with (first
      | ((with_reducible refine at_slot 36 ?_); refine wpList_load_blk rfl 90 (.tmp 8) rfl _ 0 90 _ HB3.out rfl (rowL A n c t) _ (fun j v hj => by rw [Nat.zero_add]; simpa using hj) Tryz.underlying90 rfl row_info ?_)
      | (go_at_call 52; refine (HP.out _).mono ?_; rintro _ y4 ⟨rfl, hl4q⟩; have HL4 := hide hl4q; clear hl4q)
      | ((with_reducible refine at_slot 41 ?_); refine wpList_load_blk rfl 90 (.tmp 8) rfl _ 0 90 _ (HB3.out.below HL4.out HB3.out.lt) rfl (rowL A n c t) _ (fun j v hj => by rw [Nat.zero_add]; simpa using hj) Tryz.underlying90 rfl row_info ?_)
      | ((with_reducible refine at_store 4 ?_); refine wpList_store_all rfl 90 (.tmp 4) (.tmp 41) rfl w.heap.size 90 _ ((HB1.out.below (HL3.out.trans (HL4.out.mono HL3.out.size)) HB1.out.lt)) rfl (rowL A n c t) rfl row_info rfl hR1.out ?_; intro y5 hb5 hg5 hs5; clear hs5))
    refine ret_cell_two rfl _ 90 (rowL A n c t) _ hb5 rfl Tryz.underlying90 rfl row_info (.int .i64 ((j : Int))) (.int .i64 0) rfl rfl rfl ⟨by rw [HK1.out]; rfl, ?_⟩
    have hz := (HL1.out.trans ((HL3.out.trans (HL4.out.mono HL3.out.size)).mono HL1.out.size))
    exact hz.grown hg5 hz.size (fun g e => by injection e with e; omega)
end Go.Proofs.YtmjjnbabfldbcaaGreat
namespace Go.Proofs.YtmjjnbabfldbcaaGreat
open Go.RowKit
set_option linter.unusedVariables false
/-- A place as a value. -/
def plV (p : PlI) : Value := .agg (plC p).toArray
/-- What a loop keeps: the places that have come, whether it goes on, the blocks of its own. -/
abbrev Kept := List PlI → Bool → (Nat → Prop) → World → Prop
def Kept.Stays (n0 : Nat) (C : Kept) : Prop := ∀ pre go H W W', C pre go H W → Turn (fun k => ¬ H k ∧ n0 ≤ k) W W' → C pre go H W'
def Kept.Low (C : Kept) : Prop := ∀ pre go H W, C pre go H W → ∀ k, H k → k < W.heap.size
/-- A loop's body, as the function that is ranged over meets it. -/
structure Eat (n0 l : Nat) (C : Kept) (N : Nat) : Prop where
  eats : ∀ (m : Nat) (pre : List PlI) (x : PlI) (H : Nat → Prop) (W : World), C pre true H W → pre.length < N →
    YieldAt Fence.wide m Tryz.prog l #[plV x] W fun e W' => ∃ go H', e = .returned (.bool go) ∧ Turn H W W' ∧ (∀ k, H' k → H k ∨ W.heap.size ≤ k) ∧ C (pre ++ [x]) go H' W'
  stays : Kept.Stays n0 C
  low : C.Low
/-- A function that is ranged over: it reads the blocks of Q alone, of which D says what is in them. -/
structure SeqOf (gf : Nat) (lb : List Value) (xs : List PlI) (D : World → Prop) (Q : Nat → Prop) : Prop where
  enters : ∀ args w, (callFunc gf args).run Tryz.prog w = .ok (.enter gf args) w
  stays : ∀ W W', D W → Turn (fun k => ¬ Q k) W W' → D W'
  low : ∀ W, D W → ∀ k, Q k → k < W.heap.size
  gives : ∀ (n0 l N : Nat) (C : Kept), Eat n0 l C N → ∀ (pre : List PlI) (H : Nat → Prop) (W : World), n0 ≤ W.heap.size → C pre true H W → D W → (∀ k, H k → ¬ Q k) → pre.length + xs.length ≤ N →
    Calls Tryz.prog gf (#[.func (.yield l) #[] #[]] ++ lb.toArray) W fun e W' => (∃ v, e = .returned v) ∧
      ∃ ys go H', ys <+: xs ∧ (go = true → ys = xs) ∧ C (pre ++ ys) go H' W' ∧ Turn H W W' ∧ (∀ k, H' k → H k ∨ W.heap.size ≤ k)
/-- How a round may end. -/
def roundEnd (I : Kept) (pre : List PlI) (H : Nat → Prop) (n : Nat) (W : World) : Exit → Act → World → Prop
  | .normal, _, W' => ∃ H', I pre true H' W' ∧ Turn H W W' ∧ ∀ k, H' k → H k ∨ n ≤ k
  | .ret, _, W' => ∃ H', I pre false H' W' ∧ Turn H W W' ∧ ∀ k, H' k → H k ∨ n ≤ k
  | _, _, _ => False
theorem turn_put {H : Nat → Prop} {W : World} (l : Nat) (o : Obj) (h : H l) : Turn H W (W.putObj l o) :=
  Turn.of_grown (grownBy_putObj' W l o) (fun g e => by injection e with e; subst e; exact h)
theorem Turn.obj {F : Nat → Prop} {a b : World} (h : Turn F a b) {k : Nat} {o : Obj} (hk : a.heap[k]? = some o) (hF : ¬ F k) : b.heap[k]? = some o :=
  (h.block k (Array.getElem?_eq_some_iff.1 hk).1 hF).trans hk
theorem roundIn_wide {m k : Nat} {P : Program} {l : Nat} {f : FuncId} {tmps : Array Value} {assign body : Code} {w : World} {R : Ending → World → Prop} (h : RoundIn Fence.wide k P l f tmps assign body w R) : RoundIn Fence.wide m P l f tmps assign body w R :=
  ⟨h.1, fun c cs _ => h.2 c cs (room_wide _)⟩
/-- 'for p := range seq { .. }'. -/
theorem range_law {gf : Nat} {lb : List Value} {xs : List PlI} {D : World → Prop} {Q : Nat → Prop} (hs : SeqOf gf lb xs D Q) {n : Nat} {g : Operand} {p : Tmp} {assign body : Code} {QQ : Exit → Act → World → Prop} {a : Act} {w : World}
    (hg : a.eval g = .func (.func gf) #[] lb.toArray) (I : Kept) (hIs : Kept.Stays w.heap.size I) (hIl : I.Low) (H0 : Nat → Prop) (h0 : I [] true H0 w) (hD : D w) (hHQ : ∀ k, H0 k → ¬ Q k)
    (hbody : ∀ (l : Nat) (pre : List PlI) (x : PlI) (H : Nat → Prop) (W : World) (K : Act → World → Prop), I pre true H W → ¬ H l → w.heap.size ≤ l → l < W.heap.size → pre.length < xs.length →
      (∀ a₁ W₁, Turn (fun _ => False) W W₁ → (∀ W₂, Turn (fun k => k = l) W₁ W₂ → body.wpIn (Fence.wide.inRound l) 5 Tryz.prog (roundEnd I (pre ++ [x]) H W.heap.size W₂) a₁ W₂) → K a₁ W₁) →
      assign.wpIn (Fence.wide.inRound l) 5 Tryz.prog (Exit.then K (fun _ _ _ => False)) { tmps := a.tmps.setIfInBounds p (plV x), defers := [] } W)
    (hdone : ∀ (B : Nat) (H : Nat → Prop) (W : World), I xs true H W → Turn H0 w W → (∀ k, H k → H0 k ∨ w.heap.size ≤ k) → w.heap.size ≤ B → ¬ H B → W.heap[B]? = some (.deferred (some [])) → QQ .normal { a with defers := { target := .collected B, args := #[] } :: a.defers } W)
    (hstop : ∀ (B : Nat) (ys : List PlI) (H : Nat → Prop) (W : World), ys <+: xs → I ys false H W → Turn H0 w W → (∀ k, H k → H0 k ∨ w.heap.size ≤ k) → w.heap.size ≤ B → ¬ H B → W.heap[B]? = some (.deferred (some [])) → QQ .ret { a with defers := { target := .collected B, args := #[] } :: a.defers } W) :
    (Code.rangeFunc g #[p] assign body).wpIn Fence.wide n Tryz.prog QQ a w := by
  refine wpIn_rangeFunc ?_
  intro fn hfn
  obtain ⟨rec, hrec⟩ : ∃ rec : LoopState → Option Code → Loop, rec = fun st pe => { state := st, pending := pe, fn, tmps := a.tmps, params := #[p], assign, body, defers := w.heap.size } := ⟨_, rfl⟩
  obtain ⟨W1, hW1⟩ : ∃ W1, (w.alloc (.deferred (some []))).alloc (.loop (rec .ready none)) = W1 := ⟨_, rfl⟩
  obtain ⟨l, hl⟩ : ∃ l, l = w.heap.size + 1 := ⟨_, rfl⟩
  obtain ⟨B, hB⟩ : ∃ B, B = w.heap.size := ⟨_, rfl⟩
  have hlB : l ≠ B := by omega
  have hL1 : W1.heap[l]? = some (.loop (rec .ready none)) := by
    rw [← hW1, hl]; have := World.alloc_heap_new (w.alloc (.deferred (some []))) (.loop (rec .ready none)); rwa [World.size_alloc] at this
  have hK1 : W1.heap[B]? = some (.deferred (some [])) := by
    rw [← hW1, hB]; exact (Below.heap_alloc _ _ _ (by simp)).trans (World.alloc_heap_new w _)
  have hT1 : Turn (fun _ => False) w W1 := by rw [← hW1]; exact ((Turn.refl _ w).alloc _).alloc _
  have hH0 : ∀ k, H0 k → k < w.heap.size := hIl _ _ _ _ h0
  obtain ⟨C, hC⟩ : ∃ C : Kept, C = fun pre go H W => ∃ H1 : Nat → Prop, (∀ k, H k ↔ (H1 k ∨ k = l ∨ k = B)) ∧ I pre go H1 W ∧ ¬ H1 l ∧ ¬ H1 B ∧
      W.heap[l]? = some (.loop (rec (if go then .ready else .done) (if go then none else some .ret))) ∧ W.heap[B]? = some (.deferred (some [])) := ⟨_, rfl⟩
  have hen : (Instr.enterLoop fn a.tmps #[p] assign body Fence.wide.round).run Tryz.prog w = .ok (l, [{ target := .collected B, args := #[] }]) W1 := by
    rw [← hW1, hrec, hl, hB]; exact run_enterLoop_outer _ _ _ _ _
  refine ⟨l, [{ target := .collected B, args := #[] }], W1, { target := .fn (.func gf) lb.toArray, args := #[.func (.yield l) #[] #[]] }, W1, gf, #[.func (.yield l) #[] #[]] ++ lb.toArray, W1, hen, ?_, fun _ _ => trivial, ?_, fun h => by simp [Fence.wide] at h, ?_⟩
  · simp only [resolve, hg]
    simp [go_sem]
  · simp [invoke, go_sem, hs.enters]
  refine callsIn_wide.2 ?_
  have eat : Eat w.heap.size l C xs.length := by
    refine ⟨?_, ?_, ?_⟩
    · intro m pre x H W hCW hlen
      rw [hC] at hCW
      obtain ⟨H1, hH, hI, hl1, hB1, hL, hK⟩ := hCW
      have hlt : l < W.heap.size := (Array.getElem?_eq_some_iff.1 hL).1
      have hy := run_yield (P := Tryz.prog) (args := #[plV x]) hL (by rw [hrec]; rfl)
      rw [hrec] at hy
      have hy2 : (Instr.yield l #[plV x]).run Tryz.prog W = .ok (.round l fn (a.tmps.setIfInBounds p (plV x)) assign body) W := by simpa using hy
      refine ⟨fn, _, assign, body, hy2, roundIn_wide (k := 5) (roundIn_of_wpIn hfn ?_)⟩
      refine hbody l pre x H1 W _ hI hl1 (by omega) hlt hlen ?_
      intro a₁ W₁ hTa hbd
      have hLa := hTa.obj hL (fun h => h)
      have hLb : W₁.heap[l]? = some (.loop (rec .ready none)) := hLa
      refine ⟨_, run_beginRound hLb (by rw [hrec]), ?_⟩
      obtain ⟨W₂, hW₂⟩ : ∃ W₂, W₁.putObj l (.loop { rec .ready none with state := .busy }) = W₂ := ⟨_, rfl⟩
      have hL2 : W₂.heap[l]? = some (.loop { rec .ready none with state := .busy }) := by rw [← hW₂]; exact World.putObj_heap_same (Array.getElem?_eq_some_iff.1 hLa).1
      have hT2 : Turn (fun k => k = l) W₁ W₂ := by rw [← hW₂]; exact turn_put l _ rfl
      have hK2 : W₂.heap[B]? = some (.deferred (some [])) := hT2.obj (hTa.obj hK (fun h => h)) (fun e => hlB e.symm)
      have hb := hbd W₂ hT2
      rw [hW₂]
      refine wpIn_mono hb ?_
      have hHl : H l := (hH l).2 (.inr (.inl rfl))
      have fin : ∀ (jump : Option Code) (W₃ : World) (H' : Nat → Prop), Turn H1 W₂ W₃ → (∀ k, H' k → H1 k ∨ W.heap.size ≤ k) →
          (Instr.endRound l jump).run Tryz.prog W₃ = .ok (.bool jump.isNone) (W₃.putObj l (.loop (rec (if jump.isNone then .ready else .done) jump))) ∧
          Turn H W (W₃.putObj l (.loop (rec (if jump.isNone then .ready else .done) jump))) ∧ ¬ H' l ∧ ¬ H' B ∧
          Turn (fun k => ¬ H' k ∧ w.heap.size ≤ k) W₃ (W₃.putObj l (.loop (rec (if jump.isNone then .ready else .done) jump))) ∧
          (W₃.putObj l (.loop (rec (if jump.isNone then .ready else .done) jump))).heap[l]? = some (.loop (rec (if jump.isNone then .ready else .done) jump)) ∧
          (W₃.putObj l (.loop (rec (if jump.isNone then .ready else .done) jump))).heap[B]? = some (.deferred (some [])) := fun jump W₃ H' hT3 hsub => by
        have hL3 := hT3.obj hL2 hl1
        have hK3 := hT3.obj hK2 hB1
        have hnl : ¬ H' l := fun h => by rcases hsub l h with h1 | h1; exact hl1 h1; omega
        have hnB : ¬ H' B := fun h => by
          rcases hsub B h with h1 | h1
          · exact hB1 h1
          · have := (Array.getElem?_eq_some_iff.1 hK).1; omega
        have hr := run_endRound (P := Tryz.prog) jump hL3
        refine ⟨?_, ?_, hnl, hnB, turn_put l _ ⟨hnl, by omega⟩, World.putObj_heap_same (Array.getElem?_eq_some_iff.1 hL3).1, (World.putObj_heap_other (fun e => hlB e.symm)).trans hK3⟩
        · rw [hrec] at hr ⊢; exact hr
        · exact (((hTa.wider (fun _ h => h.elim)).trans (hT2.wider (fun k e => by subst e; exact hHl))).trans (hT3.wider (fun k h => (hH k).2 (.inl h)))).trans (turn_put l _ hHl)
      rintro e a3 W₃ hp
      cases e with
      | normal =>
        obtain ⟨H', hI', hT3, hsub⟩ := hp
        obtain ⟨hr, hT, hnl, hnB, hTp, hL4, hK4⟩ := fin none W₃ H' hT3 hsub
        refine ⟨_, _, hr, true, fun k => H' k ∨ k = l ∨ k = B, rfl, hT, ?_, ?_⟩
        · rintro k (h | h | h)
          · rcases hsub k h with h1 | h1
            · exact .inl ((hH k).2 (.inl h1))
            · exact .inr h1
          · exact .inl ((hH k).2 (.inr (.inl h)))
          · exact .inl ((hH k).2 (.inr (.inr h)))
        · rw [hC]; exact ⟨H', fun _ => Iff.rfl, hIs _ _ _ _ _ hI' hTp, hnl, hnB, hL4, hK4⟩
      | ret =>
        obtain ⟨H', hI', hT3, hsub⟩ := hp
        obtain ⟨hr, hT, hnl, hnB, hTp, hL4, hK4⟩ := fin (some .ret) W₃ H' hT3 hsub
        refine ⟨_, _, hr, false, fun k => H' k ∨ k = l ∨ k = B, rfl, hT, ?_, ?_⟩
        · rintro k (h | h | h)
          · rcases hsub k h with h1 | h1
            · exact .inl ((hH k).2 (.inl h1))
            · exact .inr h1
          · exact .inl ((hH k).2 (.inr (.inl h)))
          · exact .inl ((hH k).2 (.inr (.inr h)))
        · rw [hC]; exact ⟨H', fun _ => Iff.rfl, hIs _ _ _ _ _ hI' hTp, hnl, hnB, hL4, hK4⟩
      | exit id => exact hp.elim
      | goto t => exact hp.elim
      | panic ch => exact hp.elim
      | outgrown => exact hp.elim
    · intro pre go H W W' hCW hT
      rw [hC] at hCW ⊢
      obtain ⟨H1, hH, hI, hl1, hB1, hL, hK⟩ := hCW
      exact ⟨H1, hH, hIs _ _ _ _ _ hI (hT.wider (fun k h => ⟨fun h1 => h.1 ((hH k).2 (.inl h1)), h.2⟩)), hl1, hB1, hT.obj hL (fun h => h.1 ((hH l).2 (.inr (.inl rfl)))), hT.obj hK (fun h => h.1 ((hH B).2 (.inr (.inr rfl))))⟩
    · intro pre go H W hCW k hk
      rw [hC] at hCW
      obtain ⟨H1, hH, hI, hl1, hB1, hL, hK⟩ := hCW
      rcases (hH k).1 hk with h | h | h
      · exact hIl _ _ _ _ hI k h
      · subst h; exact (Array.getElem?_eq_some_iff.1 hL).1
      · subst h; exact (Array.getElem?_eq_some_iff.1 hK).1
  have hC0 : C [] true (fun k => H0 k ∨ k = l ∨ k = B) W1 := by
    rw [hC]
    exact ⟨H0, fun _ => Iff.rfl, hIs _ _ _ _ _ h0 (hT1.wider (fun _ h => h.elim)), fun h => by have := hH0 l h; omega, fun h => by have := hH0 B h; omega, hL1, hK1⟩
  have hQ0 : ∀ k, (H0 k ∨ k = l ∨ k = B) → ¬ Q k := by
    rintro k (h | h | h) hq
    · exact hHQ k h hq
    · have := hs.low w hD k hq; omega
    · have := hs.low w hD k hq; omega
  refine (hs.gives w.heap.size l xs.length C eat [] _ W1 hT1.size hC0 (hs.stays _ _ hD (hT1.wider (fun _ h => h.elim))) hQ0 (by simp)).mono ?_
  rintro e W2 ⟨⟨v, rfl⟩, ys, go, H', hpre, hgo, hCW, hT, hsub⟩
  rw [List.nil_append, hC] at hCW
  obtain ⟨H1, hH, hI, hl1, hB1, hL, hK⟩ := hCW
  have hend := run_endLoop (P := Tryz.prog) hL (by rw [hrec]; cases go <;> simp)
  have hsb : ∀ k, H1 k → H0 k ∨ w.heap.size ≤ k := fun k hk => by
    rcases hsub k ((hH k).2 (.inl hk)) with (h | h | h) | h
    · exact .inl h
    · exact .inr (by omega)
    · exact .inr (by omega)
    · exact .inr (Nat.le_trans hT1.size h)
  have hTw : Turn H0 w W2 := by
    refine ⟨hT.os.trans hT1.os, hT.tape.trans hT1.tape, hT.output.trans hT1.output, Nat.le_trans hT1.size hT.size, fun i hi hn => ?_⟩
    refine (hT.block i (Nat.lt_of_lt_of_le hi hT1.size) ?_).trans (hT1.block i hi (fun h => h))
    rintro (h | h | h)
    · exact hn h
    · omega
    · omega
  have hTz : Turn H0 w (W2.putObj l (.loop { rec (if go then .ready else .done) (if go then none else some .ret) with state := .exhausted })) :=
    hTw.grown (grownBy_putObj' W2 l _) (fun g e => by injection e with e; subst e; exact .inr (by omega))
  have hIz := hIs _ _ _ _ _ hI (turn_put (W := W2) (H := fun k => ¬ H1 k ∧ w.heap.size ≤ k) l (.loop { rec (if go then .ready else .done) (if go then none else some .ret) with state := .exhausted }) ⟨hl1, by omega⟩)
  have hKz : (W2.putObj l (.loop { rec (if go then .ready else .done) (if go then none else some .ret) with state := .exhausted })).heap[B]? = some (.deferred (some [])) := (World.putObj_heap_other (fun e => hlB e.symm)).trans hK
  cases go with
  | true =>
    have e := hgo rfl
    subst e
    refine ⟨none, _, ?_, hdone B H1 _ hIz hTz hsb (by omega) hB1 hKz⟩
    rw [hrec] at hend ⊢; exact hend
  | false =>
    refine ⟨some .ret, _, ?_, wpIn_ret (hstop B ys H1 _ hpre hIz hTz hsb (by omega) hB1 hKz)⟩
    rw [hrec] at hend ⊢; exact hend
end Go.Proofs.YtmjjnbabfldbcaaGreat
namespace Go.Proofs.YtmjjnbabfldbcaaGreat
open Go.RowKit
set_option linter.unusedVariables false
theorem calls_round {l n : Nat} {P : Program} {f : FuncId} {args : Array Value} {w : World} {R : Ending → World → Prop} (h : Calls P f args w R) : CallsIn (Fence.wide.inRound l) n P f args w R :=
  (callsIn_wide.2 h : CallsIn Fence.wide n P f args w R)
section
variable {F : Fence} {n : Nat} {P : Program} {ops : Array Oper} {rest : List Oper} {o : Oper} {a : Act} {w : World} {Q : Exit → Act → World → Prop}
theorem inList_alloc (hF : ∀ f, F.fn f) (hgd : o.guard = none) (ty : TypeId) (ho : o.op = .alloc ty) (z : Value) (hz : (zeroValue ty).run P w = .ok z w)
    (hK : ∀ w', Blk w' w.heap.size ty z.cells → Below w.heap.size w w' → w'.heap.size = w.heap.size + 1 → wpListIn F n P ops Q rest (a.put o.dst (.pointer (some ⟨w.heap.size, 0, none⟩))) w') : wpListIn F n P ops Q (o :: rest) a w :=
  wpListIn_plain hgd fun K hK' => by
    have hrun : (Instr.alloc ty true (.tuple #[])).run P w = .ok (.pointer (some ⟨w.heap.size, 0, none⟩)) (w.alloc (.cells z.cells ty)) := by
      simp [Instr.alloc, hz, newVar, newRow, Result.andThen, go_sem]
    unfold Oper.wpIn
    refine ⟨fun f _ => hF f, ?_⟩
    rw [Oper.semAt_plain F _ _ (by rw [ho]; intro c hc'; cases hc')]
    simp [execOp, ho, hrun, Result.andThen]
    exact hK' _ _ (hK _ (Blk.new _ _ _) ((Below.refl _ _).alloc (Nat.le_refl _) _) (World.size_alloc _ _))
theorem inList_store (hF : ∀ f, F.fn f) (hgd : o.guard = none) (ty : TypeId) (x y : Operand) (ho : o.op = .store ty x y)
    (g : Nat) (t : TypeId) (cur : Array Value) (h : Blk w g t cur) (hx : a.eval x = .pointer (some ⟨g, 0, none⟩)) (cs : List Value) (hy : a.eval y = .agg cs.toArray) (hi : (P.info? ty).map (·.size) = some cs.length)
    (hl : cs.length = cur.size) (h1 : ∀ v ∈ cs, v.oneCell' = true)
    (hK : ∀ w', Blk w' g t cs.toArray → w.grownBy w' (some g) → w'.heap.size = w.heap.size → wpListIn F n P ops Q rest (a.put o.dst undef) w') : wpListIn F n P ops Q (o :: rest) a w :=
  wpListIn_plain hgd fun K hK' => by
    obtain ⟨w', hrun, h2, h3, h4⟩ := run_storeVar_blk (P := P) w g 0 t ty cur h cs hi (by omega) h1
    have h5 : Blk w' g t cs.toArray := by
      rw [List.take_zero, List.nil_append, List.drop_of_length_le (by rw [Array.length_toList]; omega), List.append_nil] at h2
      exact h2
    unfold Oper.wpIn
    refine ⟨fun f _ => hF f, ?_⟩
    rw [Oper.semAt_plain F _ _ (by rw [ho]; intro c hc'; cases hc')]
    unfold execOp
    simp only [ho, hx, hy, Instr.storeAt, Instr.sureAddr, Sem.run_bind, Sem.run_pure, Result.andThen_ok, hrun]
    exact hK' _ _ (hK w' h5 h3 h4)
theorem inList_load (hF : ∀ f, F.fn f) (hgd : o.guard = none) (ty : TypeId) (x : Operand) (ho : o.op = .load ty x)
    (g off : Nat) (t : TypeId) (cur : Array Value) (h : Blk w g t cur) (hx : a.eval x = .pointer (some ⟨g, off, none⟩)) (cs : List Value) (d : TypeDesc) (hc : ∀ (j : Nat) v, cs[j]? = some v → cur[off + j]? = some v)
    (hu : P.underlying ty = some d) (hd : (match d with | .struct _ | .array _ _ => true | _ => false) = true) (hi : (P.info? ty).map (·.size) = some cs.length)
    (hK : wpListIn F n P ops Q rest (a.put o.dst (.agg cs.toArray)) w) : wpListIn F n P ops Q (o :: rest) a w :=
  wpListIn_plain hgd fun K hK' => by
    unfold Oper.wpIn
    refine ⟨fun f _ => hF f, ?_⟩
    rw [Oper.semAt_plain F _ _ (by rw [ho]; intro c hc'; cases hc')]
    unfold execOp
    simp only [ho, hx, Instr.loadAt, Instr.sureAddr, Sem.run_bind, Sem.run_pure, Result.andThen_ok, run_loadVar_blk (P := P) w g off t ty cur h cs d hc hu hd hi]
    exact hK' _ _ hK
theorem inList_build (hF : ∀ f, F.fn f) (hgd : o.guard = none) (ty : TypeId) (parts : Array (Nat × Operand)) (ho : o.op = .build ty parts) (vs : List (Nat × Value))
    (hv : (parts.map fun (i, x) => (i, a.eval x)).toList = vs) (cells : Array Value) (hb : P.built ty vs = some cells) (hK : wpListIn F n P ops Q rest (a.put o.dst (.agg cells)) w) : wpListIn F n P ops Q (o :: rest) a w :=
  wpListIn_plain hgd fun K hK' => by
    unfold Oper.wpIn
    refine ⟨fun f _ => hF f, ?_⟩
    rw [Oper.semAt_plain F _ _ (by rw [ho]; intro c hc'; cases hc')]
    unfold execOp
    simp only [ho, Sem.run_bind, run_build w ty _ cells (by rw [hv]; exact hb), Result.andThen_ok, Sem.run_pure]
    exact hK' _ _ hK
theorem inList_buildAgg (hF : ∀ f, F.fn f) (hgd : o.guard = none) (x : Operand) (t : TypeId) (ho : o.op = .buildSlice t 1 #[(0, x)])
    (e : TypeId) (i : TypeInfo) (z : Value) (size : Nat) (ht : P.underlying t = some (.slice e)) (hi : P.info? e = some i) (hz : (zeroValue e).run P w = .ok z w) (hsize : i.size = size) (h0 : 0 < size) (h24 : size ≤ 16777216)
    (G : Array Value) (hx : a.eval x = .agg G) (hG : G.size = size)
    (h : wpListIn F n P ops Q rest (a.put o.dst (.slice (some ⟨w.heap.size, 0, none⟩) 1 1)) (w.alloc (.cells G e))) : wpListIn F n P ops Q (o :: rest) a w :=
  wpListIn_plain hgd fun K hK' => by
    have hrun := run_build_agg (P := P) w t e i z size ht hi hz hsize h0 h24 G hG
    unfold Oper.wpIn
    refine ⟨fun f _ => hF f, ?_⟩
    rw [Oper.semAt_plain F _ _ (by rw [ho]; intro c hc'; cases hc')]
    simp [execOp, ho, hx, hrun, Result.andThen]
    exact hK' _ _ h
theorem inList_poke (hF : ∀ f, F.fn f) (hgd : o.guard = none) (ty : TypeId) (x y : Operand) (ho : o.op = .store ty x y)
    (g : Nat) (t : TypeId) (u : Value) (h : Blk w g t #[u]) (hx : a.eval x = .pointer (some ⟨g, 0, none⟩)) (v : Value) (hy : a.eval y = v) (h1 : v.oneCell' = true) (hi : (P.info? ty).map (·.size) = some 1)
    (hK : ∀ w', Blk w' g t #[v] → w.grownBy w' (some g) → w'.heap.size = w.heap.size → wpListIn F n P ops Q rest (a.put o.dst undef) w') : wpListIn F n P ops Q (o :: rest) a w :=
  wpListIn_plain hgd fun K hK' => by
    obtain ⟨w', hrun, h2, h3, h4⟩ := run_storeVar_poke (P := P) w g 0 t ty #[u] h v h1 hi (by simp)
    unfold Oper.wpIn
    refine ⟨fun f _ => hF f, ?_⟩
    rw [Oper.semAt_plain F _ _ (by rw [ho]; intro c hc'; cases hc')]
    unfold execOp
    simp only [ho, hx, hy, Instr.storeAt, Instr.sureAddr, Sem.run_bind, Sem.run_pure, Result.andThen_ok, hrun]
    exact hK' _ _ (hK w' h2 h3 h4)
theorem inList_append (hF : ∀ f, F.fn f) (hgd : o.guard = none) (s x : Operand) (t : TypeId)
    (ho : o.op = .call { callee := .builtin .append, args := #[s, x], argTypes := #[t, t] })
    (base : Nat) (e : TypeId) (i : TypeInfo) (z : Value) (size bytes : Nat) (ht : P.underlying t = some (.slice e)) (hi : P.info? e = some i) (hz : i.zero = some z)
    (hsize : i.size = size) (hby : i.bytes = bytes) (hzs : z.cells.size = size) (hsz : 0 < size)
    (v : Value) (k : Nat) (xs : List Value) (hs : a.eval s = v) (hown : w.ownsRow base e size v k xs)
    (B : Nat) (A : Option Addr) (m c : Nat) (news : List Value) (hx : a.eval x = .slice A m c) (hr : Reads w B size A m news) (h1 : ∀ u ∈ news, u.oneCell' = true)
    (h63 : k + m ≤ maxLen) (hbytes : (k + m) * bytes ≤ 140737488355328) (hbase : base ≤ w.heap.size)
    (h : ∀ v' w', w'.ownsRow base e size v' (k + m) (xs ++ news) → w.grownBy w' v.ownBlock → (v'.ownBlock = v.ownBlock ∨ v'.ownBlock = some w.heap.size) → wpListIn F n P ops Q rest (a.put o.dst v') w') : wpListIn F n P ops Q (o :: rest) a w :=
  wpListIn_plain hgd fun K hK => by
    obtain ⟨v', w', hrun, h2, h3, h4⟩ := run_append_any (P := P) w base t o.type e i z size bytes ht hi hz hsize hby hzs hsz v k xs hown B A m c news hr h1 h63 hbytes hbase
    unfold Oper.wpIn
    refine ⟨fun f _ => hF f, ?_⟩
    rw [Oper.semAt_plain F _ _ (by rw [ho]; intro c hc'; cases hc')]
    unfold execOp
    simp only [ho, resolve, invoke, builtin, Sem.run_bind, Sem.run_pure, Result.andThen_ok, List.map_toArray, List.map_cons, List.map_nil, hs, hx, hrun]
    exact hK _ _ (h v' w' h2 h3 h4)
theorem at_slotIn {op : Op} {ty : TypeId} {pos : String} {aft : Array Edge} {g : Option (Nat × Bool)} (k : Tmp) (h : wpListIn F n P ops Q (⟨some k, op, ty, pos, aft, g⟩ :: rest) a w) : wpListIn F n P ops Q (⟨some k, op, ty, pos, aft, g⟩ :: rest) a w := h
theorem at_storeIn {d : Option Tmp} {t ty : TypeId} {x : Operand} {pos : String} {aft : Array Edge} {g : Option (Nat × Bool)} (k : Tmp) (h : wpListIn F n P ops Q (⟨d, .store t (.tmp k) x, ty, pos, aft, g⟩ :: rest) a w) : wpListIn F n P ops Q (⟨d, .store t (.tmp k) x, ty, pos, aft, g⟩ :: rest) a w := h
end
end Go.Proofs.YtmjjnbabfldbcaaGreat
namespace Go.Proofs.YtmjjnbabfldbcaaGreat
open Go.RowKit
set_option linter.unusedVariables false
attribute [local go_sem] Oper.semAt_some
/-! ### By definition alone -/
def plAt (M : List PlI) (k : Nat) : PlI := (M[k]?).getD (0, 0)
/-- The first k of M but those of L. -/
def butTo (M : List PlI) (L : List Int) : Nat → List PlI
  | 0 => []
  | k + 1 => butTo M L k ++ (if (k : Int) ∈ L then [] else [plAt M k])
section
variable {M : List PlI} {L : List Int}
theorem butTo_pre : ∀ {n k : Nat}, k ≤ n → butTo M L k <+: butTo M L n
  | 0, k, h => by obtain rfl : k = 0 := by omega
                  exact List.prefix_refl _
  | n + 1, k, h => by
    rcases Nat.lt_or_ge k (n + 1) with h1 | h1
    · exact (butTo_pre (n := n) (k := k) (by omega)).trans (List.prefix_append _ _)
    · obtain rfl : k = n + 1 := by omega
      exact List.prefix_refl _
theorem plAt_take {k : Nat} (h : k < M.length) : M.take (k + 1) = M.take k ++ [plAt M k] := by
  rw [List.take_succ_eq_append_getElem h]
  unfold plAt
  rw [List.getElem?_eq_getElem h]
  rfl
theorem erase_lt {l : List PlI} {x : PlI} {i : Nat} (h : i < l.length) : (l ++ [x]).eraseIdx i = l.eraseIdx i ++ [x] := List.eraseIdx_append_of_lt_length h _
theorem erase_at {l : List PlI} {x : PlI} {i : Nat} (h : i = l.length) : (l ++ [x]).eraseIdx i = l := by
  rw [List.eraseIdx_append_of_length_le (by omega), h, Nat.sub_self]
  simp
theorem butTo_none {k : Nat} (hk : k ≤ M.length) (hn : ∀ i < k, (i : Int) ∉ L) : butTo M L k = M.take k := by
  induction k with
  | zero => rfl
  | succ k ih => rw [butTo, if_neg (hn k (by omega)), ih (by omega) (fun i hi => hn i (by omega)), plAt_take (by omega)]
theorem butTo_one {h : Nat} {k : Nat} (hk : k ≤ M.length) (hh : h < k) : butTo M [(h : Int)] k = (M.take k).eraseIdx h := by
  induction k with
  | zero => omega
  | succ k ih =>
    rw [plAt_take (by omega), butTo]
    rcases Nat.lt_or_ge h k with h1 | h1
    · rw [if_neg (by simp only [List.mem_singleton]; omega), ih (by omega) h1, erase_lt (by rw [List.length_take]; omega)]
    · obtain rfl : h = k := by omega
      rw [if_pos (by simp), List.append_nil, butTo_none (by omega) (fun i hi => by simp only [List.mem_singleton]; omega), erase_at (by rw [List.length_take]; omega)]
/-- Two left out: the lesser one first, or the greater one first. -/
theorem butTo_two {x y a b : Nat} {k : Nat} (hab : a < b) (hL : ∀ i : Nat, ((i : Int) ∈ [(x : Int), (y : Int)]) ↔ (i = a ∨ i = b)) (hk : k ≤ M.length) (hb : b < k) :
    butTo M [(x : Int), (y : Int)] k = ((M.take k).eraseIdx b).eraseIdx a ∧ butTo M [(x : Int), (y : Int)] k = ((M.take k).eraseIdx a).eraseIdx (b - 1) := by
  have h1 : ∀ j, a < j → j ≤ b → j ≤ M.length → butTo M [(x : Int), (y : Int)] j = (M.take j).eraseIdx a := by
    intro j
    induction j with
    | zero => intro h; omega
    | succ j ih =>
      intro ha hjb hj
      rw [plAt_take (by omega), butTo]
      rcases Nat.lt_or_ge a j with h1 | h1
      · rw [if_neg (fun h => by rcases (hL j).1 h with h | h <;> omega), ih h1 (by omega) (by omega), erase_lt (by rw [List.length_take]; omega)]
      · obtain rfl : a = j := by omega
        rw [if_pos ((hL a).2 (.inl rfl)), List.append_nil, butTo_none (by omega) (fun i hi h => by rcases (hL i).1 h with h | h <;> omega), erase_at (by rw [List.length_take]; omega)]
  induction k with
  | zero => omega
  | succ k ih =>
    rw [plAt_take (by omega), butTo]
    have hlt : (M.take k).length = k := by rw [List.length_take]; omega
    rcases Nat.lt_or_ge b k with h2 | h2
    · obtain ⟨i1, i2⟩ := ih (by omega) h2
      rw [if_neg (fun h => by rcases (hL k).1 h with h | h <;> omega)]
      have e1 : ((M.take k).eraseIdx b).length = k - 1 := by rw [List.length_eraseIdx, hlt, if_pos h2]
      have e2 : ((M.take k).eraseIdx a).length = k - 1 := by rw [List.length_eraseIdx, hlt, if_pos (by omega)]
      refine ⟨?_, ?_⟩
      · rw [i1, erase_lt (by omega), erase_lt (by omega)]
      · rw [i2, erase_lt (by omega), erase_lt (by omega)]
    · obtain rfl : b = k := by omega
      have e2 : ((M.take b).eraseIdx a).length = b - 1 := by rw [List.length_eraseIdx, hlt, if_pos (by omega)]
      rw [if_pos ((hL b).2 (.inr rfl)), List.append_nil, h1 b hab (Nat.le_refl _) (by omega)]
      refine ⟨?_, ?_⟩
      · rw [erase_at (by omega)]
      · rw [erase_lt (by omega), erase_at (by omega)]
/-- All but one extent. -/
theorem but_one {X : List PlI} {t h : Nat} (hh : h < X.length) : butTo (strM X t) [(h : Int)] X.length = strO X h t := by
  rw [butTo_one (by rw [strM_length]; exact Nat.le_refl _) hh, List.take_of_length_le (by rw [strM_length]; exact Nat.le_refl _)]
  rfl
/-- All but a slot's extent and the parity's. -/
theorem but_two {X : List PlI} {s : Nat} (hX : 2 ≤ X.length) (hs : s < slotsN X.length) : butTo (strM X (s / (X.length - 1))) [(kOf X.length s : Int), (strH X.length (s / (X.length - 1)) : Int)] X.length = (strD X (s / (X.length - 1))).eraseIdx (s % (X.length - 1)) := by
  have hH := strH_lt (n := X.length) (t := s / (X.length - 1)) (by omega)
  have hr : s % (X.length - 1) < X.length - 1 := Nat.mod_lt _ (by omega)
  obtain ⟨h, hh⟩ : ∃ h, h = strH X.length (s / (X.length - 1)) := ⟨_, rfl⟩
  obtain ⟨j, hj⟩ : ∃ j, j = s % (X.length - 1) := ⟨_, rfl⟩
  have hk : kOf X.length s = if h ≤ j then j + 1 else j := by unfold kOf; rw [← hh, ← hj]
  unfold strD strO
  rw [hk, ← hh, ← hj]
  rw [← hh] at hH
  rw [← hj] at hr
  have hl : (strM X (s / (X.length - 1))).length = X.length := strM_length _ _
  have ht : (strM X (s / (X.length - 1))).take X.length = strM X (s / (X.length - 1)) := List.take_of_length_le (by omega)
  by_cases hc : h ≤ j
  · rw [if_pos hc]
    have := (butTo_two (M := strM X (s / (X.length - 1))) (x := j + 1) (y := h) (a := h) (b := j + 1) (k := X.length) (by omega) (fun i => by simp only [List.mem_cons, List.mem_nil_iff, or_false]; omega) (by omega) (by omega)).2
    rw [ht] at this
    simpa using this
  · rw [if_neg hc]
    have := (butTo_two (M := strM X (s / (X.length - 1))) (x := j) (y := h) (a := j) (b := h) (k := X.length) (by omega) (fun i => by simp only [List.mem_cons, List.mem_nil_iff, or_false]; omega) (by omega) (by omega)).1
    rw [ht] at this
    exact this
end
/-! ### The function -/
theorem Reads.kept {W W' : World} {B B' s n : Nat} {A : Option Addr} {L : List Value} (h : Reads W B s A n L) (hB : W.heap.size ≤ W'.heap.size) (hk : ∀ ad, A = some ad → ad.block < B → 0 < n → W'.heap[ad.block]? = W.heap[ad.block]?) (hle : B ≤ B') : Reads W' B' s A n L :=
  ⟨h.1, fun h0 => by
    obtain ⟨ad, e, hb, hc⟩ := h.2 h0
    refine ⟨ad, e, Nat.lt_of_lt_of_le hb hle, fun j v hj => ?_⟩
    exact (World.cell?_of_block (a := ad.add j) (by rw [block_of_add]; exact hk ad e hb h0)).trans (hc j v hj)⟩
theorem Reads.low {W : World} {B s n : Nat} {A : Option Addr} {L : List Value} (h : Reads W B s A n L) {ad : Addr} (e : A = some ad) (h0 : 0 < n) : ad.block < B := by
  obtain ⟨ad', e', hb, _⟩ := h.2 h0
  rw [e] at e'
  injection e' with e'
  rw [e']
  exact hb
/-- What lies in memory for a range over a stripe. -/
structure ButD (Br Bt : Nat) (A : Option Addr) (n c t : Nat) (X : List PlI) (A2 : Option Addr) (m c2 : Nat) (L : List Int) (W : World) : Prop where
  row : Blk W Br 90 (rowL A n c t).toArray
  these : Blk W Bt 132 #[.slice A2 m c2]
  ext : Reads W W.heap.size 2 A n (plsL X)
  ints : Reads W W.heap.size 1 A2 m (I64 L)
def ButQ (Br Bt : Nat) (A : Option Addr) (n : Nat) (A2 : Option Addr) (m : Nat) (k : Nat) : Prop := k = Br ∨ k = Bt ∨ (∃ ad, A = some ad ∧ ad.block = k ∧ 0 < n) ∨ ∃ ad, A2 = some ad ∧ ad.block = k ∧ 0 < m
section
variable {Br Bt n c t m c2 : Nat} {A A2 : Option Addr} {X : List PlI} {L : List Int}
theorem ButD.stays {W W' : World} (h : ButD Br Bt A n c t X A2 m c2 L W) (hT : Turn (fun k => ¬ ButQ Br Bt A n A2 m k) W W') : ButD Br Bt A n c t X A2 m c2 L W' :=
  ⟨(hT.block _ h.row.lt (fun hq => hq (.inl rfl))).trans h.row, (hT.block _ h.these.lt (fun hq => hq (.inr (.inl rfl)))).trans h.these,
    h.ext.kept hT.size (fun ad e hb h0 => hT.block _ hb (fun hq => hq (.inr (.inr (.inl ⟨ad, e, rfl, h0⟩))))) hT.size,
    h.ints.kept hT.size (fun ad e hb h0 => hT.block _ hb (fun hq => hq (.inr (.inr (.inr ⟨ad, e, rfl, h0⟩))))) hT.size⟩
theorem ButD.low {W : World} (h : ButD Br Bt A n c t X A2 m c2 L W) (k : Nat) (hk : ButQ Br Bt A n A2 m k) : k < W.heap.size := by
  rcases hk with rfl | rfl | ⟨ad, e, rfl, h0⟩ | ⟨ad, e, rfl, h0⟩
  · exact h.row.lt
  · exact h.these.lt
  · exact h.ext.low e h0
  · exact h.ints.low e h0
set_option maxRecDepth 100000 in
set_option maxHeartbeats 4000000 in
theorem but_walk (hX : X.length = n) (hn : n ≤ 1000000) (hm : m ≤ 1000000) (hs : SmallX X) (ht : t < 8) (n0 l N : Nat) (C : Kept) (eat : Eat n0 l C N) (pre : List PlI) (H : Nat → Prop) (W : World) (hC : C pre true H W) (hD : ButD Br Bt A n c t X A2 m c2 L W)
    (hHQ : ∀ k, H k → ¬ ButQ Br Bt A n A2 m k) (hN : pre.length + (butTo (strM X t) L n).length ≤ N) :
    Calls Tryz.prog 91 #[.func (.yield l) #[] #[], .pointer (some ⟨Br, 0, none⟩), .pointer (some ⟨Bt, 0, none⟩)] W fun e W' => (∃ v, e = .returned v) ∧
      ∃ ys go H', ys <+: butTo (strM X t) L n ∧ (go = true → ys = butTo (strM X t) L n) ∧ C (pre ++ ys) go H' W' ∧ Turn H W W' ∧ (∀ k, H' k → H k ∨ W.heap.size ≤ k) := by
  obtain ⟨M, hM⟩ : ∃ M, M = strM X t := ⟨_, rfl⟩
  rw [← hM] at hN ⊢
  have HM := hide hM
  have HX := hide hX
  have HE := hide eat
  have HC0 := hide hC
  have HD0 := hide hD
  have HQ0 := hide hHQ
  have HN := hide hN
  have HS := hide hs
  have c0 : W.cell? ⟨Br, 0, none⟩ = some (.slice A n c) := (hD.row.cell 0).trans rfl
  have hfC : Fence.wide.fn 92 := trivial
  have hfO : Fence.wide.fn 51 := trivial
  clear hM hX eat hC hD hHQ hN hs
  refine (callsIn_wide (n := 5)).1 ?_
  refine callsIn_of_wp Tryz.func91 rfl trivial ?_ rfl
  simp only [Tryz.ntmps91, List.size_toArray, List.length_cons, List.length_nil, Nat.reduceAdd, Nat.reduceSub, Array.replicate_succ, Array.replicate_zero, List.push_toArray, List.append_toArray, List.nil_append, List.cons_append]
  gi_wp2
  clear c0
  gi_loopw [8] (fun i wr => ∃ (k : Nat) (H1 : Nat → Prop), k ≤ n ∧ i = .int .i64 k ∧ Hid (C (pre ++ butTo M L k) true H1 wr) ∧ Hid (ButD Br Bt A n c t X A2 m c2 L wr) ∧ Hid (∀ k, H1 k → ¬ ButQ Br Bt A n A2 m k) ∧ Hid (Turn H W wr) ∧ Hid (∀ k, H1 k → H k ∨ W.heap.size ≤ k)) (fun i _ => n - (intOf i).toNat)
  case atStart => exact ⟨0, H, Nat.zero_le _, rfl, hide (by rw [butTo, List.append_nil]; exact HC0.out), HD0, HQ0, hide (Turn.refl _ _), hide (fun k h => .inl h)⟩
  case round =>
    obtain ⟨k, H1, hk, rfl, HC, HD, HQ, HT, HH⟩ := hrel
    by_cases hkn : k < n
    · have hki : (k : Int) < (n : Int) := by omega
      have hwr : IntKind.i64.wrap ((k : Int) + 1) = (k : Int) + 1 := IntWalk.i64_in _ (by omega)
      have c1 : wr.cell? ⟨Bt, 0, none⟩ = some (.slice A2 m c2) := (HD.out.these.cell 0).trans rfl
      have r0 : wr.cell? ⟨Br, 0, none⟩ = some (.slice A n c) := (HD.out.row.cell 0).trans rfl
      have r1 : wr.cell? ⟨Br, 1, none⟩ = some (.int .i64 (t : Int)) := (HD.out.row.cell 1).trans rfl
      have HCT := hide (contains_any (c := c2) HD.out.ints hm (k : Int))
      by_cases hin : (k : Int) ∈ L
      · rw [decide_eq_true hin] at HCT
        have hnx := hide (show butTo M L (k + 1) = butTo M L k by rw [butTo, if_pos hin, List.append_nil])
        clear hin
        gi_wp2_with (first
          | (gi_at_call 92; refine (callsIn_wide.2 HCT.out).mono ?_; rintro _ _ ⟨rfl, rfl⟩))
        refine ⟨fun _ h => (by cases h), ?_⟩
        gi_wp2
        go_roundw
        case rel => exact ⟨k + 1, H1, by omega, by simp, hide (by rw [hnx.out]; exact HC.out), HD, HQ, HT, HH⟩
        case measure => simp [intOf]; omega
      · rw [decide_eq_false hin] at HCT
        have hnx := hide (show butTo M L (k + 1) = butTo M L k ++ [plAt M k] by rw [butTo, if_neg hin])
        clear hin
        obtain ⟨p, hp⟩ : ∃ p, X[k]? = some p := ⟨X[k]'(by rw [HX.out]; exact hkn), List.getElem?_eq_getElem _⟩
        have hpM : plAt M k = (p.1, p.2 + (t : Int)) := by unfold plAt; rw [HM.out, strM_at hp]; rfl
        obtain ⟨pv, hpv⟩ : ∃ pv, pv = plC (p.1, p.2 + (t : Int)) := ⟨_, rfl⟩
        have HO := hide (on_any (c := c) HD.out.ext hp HS.out hn ht)
        rw [← hpv] at HO
        have HPV := hide (show plV (plAt M k) = .agg pv.toArray by rw [hpM, hpv]; rfl)
        have HLN := hide (show (pre ++ butTo M L k).length < N by
          have h1 := (butTo_pre (M := M) (L := L) (show k + 1 ≤ n by omega)).length_le
          rw [hnx.out, List.length_append] at h1
          have h2 := HN.out
          rw [List.length_append]
          simp only [List.length_cons, List.length_nil] at h1
          omega)
        clear hp hpM hpv
        gi_wp2_with (first
          | (gi_at_call 92; refine (callsIn_wide.2 HCT.out).mono ?_; rintro _ _ ⟨rfl, rfl⟩))
        refine (callsIn_wide.2 HO.out).mono ?_
        rintro _ w2 ⟨rfl, hl2⟩
        have HC2 := HE.out.stays _ _ _ _ _ HC.out (Turn.of_below hl2)
        obtain ⟨fn, tmps, assign, body, hy, hR⟩ := HE.out.eats (5 - 1) _ (plAt M k) _ w2 HC2 HLN.out
        rw [HPV.out] at hy
        have HRD := hide hR
        have HL2 := hide hl2
        clear hR hl2 HC2
        gi_wp2
        refine HRD.out.mono ?_
        rintro e W3 ⟨go, H3, rfl, hT3, hH3, hC3⟩
        have HC3 := hide (show C (pre ++ butTo M L (k + 1)) go H3 W3 by rw [hnx.out, ← List.append_assoc]; exact hC3)
        have HT3 := hide (show Turn H1 wr W3 from (Turn.of_below HL2.out).trans hT3)
        have HQ3 := hide (show ∀ k, H3 k → H1 k ∨ wr.heap.size ≤ k from fun k h => (hH3 k h).imp id (fun h => Nat.le_trans HL2.out.size h))
        have HT4 := hide (show Turn H W W3 from ⟨HT3.out.os.trans HT.out.os, HT3.out.tape.trans HT.out.tape, HT3.out.output.trans HT.out.output, Nat.le_trans HT.out.size HT3.out.size, fun i hi hn => (HT3.out.block i (Nat.lt_of_lt_of_le hi HT.out.size) (fun h => by
          rcases HH.out i h with h | h
          · exact hn h
          · omega)).trans (HT.out.block i hi hn)⟩)
        have HH4 := hide (show ∀ k, H3 k → H k ∨ W.heap.size ≤ k from fun k h => by
          rcases HQ3.out k h with h | h
          · exact HH.out k h
          · exact .inr (Nat.le_trans HT.out.size h))
        clear hT3 hH3 hC3 hy
        cases go with
        | true =>
          gi_wp2
          go_roundw
          case rel => exact ⟨k + 1, H3, by omega, by simp, HC3, hide (HD.out.stays (HT3.out.wider (fun i h => HQ.out i h))), hide (fun i h hq => by
            rcases HQ3.out i h with h | h
            · exact HQ.out i h hq
            · exact absurd (HD.out.low i hq) (by omega)), HT4, HH4⟩
          case measure => simp [intOf]; omega
        | false =>
          gi_wp2
          refine bodyPost_ret (results_none rfl _ _ _) rfl ?_
          exact ⟨⟨_, rfl⟩, butTo M L (k + 1), false, H3, butTo_pre (by omega), (fun h => by cases h), HC3.out, HT4.out, HH4.out⟩
    · obtain rfl : k = n := by omega
      gi_wp2
      go_end0
      exact ⟨⟨_, rfl⟩, butTo M L k, true, H1, List.prefix_refl _, fun _ => rfl, HC.out, HT.out, HH.out⟩
theorem but_seq (hX : X.length = n) (hn : n ≤ 1000000) (hm : m ≤ 1000000) (hs : SmallX X) (ht : t < 8) :
    SeqOf 91 [.pointer (some ⟨Br, 0, none⟩), .pointer (some ⟨Bt, 0, none⟩)] (butTo (strM X t) L n) (ButD Br Bt A n c t X A2 m c2 L) (ButQ Br Bt A n A2 m) :=
  ⟨enters_of Tryz.func91 (by kernel_rfl) rfl, fun _ _ h hT => h.stays hT, fun _ h k hk => h.low k hk,
    fun n0 l N C eat pre H W _ hC hD hHQ hN => but_walk hX hn hm hs ht n0 l N C eat pre H W hC hD hHQ hN⟩
end
end Go.Proofs.YtmjjnbabfldbcaaGreat
namespace Go.Proofs.YtmjjnbabfldbcaaGreat
open Go.RowKit
set_option linter.unusedVariables false
attribute [local go_sem] Oper.semAt_some
theorem pl_parts : (Tryz.prog.info? 47).map (fun i => (i.zero, i.size, i.bytes)) = some (some (.agg #[.int .i64 0, .int .i64 0]), 2, 16) := by kernel_rfl
theorem own_keep {w w' : World} {base : Nat} {e : TypeId} {size n : Nat} {v : Value} {xs : List Value} (h : w.ownsRow base e size v n xs) (hb : ∀ g, v.ownBlock = some g → w'.heap[g]? = w.heap[g]?) : w'.ownsRow base e size v n xs := by
  refine ⟨h.1, ?_⟩
  rcases h.2 with h2 | ⟨g, cap, cur, hv, h1, h2, h3⟩
  · exact .inl h2
  · exact .inr ⟨g, cap, cur, hv, h1, (hb g (by rw [hv]; rfl)).trans h2, h3⟩
theorem own_unlike {w : World} {base : Nat} {e t : TypeId} {size : Nat} {v : Value} {n : Nat} {xs : List Value} {cs : Array Value} (h : w.ownsRow base e size v n xs) {b : Nat} (hb : Blk w b t cs) (hne : e ≠ t) : v.ownBlock ≠ some b := by
  intro hg
  rcases h.2 with ⟨rfl, _⟩ | ⟨g, cap, cur, rfl, _, h1, _⟩
  · simp [Value.ownBlock] at hg
  · simp only [Value.ownBlock, Option.some.injEq] at hg
    subst hg
    have e1 := h1.symm.trans hb
    injection e1 with e1
    injection e1 with _ e2 _
    exact hne e2
/-- A variable that holds a row of the loop's own. -/
structure ColI (B0 : Nat) (tb e : TypeId) (size : Nat) (Bs : Nat) (n : Nat) (xs : List Value) (H : Nat → Prop) (W : World) : Prop where
  box : ∃ v, Blk W Bs tb #[v] ∧ W.ownsRow B0 e size v n xs ∧ ∀ k, H k ↔ (k = Bs ∨ v.ownBlock = some k)
theorem ColI.stays {B0 : Nat} {tb e : TypeId} {size Bs n : Nat} {xs : List Value} {H : Nat → Prop} {W W' : World} (h : ColI B0 tb e size Bs n xs H W) {n0 : Nat} (hT : Turn (fun k => ¬ H k ∧ n0 ≤ k) W W') : ColI B0 tb e size Bs n xs H W' := by
  obtain ⟨v, hb, ho, hH⟩ := h.box
  exact ⟨v, (hT.block _ hb.lt (fun hn => hn.1 ((hH _).2 (.inl rfl)))).trans hb, own_keep ho (fun g hg => hT.block g (ho.lt g hg).2 (fun hn => hn.1 ((hH g).2 (.inr hg)))), hH⟩
theorem ColI.low {B0 : Nat} {tb e : TypeId} {size Bs n : Nat} {xs : List Value} {H : Nat → Prop} {W : World} (h : ColI B0 tb e size Bs n xs H W) (k : Nat) (hk : H k) : k < W.heap.size := by
  obtain ⟨v, hb, ho, hH⟩ := h.box
  rcases (hH k).1 hk with rfl | hg
  · exact hb.lt
  · exact (ho.lt k hg).2
def ColK (B0 Bs : Nat) : Kept := fun pre go H W => go = true ∧ ColI B0 39 47 2 Bs pre.length (plsL pre) H W
section
variable {gf : Nat} {lb : List Value} {xs : List PlI} {D : World → Prop} {Q : Nat → Prop}
set_option maxRecDepth 100000 in
set_option maxHeartbeats 4000000 in
theorem append_any (hs : SeqOf gf lb xs D Q) (hx : xs.length ≤ 1000) (w : World) (hD : D w) :
    Calls Tryz.prog 89 #[.slice none 0 0, .func (.func gf) #[] lb.toArray] w fun e w' => ∃ v, e = .returned v ∧ w'.ownsRow w.heap.size 47 2 v xs.length (plsL xs) ∧ Below w.heap.size w w' := by
  have HS := hide hs
  have HD := hide hD
  obtain ⟨sv, hsv⟩ : ∃ sv : Value, sv = .func (.func gf) #[] lb.toArray := ⟨_, rfl⟩
  rw [← hsv]
  have HSV := hide hsv
  clear hs hD hsv
  refine (callsIn_wide (n := 5)).1 ?_
  refine callsIn_of_wp_marks Tryz.func89 rfl trivial ?_ rfl
  simp only [Tryz.ntmps89, List.size_toArray, List.length_cons, List.length_nil, Nat.reduceAdd, Nat.reduceSub, Array.replicate_succ, Array.replicate_zero, List.push_toArray, List.append_toArray, List.nil_append, List.cons_append]
  refine wpIn_wide.2 ?_
  go_wp2_with (first
    | ((with_reducible refine at_slot 2 ?_); refine wpList_box_blk rfl 39 _ rfl (.slice none 0 0) rfl ?_; intro y1 hb1q hl1q hs1q; have HB1 : Hid (Blk y1 w.heap.size 39 #[.slice none 0 0]) := hide hb1q; have HL1 := hide hl1q; have HS1 := hide hs1q; clear hb1q hl1q hs1q))
  refine (wpIn_wide (n := 5)).1 ?_
  refine range_law HS.out (show _ = _ from HSV.out) (ColK w.heap.size w.heap.size) (fun pre go H W W' h hT => ⟨h.1, h.2.stays hT⟩) (fun pre go H W h => h.2.low) (fun k => k = w.heap.size) ?start ?data ?apart ?body ?done ?stop
  case start => exact ⟨rfl, .slice none 0 0, HB1.out, World.ownsRow_nil _ _ _ _, fun k => ⟨fun h => .inl h, fun h => h.elim id (fun h => by simp [Value.ownBlock] at h)⟩⟩
  case data => exact HS.out.stays _ _ HD.out (Turn.of_below HL1.out)
  case apart => exact fun k hk hq => by have := HS.out.low _ HD.out k hq; omega
  case body =>
    intro l pre x H W K hI hl _ hlt hlen hK
    obtain ⟨_, ⟨v, hb, ho, hH⟩⟩ := hI
    obtain ⟨i0, hi0, hz0, hz1, hz2⟩ := info_parts pl_parts
    have HK := hide hK
    have HB := hide hb
    have HO := hide ho
    have HH := hide hH
    have HP := hide (show pre.length ≤ 1000 by omega)
    have HW := hide (show w.heap.size ≤ W.heap.size from Nat.le_of_lt hb.lt)
    have HNE := hide (own_unlike ho hb (by decide))
    have hF : ∀ f, (Fence.wide.inRound l).fn f := fun _ => trivial
    clear hK hb ho hH hlen
    simp only [List.setIfInBounds_toArray, List.set_cons_zero, List.set_cons_succ]
    gi_wp2_with (first
      | ((with_reducible refine at_slotIn 5 ?_); refine inList_alloc hF rfl 47 rfl _ (pl_zero _) ?_; intro w1 hb1q hl1q hs1q; have HB5 : Hid (Blk w1 W.heap.size 47 (plC (0, 0)).toArray) := hide hb1q; have HL5 := hide hl1q; have HS5 := hide hs1q; clear hb1q hl1q hs1q)
      | ((with_reducible refine at_storeIn 5 ?_); refine inList_store hF rfl 47 (.tmp 5) (.tmp 7) rfl W.heap.size 47 _ HB5.out rfl (plC x) rfl pl_info rfl (plC_one _) ?_; intro w2 hb2q hg2q hs2q; have HB6 := hide hb2q; have HG6 := hide hg2q; have HS6 := hide hs2q; clear hb2q hg2q hs2q))
    have hT0 : Turn (fun _ => False) W w2 := (Turn.of_below HL5.out).grown HG6.out (fun g e => by injection e with e; subst e; exact .inr (Nat.le_refl _))
    have HT0 := hide hT0
    refine HK.out _ _ hT0 (fun W₂ hT2 => ?_)
    have HB7 := hide (show Blk W₂ W.heap.size 47 (plC x).toArray from (hT2.block _ HB6.out.lt (by omega)).trans HB6.out)
    have hT1 : Turn (fun k => ¬ H k) W W₂ := (hT0.wider (fun _ h => h.elim)).trans (hT2.wider (fun k e => by subst e; exact hl))
    have HV := hide (show Blk W₂ w.heap.size 39 #[v] from (hT1.block _ HB.out.lt (fun hn => hn ((HH.out _).2 (.inl rfl)))).trans HB.out)
    have HO2 := hide (own_keep HO.out (fun g hg => hT1.block g (HO.out.lt g hg).2 (fun hn => hn ((HH.out g).2 (.inr hg)))))
    have HW2 := hide (Nat.le_trans HW.out hT1.size)
    have HT1 := hide hT1.size
    have cv : W₂.cell? ⟨w.heap.size, 0, none⟩ = some v := (HV.out.cell 0).trans rfl
    clear hT0 hT1 hT2 hl hlt
    gi_wp2_with (first
      | ((with_reducible refine at_slotIn 9 ?_); refine inList_load hF rfl 47 (.tmp 5) rfl W.heap.size 0 47 _ HB7.out rfl (plC x) _ (fun j v hj => by rw [Nat.zero_add]; simpa using hj) Tryz.underlying47 rfl pl_info ?_)
      | ((with_reducible refine at_slotIn 10 ?_); refine inList_buildAgg hF rfl (.tmp 9) 39 rfl 47 i0 _ 2 Tryz.underlying39 hi0 (pl_zero _) hz1 (by decide) (by decide) (plC x).toArray rfl rfl ?_)
      | ((with_reducible refine at_slotIn 11 ?_); refine inList_append hF rfl _ _ 39 rfl w.heap.size 47 i0 _ 2 16 Tryz.underlying39 hi0 hz0 hz1 hz2 rfl (by decide) v pre.length (plsL pre) rfl (own_later HO2.out ((Below.refl _ _).alloc (Nat.le_refl _) _)) (W₂.heap.size + 1) _ 1 1 (plC x) rfl (Reads.lump _ (plC x) _ _ 2 (by omega) rfl) (plC_one x) (by have := HP.out; simp only [maxLen]; omega) (by have := HP.out; omega) (le_alloc HW2.out _) ?_; intro v' w4 ho4 hg4 hor4; obtain ⟨A4, c4, rfl, _, _⟩ := own_shape ho4
         have HV4 := hide (show Blk w4 w.heap.size 39 #[v] from (hg4.block _ (by rw [World.size_alloc]; exact Nat.lt_succ_of_lt HV.out.lt) (fun e => HNE.out e.symm)).trans ((Below.heap_alloc _ _ _ HV.out.lt).trans HV.out))
         have HO4 := hide ho4
         have HG4 := hide hg4
         have HOR4 := hide hor4
         have cv4 : w4.cell? ⟨w.heap.size, 0, none⟩ = some v := (HV4.out.cell 0).trans rfl
         have fv4 : w4.frozen? ⟨w.heap.size, 0, none⟩ = false := HV4.out.frozen 0
         clear ho4 hg4 hor4 cv))
    have hbz : Blk (w4.setCell ⟨w.heap.size, 0, none⟩ (.slice A4 (pre.length + 1) c4)) w.heap.size 39 #[(.slice A4 (pre.length + 1) c4)] := Boxed.set (.slice A4 (pre.length + 1) c4) HV4.out
    have hTz : Turn H W₂ (w4.setCell ⟨w.heap.size, 0, none⟩ (.slice A4 (pre.length + 1) c4)) := by
      have h1 : Turn H W₂ w4 := ((Turn.refl H W₂).alloc _).grown HG4.out (fun g e => .inl ((HH.out g).2 (.inr e)))
      exact h1.set _ (.inl ((HH.out _).2 (.inl rfl))) _
    refine ⟨fun k => k = w.heap.size ∨ (Value.slice A4 (pre.length + 1) c4).ownBlock = some k, ⟨rfl, (.slice A4 (pre.length + 1) c4), hbz, ?_, fun k => Iff.rfl⟩, hTz, ?_⟩
    · rw [List.length_append, plsL_append]
      exact own_keep HO4.out (fun g hg => Below.heap_setCell _ _ _ g (fun e => own_unlike HO4.out HV4.out (by decide) (by rw [hg, e])))
    · rintro k (rfl | hk)
      · exact .inl ((HH.out _).2 (.inl rfl))
      · rcases HOR4.out with h | h
        · exact .inl ((HH.out k).2 (.inr (h ▸ hk)))
        · rw [h, Option.some.injEq] at hk
          rw [World.size_alloc] at hk
          exact .inr (by have := HT1.out; omega)
  case done =>
    intro B H W hI hT _ hB hHB hK
    obtain ⟨_, ⟨v, hb, ho, hH⟩⟩ := hI
    have HB := hide hb
    have HO := hide ho
    have HT := hide hT
    have cv : W.cell? ⟨w.heap.size, 0, none⟩ = some v := (hb.cell 0).trans rfl
    clear hb ho hT
    go_wp2
    refine ⟨by simp, .inl ⟨_, _, rfl, run_takeDeferred hK, ?_⟩⟩
    refine ⟨_, results_tmp rfl _ _ _, v, rfl, own_keep HO.out (fun g hg => World.putObj_heap_other (fun e => hHB ((hH B).2 (.inr (e ▸ hg))))), ?_⟩
    exact ⟨HT.out.os.trans HL1.out.os, HT.out.tape.trans HL1.out.tape, HT.out.output.trans HL1.out.output, by rw [World.putObj_size]; exact Nat.le_trans HL1.out.size HT.out.size, fun i hi => by
      rw [World.putObj_heap_other (by have := HL1.out.size; omega)]
      exact (HT.out.block i (Nat.lt_of_lt_of_le hi HL1.out.size) (by omega)).trans (HL1.out.block i hi)⟩
  case stop =>
    intro B ys H W hpre hI hT _ hB hHB hK
    cases hI.1
theorem collect_any (hs : SeqOf gf lb xs D Q) (hx : xs.length ≤ 1000) (w : World) (hD : D w) :
    Calls Tryz.prog 54 #[.func (.func gf) #[] lb.toArray] w fun e w' => ∃ v, e = .returned v ∧ w'.ownsRow w.heap.size 47 2 v xs.length (plsL xs) ∧ Below w.heap.size w w' := by
  have HA := hide (append_any hs hx w hD)
  clear hs hD
  obtain ⟨sv, hsv⟩ : ∃ sv : Value, sv = .func (.func gf) #[] lb.toArray := ⟨_, rfl⟩
  rw [← hsv] at HA ⊢
  clear hsv
  go_enter Tryz.func54, Tryz.ntmps54
  go_wp2_with (first
    | (go_at_call 89; refine HA.out.mono ?_; rintro _ w1 ⟨v, rfl, ho, hl⟩))
  go_ret
  exact ⟨v, rfl, ho, hl⟩
end
end Go.Proofs.YtmjjnbabfldbcaaGreat
namespace Go.Proofs.YtmjjnbabfldbcaaGreat
open Go.RowKit
set_option linter.unusedVariables false
attribute [local go_sem] Oper.semAt_some
theorem step_ints2 {ops : Array Oper} {o : Oper} {a : Act} {w : World} {K : Act → World → Prop} {Q : Exit → Act → World → Prop} {E : Prop} (hg : o.guard = none) (x y : Operand) (ho : o.op = .buildSlice 132 2 #[(0, x), (1, y)]) (i j : Int) (hx : a.eval x = .int .i64 i) (hy : a.eval y = .int .i64 j)
    (hK : K (a.put o.dst (.slice (some ⟨w.heap.size, 0, none⟩) 2 2)) (w.alloc (.cells #[.int .i64 i, .int .i64 j] 3))) : if Region.wanted o (yielded ops a.tmps) = true then Oper.wp Tryz.prog o a w K Q else E := by
  have hw : Region.wanted o (yielded ops a.tmps) = true := by simp [Region.wanted, hg]
  rw [if_pos hw]
  have hrun : (Instr.buildSlice 132 2 #[(0, .int .i64 i), (1, .int .i64 j)]).run Tryz.prog w = .ok (.slice (some ⟨w.heap.size, 0, none⟩) 2 2) (w.alloc (.cells #[.int .i64 i, .int .i64 j] 3)) := by kernel_rfl
  unfold Oper.wp
  simp [execOp, ho, hx, hy, hrun, Result.andThen]
  exact hK
theorem step_ints1 {ops : Array Oper} {o : Oper} {a : Act} {w : World} {K : Act → World → Prop} {Q : Exit → Act → World → Prop} {E : Prop} (hg : o.guard = none) (x : Operand) (ho : o.op = .buildSlice 132 1 #[(0, x)]) (i : Int) (hx : a.eval x = .int .i64 i)
    (hK : K (a.put o.dst (.slice (some ⟨w.heap.size, 0, none⟩) 1 1)) (w.alloc (.cells #[.int .i64 i] 3))) : if Region.wanted o (yielded ops a.tmps) = true then Oper.wp Tryz.prog o a w K Q else E := by
  have hw : Region.wanted o (yielded ops a.tmps) = true := by simp [Region.wanted, hg]
  rw [if_pos hw]
  have hrun : (Instr.buildSlice 132 1 #[(0, .int .i64 i)]).run Tryz.prog w = .ok (.slice (some ⟨w.heap.size, 0, none⟩) 1 1) (w.alloc (.cells #[.int .i64 i] 3)) := by kernel_rfl
  unfold Oper.wp
  simp [execOp, ho, hx, hrun, Result.andThen]
  exact hK
/-- A region that does not panic: whatever is asked of it if it does. -/
def NoPanic (Q : Exit → Act → World → Prop) : Exit → Act → World → Prop
  | .panic _, _, _ => False
  | e, a, w => Q e a w
theorem wp_noPanic {P : Program} {c : Code} {Q : Exit → Act → World → Prop} {a : Act} {w : World} (h : c.wp P (NoPanic Q) a w) : c.wp P Q a w :=
  Code.wp_mono (fun e a w hq => by cases e <;> first | exact hq | exact hq.elim) h
theorem noPanic_normal {Q : Exit → Act → World → Prop} {a : Act} {w : World} : NoPanic Q .normal a w = Q .normal a w := rfl
/-- What lies in memory for a range over a slot's mates. -/
structure MatD (Br Bk : Nat) (A : Option Addr) (n c t : Nat) (X : List PlI) (k : Nat) (W : World) : Prop where
  row : Blk W Br 90 (rowL A n c t).toArray
  num : Blk W Bk 3 #[.int .i64 (k : Int)]
  ext : Reads W W.heap.size 2 A n (plsL X)
def MatQ (Br Bk : Nat) (A : Option Addr) (n : Nat) (k : Nat) : Prop := k = Br ∨ k = Bk ∨ (∃ ad, A = some ad ∧ ad.block = k ∧ 0 < n)
section
variable {Br Bk n c t k : Nat} {A : Option Addr} {X : List PlI}
theorem MatD.kept {W W' : World} {F : Nat → Prop} (h : MatD Br Bk A n c t X k W) (hT : Turn F W W') (hF : ∀ i, F i → ¬ MatQ Br Bk A n i) : MatD Br Bk A n c t X k W' :=
  ⟨(hT.block _ h.row.lt (fun hq => hF _ hq (.inl rfl))).trans h.row, (hT.block _ h.num.lt (fun hq => hF _ hq (.inr (.inl rfl)))).trans h.num,
    h.ext.kept hT.size (fun ad e hb h0 => hT.block _ hb (fun hq => hF _ hq (.inr (.inr ⟨ad, e, rfl, h0⟩)))) hT.size⟩
theorem MatD.low {W : World} (h : MatD Br Bk A n c t X k W) (i : Nat) (hk : MatQ Br Bk A n i) : i < W.heap.size := by
  rcases hk with rfl | rfl | ⟨ad, e, rfl, h0⟩
  · exact h.row.lt
  · exact h.num.lt
  · exact h.ext.low e h0
/-- Between two rounds over the mates. -/
structure MatI (C : Kept) (pre : List PlI) (l By Br Bk : Nat) (A : Option Addr) (n c t : Nat) (X : List PlI) (k : Nat) (got : List PlI) (go : Bool) (H : Nat → Prop) (W : World) : Prop where
  keep : C (pre ++ got) go H W
  yield : Blk W By 131 #[.func (.yield l) #[] #[]]
  data : MatD Br Bk A n c t X k W
  off : ∀ i, H i → ¬ MatQ Br Bk A n i ∧ i ≠ By
def MatK (C : Kept) (pre : List PlI) (l By Br Bk : Nat) (A : Option Addr) (n c t : Nat) (X : List PlI) (k : Nat) : Kept := fun got go H W => MatI C pre l By Br Bk A n c t X k got go H W
set_option maxRecDepth 100000 in
set_option maxHeartbeats 8000000 in
theorem mates_walk (hX : X.length = n) (hn : n ≤ 1000000) (hn2 : 2 ≤ n) (hs : SmallX X) (ht : t < 8) (n0 l N : Nat) (C : Kept) (eat : Eat n0 l C N) (pre : List PlI) (H : Nat → Prop) (W : World) (hn0 : n0 ≤ W.heap.size) (hC : C pre true H W) (hD : MatD Br Bk A n c t X k W)
    (hHQ : ∀ i, H i → ¬ MatQ Br Bk A n i) (hN : pre.length + (butTo (strM X t) [(k : Int), (strH n t : Int)] n ++ [plAt (strM X t) (strH n t)]).length ≤ N) :
    Calls Tryz.prog 90 #[.func (.yield l) #[] #[], .pointer (some ⟨Br, 0, none⟩), .pointer (some ⟨Bk, 0, none⟩)] W fun e W' => (∃ v, e = .returned v) ∧
      ∃ ys go H', ys <+: (butTo (strM X t) [(k : Int), (strH n t : Int)] n ++ [plAt (strM X t) (strH n t)]) ∧ (go = true → ys = butTo (strM X t) [(k : Int), (strH n t : Int)] n ++ [plAt (strM X t) (strH n t)]) ∧ C (pre ++ ys) go H' W' ∧ Turn H W W' ∧ (∀ i, H' i → H i ∨ W.heap.size ≤ i) := by
  have HE := hide eat
  have HC0 := hide hC
  have HD0 := hide hD
  have HQ0 := hide hHQ
  have HN := hide hN
  have HS := hide hs
  have HX := hide hX
  obtain ⟨M, hM⟩ : ∃ M, M = strM X t := ⟨_, rfl⟩
  obtain ⟨h, hh⟩ : ∃ h, h = strH n t := ⟨_, rfl⟩
  have hhn : h < n := by rw [hh]; exact strH_lt (by omega)
  have HP := hide (fun w => rpar_any (A := A) (c := c) t (show 0 < n by omega) hn ht w)
  rw [← hM, ← hh] at HN ⊢
  rw [← hh] at HP
  have HM := hide hM
  have HSQ := hide (fun (br bt : Nat) (a2 : Option Addr) => but_seq (Br := br) (Bt := bt) (A := A) (c := c) (A2 := a2) (m := 2) (c2 := 2) (L := [(k : Int), (h : Int)]) hX hn (by decide) hs ht)
  rw [← hM] at HSQ
  clear eat hC hD hHQ hN hs hX hM hh
  refine (callsIn_wide (n := 5)).1 ?_
  refine callsIn_of_wp_marks Tryz.func90 rfl trivial ?_ rfl
  simp only [Tryz.ntmps90, List.size_toArray, List.length_cons, List.length_nil, Nat.reduceAdd, Nat.reduceSub, Array.replicate_succ, Array.replicate_zero, List.push_toArray, List.append_toArray, List.nil_append, List.cons_append]
  refine wpIn_wide.2 ?_
  go_wp2_with (first
    | ((with_reducible refine at_slot 3 ?_); refine wpList_box_blk rfl 131 _ rfl (.func (.yield l) #[] #[]) rfl ?_; intro y1 h1 h2 h3; have HY1 : Hid (Blk y1 W.heap.size 131 #[.func (.yield l) #[] #[]]) := hide h1; have HL1 := hide h2; clear h1 h2 h3))
  have HD1 := hide (HD0.out.kept (Turn.of_below (F := fun _ => False) HL1.out) (fun _ h => h.elim))
  have HSS := hide (fun (V : World) (hb : Below y1.heap.size y1 V) => show (V.cell? ⟨Br, 0, none⟩ = some (.slice A n c) ∧ V.cell? ⟨Br, 1, none⟩ = some (.int .i64 (t : Int))) ∧ V.cell? ⟨Bk, 0, none⟩ = some (.int .i64 (k : Int)) ∧ Below y1.heap.size y1 V from
    ⟨⟨((HD1.out.row.below hb HD1.out.row.lt).cell 0).trans rfl, ((HD1.out.row.below hb HD1.out.row.lt).cell 1).trans rfl⟩, ((HD1.out.num.below hb HD1.out.num.lt).cell 0).trans rfl, hb⟩)
  refine wp_noPanic ?_
  refine wp_region_held_drew (S := (fun V => (V.cell? ⟨Br, 0, none⟩ = some (.slice A n c) ∧ V.cell? ⟨Br, 1, none⟩ = some (.int .i64 (t : Int))) ∧ V.cell? ⟨Bk, 0, none⟩ = some (.int .i64 (k : Int)) ∧ Below y1.heap.size y1 V)) (by kernel_rfl) ?_ (fun hHeld => ?_)
  · exact HSS.out _ ((Below.refl _ _).drew)
  refine heldTake (i := 0) (v := .agg #[.slice A n c, .int .i64 (t : Int)]) rfl (by kernel_rfl) (by kernel_rfl) (by kernel_rfl) (fun _ _ _ h => h) (Or.inl ⟨by rfl, fun V hV => ?_⟩) (by assumption) ?_
  · obtain ⟨⟨e0, e1⟩, _⟩ := hV
    go_simp
    try rfl
  try simp only [Act.put, List.setIfInBounds_toArray, List.set_cons_zero, List.set_cons_succ]
  refine heldTake (i := 1) (v := ?_) rfl (by kernel_rfl) (by kernel_rfl) (by kernel_rfl) (fun _ _ _ h => h) (Or.inl ⟨by rfl, ?_⟩) (by assumption) ?_
  rotate_left
  · intro w hSw; (try dsimp only at hSw); go_simp <;> (with_reducible rfl)
  try simp only [Act.put, List.setIfInBounds_toArray, List.set_cons_zero, List.set_cons_succ]
  refine heldTake (i := 2) (v := .agg #[.slice A n c, .int .i64 (t : Int)]) rfl (by kernel_rfl) (by kernel_rfl) (by kernel_rfl) (fun _ _ _ h => h) (Or.inl ⟨by rfl, fun V hV => ?_⟩) (by assumption) ?_
  · obtain ⟨⟨e0, e1⟩, _⟩ := hV
    go_simp
    try rfl
  try simp only [Act.put, List.setIfInBounds_toArray, List.set_cons_zero, List.set_cons_succ]
  have HW0 := hide (show Below y1.heap.size y1 y1.drew from (Below.refl _ _).drew)
  refine wpAnyH_ready (rs := [3]) (by kernel_rfl) (by simp) ?_
  refine heldCons (i := 3) rfl (fun Kq hKq => ?_) AllReadyH.nil
  go_simp
  go_at_call 52
  refine (HP.out _).mono ?_
  rintro _ w2 ⟨rfl, hl2⟩
  have HW2 := hide (HW0.out.trans (hl2.mono HW0.out.size))
  clear hl2
  first | (refine hKq.out _ _ (HSS.out _ HW2.out) (fun hHeld => ?_)) | (go_wp2_with fail; refine hKq.out _ _ (HSS.out _ HW2.out) (fun hHeld => ?_))
  clear hKq Kq
  try simp only [Act.put, List.setIfInBounds_toArray, List.set_cons_zero, List.set_cons_succ]
  refine wpAnyH_ready (rs := [4]) (by kernel_rfl) (by simp) ?_
  refine heldCons (i := 4) rfl (fun Kq hKq => ?_) AllReadyH.nil
  refine step_ints2 rfl (.tmp 6) (.tmp 8) rfl (k : Int) (h : Int) rfl rfl ?_
  have HW3 := hide (HW2.out.trans (((Below.refl _ w2).alloc (Nat.le_refl _) (.cells #[.int .i64 (k : Int), .int .i64 (h : Int)] 3)).mono HW2.out.size))
  have HI3 := hide (Blk.new w2 3 #[.int .i64 (k : Int), .int .i64 (h : Int)])
  refine hKq.out _ _ (HSS.out _ HW3.out) (fun hHeld => ?_)
  clear hKq Kq
  try simp only [Act.put, List.setIfInBounds_toArray, List.set_cons_zero, List.set_cons_succ]
  refine wpAnyH_ready (rs := [5]) (by kernel_rfl) (by simp) ?_
  refine heldCons (i := 5) rfl (fun Kq hKq => ?_) AllReadyH.nil
  go_simp
  go_at_call 56
  refine (but_make A n c t (some ⟨w2.heap.size, 0, none⟩) 2 2 _).mono ?_
  rintro _ w4 ⟨rfl, hb1, hb2, hl4, hs4⟩
  have HW4 := hide (HW3.out.trans (hl4.mono HW3.out.size))
  have HB1 := hide hb1
  have HB2 := hide hb2
  have HI4 := hide (HI3.out.below hl4 HI3.out.lt)
  clear hb1 hb2 hl4 hs4
  first | (refine hKq.out _ _ (HSS.out _ HW4.out) (fun hHeld => ?_)) | (go_wp2_with fail; refine hKq.out _ _ (HSS.out _ HW4.out) (fun hHeld => ?_))
  clear hKq Kq
  try simp only [Act.put, List.setIfInBounds_toArray, List.set_cons_zero, List.set_cons_succ]
  refine wpAnyH_done (by kernel_rfl) ?_ _
  rw [noPanic_normal]
  obtain ⟨q, hq⟩ : ∃ q, q = (w2.alloc (.cells #[.int .i64 (k : Int), .int .i64 (h : Int)] 3)).heap.size := ⟨_, rfl⟩
  have HQW := hide (show W.heap.size < w2.heap.size ∧ w2.heap.size < q from ⟨Nat.lt_of_lt_of_le HY1.out.lt HW2.out.size, by rw [hq, World.size_alloc]; exact Nat.lt_succ_self _⟩)
  rw [← hq] at HB1 HB2 ⊢
  clear hq
  have HD4 := hide (HD1.out.kept (Turn.of_below (F := fun _ => False) HW4.out) (fun _ h => h.elim))
  have HY4 := hide (HY1.out.below HW4.out HY1.out.lt)
  have HLW := hide (show Below W.heap.size W w4 from HL1.out.trans (HW4.out.mono HL1.out.size))
  have HBD := hide (show ButD q (q + 1) A n c t X (some ⟨w2.heap.size, 0, none⟩) 2 2 [(k : Int), (h : Int)] w4 from
    ⟨HB1.out, HB2.out, HD4.out.ext, ⟨rfl, fun _ => ⟨_, rfl, HI4.out.lt, fun j v hj => blk_at (cs := [.int .i64 (k : Int), .int .i64 (h : Int)]) HI4.out j v hj⟩⟩⟩)
  have HHW := hide (HE.out.low _ _ _ _ HC0.out)
  go_wp2
  refine (wpIn_wide (n := 5)).1 ?_
  refine range_law (HSQ.out q (q + 1) (some ⟨w2.heap.size, 0, none⟩)) rfl (MatK C pre l W.heap.size Br Bk A n c t X k) ?stays ?low H ?start HBD.out ?apart ?body ?done ?stop
  case stays => exact fun got go H' V V' hI hT => ⟨HE.out.stays _ _ _ _ _ hI.keep (hT.wider (fun i q => ⟨q.1, by have := q.2; have := HLW.out.size; omega⟩)), (hT.block _ hI.yield.lt (fun q => by have := q.2; have := HY4.out.lt; omega)).trans hI.yield, hI.data.kept hT (fun i q hq => by have := HD4.out.low i hq; have := q.2; omega), hI.off⟩
  case low => exact fun got go H' V hI => HE.out.low _ _ _ _ hI.keep
  case start => exact ⟨by rw [List.append_nil]; exact HE.out.stays _ _ _ _ _ HC0.out (Turn.of_below HLW.out), HY4.out, HD4.out, fun i hi => ⟨HQ0.out i hi, by have := HHW.out i hi; omega⟩⟩
  case apart =>
    intro i hi hq
    have h1 := HHW.out i hi
    have h2 := HQW.out
    rcases hq with e | e | ⟨ad, e, e2, h0⟩ | ⟨ad, e, e2, h0⟩
    · omega
    · omega
    · exact HQ0.out i hi (.inr (.inr ⟨ad, e, e2, h0⟩))
    · injection e with e
      rw [← e] at e2
      simp only at e2
      omega
  case body =>
    intro l2 got x H' V K hI hl hlo hlt hlen hK
    have HI := hide (show MatI C pre l W.heap.size Br Bk A n c t X k got true H' V from hI)
    have HK := hide hK
    have hF : ∀ f, (Fence.wide.inRound l2).fn f := fun _ => trivial
    have HLN := hide (show (pre ++ got).length < N by
      have h1 := HN.out
      rw [List.length_append] at h1 ⊢
      simp only [List.length_cons, List.length_nil] at h1
      omega)
    clear hK hI hlen
    simp only [List.setIfInBounds_toArray, List.set_cons_zero, List.set_cons_succ]
    gi_wp2_with (first
      | ((with_reducible refine at_slotIn 4 ?_); refine inList_alloc hF rfl 47 rfl _ (pl_zero _) ?_; intro w1 hb1q hl1q hs1q; have HB5 : Hid (Blk w1 V.heap.size 47 (plC (0, 0)).toArray) := hide hb1q; have HL5 := hide hl1q; have HS5 := hide hs1q; clear hb1q hl1q hs1q)
      | ((with_reducible refine at_storeIn 4 ?_); refine inList_store hF rfl 47 (.tmp 4) (.tmp 11) rfl V.heap.size 47 _ HB5.out rfl (plC x) rfl pl_info rfl (plC_one _) ?_; intro w5 hb2q hg2q hs2q; have HB6 := hide hb2q; have HG6 := hide hg2q; have HS6 := hide hs2q; clear hb2q hg2q hs2q))
    have hT0 : Turn (fun _ => False) V w5 := (Turn.of_below HL5.out).grown HG6.out (fun g e => by injection e with e; subst e; exact .inr (Nat.le_refl _))
    refine HK.out _ _ hT0 (fun W₂ hT2 => ?_)
    have hTW : Turn (fun i => ¬ H' i ∧ w4.heap.size ≤ i) V W₂ := (hT0.wider (fun _ h => h.elim)).trans (hT2.wider (fun i e => by subst e; exact ⟨hl, hlo⟩))
    have HB7 := hide (show Blk W₂ V.heap.size 47 (plC x).toArray from (hT2.block _ HB6.out.lt (by omega)).trans HB6.out)
    have HI2 := hide (show MatI C pre l W.heap.size Br Bk A n c t X k got true H' W₂ from ⟨HE.out.stays _ _ _ _ _ HI.out.keep (hTW.wider (fun i q => ⟨q.1, by have := q.2; have := HLW.out.size; omega⟩)), (hTW.block _ HI.out.yield.lt (fun q => by have := q.2; have := HY4.out.lt; omega)).trans HI.out.yield, HI.out.data.kept hTW (fun i q hq => by have := HD4.out.low i hq; have := q.2; omega), HI.out.off⟩)
    have HSZ := hide hTW.size
    have cy : W₂.cell? ⟨W.heap.size, 0, none⟩ = some (.func (.yield l) #[] #[]) := (HI2.out.yield.cell 0).trans rfl
    obtain ⟨fn, tmps, assign, body, hy, hR⟩ := HE.out.eats (5 - 1) (pre ++ got) x H' W₂ HI2.out.keep HLN.out
    have hy2 : (Instr.yield l #[.agg (plC x).toArray]).run Tryz.prog W₂ = .ok (.round l fn tmps assign body) W₂ := hy
    have HRD := hide hR
    clear hy hR hT0 hT2 hTW hl hlo hlt
    gi_wp2_with (first
      | ((with_reducible refine at_slotIn 13 ?_); refine inList_load hF rfl 47 (.tmp 4) rfl V.heap.size 0 47 _ HB7.out rfl (plC x) _ (fun j v hj => by rw [Nat.zero_add]; simpa using hj) Tryz.underlying47 rfl pl_info ?_))
    refine HRD.out.mono ?_
    rintro e W3 ⟨go, H3, rfl, hT3, hH3, hC3⟩
    have HC3 := hide (show C (pre ++ (got ++ [x])) go H3 W3 by rw [← List.append_assoc]; exact hC3)
    have HI3 := hide (show MatI C pre l W.heap.size Br Bk A n c t X k (got ++ [x]) go H3 W3 from ⟨HC3.out, (hT3.block _ HI2.out.yield.lt (fun h => (HI2.out.off _ h).2 rfl)).trans HI2.out.yield, HI2.out.data.kept hT3 (fun i h => (HI2.out.off i h).1), fun i h => by
      rcases hH3 i h with h1 | h1
      · exact HI2.out.off i h1
      · exact ⟨fun hq => by have := HI2.out.data.low i hq; omega, by have := HI2.out.yield.lt; omega⟩⟩)
    have HT3 := hide hT3
    have HH3 := hide (show ∀ i, H3 i → H' i ∨ V.heap.size ≤ i from fun i h => (hH3 i h).imp id (fun h => Nat.le_trans HSZ.out h))
    clear hT3 hH3 hC3 hy2
    cases go with
    | true =>
      gi_wp2
      exact ⟨H3, HI3.out, HT3.out, HH3.out⟩
    | false =>
      gi_wp2
      exact ⟨H3, HI3.out, HT3.out, HH3.out⟩
  case done =>
    intro B H' V hI hT hsb hB hHB hK
    have HI := hide (show MatI C pre l W.heap.size Br Bk A n c t X k (butTo M [(k : Int), (h : Int)] n) true H' V from hI)
    have HT := hide hT
    have HSB := hide hsb
    have HHB := hide hHB
    have HK := hide hK
    have HBW := hide (Nat.le_trans HLW.out.size hB)
    obtain ⟨p, hp⟩ : ∃ p, X[h]? = some p := ⟨X[h]'(by rw [HX.out]; exact hhn), List.getElem?_eq_getElem _⟩
    have hpM : plAt M h = (p.1, p.2 + (t : Int)) := by unfold plAt; rw [HM.out, strM_at hp]; rfl
    obtain ⟨pv, hpv⟩ : ∃ pv, pv = plC (p.1, p.2 + (t : Int)) := ⟨_, rfl⟩
    have HPV := hide (show plV (plAt M h) = .agg pv.toArray by rw [hpM, hpv]; rfl)
    have HO := hide (fun (w : World) (hr : Reads w w.heap.size 2 A n (plsL X)) => by have := on_any (c := c) hr hp HS.out hn ht; rw [← hpv] at this; exact this)
    have HLN := hide (show (pre ++ butTo M [(k : Int), (h : Int)] n).length < N by
      have h1 := HN.out
      rw [List.length_append] at h1 ⊢
      simp only [List.length_cons, List.length_nil] at h1
      omega)
    have hfP : Fence.wide.fn 52 := trivial
    have hfO : Fence.wide.fn 51 := trivial
    have cy : V.cell? ⟨W.heap.size, 0, none⟩ = some (.func (.yield l) #[] #[]) := (HI.out.yield.cell 0).trans rfl
    have r0 : V.cell? ⟨Br, 0, none⟩ = some (.slice A n c) := (HI.out.data.row.cell 0).trans rfl
    have r1 : V.cell? ⟨Br, 1, none⟩ = some (.int .i64 (t : Int)) := (HI.out.data.row.cell 1).trans rfl
    clear hI hT hsb hHB hK hp hpM hpv hB
    go_wp2
    refine (wpIn_wide (n := 5)).1 ?_
    gi_region_with (first
      | (gi_at_call 52; refine (callsIn_wide.2 (HP.out _)).mono ?_; rintro _ z1 ⟨rfl, hl1⟩; have hl1' : Below V.heap.size V z1 := ((Below.refl V.heap.size V).drew).trans hl1; have cy1 : z1.cell? ⟨W.heap.size, 0, none⟩ = some (.func (.yield l) #[] #[]) := ((HI.out.yield.below hl1' HI.out.yield.lt).cell 0).trans rfl; have r01 : z1.cell? ⟨Br, 0, none⟩ = some (.slice A n c) := ((HI.out.data.row.below hl1' HI.out.data.row.lt).cell 0).trans rfl; have r11 : z1.cell? ⟨Br, 1, none⟩ = some (.int .i64 (t : Int)) := ((HI.out.data.row.below hl1' HI.out.data.row.lt).cell 1).trans rfl; have HL1 := hide hl1'; clear hl1 hl1')
      | (gi_at_call 51; refine (callsIn_wide.2 (HO.out _ (HI.out.data.ext.later HL1.out))).mono ?_; rintro _ z2 ⟨rfl, hl2⟩; have hl2' : Below V.heap.size V z2 := HL1.out.trans (hl2.mono HL1.out.size); have cy2 : z2.cell? ⟨W.heap.size, 0, none⟩ = some (.func (.yield l) #[] #[]) := ((HI.out.yield.below hl2' HI.out.yield.lt).cell 0).trans rfl; obtain ⟨fn, tmps, assign, body, hy, hR⟩ := HE.out.eats (5 - 1) _ (plAt M h) H' z2 (HE.out.stays _ _ _ _ _ HI.out.keep (Turn.of_below hl2')) HLN.out; rw [HPV.out] at hy; have HRD := hide hR; have HL2 := hide hl2'; clear hR hl2 hl2')
      | (refine HRD.out.mono ?_; rintro _ W3 ⟨go, H3, rfl, hT3, hH3, hC3⟩; have HT3 := hide hT3; have HH3 := hide hH3; have HC3 := hide hC3; clear hT3 hH3 hC3))
    all_goals (
      gi_wp2
      have hTV : Turn H' V W3 := (Turn.of_below HL2.out).trans HT3.out
      have hk3 : W3.heap[B]? = some (.deferred (some [])) := hTV.obj HK.out HHB.out
      have hBV : B < V.heap.size := (Array.getElem?_eq_some_iff.1 HK.out).1
      have hn3 : ¬ H3 B := fun hb => by
        rcases HH3.out B hb with h1 | h1
        · exact HHB.out h1
        · have := HL2.out.size; omega
      have hTW : Turn H W W3 := by
        refine ⟨hTV.os.trans (HT.out.os.trans HLW.out.os), hTV.tape.trans (HT.out.tape.trans HLW.out.tape), hTV.output.trans (HT.out.output.trans HLW.out.output), Nat.le_trans HLW.out.size (Nat.le_trans HT.out.size hTV.size), fun i hi hn => ?_⟩
        have h4 : i < w4.heap.size := Nat.lt_of_lt_of_le hi HLW.out.size
        refine (hTV.block i (Nat.lt_of_lt_of_le h4 HT.out.size) (fun hq => ?_)).trans ((HT.out.block i h4 hn).trans (HLW.out.block i hi))
        rcases HSB.out i hq with h1 | h1
        · exact hn h1
        · omega
      have hBW := HBW.out
      refine ⟨by simp, .inl ⟨_, _, rfl, run_takeDeferred hk3, ?_⟩⟩
      refine ⟨_, results_none rfl _ _ _, ⟨_, rfl⟩, butTo M [(k : Int), (h : Int)] n ++ [plAt M h], go, H3, List.prefix_refl _, fun _ => rfl, ?_, hTW.grown (grownBy_putObj' W3 B _) (fun g e => by injection e with e; subst e; exact .inr hBW), fun i hi => ?_⟩
      · rw [← List.append_assoc]
        exact HE.out.stays _ _ _ _ _ HC3.out (turn_put B _ ⟨hn3, Nat.le_trans hn0 hBW⟩)
      · rcases HH3.out i hi with h1 | h1
        · exact (HSB.out i h1).imp id (fun h2 => Nat.le_trans HLW.out.size h2)
        · exact .inr (Nat.le_trans (Nat.le_trans HLW.out.size HT.out.size) (Nat.le_trans HL2.out.size h1)))
  case stop =>
    intro B ys H' V hpre hI hT hsb hB hHB hK
    have HI := hide (show MatI C pre l W.heap.size Br Bk A n c t X k ys false H' V from hI)
    have hT2 : Turn H W V := ⟨hT.os.trans HLW.out.os, hT.tape.trans HLW.out.tape, hT.output.trans HLW.out.output, Nat.le_trans HLW.out.size hT.size, fun i hi hn => (hT.block i (Nat.lt_of_lt_of_le hi HLW.out.size) hn).trans (HLW.out.block i hi)⟩
    have hBW := Nat.le_trans HLW.out.size hB
    clear hI
    go_wp2
    refine ⟨by simp, .inl ⟨_, _, rfl, run_takeDeferred hK, ?_⟩⟩
    refine ⟨_, results_none rfl _ _ _, ⟨_, rfl⟩, ys, false, H', hpre.trans (List.prefix_append _ _), (fun h => by cases h), HE.out.stays _ _ _ _ _ HI.out.keep (turn_put B _ ⟨hHB, Nat.le_trans hn0 hBW⟩), hT2.grown (grownBy_putObj' V B _) (fun g e => by injection e with e; subst e; exact .inr hBW), fun i hi => (hsb i hi).imp id (fun h => Nat.le_trans HLW.out.size h)⟩
theorem mates_seq (hX : X.length = n) (hn : n ≤ 1000000) (hn2 : 2 ≤ n) (hs : SmallX X) (ht : t < 8) :
    SeqOf 90 [.pointer (some ⟨Br, 0, none⟩), .pointer (some ⟨Bk, 0, none⟩)] (butTo (strM X t) [(k : Int), (strH n t : Int)] n ++ [plAt (strM X t) (strH n t)]) (MatD Br Bk A n c t X k) (MatQ Br Bk A n) :=
  ⟨enters_of Tryz.func90 (by kernel_rfl) rfl, fun _ _ h hT => h.kept hT (fun _ q => q), fun _ h i hi => h.low i hi,
    fun n0 l N C eat pre H W hn0 hC hD hHQ hN => mates_walk hX hn hn2 hs ht n0 l N C eat pre H W hn0 hC hD hHQ hN⟩
end
/-! ### slices.Values over a row of places -/
structure ValD (Bs : Nat) (A : Option Addr) (n c : Nat) (L : List PlI) (W : World) : Prop where
  box : Blk W Bs 39 #[.slice A n c]
  row : Reads W W.heap.size 2 A n (plsL L)
def ValQ (Bs : Nat) (A : Option Addr) (n : Nat) (k : Nat) : Prop := k = Bs ∨ (∃ ad, A = some ad ∧ ad.block = k ∧ 0 < n)
section
variable {Bs n c : Nat} {A : Option Addr} {L : List PlI}
theorem ValD.kept {W W' : World} {F : Nat → Prop} (h : ValD Bs A n c L W) (hT : Turn F W W') (hF : ∀ i, F i → ¬ ValQ Bs A n i) : ValD Bs A n c L W' :=
  ⟨(hT.block _ h.box.lt (fun hq => hF _ hq (.inl rfl))).trans h.box, h.row.kept hT.size (fun ad e hb h0 => hT.block _ hb (fun hq => hF _ hq (.inr ⟨ad, e, rfl, h0⟩))) hT.size⟩
theorem ValD.low {W : World} (h : ValD Bs A n c L W) (i : Nat) (hk : ValQ Bs A n i) : i < W.heap.size := by
  rcases hk with rfl | ⟨ad, e, rfl, h0⟩
  · exact h.box.lt
  · exact h.row.low e h0
set_option maxRecDepth 100000 in
set_option maxHeartbeats 4000000 in
theorem values_walk (hn : n ≤ 1000000) (n0 l N : Nat) (C : Kept) (eat : Eat n0 l C N) (pre : List PlI) (H : Nat → Prop) (W : World) (hC : C pre true H W) (hD : ValD Bs A n c L W) (hHQ : ∀ i, H i → ¬ ValQ Bs A n i) (hN : pre.length + L.length ≤ N) :
    Calls Tryz.prog 95 #[.func (.yield l) #[] #[], .pointer (some ⟨Bs, 0, none⟩)] W fun e W' => (∃ v, e = .returned v) ∧
      ∃ ys go H', ys <+: L ∧ (go = true → ys = L) ∧ C (pre ++ ys) go H' W' ∧ Turn H W W' ∧ (∀ i, H' i → H i ∨ W.heap.size ≤ i) := by
  have hLn : L.length = n := by have := hD.row.1; rw [plsL_length] at this; omega
  have HLN := hide hLn
  have HE := hide eat
  have HC0 := hide hC
  have HD0 := hide hD
  have HQ0 := hide hHQ
  have HN := hide hN
  have c0 : W.cell? ⟨Bs, 0, none⟩ = some (.slice A n c) := (hD.box.cell 0).trans rfl
  have hF : ∀ f, Fence.wide.fn f := fun _ => trivial
  clear eat hC hD hHQ hN hLn
  refine (callsIn_wide (n := 5)).1 ?_
  refine callsIn_of_wp Tryz.func95 rfl trivial ?_ rfl
  simp only [Tryz.ntmps95, List.size_toArray, List.length_cons, List.length_nil, Nat.reduceAdd, Nat.reduceSub, Array.replicate_succ, Array.replicate_zero, List.push_toArray, List.append_toArray, List.nil_append, List.cons_append]
  gi_wp2
  clear c0
  gi_loopw [7] (fun i wr => ∃ (k : Nat) (H1 : Nat → Prop), k ≤ n ∧ i = .int .i64 k ∧ Hid (C (pre ++ L.take k) true H1 wr) ∧ Hid (ValD Bs A n c L wr) ∧ Hid (∀ k, H1 k → ¬ ValQ Bs A n k) ∧ Hid (Turn H W wr) ∧ Hid (∀ k, H1 k → H k ∨ W.heap.size ≤ k)) (fun i _ => n - (intOf i).toNat)
  case atStart => exact ⟨0, H, Nat.zero_le _, rfl, hide (by rw [List.take_zero, List.append_nil]; exact HC0.out), HD0, HQ0, hide (Turn.refl _ _), hide (fun k h => .inl h)⟩
  case round =>
    obtain ⟨k, H1, hk, rfl, HC, HD, HQ, HT, HH⟩ := hrel
    by_cases hkn : k < n
    · have hki : (k : Int) < (n : Int) := by omega
      have hwr : IntKind.i64.wrap ((k : Int) + 1) = (k : Int) + 1 := IntWalk.i64_in _ (by omega)
      obtain ⟨p, hp⟩ : ∃ p, L[k]? = some p := ⟨L[k]'(by rw [HLN.out]; exact hkn), List.getElem?_eq_getElem _⟩
      obtain ⟨ad, rfl, hb, d0, d1⟩ := HD.out.row.pl_at hp
      have hd1 : wr.cell? ⟨(ad.add (k * 2)).block, (ad.add (k * 2)).off + 1, none⟩ = some (.int .i64 p.2) := d1
      have htk := hide (take_more hp)
      have HLK := hide (show (pre ++ L.take k).length < N by
        have h1 := HN.out
        rw [List.length_append, List.length_take]
        have h2 := HLN.out
        omega)
      clear hp hb d1
      gi_wp2_with (first
        | ((with_reducible refine at_slotIn 4 ?_); refine inList_alloc hF rfl 47 rfl _ (pl_zero _) ?_; intro w1 hb1q hl1q hs1q; have HB5 : Hid (Blk w1 wr.heap.size 47 (plC (0, 0)).toArray) := hide hb1q; have HL5 := hide hl1q; have HS5 := hide hs1q; clear hb1q hl1q hs1q)
        | ((with_reducible refine at_storeIn 4 ?_); refine inList_store hF rfl 47 (.tmp 4) (.tmp 10) rfl wr.heap.size 47 _ HB5.out rfl (plC p) rfl pl_info rfl (plC_one _) ?_; intro w5 hb2q hg2q hs2q
           have HB6 := hide hb2q
           have HL6 := hide (show Below wr.heap.size wr w5 from HL5.out.grown hg2q HL5.out.size (fun g e => by injection e with e; subst e; exact Nat.le_refl _))
           obtain ⟨fn, tmps, assign, body, hy, hR⟩ := HE.out.eats (5 - 1) _ p H1 w5 (HE.out.stays _ _ _ _ _ HC.out (Turn.of_below HL6.out)) HLK.out
           have hy2 : (Instr.yield l #[.agg (plC p).toArray]).run Tryz.prog w5 = .ok (.round l fn tmps assign body) w5 := hy
           have HRD := hide hR
           clear hb2q hg2q hs2q hy hR)
        | ((with_reducible refine at_slotIn 12 ?_); refine inList_load hF rfl 47 (.tmp 4) rfl wr.heap.size 0 47 _ HB6.out rfl (plC p) _ (fun j v hj => by rw [Nat.zero_add]; simpa using hj) Tryz.underlying47 rfl pl_info ?_))
      refine HRD.out.mono ?_
      rintro e W3 ⟨go, H3, rfl, hT3, hH3, hC3⟩
      have HC3 := hide (show C (pre ++ L.take (k + 1)) go H3 W3 by rw [htk.out, ← List.append_assoc]; exact hC3)
      have HT3 := hide (show Turn H1 wr W3 from (Turn.of_below HL6.out).trans hT3)
      have HQ3 := hide (show ∀ k, H3 k → H1 k ∨ wr.heap.size ≤ k from fun k h => (hH3 k h).imp id (fun h => Nat.le_trans HL6.out.size h))
      have HT4 := hide (show Turn H W W3 from ⟨HT3.out.os.trans HT.out.os, HT3.out.tape.trans HT.out.tape, HT3.out.output.trans HT.out.output, Nat.le_trans HT.out.size HT3.out.size, fun i hi hn => (HT3.out.block i (Nat.lt_of_lt_of_le hi HT.out.size) (fun h => by
        rcases HH.out i h with h | h
        · exact hn h
        · omega)).trans (HT.out.block i hi hn)⟩)
      have HH4 := hide (show ∀ k, H3 k → H k ∨ W.heap.size ≤ k from fun k h => by
        rcases HQ3.out k h with h | h
        · exact HH.out k h
        · exact .inr (Nat.le_trans HT.out.size h))
      clear hT3 hH3 hC3 hy2 d0 hd1
      cases go with
      | true =>
        gi_wp2
        go_roundw
        case rel => exact ⟨k + 1, H3, by omega, by simp, HC3, hide (HD.out.kept HT3.out (fun i h => HQ.out i h)), hide (fun i h hq => by
          rcases HQ3.out i h with h | h
          · exact HQ.out i h hq
          · exact absurd (HD.out.low i hq) (by omega)), HT4, HH4⟩
        case measure => simp [intOf]; omega
      | false =>
        gi_wp2
        refine bodyPost_ret (results_none rfl _ _ _) rfl ?_
        exact ⟨⟨_, rfl⟩, L.take (k + 1), false, H3, List.take_prefix _ _, (fun h => by cases h), HC3.out, HT4.out, HH4.out⟩
    · obtain rfl : k = n := by omega
      have htl := hide (show L.take k = L from List.take_of_length_le (Nat.le_of_eq HLN.out))
      rw [htl.out] at HC
      gi_wp2
      go_end0
      exact ⟨⟨_, rfl⟩, L, true, H1, List.prefix_refl _, fun _ => rfl, HC.out, HT.out, HH.out⟩
theorem values_seq (hn : n ≤ 1000000) :
    SeqOf 95 [.pointer (some ⟨Bs, 0, none⟩)] L (ValD Bs A n c L) (ValQ Bs A n) :=
  ⟨enters_of Tryz.func95 (by kernel_rfl) rfl, fun _ _ h hT => h.kept hT (fun _ q => q), fun _ h i hi => h.low i hi,
    fun n0 l N C eat pre H W _ hC hD hHQ hN => values_walk hn n0 l N C eat pre H W hC hD hHQ hN⟩
end
end Go.Proofs.YtmjjnbabfldbcaaGreat
