/- What write and flush do on one disk. -/
import Derived.Test.YtmjjnbabfldbcaaGreatKeep
namespace Go.Proofs.YtmjjnbabfldbcaaGreat
open Go.RowKit

theorem built_newer_fill (parts : List (Nat × Value)) : Tryz.prog.built 126 parts = Instr.fill (fun i => ([(0, 64), (64, 1)] : List (Nat × Nat)).toArray[i]?) (newL zeroSec 0).toArray parts := by kernel_rfl
theorem foldl_set0 (l : List Value) : ∀ (k : Nat) (cs : Array Value), k + l.length ≤ cs.size → (l.zipIdx k).foldl (fun cs x => cs.setIfInBounds x.2 x.1) cs = (cs.toList.take k ++ l ++ cs.toList.drop (k + l.length)).toArray := by
  induction l with
  | nil =>
    intro k cs h
    rw [List.zipIdx_nil, List.foldl_nil, List.append_nil, List.length_nil, Nat.add_zero, List.take_append_drop, Array.toArray_toList]
  | cons v l ih =>
    intro k cs h
    rw [List.length_cons] at h
    rw [List.zipIdx_cons, List.foldl_cons, ih (k + 1) _ (by rw [Array.size_setIfInBounds]; omega)]
    have hk : k < cs.toList.length := by rw [Array.length_toList]; omega
    congr 1
    rw [Array.toList_setIfInBounds, List.take_add_one, List.take_set, List.set_eq_of_length_le (by simp; omega), List.getElem?_set, if_pos rfl, if_pos hk, List.drop_set, if_pos (by omega), List.length_cons]
    simp
    congr 1
    omega
theorem built_newer (s : Sec) (t : Nat) : Tryz.prog.built 126 [(0, secV s), (1, .int .i64 (t : Int))] = some (newL s t).toArray := by
  rw [built_newer_fill]
  have h0 : (([(0, 64), (64, 1)] : List (Nat × Nat)).toArray[0]?) = some (0, 64) := rfl
  have h1 : (([(0, 64), (64, 1)] : List (Nat × Nat)).toArray[1]?) = some (64, 1) := rfl
  have hs : (newL zeroSec 0).toArray.size = 65 := by rw [List.size_toArray, newL_length]
  have hc : (secV s).cells = (secL s).toArray := rfl
  have hcs : (secL s).toArray.size = 64 := by rw [List.size_toArray, secL_length]
  have hw : (Value.int .i64 (t : Int)).cells = #[.int .i64 (t : Int)] := rfl
  obtain ⟨C, hC⟩ : ∃ C, C = (newL zeroSec 0).toArray := ⟨_, rfl⟩
  rw [← hC] at hs ⊢
  have hf1 : ((secL s).toArray.zipIdx.foldl (fun cs (x : Value × Nat) => cs.setIfInBounds (0 + x.2) x.1) C) = (secL s ++ C.toList.drop 64).toArray := by
    have hf := foldl_set0 (secL s) 0 C (by rw [secL_length]; omega)
    rw [secL_length, List.take_zero, List.nil_append] at hf
    rw [← Array.foldl_toList]
    simpa using hf
  unfold Instr.fill
  simp only [h0, hc, hcs]
  rw [if_neg (by rw [hs]; decide), hf1]
  unfold Instr.fill
  simp only [h1, hw]
  have hlen : (secL s ++ C.toList.drop 64).length = 65 := by rw [List.length_append, secL_length, List.length_drop, Array.length_toList, hs]
  have hlen2 : (secL s ++ C.toList.drop 64).toArray.size = 65 := by rw [List.size_toArray, hlen]
  rw [if_neg (by rw [hlen2]; simp)]
  have hf2 : ((#[Value.int .i64 (t : Int)] : Array Value).zipIdx.foldl (fun cs (x : Value × Nat) => cs.setIfInBounds (64 + x.2) x.1) (secL s ++ C.toList.drop 64).toArray) = (newL s t).toArray := by
    show (secL s ++ C.toList.drop 64).toArray.setIfInBounds 64 (.int .i64 (t : Int)) = _
    obtain ⟨y, hy⟩ : ∃ y, C.toList.drop 64 = [y] := by
      have : (C.toList.drop 64).length = 1 := by rw [List.length_drop, Array.length_toList, hs]
      exact List.length_eq_one_iff.1 this
    rw [hy, List.setIfInBounds_toArray, List.set_append_right _ _ (by rw [secL_length]; decide), secL_length]
    rfl
  rw [hf2]
  unfold Instr.fill
  rfl
section
variable {w : World} {mb o l x : Nat} {f g : Nat → Option Value}
set_option maxRecDepth 100000 in
theorem write_again (k : Nat) (s s0 : Sec) (t now : Nat) (hm : mb < w.heap.size) (c3 : w.cell? ⟨mb, o + 3, none⟩ = some (.map (some l))) (hl : MapIs w l f) (hf : f k = some (newV s0 t)) :
    Calls Tryz.prog 77 #[.pointer (some ⟨mb, o, none⟩), .int .i64 (k : Int), secV s, .int .i64 (now : Int)] w fun e w' => e = .returned (.tuple #[]) ∧ MapIs w' l (upd f k (some (newV s t))) ∧ w.grownBy w' (some l) := by
  have hk := hl.sees_lt hf
  have hlt := hl.lt
  have hBU := built_newer s t
  obtain ⟨V, hV⟩ : ∃ V, V = newL s0 t := ⟨_, rfl⟩
  have hVl : V.length = 65 := by rw [hV, newL_length]
  have hVo : ∀ v ∈ V, v.oneCell' = true := by rw [hV]; exact newL_one s0 t
  have hV64 : V.toArray[64]? = some (.int .i64 (t : Int)) := by
    rw [List.getElem?_toArray, hV, newL, List.getElem?_append_right (by rw [secL_length]; exact Nat.le_refl _), secL_length]
    rfl
  have hfV : f k = some (.agg V.toArray) := by rw [hV]; exact hf
  have hiV : (Tryz.prog.info? 126).map (·.size) = some V.length := by rw [hVl]; exact newer_info
  obtain ⟨U, hU⟩ : ∃ U, U = secL s := ⟨_, rfl⟩
  have hUl : U.length = 64 := by rw [hU, secL_length]
  have hiU : (Tryz.prog.info? 43).map (·.size) = some U.length := by rw [hUl]; exact sec_info
  have hs : secV s = .agg U.toArray := by rw [hU]; rfl
  obtain ⟨C, hC⟩ : ∃ C, C = (newL s t).toArray := ⟨_, rfl⟩
  have hnew : newV s t = .agg C := by rw [hC]; rfl
  rw [hs, ← hC] at hBU
  rw [hs, hnew]
  have HFV := hide hfV
  have HVl := hide hVl
  have HVO := hide hVo
  have HV64 := hide hV64
  have HIV := hide hiV
  have HIU := hide hiU
  have HBU := hide hBU
  clear hf hV hU hVl hVo hV64 hfV hiV hUl hiU hs hnew hC hBU
  go_enter Tryz.func77, Tryz.ntmps77
  go_wp2_with (first
    | (refine wpList_box_blk rfl 43 (.tmp 2) rfl (.agg U.toArray) rfl ?_; intro w1 hb1 hl1 hs1; clear hs1; have c31 := (hl1.cell (p := ⟨mb, o + 3, none⟩) hm).trans c3)
    | (refine wpList_look_some rfl (.tmp 14) (.tmp 15) 80 126 true rfl Tryz.underlying80 _ (newer_zero _) l f rfl (hl.below hl1 hlt) k rfl (.agg V.toArray) HFV.out _ rfl ?_)
    | (refine wpList_alloc_blk rfl 126 rfl _ (newer_zero _) ?_; intro w2 hb2 hl2 hs2; clear hs2)
    | (refine wpList_store_all rfl 126 (.tmp 8) (.tmp 17) rfl w1.heap.size 126 _ hb2 rfl V rfl HIV.out (HVl.out.trans (newL_length zeroSec 0).symm) HVO.out ?_; intro w3 hb3 hg3 hs3; clear hs3; have hb13 := (hb1.below hl2 hb1.lt).grown hg3 (fun e => by have := hb1.lt; injection e with e; omega); have hB : Below w.heap.size w w3 := ((hl1.trans (hl2.mono (by have := hb1.lt; omega))).grown hg3 (by have := hl2.size; have := hb1.lt; omega) (fun g e => by have := hb1.lt; injection e with e; omega)); have c33 := (hB.cell (p := ⟨mb, o + 3, none⟩) hm).trans c3; have c64 := (hb3.cell 64).trans HV64.out))
  have c3d : w3.drew.cell? ⟨mb, o + 3, none⟩ = some (.map (some l)) := c33
  refine wp_region_still_tail 8 (by kernel_rfl) (by kernel_rfl) ?_
  change wpStill _ _ w3.drew _ _ _
  simp only [List.take_succ_cons, List.take_zero, List.drop_succ_cons, List.drop_zero]
  iterate 5 still_step
  refine still_load_at rfl 43 (.tmp 6) rfl ⟨w.heap.size, 0, none⟩ rfl U _ (fun j v hj => ?_) Tryz.underlying43 rfl HIU.out ?_
  · have hadd : (⟨w.heap.size, 0, none⟩ : Addr).add j = ⟨w.heap.size, j, none⟩ := by unfold Addr.add; split <;> simp_all
    rw [hadd, hb13.drew.cell j]
    simpa [Value.cells] using hj
  still_step
  refine still_build rfl 126 #[(0, .tmp 27), (1, .tmp 28)] rfl [(0, .agg U.toArray), (1, .int .i64 (t : Int))] (by simp only [List.map_toArray, List.map_cons, List.map_nil]; rfl) C HBU.out ?_
  refine wpStill_nil ?_
  simp only [Act.put, List.setIfInBounds_toArray, List.set_cons_succ, List.set_cons_zero]
  change wpList _ _ _ _ _ w3.drew
  refine wpList_put rfl (.tmp 25) (.tmp 26) (.tmp 29) 80 126 rfl Tryz.underlying80 l f rfl ((hl.below hB hlt).drew) k hk (.agg C) rfl rfl ?_
  intro w4 hm4 hg4
  go_wp2
  exact bodyPost_end (results_none rfl _ _ _) rfl ⟨rfl, hm4, (grown_of_below hB.drew (some l)).andThen hg4 (fun j e => .inr e)⟩
set_option maxRecDepth 100000 in
theorem write_first (k : Nat) (s : Sec) (now : Nat) (hk : k < 4096) (hm : mb < w.heap.size) (c3 : w.cell? ⟨mb, o + 3, none⟩ = some (.map (some l))) (hl : MapIs w l f) (hf : f k = none) :
    Calls Tryz.prog 77 #[.pointer (some ⟨mb, o, none⟩), .int .i64 (k : Int), secV s, .int .i64 (now : Int)] w fun e w' => e = .returned (.tuple #[]) ∧ MapIs w' l (upd f k (some (newV s now))) ∧ w.grownBy w' (some l) := by
  have hlt := hl.lt
  have hBU := built_newer s now
  obtain ⟨V, hV⟩ : ∃ V, V = newL zeroSec 0 := ⟨_, rfl⟩
  have hVl : V.length = 65 := by rw [hV, newL_length]
  have hVo : ∀ v ∈ V, v.oneCell' = true := by rw [hV]; exact newL_one zeroSec 0
  have hz : newV zeroSec 0 = .agg V.toArray := by rw [hV]; rfl
  have hfV : (if true = true then Value.tuple #[newV zeroSec 0, .bool false] else newV zeroSec 0) = Value.tuple #[.agg V.toArray, .bool false] := by rw [hz]; rfl
  have hiV : (Tryz.prog.info? 126).map (·.size) = some V.length := by rw [hVl]; exact newer_info
  obtain ⟨U, hU⟩ : ∃ U, U = secL s := ⟨_, rfl⟩
  have hUl : U.length = 64 := by rw [hU, secL_length]
  have hiU : (Tryz.prog.info? 43).map (·.size) = some U.length := by rw [hUl]; exact sec_info
  have hs : secV s = .agg U.toArray := by rw [hU]; rfl
  obtain ⟨C, hC⟩ : ∃ C, C = (newL s now).toArray := ⟨_, rfl⟩
  have hnew : newV s now = .agg C := by rw [hC]; rfl
  rw [hs, ← hC] at hBU
  rw [hs, hnew]
  have HFV := hide hfV
  have HVl := hide hVl
  have HVO := hide hVo
  have HF := hide hf
  have HIV := hide hiV
  have HIU := hide hiU
  have HBU := hide hBU
  clear hf hV hU hVl hVo hz hfV hiV hUl hiU hs hnew hC hBU
  go_enter Tryz.func77, Tryz.ntmps77
  go_wp2_with (first
    | (refine wpList_box_blk rfl 43 (.tmp 2) rfl (.agg U.toArray) rfl ?_; intro w1 hb1 hl1 hs1; clear hs1; have c31 := (hl1.cell (p := ⟨mb, o + 3, none⟩) hm).trans c3)
    | (refine wpList_look_none rfl (.tmp 14) (.tmp 15) 80 126 true rfl Tryz.underlying80 _ (newer_zero _) l f rfl (hl.below hl1 hlt) k rfl HF.out (by omega) _ HFV.out ?_)
    | (refine wpList_alloc_blk rfl 126 rfl _ (newer_zero _) ?_; intro w2 hb2 hl2 hs2; clear hs2)
    | (refine wpList_store_all rfl 126 (.tmp 8) (.tmp 17) rfl w1.heap.size 126 _ hb2 rfl V rfl HIV.out (HVl.out.trans (newL_length zeroSec 0).symm) HVO.out ?_; intro w3 hb3 hg3 hs3; clear hs3; have hb13 := (hb1.below hl2 hb1.lt).grown hg3 (fun e => by have := hb1.lt; injection e with e; omega); have hB : Below w.heap.size w w3 := ((hl1.trans (hl2.mono (by have := hb1.lt; omega))).grown hg3 (by have := hl2.size; have := hb1.lt; omega) (fun g e => by have := hb1.lt; injection e with e; omega)); have c33 := (hB.cell (p := ⟨mb, o + 3, none⟩) hm).trans c3))
  have c3d : w3.drew.cell? ⟨mb, o + 3, none⟩ = some (.map (some l)) := c33
  refine wp_region_still_tail 8 (by kernel_rfl) (by kernel_rfl) ?_
  change wpStill _ _ w3.drew _ _ _
  simp only [List.take_succ_cons, List.take_zero, List.drop_succ_cons, List.drop_zero]
  iterate 5 still_step
  refine still_load_at rfl 43 (.tmp 6) rfl ⟨w.heap.size, 0, none⟩ rfl U _ (fun j v hj => ?_) Tryz.underlying43 rfl HIU.out ?_
  · have hadd : (⟨w.heap.size, 0, none⟩ : Addr).add j = ⟨w.heap.size, j, none⟩ := by unfold Addr.add; split <;> simp_all
    rw [hadd, hb13.drew.cell j]
    simpa [Value.cells] using hj
  still_step
  refine still_build rfl 126 #[(0, .tmp 27), (1, .tmp 28)] rfl [(0, .agg U.toArray), (1, .int .i64 (now : Int))] (by simp only [List.map_toArray, List.map_cons, List.map_nil]; rfl) C HBU.out ?_
  refine wpStill_nil ?_
  simp only [Act.put, List.setIfInBounds_toArray, List.set_cons_succ, List.set_cons_zero]
  change wpList _ _ _ _ _ w3.drew
  refine wpList_put rfl (.tmp 25) (.tmp 26) (.tmp 29) 80 126 rfl Tryz.underlying80 l f rfl ((hl.below hB hlt).drew) k hk (.agg C) rfl rfl ?_
  intro w4 hm4 hg4
  go_wp2
  exact bodyPost_end (results_none rfl _ _ _) rfl ⟨rfl, hm4, (grown_of_below hB.drew (some l)).andThen hg4 (fun j e => .inr e)⟩
/-- The map holds sector s at k, or nothing where it is zero. -/
def FlatAt (g : Nat → Option Value) (k : Nat) (s : Sec) : Prop := g k = some (secV s) ∨ (g k = none ∧ zeroSec = s)
theorem keptF_self (g : Nat → Option Value) (k : Nat) (s : Sec) : FlatAt (keptF g k s) k s := by
  unfold keptF FlatAt
  split
  · rename_i h
    exact .inr ⟨upd_self _ _ _, h.symm⟩
  · exact .inl (upd_self _ _ _)
theorem keptF_ne (g : Nat → Option Value) {j k : Nat} (s : Sec) (h : j ≠ k) : keptF g k s j = g j := by
  unfold keptF
  split <;> exact upd_ne _ _ h
theorem NewIs.kept {f g : Nat → Option Value} {new : Nat → Sec} (h : ∀ j, NewIs f g j (new j)) {k : Nat} {v : Value} (hk : f k = some v) : ∀ j, NewIs f (keptF g k (new k)) j (new j) := by
  intro j
  by_cases e : j = k
  · subst e
    rcases h j with h1 | ⟨h1, _⟩
    · exact .inl h1
    · rw [h1] at hk; cases hk
  · rcases h j with h1 | ⟨h1, h2⟩
    · exact .inl h1
    · exact .inr ⟨h1, by rw [keptF_ne g _ e]; exact h2⟩
theorem MapIs.ne_cell {w : World} {x mb o : Nat} {g : Nat → Option Value} {v : Value} (hx : MapIs w x g) (c : w.cell? ⟨mb, o, none⟩ = some v) : x ≠ mb := by
  rintro rfl
  obtain ⟨D, ⟨es, clock, h1, _⟩, _⟩ := hx
  simp [World.cell?, h1] at c
set_option maxRecDepth 100000 in
theorem flush_any (new : Nat → Sec) (hm : mb < w.heap.size) (hlx : l ≠ x) (c3 : w.cell? ⟨mb, o + 3, none⟩ = some (.map (some l))) (hl : MapIs w l f)
    (c2 : w.cell? ⟨mb, o + 2, none⟩ = some (.map (some x))) (hx : MapIs w x g) (hs : ∀ k, NewIs f g k (new k)) :
    Calls Tryz.prog 85 #[.pointer (some ⟨mb, o, none⟩)] w fun e w' => e = .returned (.tuple #[]) ∧ MapIs w' l (fun _ => none) ∧ (∃ g', MapIs w' x g' ∧ ∀ k, FlatAt g' k (new k)) ∧ Turn (fun i => i = l ∨ i = x) w w' := by
  have hxm := hx.ne_cell c2
  have hlm := hl.ne_cell c3
  have hlt := hl.lt
  have hxt := hx.lt
  have HS := hide hs
  clear hs
  go_enter Tryz.func85, Tryz.ntmps85
  go_wp2_with (first | (refine wpList_range rfl (.tmp 6) 80 126 rfl Tryz.underlying80 (some l) f rfl hl ?_; intro w0 hgo0 hg0 hs0; clear hs0; go_frame))
  go_loopw [2] (fun _ wr => ∃ left gr, Going wr (some l) w.heap.size f left ∧ MapIs wr x gr ∧ (∀ k, NewIs f gr k (new k)) ∧ (∀ k, (f k).isSome = true → left k = false → FlatAt gr k (new k)) ∧ w.grownBy wr (some x)) (fun _ wr => goingLeft wr (some l) w.heap.size)
  case atStart =>
    refine ⟨_, g, hgo0, hx.grown hg0 (by simp), HS.out, fun k h1 h2 => ?_, hg0.but _⟩
    rw [h1] at h2
    cases h2
  case round =>
    obtain ⟨left, gr, hgo, hxr, hnew, hflat, hgw⟩ := hrel
    have c3r : wr.cell? ⟨mb, o + 3, none⟩ = some (.map (some l)) := (World.cell?_of_block (hgw.block mb hm (fun e => hxm (by injection e with e; exact e.symm)))).trans c3
    have c2r : wr.cell? ⟨mb, o + 2, none⟩ = some (.map (some x)) := (World.cell?_of_block (hgw.block mb hm (fun e => hxm (by injection e with e; exact e.symm)))).trans c2
    have hmr : mb < wr.heap.size := by have := hgw.size; omega
    have hrne : some w.heap.size ≠ some x := fun e => by injection e with e; omega
    have HN := hide hnew
    have HFL := hide hflat
    clear hnew hflat
    go_wp2_with (first | (refine wpList_next rfl (.tmp 7) rfl (some l) w.heap.size f left rfl hgo ?_ ?_))
    · intro hdone
      have hfin : ∀ k, FlatAt gr k (new k) := by
        intro k
        cases hf : (f k).isSome
        · rcases HN.out k with ⟨t, h1⟩ | ⟨_, h2⟩
          · rw [h1] at hf; cases hf
          · exact h2
        · exact HFL.out k hf (hdone k)
      have HFI := hide hfin
      clear hdone hfin
      have hlr : MapIs wr l f := hgo.map
      go_wp2_with (first | (go_at_call 82; refine (lose_any (o := o) c3r hlr).mono ?_; rintro _ w4 ⟨rfl, hl4, hg4⟩))
      go_end0
      exact ⟨rfl, hl4, ⟨gr, hxr.grown hg4 (fun e => hlx (by injection e with e; exact e.symm)), HFI.out⟩, (Turn.of_grown hgw (fun i e => .inr (by injection e with e; exact e.symm))).grown hg4 (fun i e => .inl (.inl (by injection e with e; exact e.symm)))⟩
    · intro k v w2 hlk hfk hk4 hgo2 hlt2 hg2 hs2 hen
      clear hs2
      have hne2 : ∀ j, j < w.heap.size → w2.heap[j]? = wr.heap[j]? := fun j hj => hg2.block j (by have := hgw.size; omega) (fun e => by injection e with e; omega)
      have c3t : w2.cell? ⟨mb, o + 3, none⟩ = some (.map (some l)) := (World.cell?_of_block (hne2 mb hm)).trans c3r
      have c2t : w2.cell? ⟨mb, o + 2, none⟩ = some (.map (some x)) := (World.cell?_of_block (hne2 mb hm)).trans c2r
      have hm2 : mb < w2.heap.size := by have := hg2.size; omega
      have hl2 : MapIs w2 l f := hgo2.map
      have hx2 : MapIs w2 x gr := hxr.of_block (hne2 x hxt)
      have HK := hide (keep_any (o := o) k (new k) hk4 hm2 c3t hl2 c2t hx2 (HN.out k))
      have HLK := hide hlk
      have HFK := hide hfk
      have HLT := hide hlt2
      clear hlk hfk hlt2
      go_wp2_with (first | (go_at_call 81; refine HK.out.mono ?_; rintro _ w4 ⟨rfl, hx4, hg4⟩))
      go_roundw
      case rel =>
        refine ⟨_, _, hgo2.kept hg4 (fun b e => by injection e with e; subst e; exact fun e2 => hlx (by injection e2 with e2)) hrne, hx4, NewIs.kept HN.out HFK.out, fun j hj hleft => ?_, (hgw.andThen hg2 (fun j e => by injection e with e; subst e; exact .inl (Nat.le_refl _))).andThen hg4 (fun j e => .inr e)⟩
        by_cases e : j = k
        · subst e
          exact keptF_self _ _ _
        · have hl3 : left j = false := by simpa [e] using hleft
          unfold FlatAt
          rw [keptF_ne gr _ e]
          exact HFL.out j hj hl3
      case measure =>
        rw [goingLeft_kept hgo2 hg4 (fun b e => by injection e with e; subst e; exact fun e2 => hlx (by injection e2 with e2)) hrne]
        exact HLT.out
end
end Go.Proofs.YtmjjnbabfldbcaaGreat
