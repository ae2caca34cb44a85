/- Who was written last: what New, Oldest and All answer. -/
import Derived.Test.YthodmhjlokfcaaaRcM
namespace Go.Proofs.Ythodmhjlokfcaaa
open Go.RowKit Go.Maps
set_option linter.unusedVariables false
theorem link_built : Try.prog.built 51 [] = some #[.int .i64 0, .pointer none, .pointer none] := by kernel_rfl
theorem chain_built (p : Option Addr) : Try.prog.built 43 [(0, .pointer p)] = some #[.pointer p] := by kernel_rfl
theorem rcrow_built (p : Option Addr) (y : Nat) : Try.prog.built 47 [(0, .agg #[.pointer p]), (1, .map (some y))] = some #[.pointer p, .map (some y)] := by kernel_rfl
theorem chain_zero (w : World) : (zeroValue 43).run Try.prog w = .ok (.agg #[.pointer none]) w := by kernel_rfl
theorem chain_info (p : Option Addr) : (Try.prog.info? 43).map (·.size) = some ([Value.pointer p]).length := by kernel_rfl
theorem ptr_info : (Try.prog.info? 41).map (·.size) = some 1 := by kernel_rfl
theorem ptr_one (p : Option Addr) : ∀ v ∈ [Value.pointer p], v.oneCell' = true := by
  intro v hv
  simp at hv
  rw [hv]
  rfl
set_option maxRecDepth 100000 in
theorem newChain_any (w : World) :
    Calls Try.prog 24 #[] w fun e w' => ∃ k, e = .returned (.agg #[.pointer (some ⟨k, 0, none⟩)]) ∧ Blk w' k 51 (lkC 0 k k).toArray ∧ w.heap.size ≤ k ∧ Below w.heap.size w w' := by
  go_enter Try.func24, Try.ntmps24
  go_wp2_with (first
    | ((with_reducible refine at_slot 0 ?_); refine wpList_alloc_blk rfl 43 rfl _ (chain_zero _) ?_; intro w1 hb1 hl1 hs1; have hq0 : w.heap.size < w1.heap.size := (by omega); clear hs1; have hc1 : Blk w1 w.heap.size 43 #[.pointer none] := hb1; clear hb1)
    | ((with_reducible refine at_slot 2 ?_); refine wpList_build_is rfl 51 _ rfl _ rfl _ link_built ?_)
    | ((with_reducible refine at_slot 3 ?_); refine wpList_box_blk rfl 51 _ rfl (.agg #[.int .i64 0, .pointer none, .pointer none]) rfl ?_; intro w2 hb2 hl2 hs2; clear hs2; have hc2 : Blk w2 w1.heap.size 51 #[.int .i64 0, .pointer none, .pointer none] := hb2; clear hb2; have hq1 := hc1.below hl2 hc1.lt)
    | ((with_reducible refine at_store 9 ?_); refine wpList_poke rfl 41 (.tmp 9) (.tmp 6) rfl w1.heap.size 1 51 _ hc2 rfl (.pointer (some ⟨w1.heap.size, 0, none⟩)) rfl rfl ptr_info (by first | decide | (simp; done)) ?_; intro w3 hb3 hg3 hs3; clear hs3; have hc3 : Blk w3 w1.heap.size 51 #[.int .i64 0, .pointer (some ⟨w1.heap.size, 0, none⟩), .pointer none] := hb3; clear hb3; have hq3 := hq1.grown hg3 (by intro e; injection e with e; omega))
    | ((with_reducible refine at_store 11 ?_); refine wpList_poke rfl 41 (.tmp 11) (.tmp 7) rfl w1.heap.size 2 51 _ hc3 rfl (.pointer (some ⟨w1.heap.size, 0, none⟩)) rfl rfl ptr_info (by first | decide | (simp; done)) ?_; intro w4 hb4 hg4 hs4; clear hs4; have hq4 := hq3.grown hg4 (by intro e; injection e with e; omega))
    | ((with_reducible refine at_slot 13 ?_); refine wpList_build_is rfl 43 _ rfl _ rfl _ (chain_built _) ?_)
    | ((with_reducible refine at_store 0 ?_); refine wpList_store_all rfl 43 (.tmp 0) (.tmp 13) rfl w.heap.size 43 _ hq4 rfl [.pointer (some ⟨w1.heap.size, 0, none⟩)] rfl (chain_info _) rfl (ptr_one _) ?_; intro w5 hb5 hg5 hs5; clear hs5))
  refine ret_cell rfl w.heap.size 43 [.pointer (some ⟨w1.heap.size, 0, none⟩)] _ hb5 rfl Try.underlying43 rfl (chain_info _) rfl ?_
  have hb4' : Blk w4 w1.heap.size 51 (lkC 0 w1.heap.size w1.heap.size).toArray := hb4
  refine ⟨w1.heap.size, rfl, hb4'.grown hg5 (by intro e; injection e with e; omega), hl1.size, ?_⟩
  have h2 : Below w.heap.size w w2 := hl1.trans (hl2.mono hl1.size)
  have h3 := h2.grown hg3 h2.size (fun g e => by injection e with e; omega)
  have h4 := h3.grown hg4 h3.size (fun g e => by injection e with e; omega)
  exact h4.grown hg5 h4.size (fun g e => by injection e with e; omega)
set_option maxRecDepth 100000 in
theorem new_any (w : World) :
    Calls Try.prog 9 #[] w fun e w' => ∃ m k y, e = .returned (.pointer (some ⟨m, 0, none⟩)) ∧ RcIn w' m k y [] (fun _ => k) (fun _ => k) (fun _ => 0) (fun _ => none) [] ∧ w.heap.size ≤ m ∧ w.heap.size ≤ k ∧ w.heap.size ≤ y ∧ Below w.heap.size w w' := by
  go_enter Try.func9, Try.ntmps9
  go_wp2_with (first
    | (go_at_call 24; refine (newChain_any _).mono ?_; rintro _ w1 ⟨k, rfl, hk, hk1, hl1⟩; have hq1 := hk.lt)
    | ((with_reducible refine at_slot 2 ?_); refine wpList_makeMapI rfl 45 rfl ?_; intro w2 hm2 hl2 hs2; have hk2 := hk.below hl2 hk.lt; have hq2 : w1.heap.size < w2.heap.size := (by omega); clear hs2)
    | ((with_reducible refine at_slot 3 ?_); refine wpList_build_is rfl 47 _ rfl _ rfl _ (rcrow_built _ _) ?_)
    | ((with_reducible refine at_slot 4 ?_); refine wpList_box_blk rfl 47 _ rfl (.agg #[.pointer (some ⟨k, 0, none⟩), .map (some w1.heap.size)]) rfl ?_; intro w3 hb3 hl3 hs3; clear hs3; have hk3 := hk2.below hl3 hk2.lt; have hm3 := hm2.below hl3 hm2.lt))
  go_ret
  have hz1 := hl1.size
  refine ⟨w2.heap.size, k, w1.heap.size, rfl, ⟨hb3, ?_, Ring.one k, rfl, List.nodup_nil, hm3, fun x hx => (List.not_mem_nil hx).elim, fun _ _ => rfl, ?_⟩, by omega, hk1, hz1, (hl1.trans (hl2.mono hz1)).trans (hl3.mono (by omega))⟩
  · intro x hx
    rw [List.mem_singleton] at hx
    rw [hx]
    exact hk3
  · refine ⟨fun h => ?_, fun h => ?_, by omega⟩
    · rw [List.mem_singleton] at h
      omega
    · rw [List.mem_singleton] at h
      omega
section
variable {w w' : World} {m k y : Nat} {G : List Nat} {nx pv : Nat → Nat} {it : Nat → Int} {f : Int → Option Value} {L : List Int}
set_option maxRecDepth 100000 in
theorem oldest_any (h : RcIn w m k y G nx pv it f L) (hL : L.length ≤ 1000000) (n : Int) (T : List Int) (hT : L.take n.toNat = T) :
    Calls Try.prog 15 #[.pointer (some ⟨m, 0, none⟩), .int .i64 n] w fun e w' => ∃ v, e = .returned v ∧ w'.ownsRow w.heap.size 3 1 v T.length (I64 T) ∧ Below w.heap.size w w' := by
  have hc := h.c0
  have HK := hide (oldest_core h.lks h.ring h.items hL n T hT)
  clear h
  go_enter Try.func15, Try.ntmps15
  go_wp2_with (first
    | ((with_reducible refine at_slot 8 ?_); refine when_gives rfl (.agg #[.pointer (some ⟨k, 0, none⟩)]) (by
        unfold execOp
        have hcc : ∀ (j : Nat) (v : Value), [Value.pointer (some ⟨k, 0, none⟩)][j]? = some v → w.cell? ((⟨m, 0, none⟩ : Addr).add j) = some v := fun j v hj => by
          cases j with
          | zero => injection hj with hj; rw [← hj]; exact hc
          | succ j => cases hj
        have h2 := run_loadVar_at w ⟨m, 0, none⟩ 43 [.pointer (some ⟨k, 0, none⟩)] _ hcc Try.underlying43 rfl (chain_info _)
        simp only [Instr.loadAt, Instr.sureAddr, Sem.run_bind, Sem.run_pure]
        go_simp
        simp [h2]) ?_)
    | (go_at_call 26; refine HK.out.mono ?_; rintro _ w1 ⟨v, rfl, hv, hb⟩; have HV := hide hv; have HB := hide hb; clear hv hb))
  go_ret
  exact ⟨_, rfl, HV.out, HB.out⟩
set_option maxRecDepth 100000 in
theorem all_any (h : RcIn w m k y G nx pv it f L) (hL : L.length ≤ 1000000) :
    Calls Try.prog 23 #[.pointer (some ⟨m, 0, none⟩)] w fun e w' => ∃ v, e = .returned v ∧ w'.ownsRow w.heap.size 3 1 v L.length (I64 L) ∧ Below w.heap.size w w' := by
  have HH := hide h
  have e : L.take ((L.length : Int)).toNat = L := List.take_of_length_le (by omega)
  have HK := hide (oldest_any h hL (L.length : Int) L e)
  clear h e
  go_enter Try.func23, Try.ntmps23
  go_wp2_with (first
    | (go_at_call 22; refine (len_any HH.out).mono ?_; rintro _ _ ⟨rfl, rfl⟩)
    | (go_at_call 15; refine HK.out.mono ?_; rintro _ w1 ⟨v, rfl, hv, hb⟩; have HV := hide hv; have HB := hide hb; clear hv hb))
  go_ret
  exact ⟨_, rfl, HV.out, HB.out⟩
end
#print axioms new_any
#print axioms all_any
end Go.Proofs.Ythodmhjlokfcaaa
