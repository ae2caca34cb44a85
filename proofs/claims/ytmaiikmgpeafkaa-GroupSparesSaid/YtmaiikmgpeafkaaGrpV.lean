/- slices.Sorted(slices.Values(l)) at ints: the numbers of l in a row of the call's own, rising. -/
import Derived.Test.YtmaiikmgpeafkaaGrpD
import Derived.RangeFuncBox
import Derived.RangeFuncLeaves
import Derived.OwnWalkIn
import Derived.TacticsInMore
import Derived.LoopNIn
import Derived.LoopIn
namespace Go.Proofs.Ytmaiikmgpeafkaa
open Go.RowKit Go.Sort Go.Shelf Go.Maps
attribute [local go_sem] Oper.semAt_some

/-- What the walk over l's places keeps, where the rounds keep what lay below block B0. -/
def Sure (w0 : World) (J : List Int → World → Prop) : Prop := ∀ ss W, J ss W → Below w0.heap.size w0 W
set_option maxRecDepth 100000 in
set_option maxHeartbeats 2000000 in
theorem values_walk (m : Nat) (hm : 1 ≤ m) (l Bv : Nat) (A : Option Addr) (n c : Nat) (zs : List Int) (w0 : World) (hBv : Bv < w0.heap.size) (hb : w0.cell? ⟨Bv, 0, none⟩ = some (.slice A n c)) (hr : Reads w0 w0.heap.size 1 A n (I64 zs)) (hn8 : n * 8 ≤ 140737488355328) (J : List Int → World → Prop) (hJ : Sure w0 J)
    (hY : ∀ pre x W, J pre W → pre.length < n → YieldAt Fence.wide (m - 1) Try.prog l #[encZ x] W fun e W' => e = .returned (.bool true) ∧ J (pre ++ [x]) W' ∧ KeepsWalks W W') (W : World) (h0 : J [] W) :
    CallsIn Fence.wide m Try.prog 50 #[.func (.yield l) #[] #[], .pointer (some ⟨Bv, 0, none⟩)] W fun e W' => (∃ v, e = .returned v) ∧ J zs W' := by
  have hzl : zs.length = n := by have := hr.1; rw [I64_length] at this; omega
  have HR := hide hr
  have HY := hide hY
  have HJ := hide hJ
  have hc0 : W.cell? ⟨Bv, 0, none⟩ = some (.slice A n c) := ((hJ _ _ h0).cell (p := ⟨Bv, 0, none⟩) hBv).trans hb
  clear hr hY hJ
  refine callsIn_of_wp Try.func50 rfl trivial ?_ rfl
  simp only [Try.ntmps50, List.size_toArray, List.length_cons, List.length_nil, Nat.reduceAdd, Nat.reduceSub, Array.replicate_succ, Array.replicate_zero, List.push_toArray, List.append_toArray, List.nil_append, List.cons_append]
  gi_wp2
  gi_loopw [7] (fun i wr => ∃ k : Nat, k ≤ n ∧ i = .int .i64 k ∧ J (zs.take k) wr) (fun i _ => n - (intOf i).toNat)
  case atStart => exact ⟨0, Nat.zero_le _, rfl, by simpa using h0⟩
  case round =>
    obtain ⟨k, hk, rfl, hJk⟩ := hrel
    by_cases hkn : k < n
    · obtain ⟨ad, x, rfl, hab, hx, hcx⟩ := HR.out.i64_at hkn
      have hce : wr.cell? (ad.add k) = some (.int .i64 x) := ((HJ.out _ _ hJk).cell (p := ad.add k) (by rw [block_of_add]; exact hab)).trans hcx
      obtain ⟨fn, tmps, assign, body, hy, hR⟩ := HY.out _ x wr hJk (by rw [List.length_take]; omega)
      have hy2 : (Instr.yield l #[.int .i64 x]).run Try.prog wr = .ok (.round l fn tmps assign body) wr := hy
      have HRD := hide hR
      have htk := take_more hx
      have HTK := hide htk
      clear hcx hx hR hy htk
      gi_wp2
      refine HRD.out.mono ?_
      rintro e W3 ⟨rfl, hJ3, _⟩
      rw [← HTK.out] at hJ3
      gi_wp2
      go_roundw
      case rel => exact ⟨k + 1, by omega, by simp, hJ3⟩
      case measure => simp [intOf]; omega
    · obtain rfl : k = n := by omega
      rw [List.take_of_length_le (by omega)] at hJk
      gi_wp2
      go_end0
      exact ⟨⟨_, rfl⟩, hJk⟩
/-- A row sorted in place, at the fence that asks nothing. -/
theorem sorts_any (m : Nat) : AnyZI.SortsIn Try.prog lay_sorted_ren Fence.wide m :=
  ⟨fun blk off cap ss W hH hblk hsz => callsIn_wide.2 (AnyM.slices_Sort_int lay_sort blk off cap ss W hH hblk hsz),
   fun p cap W => callsIn_wide.2 (AnyM.slices_Sort_int_none lay_sort p cap W)⟩
set_option maxRecDepth 100000 in
set_option maxHeartbeats 2000000 in
theorem gathered (m : Nat) (hm : 2 ≤ m) (Bv : Nat) (A : Option Addr) (n c : Nat) (zs : List Int) (w : World) (hBv : Bv < w.heap.size) (hb : w.cell? ⟨Bv, 0, none⟩ = some (.slice A n c)) (hr : Reads w w.heap.size 1 A n (I64 zs)) (hn : n ≤ maxLen) (hn8 : n * 8 ≤ 140737488355328) :
    CallsIn Fence.wide m Try.prog 57 #[.slice none 0 0, .func (.func 50) #[] #[.pointer (some ⟨Bv, 0, none⟩)]] w fun e w' => ∃ v, e = .returned v ∧ w'.ownsRow w.heap.size 3 1 v zs.length (I64 zs) ∧ Below w.heap.size w w' := by
  obtain ⟨sv, hsv⟩ : ∃ sv : Value, sv = .func (.func 50) #[] #[.pointer (some ⟨Bv, 0, none⟩)] := ⟨_, rfl⟩
  have e50 : ∀ args w, (callFunc 50 args).run Try.prog w = .ok (.enter 50 args) w := enters_of Try.func50 (by kernel_rfl) rfl
  refine callsIn_of_wp_marks Try.func57 rfl trivial ?_ rfl
  simp only [Try.ntmps57, List.size_toArray, List.length_cons, List.length_nil, Nat.reduceAdd, Nat.reduceSub, Array.replicate_succ, Array.replicate_zero, List.push_toArray, List.append_toArray, List.nil_append, List.cons_append]
  gi_wp2
  refine wpIn_rangeFunc ?_
  intro fn hfn
  -- the loop's box, its deferred calls, its record
  obtain ⟨wa, hwa⟩ : ∃ wa, wa = w.alloc (.cells #[.slice none 0 0] 22) := ⟨_, rfl⟩
  rw [← hwa, ← hsv]
  have hza : wa.heap.size = w.heap.size + 1 := by rw [hwa]; simp
  have hla : Below w.heap.size w wa := by rw [hwa]; exact (Below.refl _ w).alloc (Nat.le_refl _) _
  have hba : Blk wa w.heap.size 22 #[.slice none 0 0] := by rw [hwa]; exact Blk.new _ _ _
  obtain ⟨rec_, hrec⟩ : ∃ r, r = AnyZI.apRec lay_sorted_ren fn sv w.heap.size wa.heap.size .ready none := ⟨_, rfl⟩
  obtain ⟨wd, hwd⟩ : ∃ wd, wd = wa.alloc (.deferred (some [])) := ⟨_, rfl⟩
  have hzd : wd.heap.size = wa.heap.size + 1 := by rw [hwd]; simp
  have hld : Below wa.heap.size wa wd := by rw [hwd]; exact (Below.refl _ wa).alloc (Nat.le_refl _) _
  obtain ⟨wl, hwl⟩ : ∃ wl, wl = wd.alloc (.loop rec_) := ⟨_, rfl⟩
  have hll : Below wd.heap.size wd wl := by rw [hwl]; exact (Below.refl _ wd).alloc (Nat.le_refl _) _
  have hbl : Below w.heap.size w wl := hla.trans ((hld.trans (hll.mono (by omega))).mono (by omega))
  have hat : AnyZI.ApAt lay_sorted_ren w fn sv w.heap.size wd.heap.size wa.heap.size [] wl := by
    refine ⟨⟨.slice none 0 0, ?_, World.ownsRow_nil _ _ _ _, by simp⟩, ?_, ?_, hbl⟩
    · exact ((hba.below hld (by omega)).below hll (by omega))
    · rw [hwl, ← hrec]; exact World.alloc_heap_new wd _
    · exact (hll.block _ (by omega)).trans (by rw [hwd]; exact World.alloc_heap_new wa _)
  refine ⟨wd.heap.size, [{ target := .collected wa.heap.size, args := #[] }], wl, { target := .fn (.func 50) #[.pointer (some ⟨Bv, 0, none⟩)], args := #[.func (.yield wd.heap.size) #[] #[]] }, wl, 50,
    #[.func (.yield wd.heap.size) #[] #[]] ++ #[.pointer (some ⟨Bv, 0, none⟩)], wl, ?_, ?_, ?_, ?_, fun _ => by omega, ?_⟩
  · rw [hzd, hwl, hwd, hrec]
    exact run_enterLoop_outer _ _ _ _ _
  · rw [hsv]; simp [resolve, go_sem]
  · intro f' hf'; trivial
  · simp [invoke, go_sem, e50]
  · refine (values_walk (m - 1) (by omega) wd.heap.size Bv A n c zs w hBv hb hr hn8 (AnyZI.ApAt lay_sorted_ren w fn sv w.heap.size wd.heap.size wa.heap.size) (fun ss W h => h.below)
      (fun pre x W h hl => AnyZI.apYield { lay_sorted with } Fence.wide (m - 1 - 1) w fn hfn sv w.heap.size wd.heap.size wa.heap.size (by omega) (by omega) (by omega) (Nat.le_refl _) (by omega) n hn hn8 pre x W h hl) wl hat).mono ?_
    rintro e W2 ⟨⟨v0, rfl⟩, h2⟩
    obtain ⟨v, hv, hrow, _⟩ := h2.box
    have hend := run_endLoop (P := Try.prog) h2.L (by simp [AnyZI.apRec])
    obtain ⟨W3, hW3⟩ : ∃ W3, W2.putObj wd.heap.size (.loop { AnyZI.apRec lay_sorted_ren fn sv w.heap.size wa.heap.size .ready none with state := .exhausted }) = W3 := ⟨_, rfl⟩
    rw [hW3] at hend
    have hg3 : W2.grownBy W3 (some wd.heap.size) := by rw [← hW3]; exact grownBy_putObj_a _ _ _
    have hbox : Blk W3 w.heap.size 22 #[v] := (hg3.block _ (Array.getElem?_eq_some_iff.1 hv).1 (fun e => by injection e with e; omega)).trans hv
    have hK3 : W3.heap[wa.heap.size]? = some (.deferred (some [])) := (hg3.block _ (Array.getElem?_eq_some_iff.1 h2.K).1 (fun e => by injection e with e; omega)).trans h2.K
    have hrow3 := hrow.kept hg3 (ownsRow_ne_a hrow h2.L (fun cur e => by cases e))
    have hb3 : Below w.heap.size w W3 := h2.below.grown hg3 h2.below.size (fun k e => by cases e; omega)
    have hc3 := hbox.cell 0
    refine ⟨none, W3, hend, ?_⟩
    clear hW3
    gi_wp2
    rw [← hza]
    refine ⟨by simp, .inl ⟨_, _, rfl, run_takeDeferred hK3, ?_⟩⟩
    exact ⟨_, results_tmp rfl _ _ _, v, rfl, hrow3.kept (grownBy_putObj_a _ _ _) (ownsRow_ne_a hrow3 hK3 (fun cur e => by cases e)), hb3.grown (grownBy_putObj_a _ _ _) hb3.size (fun k e => by cases e; omega)⟩
set_option maxHeartbeats 1000000 in
/-- 'slices.Sorted(slices.Values(l))'. -/
theorem values_sorted (A : Option Addr) (n c : Nat) (zs : List Int) (w : World) (hr : Reads w w.heap.size 1 A n (I64 zs)) (hn : n ≤ maxLen) (hn8 : n * 8 ≤ 140737488355328) :
    Calls Try.prog 38 #[.slice A n c] w fun e w1 => e = .returned (.func (.func 50) #[] #[.pointer (some ⟨w.heap.size, 0, none⟩)]) ∧ Below w.heap.size w w1 ∧
      Calls Try.prog 37 #[.func (.func 50) #[] #[.pointer (some ⟨w.heap.size, 0, none⟩)]] w1 fun e w2 => ∃ v, e = .returned v ∧ w2.ownsRow w.heap.size 3 1 v zs.length (I64 (rise zs)) ∧ Below w1.heap.size w1 w2 := by
  have hzl : zs.length = n := by have := hr.1; rw [I64_length] at this; omega
  have HR := hide hr
  clear hr
  go_enter Try.func38, Try.ntmps38
  have hmf : ∀ (fn : Fn) (first cap : Array Value) (w : World), (Instr.makeFunc fn first cap).run Try.prog w = .ok (.func fn first cap) w := fun _ _ _ _ => rfl
  go_wp2_with (refine wpList_box_blk rfl 22 (.tmp 0) rfl (.slice A n c) rfl ?_; intro w1 hb1 hl1 hs1; have hq1 : w.heap.size < w1.heap.size := (by omega); clear hs1)
  go_ret
  refine ⟨rfl, hl1, ?_⟩
  have hc1 : w1.cell? ⟨w.heap.size, 0, none⟩ = some (.slice A n c) := hb1.cell 0
  have hg : ∀ m, 2 ≤ m → _ := fun m hm => gathered m hm w.heap.size A n c zs w1 hq1 hc1 ((HR.out.below hl1).more hl1.size) hn hn8
  refine (callsIn_wide (n := 6)).1 ?_
  have hfC : Fence.wide.fn 49 := trivial
  have hfS : Fence.wide.fn 48 := trivial
  have hfA : Fence.wide.fn 57 := trivial
  have hcol : CallsIn Fence.wide 5 Try.prog 49 #[.func (.func 50) #[] #[.pointer (some ⟨w.heap.size, 0, none⟩)]] w1 fun e w' => ∃ v, e = .returned v ∧ w'.ownsRow w1.heap.size 3 1 v zs.length (I64 zs) ∧ Below w1.heap.size w1 w' := by
    have hg4 := hg 4 (by omega)
    clear hc1 hb1 hg
    refine callsIn_of_wp Try.func49 rfl trivial ?_ rfl
    simp only [Try.ntmps49, List.size_toArray, List.length_cons, List.length_nil, Nat.reduceAdd, Nat.reduceSub, Array.replicate_succ, Array.replicate_zero, List.push_toArray, List.append_toArray, List.nil_append, List.cons_append]
    gi_wp2_with (gi_at_call 57; refine hg4.mono ?_; rintro e w' ⟨v, rfl, hrow, hb⟩)
    go_ret
    exact ⟨v, rfl, hrow, hb⟩
  have HC := hide hcol
  clear hc1 hb1 hg hcol
  refine callsIn_of_wp Try.func37 rfl trivial ?_ rfl
  simp only [Try.ntmps37, List.size_toArray, List.length_cons, List.length_nil, Nat.reduceAdd, Nat.reduceSub, Array.replicate_succ, Array.replicate_zero, List.push_toArray, List.append_toArray, List.nil_append, List.cons_append]
  gi_wp2_with (first
    | (gi_at_call 49; refine HC.out.mono ?_; rintro e w2 ⟨v, rfl, hrow2, hb2⟩; have hs2 : CallsIn Fence.wide 5 Try.prog 48 #[v] w2 _ := callsIn_wide.2 (sort_row w1.heap.size v zs w2 hrow2 (by simp only [maxLen] at hn; omega)))
    | (gi_at_call 48; refine hs2.mono ?_; rintro e w3 ⟨rfl, hrow3, hg3⟩))
  have hb3 : Below w1.heap.size w1 w3 := hb2.grown hg3 hb2.size (fun g e => (hrow2.lt g e).1)
  go_ret
  exact ⟨_, rfl, own_mono hrow3 hl1.size, hb3⟩
#print axioms values_sorted
end Go.Proofs.Ytmaiikmgpeafkaa
