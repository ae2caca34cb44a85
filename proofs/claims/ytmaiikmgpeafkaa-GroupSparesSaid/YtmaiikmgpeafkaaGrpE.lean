/- What eachFinds of group answers: whether each group can be given a disk. -/
import Derived.Test.YtmaiikmgpeafkaaGrpF
namespace Go.Proofs.Ytmaiikmgpeafkaa
open Go.RowKit

open Classical in
/-- Whether each group can be given a disk. -/
noncomputable def fitsB (rm : List Int) (Bs : List (List Int)) : Bool := decide (Fits rm Bs)
theorem fitsB_iff {rm : List Int} {Bs : List (List Int)} : fitsB rm Bs = true ↔ Fits rm Bs := by simp [fitsB]
theorem fitsB_not {rm : List Int} {Bs : List (List Int)} {T : Nat → Bool} (h : Viol rm Bs T) : fitsB rm Bs = false := by
  cases hb : fitsB rm Bs
  · rfl
  · exact absurd h (fits_not_viol (fitsB_iff.1 hb) T)
theorem wpList_makeMap {ops : Array Oper} {rest : List Oper} {o : Oper} {a : Act} {w : World} {Q : Exit → Act → World → Prop} (hgd : o.guard = none) (t : TypeId) (ho : o.op = .makeMap t none)
    (hK : ∀ w', MapIs w' w.heap.size (fun _ => none) → Below w.heap.size w w' → w.heap.size < w'.heap.size → wpList Try.prog ops Q rest (a.put o.dst (.map (some w.heap.size))) w') : wpList Try.prog ops Q (o :: rest) a w :=
  wpList_plain hgd fun _ hK' => by
    have hmm := @run_makeMap Try.prog
    unfold Oper.wp
    simp [execOp, ho, hmm, Result.andThen]
    exact hK' _ _ (hK _ (MapIs.new w) ((Below.refl _ _).alloc (Nat.le_refl _) _) (by rw [World.size_alloc]; omega))
theorem cells_slice (A : Option Addr) (n c : Nat) : (Value.slice A n c).cells = #[.slice A n c] := rfl
set_option maxRecDepth 100000 in
set_option maxHeartbeats 2000000 in
theorem eachFinds_any (AG : Option Addr) (cG : Nat) (AR : Option Addr) (cR : Nat) (rm : List Int) (Bs : List (List Int)) (w : World) (hrm : Reads w w.heap.size 1 AR rm.length (I64 rm)) (hn : rm.length ≤ 1000000) (hm : Bs.length ≤ 1000000) (hG : GB w w.heap.size (.slice AG Bs.length cG) Bs) (hGl : ∀ l ∈ Bs, l.length < 4611686018427387904) :
    Calls Try.prog 28 #[.slice AG Bs.length cG, .slice AR rm.length cR] w fun e w' => e = .returned (.bool (fitsB rm Bs)) ∧ (fitsB rm Bs = false → ∃ T, Viol rm Bs T) ∧ Below w.heap.size w w' := by
  have hmf : ∀ (fn : Fn) (first cap : Array Value) (w : World), (Instr.makeFunc fn first cap).run Try.prog w = .ok (.func fn first cap) w := fun _ _ _ _ => rfl
  have HG := hide hG
  have HRM := hide hrm
  have HGL := hide hGl
  obtain ⟨FB, hFB⟩ : ∃ FB, FB = fitsB rm Bs := ⟨_, rfl⟩
  rw [← hFB]
  have HFB := hide hFB
  clear hG hrm hGl hFB
  go_enter Try.func28, Try.ntmps28
  go_wp2_with (first
    | ((with_reducible refine at_slot 2 ?_); refine wpList_box_blk rfl 51 (.tmp 0) rfl (.slice AG Bs.length cG) rfl ?_; intro w1 hb1 hl1 hs1; have hq1 : w.heap.size < w1.heap.size := (by omega); clear hs1; rw [cells_slice] at hb1)
    | ((with_reducible refine at_slot 3 ?_); refine wpList_box_blk rfl 22 (.tmp 1) rfl (.slice AR rm.length cR) rfl ?_; intro w2 hb2 hl2 hs2; have hq2 : w1.heap.size < w2.heap.size := (by omega); clear hs2; rw [cells_slice] at hb2)
    | ((with_reducible refine at_slot 9 ?_); refine wpList_makeMap rfl 66 rfl ?_; intro w3 hm3 hl3 hq3)
    | ((with_reducible refine at_slot 5 ?_); refine wpList_alloc_blk rfl 66 rfl _ (Try.zeroValue66 _) ?_; intro w4 hb4 hl4 hs4; have hq4 : w3.heap.size < w4.heap.size := (by omega); clear hs4)
    | ((with_reducible refine at_store 5 ?_); refine wpList_poke rfl 66 (.tmp 5) (.tmp 9) rfl w3.heap.size 0 66 _ hb4 rfl (.map (some w2.heap.size)) rfl rfl (by kernel_rfl) (by decide) ?_; intro w5 hb5 hg5 hs5; have hq5 : w4.heap.size ≤ w5.heap.size := (by omega); clear hs5)
    | ((with_reducible refine at_slot 10 ?_); refine wpList_makeMap rfl 67 rfl ?_; intro w6 hm6 hl6 hq6)
    | ((with_reducible refine at_slot 6 ?_); refine wpList_alloc_blk rfl 67 rfl _ (Try.zeroValue67 _) ?_; intro w7 hb7 hl7 hs7; have hq7 : w6.heap.size < w7.heap.size := (by omega); clear hs7)
    | ((with_reducible refine at_store 6 ?_); refine wpList_poke rfl 67 (.tmp 6) (.tmp 10) rfl w6.heap.size 0 67 _ hb7 rfl (.map (some w5.heap.size)) rfl rfl (by kernel_rfl) (by decide) ?_; intro w8 hb8 hg8 hs8; have hq8 : w7.heap.size ≤ w8.heap.size := (by omega); clear hs8)
    | ((with_reducible refine at_slot 7 ?_); refine wpList_alloc_blk rfl 68 rfl _ (Try.zeroValue68 _) ?_; intro w9 hb9 hl9 hs9; have hq9 : w8.heap.size < w9.heap.size := (by omega); clear hs9)
    | ((with_reducible refine at_store 7 ?_); refine wpList_poke rfl 68 (.tmp 7) (.tmp 11) rfl w8.heap.size 0 68 _ hb9 rfl (.func (.func 45) #[] #[.pointer (some ⟨w1.heap.size, 0, none⟩), .pointer (some ⟨w3.heap.size, 0, none⟩), .pointer (some ⟨w.heap.size, 0, none⟩), .pointer (some ⟨w6.heap.size, 0, none⟩), .pointer (some ⟨w8.heap.size, 0, none⟩)]) rfl rfl (by kernel_rfl) (by decide) ?_; intro wa hba hga hsa; have hqa : w9.heap.size ≤ wa.heap.size := (by omega); clear hsa; have l5 : Below w3.heap.size w3 w5 := hl4.grown hg5 hl4.size (fun g e => (by injection e with e; omega)); have l8 : Below w6.heap.size w6 w8 := hl7.grown hg8 hl7.size (fun g e => (by injection e with e; omega)); have la : Below w8.heap.size w8 wa := hl9.grown hga hl9.size (fun g e => (by injection e with e; omega)); have m8 : Below w6.heap.size w6 wa := l8.trans (la.mono l8.size); have m6 : Below w5.heap.size w5 wa := hl6.trans (m8.mono hl6.size); have m5 : Below w3.heap.size w3 wa := l5.trans (m6.mono l5.size); have m3 : Below w2.heap.size w2 wa := hl3.trans (m5.mono hl3.size); have m2 : Below w1.heap.size w1 wa := hl2.trans (m3.mono hl2.size); have m1 : Below w.heap.size w wa := hl1.trans (m2.mono hl1.size); have c0 : wa.cell? ⟨w.heap.size, 0, none⟩ = some (.slice AG Bs.length cG) := (hb1.below m2 hb1.lt).cell 0))
  have hspots : Spots w.heap.size wa.heap.size w.heap.size w1.heap.size w2.heap.size w3.heap.size w5.heap.size w6.heap.size w8.heap.size := by
    constructor <;> (have := l5.size; have := l8.size; omega)
  have HSP := hide hspots
  have hvars : Vars w w.heap.size wa.heap.size w.heap.size w1.heap.size w2.heap.size w3.heap.size w5.heap.size w6.heap.size w8.heap.size (.slice AR rm.length cR) (.slice AG Bs.length cG) wa :=
    ⟨m1, Nat.le_refl _, c0, (hb2.below m3 hb2.lt).cell 0, (hb5.below m6 hb5.lt).cell 0, (hb8.below la hb8.lt).cell 0, hba.cell 0⟩
  have hst : St w w.heap.size wa.heap.size w.heap.size w1.heap.size w2.heap.size w3.heap.size w5.heap.size w6.heap.size w8.heap.size (.slice AR rm.length cR) (.slice AG Bs.length cG) rm.length (fun _ => []) (fun _ => false) (fun _ => .slice none 0 0) wa :=
    ⟨hvars, by rw [trF_none]; exact hm6.below m8 hm6.lt, FS.start (hm3.below m5 hm3.lt)⟩
  have HST := hide hst
  clear hst hvars hspots c0 m1 m2 m3 m5 m6 m8 la l8 l5 hba hga hb9 hl9 hb8 hg8 hb7 hl7 hm6 hl6 hb5 hg5 hb4 hl4 hm3 hl3 hb2 hl2 hb1 hl1 hq1 hq2 hq3 hq4 hq5 hq6 hq7 hq8 hq9 hqa
  go_loopw [14] (fun i wr => ∃ (g : Nat) (F : Nat → List Nat) (T : Nat → Bool) (V : Nat → Value), g ≤ Bs.length ∧ i = .int .i64 g ∧ Hid (St w w.heap.size wa.heap.size w.heap.size w1.heap.size w2.heap.size w3.heap.size w5.heap.size w6.heap.size w8.heap.size (.slice AR rm.length cR) (.slice AG Bs.length cG) rm.length F T V wr) ∧ Hid (FOk rm Bs F) ∧ Hid (∀ y, cnt rm.length F y = if y < g then 1 else 0)) (fun i _ => Bs.length - (intOf i).toNat)
  case atStart => exact ⟨0, _, _, _, Nat.zero_le _, rfl, HST, hide FOk.start, hide (fun y => by rw [cnt_start, if_neg (Nat.not_lt_zero _)])⟩
  case round =>
    clear HST
    obtain ⟨g, F, T, V, hg, rfl, HS, HOK, HC⟩ := hrel
    have hlow := HS.out.vars.low
    by_cases hgn : g < Bs.length
    · have c1 := HS.out.vars.t
      have c2 := HS.out.vars.s
      go_wp2_with (first
        | (refine wpList_clear rfl (.tmp 17) 67 69 rfl Try.underlying67 w5.heap.size (trF T) rfl HS.out.tri ?_; intro x2 hm2 hg2; have HS2 := hide (HS.out.tried (T' := fun _ => false) HSP.out hm2 hg2); clear hm2 hg2; have c3 := HS2.out.vars.s)
        | (go_at_call 45; refine (find_any w wa.heap.size w.heap.size w1.heap.size w2.heap.size w3.heap.size w5.heap.size w6.heap.size w8.heap.size AR cR (.slice AG Bs.length cG) rm Bs HSP.out HRM.out hn hm HG.out HGL.out (untried rm.length (fun _ => false) + 1) g F (fun _ => false) V x2 (Nat.lt_succ_self _) hgn HS2.out HOK.out (fun y => (by rw [HC.out y]; split <;> omega)) (fun d hd => (by cases hd))).mono ?_))
      rintro e x3 ⟨b, rfl, hpost⟩
      rcases hpost with ⟨rfl, F3, T3, V3, hst3, hfd⟩ | ⟨rfl, T3, hst3, hnf⟩
      · have HS3 := hide hst3
        have HO3 := hide hfd.ok
        have HC3 : Hid (∀ y, cnt rm.length F3 y = if y < g + 1 then 1 else 0) := hide (fun y => by
          rw [hfd.cnt_ y, HC.out y]
          by_cases h1 : y < g
          · rw [if_pos h1, if_neg (by omega), if_pos (by omega)]
          · by_cases h2 : y = g
            · rw [if_neg h1, if_pos h2, if_pos (by omega)]
            · rw [if_neg h1, if_neg h2, if_neg (by omega)])
        clear hst3 hfd c1 c2 c3
        go_wp2
        go_roundw
        case rel => exact ⟨g + 1, F3, T3, V3, by omega, by go_num, HS3, HO3, HC3⟩
        case measure => simp [intOf]; omega
      · have hv : Viol rm Bs T3 := viol_of HOK.out hgn (by rw [HC.out, if_neg (by omega)]) (fun y => by rw [HC.out y]; split <;> omega) hnf.full (fun d hd => hnf.closed d hd rfl) hnf.all
        have HV := hide hv
        have hlow3 := hst3.vars.low
        clear hst3 hnf hv c1 c2 c3
        go_wp2
        go_ret
        exact ⟨ret_bool (by rw [HFB.out, fitsB_not HV.out]), fun _ => ⟨T3, HV.out⟩, hlow3⟩
    · obtain rfl : g = Bs.length := by omega
      have hf : Fits rm Bs := fits_of HOK.out (fun y hy => by rw [HC.out y, if_pos hy]; omega)
      have HF := hide (fitsB_iff.2 hf)
      clear hf
      go_wp2
      go_ret
      exact ⟨ret_bool (by rw [HFB.out, HF.out]), fun h => (by rw [HFB.out, HF.out] at h; cases h), hlow⟩
#print axioms eachFinds_any
end Go.Proofs.Ytmaiikmgpeafkaa
