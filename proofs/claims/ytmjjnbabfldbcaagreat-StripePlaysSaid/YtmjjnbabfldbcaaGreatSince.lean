/- When a sector became loose; the order by that. -/
import Derived.Test.YtmjjnbabfldbcaaGreatBank
import Derived.Test.YtmjjnbabfldbcaaGreatShelf
namespace Go.Proofs.YtmjjnbabfldbcaaGreat
open Go.RowKit

def sinceOf (S : Bank) (L : Lay) (p : Nat × Nat) : Nat := if p ∈ S.order then L.since p.1 p.2 else 0
def placeL (p : Nat × Nat) : List Value := [.int .i64 (p.1 : Int), .int .i64 (p.2 : Int)]
theorem run_field_since (w : World) (C : Array Value) (t : Nat) (h : C[64]? = some (.int .i64 (t : Int))) : (Instr.field 126 (.agg C) 1).run Tryz.prog w = .ok (.int .i64 (t : Int)) w := by
  have hp : Tryz.prog.plainKey 3 = true := by kernel_rfl
  have h2 := run_part_plain (P := Tryz.prog) w hp (xs := C) (off := 64) h
  simp [Instr.field, run_underlying Tryz.underlying126, asAgg, h2]
theorem newL_64 (s : Sec) (t : Nat) : (newL s t).toArray[64]? = some (.int .i64 (t : Int)) := by
  rw [List.getElem?_toArray, newL, List.getElem?_append_right (by rw [secL_length]; exact Nat.le_refl _), secL_length]
  rfl
theorem still_look_some {ops : Array Oper} {w : World} {Q : Act → Prop} {o : Oper} {rest : List Oper} {a : Act} (hgd : o.guard = none) (m x : Operand) (t e : TypeId) (hop : o.op = Op.lookup t m x false) (p : Option Nat) (v : Value)
    (hm : a.eval m = .map p) (k : Nat) (hx : a.eval x = .int .i64 (k : Int)) (hr : (Instr.lookup t (.map p) (.int .i64 (k : Int)) false).run Tryz.prog w = .ok v w) (_ : Tryz.prog.underlying t = some (.map 3 e))
    (h : wpStill Tryz.prog ops w Q rest (a.put o.dst v)) : wpStill Tryz.prog ops w Q (o :: rest) a :=
  still_gives hgd v (by
    unfold execOp
    simp only [hop, hm, hx, Sem.run_bind, hr, Result.andThen_ok, Sem.run_pure]) h
section
variable {w : World} {b : Nat} {L : Lay} {S : Bank}
set_option maxRecDepth 100000 in
theorem since_any (h : BankIn w b L S) (hok : S.Ok) (d k : Nat) (hd : d < S.n) (hk : k < 9223372036854775808) :
    Calls Tryz.prog 100 #[.pointer (some ⟨b, 0, none⟩), .agg (placeL (d, k)).toArray] w fun e w' => e = .returned (.int .i64 (sinceOf S L (d, k) : Int)) ∧ w' = (w.alloc (.cells (placeL (d, k)).toArray 47)).drew := by
  have hbl := h.head.lt
  have hml := h.mlt hd
  have hdw : (d : Int) < (S.n : Int) := by omega
  have c0 := h.c0
  rw [L.ad_pos hd] at c0
  obtain ⟨_, _, _, m3, _⟩ := h.m hd
  obtain ⟨C, t, hC, hr, ht⟩ : ∃ C t, C[64]? = some (.int .i64 ((t : Nat) : Int)) ∧ (∀ o, (Instr.lookup 80 (.map (L.lo d)) (.int .i64 (k : Int)) false).run Tryz.prog (w.alloc o).drew = .ok (.agg C) (w.alloc o).drew) ∧ sinceOf S L (d, k) = t := by
    cases hdead : S.dead d with
    | true =>
      have hlo := (h.gone d hd hdead).2
      refine ⟨_, 0, newL_64 zeroSec 0, fun o => ?_, ?_⟩
      · rw [hlo]
        exact Maps.look_nil false keyed Tryz.underlying80 (newer_zero _) (key_int hk)
      · unfold sinceOf
        rw [if_neg]
        intro hm
        have := (hok.loose _ hm).2.2
        rw [hdead] at this
        cases this
    | false =>
      obtain ⟨l, hlo, hm⟩ := h.loose d hd hdead
      have hm2 : ∀ o, MapIs (w.alloc o).drew l (looseF S L d) := fun o => (hm.alloc o).drew
      by_cases hin : (d, k) ∈ S.order
      · refine ⟨_, L.since d k, newL_64 (S.newest d k) _, fun o => ?_, by unfold sinceOf; rw [if_pos hin]⟩
        rw [hlo]
        exact (hm2 o).look_some Tryz.underlying80 (newer_zero _) (by unfold looseF; rw [if_pos hin]; rfl) false
      · refine ⟨_, 0, newL_64 zeroSec 0, fun o => ?_, by unfold sinceOf; rw [if_neg hin]⟩
        rw [hlo]
        exact (hm2 o).look_none Tryz.underlying80 (newer_zero _) (by unfold looseF; rw [if_neg hin]) hk false
  rw [ht]
  have HC := hide hC
  have HR := hide hr
  clear hC hr ht
  generalize L.lo d = lo at m3 HR
  have c0' : ∀ o, (w.alloc o).cell? ⟨b, 0, none⟩ = some (.slice (some ⟨L.mb, 0, none⟩) S.n L.cap) := fun o => (World.cell?_alloc_lt w o _ hbl).trans c0
  have m3' : ∀ o, (w.alloc o).cell? ⟨L.mb, d * 5 + 3, none⟩ = some (.map lo) := fun o => (World.cell?_alloc_lt w o _ hml).trans m3
  unfold placeL
  go_enter Tryz.func100, Tryz.ntmps100
  go_wp2
  have c01 := c0' (.cells #[.int .i64 (d : Int), .int .i64 (k : Int)] 47)
  have m31 := m3' (.cells #[.int .i64 (d : Int), .int .i64 (k : Int)] 47)
  have r1 := HR.out (.cells #[.int .i64 (d : Int), .int .i64 (k : Int)] 47)
  have hb1 := Blk.new w 47 #[.int .i64 (d : Int), .int .i64 (k : Int)]
  clear c0' m3' HR
  obtain ⟨w1, hw1⟩ : ∃ w1, w1 = w.alloc (.cells #[.int .i64 (d : Int), .int .i64 (k : Int)] 47) := ⟨_, rfl⟩
  rw [← hw1] at c01 m31 r1 hb1 ⊢
  have p0 : w1.drew.cell? ⟨w.heap.size, 0, none⟩ = some (.int .i64 (d : Int)) := hb1.cell 0
  have p1 : w1.drew.cell? ⟨w.heap.size, 1, none⟩ = some (.int .i64 (k : Int)) := hb1.cell 1
  have c02 : w1.drew.cell? ⟨b, 0, none⟩ = some (.slice (some ⟨L.mb, 0, none⟩) S.n L.cap) := c01
  have m32 : w1.drew.cell? ⟨L.mb, d * 5 + 3, none⟩ = some (.map lo) := m31
  have HW := hide hw1
  have HR1 := hide r1
  clear hw1 r1 c01 m31
  refine wp_region_still_tail 14 (by kernel_rfl) (by kernel_rfl) ?_
  change wpStill _ _ w1.drew _ _ _
  simp only [List.take_succ_cons, List.take_zero, List.drop_succ_cons, List.drop_zero]
  iterate 12 still_step
  refine still_look_some rfl (.tmp 14) (.tmp 16) 80 126 rfl lo (.agg C) rfl k rfl HR1.out Tryz.underlying80 ?_
  refine still_gives rfl (.int .i64 (t : Int)) ?_ ?_
  · have hf := run_field_since w1.drew C t HC.out
    unfold execOp
    simp only [Act.put, List.setIfInBounds_toArray, List.set_cons_succ, List.set_cons_zero, Act.eval, Sem.run_bind]
    first | (rw [hf]; rfl) | simp [hf]
  refine wpStill_nil ?_
  simp only [Act.put, List.setIfInBounds_toArray, List.set_cons_succ, List.set_cons_zero]
  change wpList _ _ _ _ _ w1.drew
  go_wp2
  go_ret
  exact ⟨rfl, by rw [HW.out]⟩
end
end Go.Proofs.YtmjjnbabfldbcaaGreat
