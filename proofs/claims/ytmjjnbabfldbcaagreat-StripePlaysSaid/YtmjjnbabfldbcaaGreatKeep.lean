/- What writes on one disk: keep, lose, write, fail; the countdowns. -/
import Derived.Test.YtmjjnbabfldbcaaGreatDisk
import Derived.Test.YtmjjnbabfldbcaaGreatStill
import Derived.StillTailTactics
namespace Go.Proofs.YtmjjnbabfldbcaaGreat
open Go.RowKit

theorem still_build {P : Program} {ops : Array Oper} {w : World} {Q : Act → Prop} {o : Oper} {rest : List Oper} {a : Act} (hgd : o.guard = none) (ty : TypeId) (parts : Array (Nat × Operand)) (ho : o.op = .build ty parts) (vs : List (Nat × Value))
    (hv : (parts.map fun (i, x) => (i, a.eval x)).toList = vs) (cells : Array Value) (hb : P.built ty vs = some cells)
    (h : wpStill P ops w Q rest (a.put o.dst (.agg cells))) : wpStill P ops w Q (o :: rest) a :=
  still_gives hgd (.agg cells) (by
    unfold execOp
    simp only [ho, Sem.run_bind, run_build w ty _ cells (by rw [hv]; exact hb), Result.andThen_ok, Sem.run_pure]) h

def keptF (g : Nat → Option Value) (k : Nat) (s : Sec) : Nat → Option Value := if s = zeroSec then upd g k none else upd g k (some (secV s))
theorem built_zero : Tryz.prog.built 43 [] = some (secL zeroSec).toArray := by kernel_rfl
theorem u8_info : Tryz.prog.info? 5 = some (Tryz.prog.info? 5).get! := by kernel_rfl
theorem secs_eq (s : Sec) : decide (s.1 = zeroSec.1) = decide (s = zeroSec) := by
  by_cases h : s = zeroSec
  · subst h; simp
  · have : ¬ s.1 = zeroSec.1 := fun e => h (Subtype.ext e)
    simp [h, this]
section
variable {w : World} {mb o l x : Nat} {f g : Nat → Option Value}
set_option maxRecDepth 100000 in
theorem keep_any (k : Nat) (s : Sec) (hk : k < 4096) (hm : mb < w.heap.size) (c3 : w.cell? ⟨mb, o + 3, none⟩ = some (.map (some l))) (hl : MapIs w l f)
    (c2 : w.cell? ⟨mb, o + 2, none⟩ = some (.map (some x))) (hx : MapIs w x g) (hs : NewIs f g k s) :
    Calls Tryz.prog 81 #[.pointer (some ⟨mb, o, none⟩), .int .i64 (k : Int)] w fun e w' => e = .returned (.tuple #[]) ∧ MapIs w' x (keptF g k s) ∧ w.grownBy w' (some x) := by
  have hxt := hx.lt
  have hne : x ≠ mb := by
    rintro rfl
    obtain ⟨D, ⟨es, clock, h1, _⟩, _⟩ := hx
    simp [World.cell?, h1] at c2
  have hN := hide (newest_any (o := o) k s (by omega) hm c3 hl c2 hx hs)
  obtain ⟨U, hU⟩ : ∃ U, U = B8 s.1 := ⟨_, rfl⟩
  have hUs : secV s = .agg U.toArray := by rw [hU]; rfl
  have hUl : U.length = 64 := by rw [hU, B8_length, s.2]
  have hUo : ∀ v ∈ U, v.oneCell' = true := by rw [hU]; exact B8_one _
  have hiU : (Tryz.prog.info? 43).map (·.size) = some U.length := by rw [hUl]; exact sec_info
  have hUB : Value.agg U.toArray = .agg (B8 s.1).toArray := by rw [hU]
  rw [hUs] at hN
  have HUl := hide hUl
  have HIU := hide hiU
  have HUO := hide hUo
  have HUB := hide hUB
  have HUS := hide hUs
  have HS := hide hs
  clear hU hUl hiU hUo hUB hUs hs
  by_cases hz : s = zeroSec
  · have hd : decide (s.1 = zeroSec.1) = true := by rw [secs_eq]; simpa using hz
    have HD := hide hd
    have hkf : keptF g k s = upd g k none := by unfold keptF; rw [if_pos hz]
    rw [hkf]
    clear hd hkf hz
    go_enter Tryz.func81, Tryz.ntmps81
    go_wp2_with (first
      | (go_at_call 48; refine hN.out.mono ?_; rintro _ w0 ⟨rfl, hl0⟩)
      | (refine wpList_alloc_blk rfl 43 rfl _ (sec_zero _) ?_; intro w1 hb1 hl1 hs1; clear hs1)
      | (refine wpList_store_all rfl 43 (.tmp 4) (.tmp 7) rfl w0.heap.size 43 _ hb1 rfl U rfl HIU.out (HUl.out.trans (secL_length zeroSec).symm) HUO.out ?_; intro w2 hb2 hg2 hs2; clear hs2; have hB : Below w.heap.size w w2 := ((hl0.trans (hl1.mono hl0.size)).grown hg2 (by have := hl1.size; have := hl0.size; omega) (fun g e => by have := hl0.size; injection e with e; omega)); have c22 := (hB.cell (p := ⟨mb, o + 2, none⟩) hm).trans c2)
      | (refine wpList_load_blk rfl 43 (.tmp 4) rfl w0.heap.size 0 43 _ hb2 rfl U _ (fun j v hj => by rw [Nat.zero_add]; simpa using hj) Tryz.underlying43 rfl HIU.out ?_)
      | (refine wpList_build_is rfl 43 #[] rfl [] rfl _ built_zero ?_)
      | (refine wpList_eql_bytes rfl 43 5 _ (.tmp 8) (.tmp 9) rfl 64 _ Tryz.underlying43 Tryz.underlying5 u8_info (by kernel_rfl) (by kernel_rfl) s.1 zeroSec.1 s.2 zeroSec.2 HUB.out rfl true HD.out ?_)
      | (refine wpList_del rfl (.tmp 14) (.tmp 15) 79 43 rfl Tryz.underlying79 x g rfl (hx.below hB hxt) k (by omega) rfl ?_; intro w3 hm3 hg3))
    exact bodyPost_ret (results_none rfl _ _ _) rfl ⟨rfl, hm3, (grown_of_below hB (some x)).andThen hg3 (fun j e => .inr e)⟩
  · have hd : decide (s.1 = zeroSec.1) = false := by rw [secs_eq]; simpa using hz
    have HD := hide hd
    have hkf : keptF g k s = upd g k (some (.agg U.toArray)) := by unfold keptF; rw [if_neg hz, HUS.out]
    rw [hkf]
    clear hd hkf hz
    go_enter Tryz.func81, Tryz.ntmps81
    go_wp2_with (first
      | (go_at_call 48; refine hN.out.mono ?_; rintro _ w0 ⟨rfl, hl0⟩)
      | (refine wpList_alloc_blk rfl 43 rfl _ (sec_zero _) ?_; intro w1 hb1 hl1 hs1; clear hs1)
      | (refine wpList_store_all rfl 43 (.tmp 4) (.tmp 7) rfl w0.heap.size 43 _ hb1 rfl U rfl HIU.out (HUl.out.trans (secL_length zeroSec).symm) HUO.out ?_; intro w2 hb2 hg2 hs2; clear hs2; have hB : Below w.heap.size w w2 := ((hl0.trans (hl1.mono hl0.size)).grown hg2 (by have := hl1.size; have := hl0.size; omega) (fun g e => by have := hl0.size; injection e with e; omega)); have c22 := (hB.cell (p := ⟨mb, o + 2, none⟩) hm).trans c2)
      | (refine wpList_load_blk rfl 43 (.tmp 4) rfl w0.heap.size 0 43 _ hb2 rfl U _ (fun j v hj => by rw [Nat.zero_add]; simpa using hj) Tryz.underlying43 rfl HIU.out ?_)
      | (refine wpList_build_is rfl 43 #[] rfl [] rfl _ built_zero ?_)
      | (refine wpList_eql_bytes rfl 43 5 _ (.tmp 8) (.tmp 9) rfl 64 _ Tryz.underlying43 Tryz.underlying5 u8_info (by kernel_rfl) (by kernel_rfl) s.1 zeroSec.1 s.2 zeroSec.2 HUB.out rfl false HD.out ?_))
    have c2d : w2.drew.cell? ⟨mb, o + 2, none⟩ = some (.map (some x)) := c22
    refine wp_region_still_tail 6 (by kernel_rfl) (by kernel_rfl) ?_
    change wpStill _ _ w2.drew _ _ _
    simp only [Act.put, List.setIfInBounds_toArray, List.set_cons_succ, List.set_cons_zero, List.take_succ_cons, List.take_zero, List.drop_succ_cons, List.drop_zero]
    iterate 5 still_step
    refine still_load_at rfl 43 (.tmp 4) rfl ⟨w0.heap.size, 0, none⟩ rfl U _ (fun j v hj => ?_) Tryz.underlying43 rfl HIU.out ?_
    · have hadd : (⟨w0.heap.size, 0, none⟩ : Addr).add j = ⟨w0.heap.size, j, none⟩ := by unfold Addr.add; split <;> simp_all
      rw [hadd, hb2.drew.cell j]
      simpa using hj
    refine wpStill_nil ?_
    simp only [Act.put, List.setIfInBounds_toArray, List.set_cons_succ, List.set_cons_zero]
    change wpList _ _ _ _ _ w2.drew
    refine wpList_put rfl (.tmp 19) (.tmp 20) (.tmp 21) 79 43 rfl Tryz.underlying79 x g rfl ((hx.below hB hxt).drew) k hk (.agg U.toArray) rfl rfl ?_
    intro w3 hm3 hg3
    go_wp2
    exact bodyPost_end (results_none rfl _ _ _) rfl ⟨rfl, hm3, (grown_of_below hB.drew (some x)).andThen hg3 (fun j e => .inr e)⟩
theorem lose_any (c3 : w.cell? ⟨mb, o + 3, none⟩ = some (.map (some l))) (hl : MapIs w l f) :
    Calls Tryz.prog 82 #[.pointer (some ⟨mb, o, none⟩)] w fun e w' => e = .returned (.tuple #[]) ∧ MapIs w' l (fun _ => none) ∧ w.grownBy w' (some l) := by
  go_enter Tryz.func82, Tryz.ntmps82
  go_wp2_with (first | (refine wpList_clear rfl (.tmp 5) 80 126 rfl Tryz.underlying80 l f rfl hl ?_; intro w3 hm3 hg3))
  exact bodyPost_end (results_none rfl _ _ _) rfl ⟨rfl, hm3, hg3⟩
theorem lose_nil (c3 : w.cell? ⟨mb, o + 3, none⟩ = some (.map none)) :
    Calls Tryz.prog 82 #[.pointer (some ⟨mb, o, none⟩)] w fun e w' => e = .returned (.tuple #[]) ∧ w = w' := by
  have hr : ∀ ty, (Builtin.clear_ #[80] ty #[.map none]).run Tryz.prog w = .ok (.tuple #[]) w := by
    intro ty
    simp [Builtin.clear_, run_underlying Tryz.underlying80, Result.andThen]
  go_enter Tryz.func82, Tryz.ntmps82
  go_wp2
  go_end0
  exact ⟨rfl, rfl⟩
theorem fail_any (b1 : Bool) (m2 m3 : Option Nat) (c1 : w.cell? ⟨mb, o + 1, none⟩ = some (.bool b1)) (c2 : w.cell? ⟨mb, o + 2, none⟩ = some (.map m2)) (c3 : w.cell? ⟨mb, o + 3, none⟩ = some (.map m3))
    (hf : ∀ j, w.frozen? ⟨mb, j, none⟩ = false) :
    Calls Tryz.prog 61 #[.pointer (some ⟨mb, o, none⟩)] w fun e w' => e = .returned (.tuple #[]) ∧ w' = ((w.setCell ⟨mb, o + 1, none⟩ (.bool true)).setCell ⟨mb, o + 2, none⟩ (.map none)).setCell ⟨mb, o + 3, none⟩ (.map none) := by
  go_enter Tryz.func61, Tryz.ntmps61
  go_wp2
  go_end0
  exact ⟨rfl, rfl⟩
theorem tick_no (c : w.cell? ⟨mb, o, none⟩ = some (.int .i64 0)) :
    Calls Tryz.prog 96 #[.pointer (some ⟨mb, o, none⟩)] w fun e w' => e = .returned (.bool false) ∧ w = w' := by
  go_enter Tryz.func96, Tryz.ntmps96
  go_wp2
  go_ret
  exact ⟨rfl, rfl⟩
theorem tick_yes (n : Nat) (hn : 0 < n) (hn63 : n < 9223372036854775808) (c : w.cell? ⟨mb, o, none⟩ = some (.int .i64 (n : Int))) (hf : w.frozen? ⟨mb, o, none⟩ = false) :
    Calls Tryz.prog 96 #[.pointer (some ⟨mb, o, none⟩)] w fun e w' => e = .returned (.bool (decide (n = 1))) ∧ w' = w.setCell ⟨mb, o, none⟩ (.int .i64 ((n - 1 : Nat) : Int)) := by
  have h0 : ¬ ((n : Int) = 0) := by omega
  have h1 : IntKind.i64.wrap ((n : Int) - 1) = ((n - 1 : Nat) : Int) := by rw [show (n : Int) - 1 = ((n - 1 : Nat) : Int) by omega]; rw [IntKind.wrap_i64]; omega
  have h2 : decide (((n - 1 : Nat) : Int) = 0) = decide (n = 1) := by
    by_cases e : n = 1
    · subst e; rfl
    · have h3 : ¬ (((n - 1 : Nat) : Int) = 0) := by omega
      rw [decide_eq_false h3, decide_eq_false e]
  go_enter Tryz.func96, Tryz.ntmps96
  go_wp2
  go_ret
  exact ⟨ret_bool (by rw [← h2]; exact (Bool.eq_iff_iff.2 (by rw [beq_iff_eq, decide_eq_true_iff]))), rfl⟩
theorem after_any (n : Int) (m : Nat) (hm : (m : Int) = if 0 < n then n else 0) :
    Calls Tryz.prog 79 #[.int .i64 n] w fun e w' => e = .returned (.int .i64 (m : Int)) ∧ w = w' := by
  by_cases hn : 0 < n
  · have hm2 : n = (m : Int) := by rw [hm, if_pos hn]
    subst hm2
    have h1 : ¬ (m : Int) < 0 := by omega
    have h2 : ¬ (m : Int) ≤ 0 := by omega
    clear hm
    go_enter Tryz.func79, Tryz.ntmps79
    go_wp2
    go_ret
    exact ⟨rfl, rfl⟩
  · have hm2 : m = 0 := by rw [if_neg hn] at hm; omega
    subst hm2
    clear hm
    by_cases h0 : n = 0
    · subst h0
      go_enter Tryz.func79, Tryz.ntmps79
      go_wp2
      go_ret
      exact ⟨rfl, rfl⟩
    · have h1 : n < 0 := by omega
      go_enter Tryz.func79, Tryz.ntmps79
      go_wp2
      go_ret
      exact ⟨rfl, rfl⟩
end
end Go.Proofs.YtmjjnbabfldbcaaGreat
