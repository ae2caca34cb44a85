/- What New, Count and Clone of bits do. -/
import Derived.Test.YtmaiikmgpeafkabDoorPop
import Derived.Laws.Build
import Derived.Laws.Tables
import Derived.Outline
namespace Go.Proofs.YtmaiikmgpeafkabDoor
open Go.RowKit

section
variable {b n : Nat} {t : Nat → Bool} {w : World}
theorem count_any (hm : MapAt w b n t) :
    Calls Tryd.prog 45 #[.pointer (some ⟨b, 0, none⟩)] w fun e w' => e = .returned (.int .i64 (cnt t n)) ∧ w = w' := by
  have hn := hm.le
  have h0 := hm.cell0
  go_enter Tryd.func45, Tryd.ntmps45
  go_wp2_with fail
  refine (pieces64 n (by omega)).mono ?_
  rintro e w1 ⟨rfl, rfl⟩
  obtain ⟨m, hmm⟩ : ∃ m, m = (n + 63) / 64 := ⟨_, rfl⟩
  rw [← hmm]
  have hm1 : m ≤ 1024 := by omega
  have HM := hide hmm
  clear hmm
  go_wp2_with fail
  go_loop [3, 10] (fun s a => ∃ k v : Nat, k ≤ m ∧ v ≤ 64 * k ∧ a = .int .i64 (k : Int) ∧ s = .int .i64 (v : Int) ∧ Hid (v = cnt t (64 * k))) (fun _ a => m - (intOf a).toNat)
  case atStart => exact ⟨0, 0, by omega, by omega, rfl, rfl, hide rfl⟩
  case round =>
    obtain ⟨k, v, hk, hv, rfl, rfl, HR⟩ := hrel
    by_cases hlt : k < m
    · have hc := hm.cellw (j := k) (by omega)
      have hl := wd_lt t k
      have hpop : pop 64 (wd t k) = cnt (fun i => t (64 * k + i)) 64 := pop_word 64 _
      have hle := cnt_le (fun i => t (64 * k + i)) 64
      obtain ⟨u, hu⟩ : ∃ u, u = cnt (fun i => t (64 * k + i)) 64 := ⟨_, rfl⟩
      rw [← hu] at hpop hle
      have HU : Hid (v + u = cnt t (64 * (k + 1))) := by
        show v + u = _
        rw [Nat.mul_add, Nat.mul_one, cnt_add, ← HR.out, hu]
      have HP := hide hpop
      clear hu hpop
      obtain ⟨x, hx⟩ : ∃ x, x = wd t k := ⟨_, rfl⟩
      rw [← hx] at hc hl HP
      clear hx
      go_wp2_with fail
      refine (ones_any x hl w).mono ?_
      rintro e w1 ⟨rfl, rfl⟩
      rw [HP.out]
      go_wp2_with fail
      go_round
      case rel => exact ⟨k + 1, v + u, by omega, by omega, by go_num, by go_num, HU⟩
      case measure => simp [intOf]; omega
    · have HV : Hid (v = cnt t n) := by
        show v = _
        have e1 : 64 * k = n + (64 * k - n) := by have := HM.out; omega
        rw [HR.out, e1, cnt_add, cnt_zero (f := fun k => t (n + k)) (fun i _ => hm.out _ (Nat.le_add_right _ _)), Nat.add_zero]
      go_wp2_with fail
      go_ret
      exact ⟨by rw [HV.out]; rfl, rfl⟩
end
/-- As many places as a map may have. -/
def clamp (n : Int) : Nat := min n.toNat 65536
def cells0 (n : Int) : Array Value := (Value.int .i64 n :: List.replicate 1024 (Value.int .u64 0)).toArray
theorem built_new (n : Int) : Tryd.prog.built 63 [(0, .int .i64 n)] = some (cells0 n) := by kernel_rfl
theorem cells0_is (n : Nat) : cells0 (n : Int) = mapCells n (fun _ => false) := by
  refine congrArg List.toArray (congrArg (List.cons (Value.int .i64 (n : Int))) ?_)
  have e : ∀ i, wd (fun _ => false) i = 0 := fun i => word_zero (fun _ _ => rfl)
  simp only [e]
  rw [List.map_const', List.length_range]
  rfl
section
variable {P : Program}
theorem wpList_build_one {ops : Array Oper} {rest : List Oper} {o : Oper} {a : Act} {w : World} {Q : Exit → Act → World → Prop} (hg : o.guard = none) (t : TypeId) (k : Nat) (x : Operand) (ho : o.op = .build t #[(k, x)])
    (v : Value) (hx : a.eval x = v) (cells : Array Value) (hf : P.built t [(k, v)] = some cells)
    (h : wpList P ops Q rest (a.put o.dst (.agg cells)) w) : wpList P ops Q (o :: rest) a w := by
  have hf' : P.built t ((#[(k, x)] : Array (Nat × Operand)).map fun (i, x) => (i, a.eval x)).toList = some cells := by
    simp only [List.map_toArray, List.map_cons, List.map_nil, hx, hf]
  exact wpList_build hg t #[(k, x)] ho (by rw [hf']; rfl) (by rw [hf']; exact h)
end
section
variable {w : World}
set_option maxRecDepth 100000 in
theorem new_core (ni : Int) (n : Nat) (hn : clamp ni = n) :
    Calls Tryd.prog 31 #[.int .i64 ni] w fun e w' => e = .returned (.pointer (some ⟨w.heap.size, 0, none⟩)) ∧ MapAt w' w.heap.size n (fun _ => false) ∧ Below w.heap.size w w' := by
  have hb := built_new (n : Int)
  rw [cells0_is] at hb
  have fin : MapAt (w.alloc (.cells (mapCells n fun _ => false) 63)) w.heap.size n (fun _ => false) := ⟨by unfold clamp at hn; omega, fun _ _ => rfl, Blk.new _ _ _⟩
  obtain ⟨C, hC⟩ : ∃ C, C = mapCells n (fun _ => false) := ⟨_, rfl⟩
  rw [← hC] at hb fin
  clear hC
  have FIN := hide fin
  have HB := hide hb
  clear fin hb
  unfold clamp at hn
  rcases Int.lt_or_le ni 0 with h | h
  · have h0 : n = 0 := by omega
    subst h0
    have HB0 : Hid (Tryd.prog.built 63 [(0, .int .i64 0)] = some C) := HB
    have hd : decide ((0 : Int) ≤ ni) = false := by simp; omega
    clear hn
    go_enter Tryd.func31, Tryd.ntmps31
    go_wp2_with (first | (refine wpList_build_one rfl 63 0 (.tmp 5) rfl _ rfl C HB0.out ?_))
    go_ret
    exact ⟨rfl, FIN.out, (Below.refl _ _).alloc (Nat.le_refl _) _⟩
  by_cases h2 : ni ≤ 65536
  · obtain ⟨k, rfl⟩ := Int.eq_ofNat_of_zero_le h
    have h0 : n = k := by omega
    subst h0
    have HB0 : Hid (Tryd.prog.built 63 [(0, .int .i64 (n : Int))] = some C) := HB
    clear hn
    go_enter Tryd.func31, Tryd.ntmps31
    go_wp2_with (first | (refine wpList_build_one rfl 63 0 (.tmp 5) rfl _ rfl C HB0.out ?_))
    go_ret
    exact ⟨rfl, FIN.out, (Below.refl _ _).alloc (Nat.le_refl _) _⟩
  · have h0 : n = 65536 := by omega
    subst h0
    have HB0 : Hid (Tryd.prog.built 63 [(0, .int .i64 65536)] = some C) := HB
    have hd : decide ((0 : Int) ≤ ni) = true := by simpa using h
    have hd2 : decide (ni ≤ (65536 : Int)) = false := by simpa using h2
    clear hn
    go_enter Tryd.func31, Tryd.ntmps31
    go_wp2_with (first | (refine wpList_build_one rfl 63 0 (.tmp 5) rfl _ rfl C HB0.out ?_))
    go_ret
    exact ⟨rfl, FIN.out, (Below.refl _ _).alloc (Nat.le_refl _) _⟩
theorem new_any (ni : Int) (w : World) :
    Calls Tryd.prog 31 #[.int .i64 ni] w fun e w' => e = .returned (.pointer (some ⟨w.heap.size, 0, none⟩)) ∧ MapAt w' w.heap.size (clamp ni) (fun _ => false) ∧ Below w.heap.size w w' := new_core ni _ rfl
end
end Go.Proofs.YtmaiikmgpeafkabDoor
