/- What an argument of a law is told as: a slice of numbers that came in reads as a list, nil let in. -/
import Derived.Test.YthodmhjlokfcaaaMem
import Derived.Test.YthodmhjlokfcaaaChecked
import Derived.ProofKit
import Derived.OpenShut
import Derived.ShutString
import Derived.ChangeOld
namespace Go.Proofs.Ythodmhjlokfcaaa
open Go.ChangeShapes Go.WideShapes Go.ChangeAt Go.RowKit

theorem own : ownKnob Try.prog.godebug = none := by kernel_rfl
theorem laidOut : laidOutB Try.prog = true := by kernel_rfl

theorem reads_of_ints {w : World} {k : IntKind} {x : Addr} {len cap : Nat} {zs : List Int} (hl : len ≤ cap) (hz : zs.length = cap) (hcell : ∀ i, i < zs.length → w.cell? (x.add i) = some (.int k (zs.getD i 0))) :
    Reads w w.heap.size 1 (some x) len ((zs.take len).map (Value.int k)) := by
  refine ⟨by simp; omega, fun hn => ⟨x, rfl, ?_, fun j u hu => ?_⟩⟩
  · have h := World.block_lt_of_cell? w (x.add 0) (hcell 0 (by omega))
    rwa [block_of_add] at h
  · have hj : j < len := by
      have h := (List.getElem?_eq_some_iff.1 hu).1
      simp only [List.length_map, List.length_take] at h
      omega
    rw [hcell j (by omega), ← hu]
    simp [hj, show j < zs.length by omega, List.getD]

theorem arg_ints {H : Type} {enc : TypeId × Value → H} {W : World} {A : Option Addr} {n c : Nat} {d : DataW H} {p : List MemPlace} (h : DataW.Trod enc Try.prog W 0 (fun _ => true) true 31 (.slice A n c) d p) :
    ∃ l : List Int, Reads W W.heap.size 1 A n (I64 l) ∧ (∀ v ∈ l, -9223372036854775808 ≤ v ∧ v ≤ 9223372036854775807) ∧ n ≤ c ∧ c ≤ 9223372036854775807 := by
  obtain ⟨fuel, hf⟩ := h
  rcases open_ints Try.underlying31 Try.underlying3 (by kernel_rfl) hf with ⟨hcs, _⟩ | ⟨x, l, c', zs, hcs, _, hl, hm, hz, _, hcell, hwz⟩
  · simp [Value.cells] at hcs
    obtain ⟨rfl, rfl, rfl⟩ := hcs
    exact ⟨[], Reads.none_, by simp, Nat.le_refl _, Nat.zero_le _⟩
  · simp [Value.cells] at hcs
    obtain ⟨rfl, rfl, rfl⟩ := hcs
    have hz' : zs.length = c := by simpa using hz
    exact ⟨zs.take n, reads_of_ints hl hz' hcell, fun v hv => bounds_i64 (hwz v (List.mem_of_mem_take hv)), hl, by simpa [maxLen] using hm⟩
end Go.Proofs.Ythodmhjlokfcaaa
