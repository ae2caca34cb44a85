/- What an argument of a law is told as: a slice of unsigned numbers of 64 bits that came in reads as a list, nil let in. -/
import Derived.Test.YtmjdndhpnckeeaaArgI
namespace Go.Proofs.Ytmjdndhpnckeeaa
open Go.ChangeShapes Go.WideShapes Go.ChangeAt Go.RowKit

def U64 (l : List Int) : List Value := l.map (Value.int .u64)
theorem U64_length (l : List Int) : (U64 l).length = l.length := by simp [U64]
theorem arg_u64s {H : Type} {enc : TypeId × Value → H} {W : World} {A : Option Addr} {n c : Nat} {d : DataW H} {p : List MemPlace} (h : DataW.Trod enc Try.prog W 0 (fun _ => true) true 52 (.slice A n c) d p) :
    ∃ l : List Int, Reads W W.heap.size 1 A n (U64 l) ∧ (∀ v ∈ l, 0 ≤ v ∧ v ≤ 18446744073709551615) ∧ n ≤ c ∧ c ≤ 9223372036854775807 := by
  obtain ⟨fuel, hf⟩ := h
  rcases open_ints Try.underlying52 Try.underlying23 (by kernel_rfl) hf with ⟨hcs, _⟩ | ⟨x, l, c', zs, hcs, _, hl, hm, hz, _, hcell, hwz⟩
  · simp [Value.cells] at hcs
    obtain ⟨rfl, rfl, rfl⟩ := hcs
    exact ⟨[], Reads.none_, by simp, Nat.le_refl _, Nat.zero_le _⟩
  · simp [Value.cells] at hcs
    obtain ⟨rfl, rfl, rfl⟩ := hcs
    have hz' : zs.length = c := by simpa using hz
    exact ⟨zs.take n, reads_of_ints hl hz' hcell, fun v hv => bounds_u64 (hwz v (List.mem_of_mem_take hv)), hl, by simpa [maxLen] using hm⟩
#print axioms arg_u64s
end Go.Proofs.Ytmjdndhpnckeeaa
