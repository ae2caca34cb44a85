/- What an argument of a law is told as: a slice of bytes that came in reads as a list, nil let in. -/
import Derived.Test.YtmjdndhpnckeeaaArgI
namespace Go.Proofs.Ytmjdndhpnckeeaa
open Go.ChangeShapes Go.WideShapes Go.ChangeAt Go.RowKit

theorem arg_bytes {H : Type} {enc : TypeId × Value → H} {W : World} {A : Option Addr} {n c : Nat} {d : DataW H} {p : List MemPlace} (h : DataW.Trod enc Try.prog W 0 (fun _ => true) true 32 (.slice A n c) d p) :
    ∃ l : List UInt8, Reads W W.heap.size 1 A n (B8 l) ∧ n ≤ c ∧ c ≤ 9223372036854775807 := by
  obtain ⟨fuel, hf⟩ := h
  rcases open_ints Try.underlying32 Try.underlying5 (by kernel_rfl) hf with ⟨hcs, _⟩ | ⟨x, l, c', zs, hcs, _, hl, hm, hz, _, hcell, hwz⟩
  · simp [Value.cells] at hcs
    obtain ⟨rfl, rfl, rfl⟩ := hcs
    exact ⟨[], Reads.none_, Nat.le_refl _, Nat.zero_le _⟩
  · simp [Value.cells] at hcs
    obtain ⟨rfl, rfl, rfl⟩ := hcs
    have hz' : zs.length = c := by simpa using hz
    obtain ⟨bs, _, hbs⟩ := bytes_of (zs.take n) (fun z hzm => bounds_u8 (hwz z (List.mem_of_mem_take hzm)))
    refine ⟨bs, ?_, hl, by simpa [maxLen] using hm⟩
    rw [← hbs]
    exact reads_of_ints hl hz' hcell

end Go.Proofs.Ytmjdndhpnckeeaa
