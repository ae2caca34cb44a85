/- Arguments of stage 4's laws: slices of sectors and of labels, nil let in, each by its place. -/
import Derived.Test.YtbbfgcekjelmkaaArgL
namespace Go.Proofs.Ytbbfgcekjelmkaa
open Go.ChangeShapes Go.WideShapes Go.ChangeAt Go.RowKit
/-- The sectors of a slice, by their places. -/
def SecsIn (w : World) (B : Nat) (A : Option Addr) (n : Nat) (f : Nat → Sec) : Prop := 0 < n → ∃ ad, A = some ad ∧ ad.block < B ∧ ∀ i, i < n → ∀ (j : Nat) (v : Value), (secL (f i))[j]? = some v → w.cell? ((ad.add (i * 64)).add j) = some v
abbrev LabV := Lab × Option Addr × Nat × Nat
/-- The labels of a slice. -/
def LabsIn (w : World) (B : Nat) (A : Option Addr) (n c : Nat) (f : Nat → LabV) : Prop := n ≤ c ∧ c ≤ 9223372036854775807 ∧ (0 < n → ∃ ad, A = some ad ∧ ad.block < B ∧ ∀ i, i < n → (∀ (j : Nat) (v : Value), (labC (f i).1 (f i).2.1 (f i).2.2.1 (f i).2.2.2)[j]? = some v → w.cell? ((ad.add (i * 5)).add j) = some v) ∧ MbIn w B (f i).2.1 (f i).2.2.1 (f i).2.2.2 (f i).1.members)
theorem SecsIn.below {w w' : World} {B n : Nat} {A : Option Addr} {f : Nat → Sec} (h : SecsIn w B A n f) (hb : Below B w w') : SecsIn w' B A n f := fun hn => by
  obtain ⟨ad, e, hlt, hc⟩ := h hn
  refine ⟨ad, e, hlt, fun i hi j v hv => ?_⟩
  have hbl : ((ad.add (i * 64)).add j).block = ad.block := by rw [block_of_add, block_of_add]
  exact (hb.cell (p := (ad.add (i * 64)).add j) (by rw [hbl]; exact hlt)).trans (hc i hi j v hv)
theorem LabsIn.below {w w' : World} {B n c : Nat} {A : Option Addr} {f : Nat → LabV} (h : LabsIn w B A n c f) (hb : Below B w w') : LabsIn w' B A n c f := by
  refine ⟨h.1, h.2.1, fun hn => ?_⟩
  obtain ⟨ad, e, hlt, hc⟩ := h.2.2 hn
  refine ⟨ad, e, hlt, fun i hi => ⟨fun j v hv => ?_, (hc i hi).2.below hb⟩⟩
  have hbl : ((ad.add (i * 5)).add j).block = ad.block := by rw [block_of_add, block_of_add]
  exact (hb.cell (p := (ad.add (i * 5)).add j) (by rw [hbl]; exact hlt)).trans ((hc i hi).1 j v hv)
theorem SecsIn.nil {w : World} {B : Nat} {f : Nat → Sec} : SecsIn w B none 0 f := fun h => absurd h (Nat.lt_irrefl 0)
theorem LabsIn.nil {w : World} {B : Nat} {f : Nat → LabV} : LabsIn w B none 0 0 f := ⟨Nat.le_refl _, Nat.zero_le _, fun h => absurd h (Nat.lt_irrefl 0)⟩
section
variable {H : Type} {enc : TypeId × Value → H} {W : World} {d : DataW H} {p : List MemPlace}
theorem arg_secs {A : Option Addr} {n c : Nat} (h : DataW.Trod enc Try.prog W 0 (fun _ => true) true 38 (.slice A n c) d p) : ∃ f : Nat → Sec, SecsIn W W.heap.size A n f ∧ n ≤ c ∧ c ≤ 9223372036854775807 := by
  obtain ⟨fuel, hf⟩ := h
  rcases Go.Deep.open_slice Try.underlying38 hf with ⟨hcs, _⟩ | ⟨x, len, cap, m, n', D, Pl, hcs, _, hl, hm, hmm, _, hi⟩
  · simp [Value.cells] at hcs
    obtain ⟨rfl, rfl, rfl⟩ := hcs
    exact ⟨fun _ => zeroSec, SecsIn.nil, Nat.le_refl _, Nat.zero_le _⟩
  · simp [Value.cells] at hcs
    obtain ⟨rfl, rfl, rfl⟩ := hcs
    have hmc : m = c := by simpa using hmm
    subst hmc
    have hall : ∀ i, ∃ s : Sec, i < m → ∀ (j : Nat) (v : Value), (secL s)[j]? = some v → W.cell? ((x.add (i * 64)).add j) = some v := by
      intro i
      by_cases him : i < m
      · obtain ⟨cs', hc1, hc2⟩ := hi i him
        rw [sec_cellsOf] at hc1
        obtain ⟨s, rfl⟩ := sec_read hc2
        obtain ⟨_, hlen, hat⟩ := World.cells?_some hc1
        refine ⟨s, fun _ j v hv => ?_⟩
        have hj : j < 64 := by
          have := (List.getElem?_eq_some_iff.1 hv).1
          rw [secL_length] at this
          exact this
        rw [hat j hj, hv]
      · exact ⟨zeroSec, fun h => absurd h him⟩
    refine ⟨fun i => Classical.choose (hall i), fun hn => ⟨x, rfl, ?_, fun i hi2 => Classical.choose_spec (hall i) (by omega)⟩, hl, by simpa [maxLen] using hm⟩
    obtain ⟨s, hs⟩ := hall 0
    have h0 : (secL s)[0]? = some ((secL s)[0]'(by rw [secL_length]; decide)) := List.getElem?_eq_getElem _
    have h := World.block_lt_of_cell? W _ (hs (by omega) 0 _ h0)
    rwa [block_of_add, block_of_add] at h
theorem arg_labels {A : Option Addr} {n c : Nat} (h : DataW.Trod enc Try.prog W 0 (fun _ => true) true 37 (.slice A n c) d p) : ∃ f : Nat → LabV, LabsIn W W.heap.size A n c f := by
  obtain ⟨fuel, hf⟩ := h
  rcases Go.Deep.open_slice Try.underlying37 hf with ⟨hcs, _⟩ | ⟨x, len, cap, m, n', D, Pl, hcs, _, hl, hm, hmm, _, hi⟩
  · simp [Value.cells] at hcs
    obtain ⟨rfl, rfl, rfl⟩ := hcs
    exact ⟨fun _ => (Lab.none_, none, 0, 0), LabsIn.nil⟩
  · simp [Value.cells] at hcs
    obtain ⟨rfl, rfl, rfl⟩ := hcs
    have hmc : m = c := by simpa using hmm
    subst hmc
    have hall : ∀ i, ∃ s : LabV, i < m → (∀ (j : Nat) (v : Value), (labC s.1 s.2.1 s.2.2.1 s.2.2.2)[j]? = some v → W.cell? ((x.add (i * 5)).add j) = some v) ∧ MbIn W W.heap.size s.2.1 s.2.2.1 s.2.2.2 s.1.members := by
      intro i
      by_cases him : i < m
      · obtain ⟨cs', hc1, hc2⟩ := hi i him
        rw [lab_cellsOf] at hc1
        obtain ⟨l, A1, n1, c1, rfl, hm1⟩ := lab_read hc2
        obtain ⟨_, hlen, hat⟩ := World.cells?_some hc1
        refine ⟨(l, A1, n1, c1), fun _ => ⟨fun j v hv => ?_, hm1⟩⟩
        have hj : j < 5 := (List.getElem?_eq_some_iff.1 hv).1
        rw [hat j hj, hv]
      · exact ⟨(Lab.none_, none, 0, 0), fun h => absurd h him⟩
    refine ⟨fun i => Classical.choose (hall i), hl, by simpa [maxLen] using hm, fun hn => ⟨x, rfl, ?_, fun i hi2 => Classical.choose_spec (hall i) (by omega)⟩⟩
    obtain ⟨s, hs⟩ := hall 0
    have h := World.block_lt_of_cell? W _ ((hs (by omega)).1 0 (.int .i64 s.1.array) rfl)
    rwa [block_of_add, block_of_add] at h
end
#print axioms arg_labels
end Go.Proofs.Ytbbfgcekjelmkaa
