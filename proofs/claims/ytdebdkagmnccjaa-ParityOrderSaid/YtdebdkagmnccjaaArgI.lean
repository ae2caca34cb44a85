/- What an argument of a law is told as: a slice of numbers that came in reads as a list, nil let in. -/
import Derived.Test.YtdebdkagmnccjaaMem
import Derived.Test.YtdebdkagmnccjaaChecked
import Derived.ProofKit
import Derived.OpenShut
import Derived.ShutString
import Derived.ChangeOld
namespace Go.Proofs.Ytdebdkagmnccjaa
open Go.ChangeShapes Go.WideShapes Go.ChangeAt Go.RowKit

theorem own : ownKnob Try.prog.godebug = none := by kernel_rfl
theorem laidOut : laidOutB Try.prog = true := by kernel_rfl

theorem reads_of_ints {w : World} {k : IntKind} {x : Addr} {len cap : Nat} {zs : List Int} (hl : len ≤ cap) (hz : zs.length = cap) (hcell : ∀ i, i < zs.length → w.cell? (x.add i) = some (.int k (zs.getD i 0))) :
    Reads w w.heap.size 1 (some x) len ((zs.take len).map (Value.int k)) := by
  refine ⟨by simp; omega, fun hn => ⟨x, rfl, ?_, fun j u hu => ?_⟩⟩
  · have h := World.block_lt_of_cell? w (x.add 0) (hcell 0 (by omega))
    rwa [block_of_add] at h
  · have hj : j < len := by
      have h := (List.getElem?_eq_some_iff.1 hu).1
      simp only [List.length_map, List.length_take] at h
      omega
    rw [hcell j (by omega), ← hu]
    simp [hj, show j < zs.length by omega, List.getD]

end Go.Proofs.Ytdebdkagmnccjaa
