/- A move where it is Safe, and none where it is not: without the program. -/
import Derived.Test.YtmaiikmgpeafkaaMoveP
import Derived.Test.YtmaiikmgpeafkaaRehX
namespace Go.Proofs.Ytmaiikmgpeafkaa
open Go.RowKit

/-- Not Safe: no move. -/
theorem move_unsafe {rm : List Int} {L : List GrV} {lost : Int} (h : safeB rm L lost = false) : moveV rm L lost = noMove ∧ 0 < (needyL L lost).length := by
  have hn : needyL L lost ≠ [] := fun e => by rw [safe_nobody e] at h; cases h
  obtain ⟨k, g, hN, hg, hh⟩ := first_has hn
  refine ⟨?_, List.length_pos_iff.2 hn⟩
  rw [moveV_first hN hg hh]
  cases hm : moveD rm g (L.drop (k + 1)) lost with
  | none => rfl
  | some d => rw [moveD_safe hN hg hh hm] at h; cases h
/-- A move, where it is Safe, and what is left behind it. -/
theorem move_safe {rm : List Int} {L : List GrV} {lost : Int} {m : Nat} (h : safeB rm L lost = true) (hn : (needyL L lost).length = m + 1) : ∃ (k d : Nat) (g : GrV), L[k]? = some g ∧ d < rm.length ∧ 1 ≤ roomI rm d ∧ hasB g.ex d = false ∧ hasB g.ex lost = true ∧ moveV rm L lost = .tuple #[.int .i64 (k : Int), .int .i64 (d : Int), .bool true] ∧
    ∀ g' : GrV, g'.ex = g.ex.map (swapX lost d) → safeB (decR rm d) (L.set k g') lost = true ∧ (needyL (L.set k g') lost).length = m := by
  obtain ⟨k, g, hN, hg, hh⟩ := first_has (L := L) (lost := lost) (fun e => by rw [e] at hn; cases hn)
  obtain ⟨d, hd, hm, hf⟩ := safe_moveD hN hg hh h
  obtain ⟨h1, h2, h3⟩ := orderL_mem.1 hm
  refine ⟨k, d, g, hg, h1, by omega, has_not_in h3, hh, by rw [moveV_first hN hg hh, hd], fun g' hg' => ?_⟩
  have hq : hasB g'.ex lost = false := by rw [hg']; exact moved_not (has_none_in hh h3) _
  have e := needy_moved hN hg hq
  refine ⟨?_, ?_⟩
  · unfold safeB
    rw [e, fitsB_iff]
    exact hf
  · rw [e]
    have := needyL_first hN hg hh
    rw [this, List.length_cons] at hn
    omega
#print axioms move_safe
end Go.Proofs.Ytmaiikmgpeafkaa
