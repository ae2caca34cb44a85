/- Words that several laws of record share: masks, a row of sectors in a block, one sector of it changed. -/
import Derived.Test.YtdchdmbkojnmcaaRecH
namespace Go.Proofs.Ytdchdmbkojnmcaa
open Go.RowKit

theorem mask32 (v : Int) : bits .and .i64 v 4294967295 = v % 4294967296 := i64_mask v 32 (by omega)
theorem mask8 (v : Int) : bits .and .i64 v 255 = v % 256 := i64_mask v 8 (by omega)
theorem num_mod (v : Int) : numB (v % 4294967296) = true := by simp [numB]; omega
/-- A row of sectors that lies in a block of its own. -/
theorem blk_secs {w : World} {g n : Nat} {T : TypeId} {bs : List UInt8} (h : Blk w g T (B8 bs).toArray) (hl : bs.length = n * 64) : Reads w w.heap.size 64 (some ⟨g, 0, none⟩) n (B8 bs) :=
  ⟨by rw [B8_length, hl], fun _ => ⟨_, rfl, h.lt, fun j u hu => blk_at h j u hu⟩⟩
def putSec (L : List UInt8) (r : Nat) (s : List UInt8) : List UInt8 := L.take (r * 64) ++ s ++ L.drop (r * 64 + 64)
theorem putSec_length {L s : List UInt8} {r n : Nat} (hL : L.length = n * 64) (hs : s.length = 64) (hr : r < n) : (putSec L r s).length = n * 64 := by
  rw [putSec, List.length_append, List.length_append, List.length_take, List.length_drop, hs]
  omega
theorem putSec_at {L s : List UInt8} {r n : Nat} (hL : L.length = n * 64) (hs : s.length = 64) (hr : r < n) : secAt (putSec L r s) r = s := by
  rw [secAt, putSec, List.append_assoc, drop_app _ _ (by rw [List.length_take]; omega), take_app _ _ hs]
theorem putSec_ne {L s : List UInt8} {r n i : Nat} (hL : L.length = n * 64) (hs : s.length = 64) (hr : r < n) (hne : i ≠ r) : secAt (putSec L r s) i = secAt L i := by
  rw [secAt, secAt, putSec]
  rcases Nat.lt_or_ge i r with h | h
  · rw [List.append_assoc, List.drop_append_of_le_length (by rw [List.length_take]; omega), List.take_append_of_le_length (by rw [List.length_drop, List.length_take]; omega), List.drop_take, List.take_take]
    congr 1
    omega
  · have hl : (L.take (r * 64) ++ s).length = r * 64 + 64 := by rw [List.length_append, List.length_take, hs]; omega
    rw [show i * 64 = (r * 64 + 64) + (i * 64 - (r * 64 + 64)) by omega, ← List.drop_drop, drop_app _ _ hl, List.drop_drop]
theorem B8_putSec (L s : List UInt8) (r : Nat) : (B8 L).take (r * 64) ++ B8 s ++ (B8 L).drop (r * 64 + 64) = B8 (putSec L r s) := by
  rw [B8_take, B8_drop, ← B8_append, ← B8_append]
  rfl
/-- A sector's cells within a row of sectors. -/
theorem sec_in {bs : List UInt8} {k : Nat} (j : Nat) (v : Value) (h : (B8 (secAt bs k))[j]? = some v) : (B8 bs).toArray[k * 64 + j]? = some v := by
  rw [List.getElem?_toArray]
  rw [secAt, ← B8_take, ← B8_drop, List.getElem?_take] at h
  split at h
  · rw [List.getElem?_drop] at h
    exact h
  · cases h
theorem ok_other {gen nr other next : Int} {b : List UInt8} {n i j : Nat} (hg : numB gen = true) (hn : numB nr = true) (hi : i < partsN b.length) (hne : ¬ (gen = other ∧ nr = next)) : okT other next n j (pieceS gen nr b i) = false :=
  ok_no (piece_read hg hn hi) (fun h => hne ⟨h.1, h.2.1⟩)
theorem ok_place {gen nr : Int} {b : List UInt8} {n i j : Nat} (hg : numB gen = true) (hn : numB nr = true) (hi : i < partsN b.length) (hne : i ≠ j) : okT gen nr n j (pieceS gen nr b i) = false :=
  ok_no (piece_read hg hn hi) (fun h => hne (by have := h.2.2.1; simp only [pieceT] at this; omega))
theorem ok_count {gen nr : Int} {b : List UInt8} {n i j : Nat} (hg : numB gen = true) (hn : numB nr = true) (hi : i < partsN b.length) (hne : partsN b.length ≠ n) : okT gen nr n j (pieceS gen nr b i) = false :=
  ok_no (piece_read hg hn hi) (fun h => hne (by have := h.2.2.2; simp only [pieceT] at this; omega))
end Go.Proofs.Ytdchdmbkojnmcaa
