/- What pack's Bytes does: all bytes of some sectors, in order. -/
import Derived.Test.YtkjbjhciafnbeaaSameSec
namespace Go.Proofs.Ytkjbjhciafnbeaa
open Go.RowKit

set_option maxRecDepth 100000 in
set_option maxHeartbeats 2000000 in
theorem bytes_any (A : Option Addr) (n c : Nat) (bs : List UInt8) (w : World) (hr : Reads w w.heap.size 64 A n (B8 bs)) (hn : n ≤ 1099511627) :
    Calls Try.prog 20 #[.slice A n c] w (Made w.heap.size 5 1 (B8 bs) w) := by
  have hlb : bs.length = n * 64 := by have := hr.1; rwa [B8_length] at this
  obtain ⟨i0, hi0, hz0, hz1, hz2⟩ := info_parts u8_info
  have hmk1 : i0.bytes * (n * 64) ≤ 281474976710656 := by rw [hz2]; omega
  have hmk2 : n * 64 ≤ maxLen := by simp only [maxLen]; omega
  have LB := hide hlb
  clear hlb
  go_enter Try.func20, Try.ntmps20
  go_wp2_with (at_make; refine wpList_make_own _ rfl _ (.tmp 8) 22 rfl w.heap.size 5 i0 _ 1 Try.underlying22 hi0 hz0 hz1 .i64 .i64 _ (n * 64) rfl rfl (by omega) hmk1 hmk2 (Nat.le_refl _) ?_; intro w1 hown1 hgr1)
  have hb1 : Below w.heap.size w w1 := (Below.refl _ _).grown hgr1 (Nat.le_refl _) (fun k hk => by cases hk)
  go_loopw [3, 12] (fun v i wr => ∃ k : Nat, k ≤ n ∧ i = .int .i64 k ∧ wr.ownsRow w.heap.size 5 1 v (k * 64) (B8 (bs.take (k * 64))) ∧ Below w.heap.size w wr) (fun _ i _ => n - (intOf i).toNat)
  case atStart => exact ⟨0, Nat.zero_le _, rfl, by simpa [B8_nil] using hown1, hb1⟩
  case round =>
    obtain ⟨k, hk, rfl, hown, hbel⟩ := hrel
    by_cases hkn : k < n
    · obtain ⟨ad, rfl, hab, hca⟩ := hr.sec_at hkn
      have hsa := secAt_length LB.out hkn
      have HX := hide (take_secAt bs k)
      obtain ⟨X, hX⟩ : ∃ X, X = secAt bs k := ⟨_, rfl⟩
      rw [← hX] at hca hsa HX
      have hcw : ∀ j v, (B8 X)[j]? = some v → wr.cell? ((ad.add (k * 64)).add j) = some v := fun j v hv => (hbel.cell (by rw [block_of_add, block_of_add]; exact hab)).trans (hca j v hv)
      have HK := hide (sec_size hsa)
      have HKA := hide (show (Try.prog.info? 38).map (·.size) = some (B8 X).toArray.size by rw [List.size_toArray]; exact sec_size hsa)
      have HZ := hide (show 64 = (B8 X).toArray.size by rw [List.size_toArray, B8_length, hsa])
      have HL := hide (show (B8 X).length = 64 * 1 by rw [B8_length, hsa])
      have HO := hide (all_one (B8_one X))
      have HC := hide hcw
      have hsz := hbel.size
      have hA : k * 64 + 64 ≤ maxLen := by simp only [maxLen]; omega
      have hB : (k * 64 + 64) * 1 ≤ 140737488355328 := by omega
      have HW := hide hown
      have HXX := hide hX
      clear hca hsa hX hcw hown
      go_wp2_with (first | (refine wpList_load_at rfl 38 (.tmp 14) rfl (ad.add (k * 64)) rfl (B8 X) _ HC.out Try.underlying38 rfl HK.out ?_) | (refine wpList_store_new rfl 38 (.tmp 5) (.tmp 15) rfl _ (B8 X).toArray rfl rfl HKA.out HZ.out HO.out ?_) | (at_builtin; refine wpList_append_any _ rfl (.tmp 16) (.tmp 17) _ rfl w.heap.size 5 i0 _ 1 1 Try.underlying22 hi0 hz0 hz1 hz2 rfl (by omega) _ _ _ rfl (HW.out.alloc _) (wr.heap.size + 1) (some ⟨wr.heap.size, 0, none⟩) 64 64 (B8 X) rfl (Reads.fresh wr (B8 X) _ _ 1 64 (by omega) HL.out) (B8_one _) hA hB (le_alloc hsz _) ?_; intro v3 w3 hown3 hbel3))
      have hown4 := hown3
      rw [← B8_append, ← HX.out, show k * 64 + 64 = (k + 1) * 64 by omega] at hown4
      have hb4 := (hbel.alloc hsz (.cells (B8 X).toArray 38)).trans hbel3
      go_roundw
      case rel => exact ⟨k + 1, by omega, by go_num, hown4, hb4⟩
      case measure => simp [intOf]; omega
    · obtain rfl : k = n := by omega
      have HT := hide (show bs.take (k * 64) = bs from List.take_of_length_le (by rw [LB.out]; omega))
      go_wp2
      go_ret
      rw [HT.out] at hown
      exact made_of hown hbel
#print axioms bytes_any
end Go.Proofs.Ytkjbjhciafnbeaa
