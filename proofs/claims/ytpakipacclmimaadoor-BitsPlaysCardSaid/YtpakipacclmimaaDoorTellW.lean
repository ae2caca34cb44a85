/- What Bytes of a map does. -/
import Derived.Test.YtpakipacclmimaaDoorTell
import Derived.Test.YtpakipacclmimaaDoorAgg
import Derived.StillTailTactics
import Derived.IntWalk
import Derived.LoopTactic
import Derived.Outline
namespace Go.Proofs.YtpakipacclmimaaDoor
open Go.RowKit

theorem u8_info : (Tryd.prog.info? 5).map (fun i => (i.zero, i.size, i.bytes)) = some (some (.int .u8 0), 1, 1) := by kernel_rfl
theorem B8_zero (k : Nat) : B8 (List.replicate k 0) = List.replicate k (.int .u8 0) := by simp [B8]
theorem below_drewN {B : Nat} {a c : World} (h : Below B a c) (k : Nat) : Below B a (c.drewN k) := ⟨h.os, h.tape, h.output, h.size, h.block⟩
section
variable {b n : Nat} {t : Nat → Bool} {w : World}
set_option maxRecDepth 100000 in
set_option maxHeartbeats 1000000 in
theorem bytes_any (hm : MapAt w b n t) :
    Calls Tryd.prog 16 #[.pointer (some ⟨b, 0, none⟩)] w (Made w.heap.size 5 1 (B8 (bytesOf n t)) w) := by
  obtain ⟨i0, hi0, hz0, hz1, hz2⟩ := info_parts u8_info
  have hn := hm.le
  have h0 := hm.cell0
  obtain ⟨m, hmm⟩ : ∃ m, m = (n + 7) / 8 := ⟨_, rfl⟩
  have hmk : ∀ w : World, (Instr.makeSlice 36 (.int .i64 (m : Int)) (.int .i64 (m : Int))).run Tryd.prog w = .ok (.slice (some ⟨w.heap.size, 0, none⟩) m m) (w.alloc (.cells (B8 (bytesOf n (cut t 0))).toArray 5)) :=
    fun w => run_make_list w _ _ i0 _ Tryd.underlying36 hi0 hz0 hz1 rfl m _ (by rw [bytesOf_0, B8_zero, hmm]) (by rw [hz2]; omega) (by omega)
  have hm1 : m ≤ 8192 := by omega
  have h0a : ∀ o, (w.alloc o).cell? ⟨b, 0, none⟩ = some (.int .i64 (n : Int)) := fun o => (hm.alloc o).cell0
  have hFl : (bytesOf n (cut t 0)).length = m := by rw [bytesOf_length, hmm]
  have hown : (w.alloc (.cells (B8 (bytesOf n (cut t 0))).toArray 5)).ownsRow w.heap.size 5 1 (.slice (some ⟨w.heap.size, 0, none⟩) m m) m (B8 (bytesOf n (cut t 0))) := by
    have := World.ownsRow_lit (base := w.heap.size) (e := 5) (size := 1) w (B8 (bytesOf n (cut t 0))).toArray m (Nat.le_refl _) (by unfold maxLen; omega) (by simp [B8_length, hFl])
    simpa using this
  have HO := hide hown
  clear hown
  obtain ⟨F, hF⟩ : ∃ F, F = B8 (bytesOf n (cut t 0)) := ⟨_, rfl⟩
  rw [← hF] at hmk HO
  have HF := hide hF
  have HM := hide hmm
  clear hF hmm
  go_enter Tryd.func16, Tryd.ntmps16
  go_wp2_with fail
  refine (pieces8 n (by omega)).mono ?_
  rintro e w1 ⟨rfl, rfl⟩
  rw [← HM.out]
  go_wp2_with fail
  go_loopw [15] (fun a wr => ∃ k : Nat, k ≤ n ∧ a = .int .i64 (k : Int) ∧ wr.ownsRow w.heap.size 5 1 (.slice (some ⟨w.heap.size, 0, none⟩) m m) m (B8 (bytesOf n (cut t k))) ∧ Below w.heap.size w wr) (fun a _ => n - (intOf a).toNat)
  case atStart => exact ⟨0, by omega, rfl, by rw [← HF.out]; exact HO.out, (Below.refl _ _).alloc (Nat.le_refl _) _⟩
  case round =>
    obtain ⟨k, hk, rfl, hown, hbel⟩ := hrel
    by_cases hlt : k < n
    · have hmr := hm.below hbel hm.lt
      go_wp2_with fail
      refine (has_in k hmr hlt).mono ?_
      rintro e w1 ⟨rfl, d, rfl⟩
      cases htk : t k
      · have HC : Hid (cut t (k + 1) = cut t k) := cut_no htk
        clear htk
        go_wp2_with fail
        go_roundw
        case rel => exact ⟨k + 1, by omega, by go_num, by rw [HC.out]; exact hown, below_drewN hbel d⟩
        case measure => simp [intOf]; omega
      · have HC : Hid (cut t (k + 1) = put (cut t k) k true) := cut_yes htk
        clear htk
        obtain ⟨w1, hw⟩ : ∃ w1, w1 = wr.drewN d := ⟨_, rfl⟩
        have hown1 : w1.ownsRow w.heap.size 5 1 (.slice (some ⟨w.heap.size, 0, none⟩) m m) m (B8 (bytesOf n (cut t k))) := by rw [hw]; exact hown
        have hbel1 : Below w.heap.size w w1 := by rw [hw]; exact below_drewN hbel d
        rw [← hw]
        clear hw hown hbel hmr
        have hkm : k / 8 < m := by have := HM.out; omega
        have hx : (B8 (bytesOf n (cut t k)))[k / 8]? = some (.int .u8 (((byteOf (cut t k) (k / 8)).toNat : Nat) : Int)) := by
          rw [B8, List.getElem?_map, bytesOf_at n _ (by rw [← HM.out]; exact hkm)]
          rfl
        have hc := (hown1.cellAt (k / 8) (by omega)).trans hx
        have hf := hown1.frozenAt (k / 8)
        have hxl : (byteOf (cut t k) (k / 8)).toNat < 256 := UInt8.toNat_lt _
        obtain ⟨x, hxx⟩ : ∃ x, x = (byteOf (cut t k) (k / 8)).toNat := ⟨_, rfl⟩
        have hset := bytesOf_set n (cut t k) hlt
        rw [← HC.out, ← hxx] at hset
        rw [← hxx] at hc hxl
        have HS := hide hset
        clear hset hx hxx
        go_wp2_with fail
        have h1 : (0 : Int) ≤ (k : Int) / 8 := by omega
        have h2 : (k : Int) / 8 < (m : Int) := by omega
        have hw1 : IntKind.i64.wrap ((k : Int) / 8) = (k : Int) / 8 := IntWalk.i64_in _ (by omega)
        have hw2 : ((k : Int) / 8).toNat = k / 8 := by omega
        obtain ⟨q, hq⟩ : ∃ q, q = k % 8 := ⟨_, rfl⟩
        have hq8 : q < 8 := by omega
        have htm : (k : Int).tmod 8 = (q : Int) := by rw [Int.tmod_eq_emod_of_nonneg (by omega)]; omega
        have hpl : 2 ^ q < 256 := Nat.lt_of_lt_of_le (Nat.pow_lt_pow_right (by decide) hq8) (by decide)
        rw [← hq] at HS
        obtain ⟨p, hp⟩ : ∃ p, p = 2 ^ q := ⟨_, rfl⟩
        rw [← hp] at hpl HS
        have hpe : (2 : Int) ^ q % 256 = (p : Int) := by
          have e : (2 : Int) ^ q = (p : Int) := by rw [hp, Int.natCast_pow]; rfl
          rw [e]; omega
        have hor : bits .or .u8 (x : Int) (p : Int) = ((x ||| p : Nat) : Int) := u8_or_nat x p hxl hpl
        obtain ⟨y, hy⟩ : ∃ y, y = (x ||| p) := ⟨_, rfl⟩
        rw [← hy] at hor HS
        clear hy hp hq
        refine wp_region_still_tail 10 (by kernel_rfl) (by kernel_rfl) ?_
        change wpStill _ _ w1.drew _ _ _
        simp only [List.take_succ_cons, List.take_zero, List.drop_succ_cons, List.drop_zero]
        iterate 10 still_step
        refine wpStill_nil ?_
        clear hw1
        change wpList _ _ _ _ _ w1.drew
        go_wp2_with fail
        go_roundw
        case rel => exact ⟨k + 1, by omega, by go_num, by rw [← HS.out]; exact (hown1.stored (k / 8) _).1, (hbel1.setCell (Nat.le_refl _) _).drew⟩
        case measure => simp [intOf]; omega
    · go_wp2_with fail
      go_ret
      have e : k = n := by omega
      rw [e, cut_all hm.out] at hown
      exact ⟨_, _, _, rfl, Nat.le_refl _, by unfold maxLen; omega, hown, hbel⟩
end
end Go.Proofs.YtpakipacclmimaaDoor
