/- What stage 12's laws begin with: the sector of a number, and a bank of some disks of twelve sectors. -/
import Derived.Test.YtgfbndmdndpelaaCalls
import Derived.Test.YtgfbndmdndpelaaWhen
import Derived.Test.YtgfbndmdndpelaaTwoRows
namespace Go.Proofs.Ytgfbndmdndpelaa
open Go.RowKit
def byteOf (n : Int) : UInt8 := UInt8.ofNat (n % 256).toNat
theorem byteOf_mod (n : Int) : n % 256 = (((byteOf n).toNat : Nat) : Int) := by
  have h0 := Int.emod_nonneg n (show (256 : Int) ≠ 0 by decide)
  have h1 := Int.emod_lt_of_pos n (show (0 : Int) < 256 by decide)
  unfold byteOf
  rw [UInt8.toNat_ofNat_of_lt' (by show (n % 256).toNat < 256; omega)]
  omega
/-- 'sector(n)'. -/
def secOf (n : Int) : Sec := ⟨byteOf n :: byteOf (n / 256) :: (List.replicate 61 0 ++ [byteOf n]), by simp⟩
theorem built_sec (x y z : Int) : Try.prog.built 43 [(0, .int .u8 x), (1, .int .u8 y), (63, .int .u8 z)] = some (Value.int .u8 x :: Value.int .u8 y :: (List.replicate 61 (Value.int .u8 0) ++ [Value.int .u8 z])).toArray := by kernel_rfl
theorem secOf_zero : secOf 0 = zeroSec := by decide +kernel
set_option maxRecDepth 100000 in
theorem sector_any (n : Int) (w : World) :
    Calls Try.prog 23 #[.int .i64 n] w fun e w' => e = .returned (secV (secOf n)) ∧ Below w.heap.size w w' := by
  obtain ⟨U, hU⟩ : ∃ U, U = secL (secOf n) := ⟨_, rfl⟩
  have hUl : U.length = 64 := by rw [hU, secL_length]
  have hUo : ∀ v ∈ U, v.oneCell' = true := by rw [hU]; exact secL_one _
  have hiU : (Try.prog.info? 43).map (·.size) = some U.length := by rw [hUl]; exact sec_info
  have hs : secV (secOf n) = .agg U.toArray := by rw [hU]; rfl
  have hb : Try.prog.built 43 [(0, .int .u8 (n % 256)), (1, .int .u8 (n / 256 % 256)), (63, .int .u8 (n % 256))] = some U.toArray := by
    rw [hU, built_sec, byteOf_mod n, byteOf_mod (n / 256)]
    rfl
  rw [hs]
  have HB := hide hb
  have HUl := hide hUl
  have HUO := hide hUo
  have HIU := hide hiU
  clear hU hUl hUo hiU hs hb
  go_enter Try.func23, Try.ntmps23
  go_wp2_with (first
    | (refine wpList_alloc_blk rfl 43 rfl _ (sec_zero _) ?_; intro w1 hb1 hl1 hs1; clear hs1)
    | (refine wpList_build_is rfl 43 #[(0, .tmp 4), (1, .tmp 7), (63, .tmp 9)] rfl [(0, .int .u8 (n % 256)), (1, .int .u8 (n / 256 % 256)), (63, .int .u8 (n % 256))] (by simp only [List.map_toArray, List.map_cons, List.map_nil]; rfl) U.toArray HB.out ?_)
    | (refine wpList_store_all rfl 43 (.tmp 2) (.tmp 10) rfl w.heap.size 43 _ hb1 rfl U rfl HIU.out (HUl.out.trans (secL_length zeroSec).symm) HUO.out ?_; intro w2 hb2 hg2 hs2; clear hs2))
  refine ret_cell rfl w.heap.size 43 U _ hb2 rfl Try.underlying43 rfl HIU.out rfl ⟨rfl, ?_⟩
  exact hl1.grown hg2 hl1.size (fun g e => by injection e with e; omega)
#print axioms sector_any
/-- The laws' bank of i disks. -/
def LaidN : Nat → Bank
  | 0 => Bank.new
  | i + 1 => (LaidN i).add 12
theorem LaidN_n : ∀ i, (LaidN i).n = i
  | 0 => rfl
  | i + 1 => by
    have h := LaidN_n i
    show (LaidN i).n + 1 = _
    rw [h]
set_option maxRecDepth 100000 in
set_option maxHeartbeats 2000000 in
theorem laid_any (w : World) (n : Nat) (hn4 : n ≤ 8) :
    Calls Try.prog 10 #[.int .i64 (n : Int)] w fun e w' => e = .returned (.pointer (some ⟨w.heap.size, 0, none⟩)) ∧ BankAt w' w.heap.size w.heap.size w'.heap.size (LaidN n) ∧ Below w.heap.size w w' := by
  go_enter Try.func10, Try.ntmps10
  go_wp2_with (first
    | (go_at_call 34; refine (newBank_any _).mono ?_; rintro _ w1 ⟨rfl, hB1, hl1⟩))
  go_loopw [4, 5, 6] (fun s2 _ _ wr => ∃ i : Nat, s2 = .int .i64 (i : Int) ∧ i ≤ n ∧ Hid (BankAt wr w.heap.size w.heap.size wr.heap.size (LaidN i)) ∧ Hid (Below w.heap.size w wr)) (fun s2 _ _ _ => n - (intOf s2).toNat)
  case atStart => exact ⟨0, rfl, Nat.zero_le _, hide hB1, hide hl1⟩
  case round =>
    obtain ⟨i, rfl, hi, hB, hl⟩ := hrel
    by_cases h3 : i < n
    · have hiw : (i : Int) < n := by omega
      have hn := LaidN_n i
      have HA := hide (bank_add hB.out 12 (by decide) (by decide) (by omega))
      rw [hn] at HA
      have hsz := hl.out.size
      clear hn
      go_wp2_with (first
        | (go_at_call 35; refine HA.out.mono ?_; rintro _ w2 ⟨rfl, hB2, hu2⟩; have HB2 := hide hB2; have HU2 := hide hu2; clear hB2 hu2))
      go_roundw
      case rel => exact ⟨i + 1, by simp, by omega, HB2, hide (hl.out.trans (HU2.out.low (Nat.le_refl _) hsz))⟩
      case measure => simp [intOf]; omega
    · obtain rfl : i = n := by omega
      go_wp2_with fail
      go_ret
      exact ⟨rfl, hB.out, hl.out⟩
#print axioms laid_any
end Go.Proofs.Ytgfbndmdndpelaa
