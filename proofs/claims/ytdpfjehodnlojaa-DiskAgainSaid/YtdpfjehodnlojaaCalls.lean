/- The calls of a bank, each as one law of the bank in its span. -/
import Derived.Test.YtdpfjehodnlojaaAdd
namespace Go.Proofs.Ytdpfjehodnlojaa
open Go.RowKit

section
variable {w : World} {b lo hi : Nat} {S : Bank}
theorem BankAt.ok (h : BankAt w b lo hi S) : S.Ok := h.2.1
theorem BankAt.lo_le (h : BankAt w b lo hi S) : lo ≤ w.heap.size := by
  obtain ⟨h1, _, L, h3, h4⟩ := h
  have := h4.inside b (.inl rfl)
  omega
theorem bank_write (h : BankAt w b lo hi S) (hw : S.writes < 4611686018427387904) (d k : Nat) (s : Sec) :
    Calls Try.prog 12 #[.pointer (some ⟨b, 0, none⟩), .agg #[.int .i64 (d : Int), .int .i64 (k : Int)], secV s] w fun e w' => e = .returned (.int .i64 ((S.write d k s).1 : Int)) ∧ BankAt w' b lo hi (S.write d k s).2 ∧ Upto lo hi w w' := by
  obtain ⟨h1, h2, L, h3, h4⟩ := h
  exact (writeB_any h3 h2 hw d k s h4 h1).mono fun e w' ⟨he, hu, L', hB, hS⟩ => ⟨he, ⟨Nat.le_trans h1 hu.size, h2.write d k s, L', hB, hS⟩, hu⟩
theorem bank_flush (h : BankAt w b lo hi S) (d : Nat) :
    Calls Try.prog 11 #[.pointer (some ⟨b, 0, none⟩), .int .i64 (d : Int)] w fun e w' => e = .returned (.int .i64 (S.may d : Int)) ∧ BankAt w' b lo hi (if S.may d = 0 then S.flush d else S) ∧ Upto lo hi w w' := by
  obtain ⟨h1, h2, L, h3, h4⟩ := h
  refine (flushB_any h3 h2 d h4).mono fun e w' ⟨he, hB, hu⟩ => ⟨he, ⟨Nat.le_trans h1 hu.size, ?_, L, hB, ?_⟩, hu⟩
  · split
    · exact h2.flush d
    · exact h2
  · split
    · exact h4.same rfl ⟨rfl, rfl, rfl⟩
    · exact h4
theorem bank_crash (h : BankAt w b lo hi S) (m : Nat) (hm : m < 18446744073709551616) :
    Calls Try.prog 15 #[.pointer (some ⟨b, 0, none⟩), .int .u64 (m : Int)] w fun e w' => e = .returned (.tuple #[]) ∧ BankAt w' b lo hi (S.crash m) ∧ Upto lo hi w w' := by
  obtain ⟨h1, h2, L, h3, h4⟩ := h
  cases hd : S.down with
  | false =>
    have hn : (S.crash m).n = S.n := by unfold Bank.crash; rw [if_neg (by rw [hd]; decide)]
    exact (crash_any h3 h2 m hm hd h4 h1).mono fun e w' ⟨he, hB, hu⟩ => ⟨he, ⟨Nat.le_trans h1 hu.size, h2.crash m, L, hB, h4.same hn ⟨rfl, rfl, rfl⟩⟩, hu⟩
  | true =>
    have hc : S.crash m = S := by unfold Bank.crash; rw [if_pos hd]
    rw [hc]
    have c1 := h3.c1
    rw [hd] at c1
    go_enter Try.func15, Try.ntmps15
    go_wp2
    exact bodyPost_ret (results_none rfl _ _ _) rfl ⟨rfl, ⟨h1, h2, L, h3, h4⟩, Upto.refl _ _ _⟩
theorem bank_start (h : BankAt w b lo hi S) :
    Calls Try.prog 18 #[.pointer (some ⟨b, 0, none⟩)] w fun e w' => e = .returned (.tuple #[]) ∧ BankAt w' b lo hi S.start ∧ Upto lo hi w w' := by
  obtain ⟨h1, h2, L, h3, h4⟩ := h
  exact (start_any h3 h4).mono fun e w' ⟨he, hB, hu⟩ => ⟨he, ⟨Nat.le_trans h1 hu.size, h2.start, L, hB, h4.same rfl ⟨rfl, rfl, rfl⟩⟩, hu⟩
theorem bank_fail (h : BankAt w b lo hi S) (d : Nat) (hd : d < S.n) :
    Calls Try.prog 23 #[.pointer (some ⟨b, 0, none⟩), .int .i64 (d : Int)] w fun e w' => e = .returned (.int .i64 0) ∧ BankAt w' b lo hi (S.fail d) ∧ Upto lo hi w w' := by
  obtain ⟨h1, h2, L, h3, h4⟩ := h
  exact (failB_any h3 d hd h4).mono fun e w' ⟨he, hB, hu⟩ => ⟨he, ⟨Nat.le_trans h1 hu.size, h2.fail d, _, hB, h4.drop rfl⟩, hu⟩
theorem bank_arm (h : BankAt w b lo hi S) (n : Int) (a m : Nat) (ha : (a : Int) = if 0 < n then n else 0) (ha2 : a < 9223372036854775808) (hm : m < 18446744073709551616) :
    Calls Try.prog 19 #[.pointer (some ⟨b, 0, none⟩), .int .i64 n, .int .u64 (m : Int)] w fun e w' => e = .returned (.tuple #[]) ∧ BankAt w' b lo hi (S.arm a m) ∧ Upto lo hi w w' := by
  obtain ⟨h1, h2, L, h3, h4⟩ := h
  exact (arm_any h3 n a m ha h4).mono fun e w' ⟨he, hB, hu⟩ => ⟨he, ⟨Nat.le_trans h1 hu.size, h2.arm ha2 hm, L, hB, h4.same rfl ⟨rfl, rfl, rfl⟩⟩, hu⟩
theorem bank_failAt (h : BankAt w b lo hi S) (d : Nat) (hd : d < S.n) (n : Int) (a : Nat) (ha : (a : Int) = if 0 < n then n else 0) (ha2 : a < 9223372036854775808) :
    Calls Try.prog 20 #[.pointer (some ⟨b, 0, none⟩), .int .i64 (d : Int), .int .i64 n] w fun e w' => e = .returned (.tuple #[]) ∧ BankAt w' b lo hi (S.willFail d a) ∧ Upto lo hi w w' := by
  obtain ⟨h1, h2, L, h3, h4⟩ := h
  exact (failAt_any h3 d hd n a ha h4).mono fun e w' ⟨he, hB, hu⟩ => ⟨he, ⟨Nat.le_trans h1 hu.size, h2.setFail d ha2, L, hB, h4.same rfl ⟨rfl, rfl, rfl⟩⟩, hu⟩
theorem bank_read (h : BankAt w b lo hi S) (d k : Nat) :
    Calls Try.prog 16 #[.pointer (some ⟨b, 0, none⟩), .agg #[.int .i64 (d : Int), .int .i64 (k : Int)]] w fun e w' => e = .returned (readV S d k) ∧ Below w.heap.size w w' := by
  obtain ⟨h1, h2, L, h3, h4⟩ := h
  exact read_any h3 h2 d k
theorem bank_up (h : BankAt w b lo hi S) :
    Calls Try.prog 17 #[.pointer (some ⟨b, 0, none⟩)] w fun e w' => e = .returned (.bool (!S.down)) ∧ w = w' := by
  obtain ⟨h1, h2, L, h3, h4⟩ := h
  exact up_any h3
theorem bank_writes (h : BankAt w b lo hi S) :
    Calls Try.prog 22 #[.pointer (some ⟨b, 0, none⟩)] w fun e w' => e = .returned (.int .i64 (S.writes : Int)) ∧ w = w' := by
  obtain ⟨h1, h2, L, h3, h4⟩ := h
  exact writes_any h3
theorem bank_dead (h : BankAt w b lo hi S) (d : Nat) (hd : d < S.n) :
    Calls Try.prog 21 #[.pointer (some ⟨b, 0, none⟩), .int .i64 (d : Int)] w fun e w' => e = .returned (.bool (S.dead d)) ∧ w = w' := by
  obtain ⟨h1, h2, L, h3, h4⟩ := h
  exact dead_any h3 d hd
theorem bank_loose (h : BankAt w b lo hi S) :
    Calls Try.prog 14 #[.pointer (some ⟨b, 0, none⟩)] w fun e w' => e = .returned (.int .i64 (S.order.length : Int)) ∧ w = w' := by
  obtain ⟨h1, h2, L, h3, h4⟩ := h
  exact loose_any h3 h2
theorem bank_add (h : BankAt w b lo hi S) (z : Nat) (hz1 : 1 ≤ z) (hz2 : z ≤ 4096) (hn : S.n < 32) :
    Calls Try.prog 26 #[.pointer (some ⟨b, 0, none⟩), .int .i64 (z : Int)] w fun e w' => e = .returned (.tuple #[.int .i64 (S.n : Int), .int .i64 0]) ∧ BankAt w' b lo w'.heap.size (S.add z) ∧ Upto lo hi w w' := by
  obtain ⟨h1, h2, L, h3, h4⟩ := h
  exact add_any h3 h2 z hz1 hz2 hn h4 h1
end

/-! ### Sectors of a number, and the bank that the laws begin with -/
def byteOf (n : Int) : UInt8 := UInt8.ofNat (n % 256).toNat
theorem byteOf_mod (n : Int) : n % 256 = (((byteOf n).toNat : Nat) : Int) := by
  have h0 := Int.emod_nonneg n (show (256 : Int) ≠ 0 by decide)
  have h1 := Int.emod_lt_of_pos n (show (0 : Int) < 256 by decide)
  unfold byteOf
  rw [UInt8.toNat_ofNat_of_lt' (by show (n % 256).toNat < 256; omega)]
  omega
/-- 'sector(n)'. -/
def secOf (n : Int) : Sec := ⟨byteOf n :: byteOf (n / 256) :: (List.replicate 61 0 ++ [byteOf n]), by simp⟩
theorem built_sec (x y z : Int) : Try.prog.built 28 [(0, .int .u8 x), (1, .int .u8 y), (63, .int .u8 z)] = some (Value.int .u8 x :: Value.int .u8 y :: (List.replicate 61 (Value.int .u8 0) ++ [Value.int .u8 z])).toArray := by kernel_rfl
section
variable {w : World}
set_option maxRecDepth 100000 in
theorem sector_any (n : Int) (w : World) :
    Calls Try.prog 13 #[.int .i64 n] w fun e w' => e = .returned (secV (secOf n)) ∧ Below w.heap.size w w' := by
  obtain ⟨U, hU⟩ : ∃ U, U = secL (secOf n) := ⟨_, rfl⟩
  have hUl : U.length = 64 := by rw [hU, secL_length]
  have hUo : ∀ v ∈ U, v.oneCell' = true := by rw [hU]; exact secL_one _
  have hiU : (Try.prog.info? 28).map (·.size) = some U.length := by rw [hUl]; exact sec_info
  have hs : secV (secOf n) = .agg U.toArray := by rw [hU]; rfl
  have hb : Try.prog.built 28 [(0, .int .u8 (n % 256)), (1, .int .u8 (n / 256 % 256)), (63, .int .u8 (n % 256))] = some U.toArray := by
    rw [hU, built_sec, byteOf_mod n, byteOf_mod (n / 256)]
    rfl
  rw [hs]
  have HB := hide hb
  have HUl := hide hUl
  have HUO := hide hUo
  have HIU := hide hiU
  clear hU hUl hUo hiU hs hb
  go_enter Try.func13, Try.ntmps13
  go_wp2_with (first
    | (refine wpList_alloc_blk rfl 28 rfl _ (sec_zero _) ?_; intro w1 hb1 hl1 hs1; clear hs1)
    | (refine wpList_build_is rfl 28 #[(0, .tmp 4), (1, .tmp 7), (63, .tmp 9)] rfl [(0, .int .u8 (n % 256)), (1, .int .u8 (n / 256 % 256)), (63, .int .u8 (n % 256))] (by simp only [List.map_toArray, List.map_cons, List.map_nil]; rfl) U.toArray HB.out ?_)
    | (refine wpList_store_all rfl 28 (.tmp 2) (.tmp 10) rfl w.heap.size 28 _ hb1 rfl U rfl HIU.out (HUl.out.trans (secL_length zeroSec).symm) HUO.out ?_; intro w2 hb2 hg2 hs2; clear hs2))
  refine ret_cell rfl w.heap.size 28 U _ hb2 rfl Try.underlying28 rfl HIU.out rfl ⟨rfl, ?_⟩
  exact hl1.grown hg2 hl1.size (fun g e => by injection e with e; omega)
/-- The bank that the laws begin with. -/
def LaidTo : Nat → Bank
  | 0 => Bank.new
  | i + 1 => (LaidTo i).add 8
def Laid : Bank := LaidTo 3
theorem LaidTo_n : ∀ i, (LaidTo i).n = i
  | 0 => rfl
  | i + 1 => by
    have h := LaidTo_n i
    show (LaidTo i).n + 1 = _
    rw [h]
set_option maxRecDepth 100000 in
theorem laid_any (w : World) :
    Calls Try.prog 10 #[] w fun e w' => e = .returned (.pointer (some ⟨w.heap.size, 0, none⟩)) ∧ BankAt w' w.heap.size w.heap.size w'.heap.size Laid ∧ Below w.heap.size w w' := by
  go_enter Try.func10, Try.ntmps10
  go_wp2_with (first
    | (go_at_call 25; refine (newBank_any _).mono ?_; rintro _ w1 ⟨rfl, hB1, hl1⟩))
  go_loopw [2, 3, 4] (fun s2 _ _ wr => ∃ i : Nat, s2 = .int .i64 (i : Int) ∧ i ≤ 3 ∧ BankAt wr w.heap.size w.heap.size wr.heap.size (LaidTo i) ∧ Below w.heap.size w wr) (fun s2 _ _ _ => 3 - (intOf s2).toNat)
  case atStart => exact ⟨0, rfl, by decide, hB1, hl1⟩
  case round =>
    obtain ⟨i, rfl, hi, hB, hl⟩ := hrel
    by_cases h3 : i < 3
    · have hiw : (i : Int) < 3 := by omega
      have hn := LaidTo_n i
      have HA := hide (bank_add hB 8 (by decide) (by decide) (by omega))
      rw [hn] at HA
      have hsz := hl.size
      have HBO := hide hB
      clear hB hn
      go_wp2_with (first
        | (go_at_call 26; refine HA.out.mono ?_; rintro _ w2 ⟨rfl, hB2, hu2⟩))
      go_roundw
      case rel => exact ⟨i + 1, by simp, by omega, hB2, hl.trans (hu2.low (Nat.le_refl _) hsz)⟩
      case measure => simp [intOf]; omega
    · obtain rfl : i = 3 := by omega
      have HBO := hide hB
      clear hB
      go_wp2
      go_ret
      exact ⟨rfl, HBO.out, hl⟩
end
end Go.Proofs.Ytdpfjehodnlojaa
