/- Texts of the proof laid one behind the other: StrA StrJ StrK StrH. -/
import Derived.Test.YtmjjnbabfldbcaaGreatCalls
import Derived.Test.YtmjjnbabfldbcaaGreatWhen
import Derived.Test.YtmjjnbabfldbcaaGreatTwoRows
import Derived.Test.YtmjjnbabfldbcaaGreatLump1
import Derived.Test.YtmjjnbabfldbcaaGreatLump2
namespace Go.Proofs.YtmjjnbabfldbcaaGreat
open Go.RowKit
def byteOf (n : Int) : UInt8 := UInt8.ofNat (n % 256).toNat
theorem byteOf_mod (n : Int) : n % 256 = (((byteOf n).toNat : Nat) : Int) := by
  have h0 := Int.emod_nonneg n (show (256 : Int) ≠ 0 by decide)
  have h1 := Int.emod_lt_of_pos n (show (0 : Int) < 256 by decide)
  unfold byteOf
  rw [UInt8.toNat_ofNat_of_lt' (by show (n % 256).toNat < 256; omega)]
  omega
/-- 'sector(n)'. -/
def secOf (n : Int) : Sec := ⟨byteOf n :: byteOf (n / 256) :: (List.replicate 61 0 ++ [byteOf n]), by simp⟩
theorem built_sec (x y z : Int) : Tryz.prog.built 43 [(0, .int .u8 x), (1, .int .u8 y), (63, .int .u8 z)] = some (Value.int .u8 x :: Value.int .u8 y :: (List.replicate 61 (Value.int .u8 0) ++ [Value.int .u8 z])).toArray := by kernel_rfl
set_option maxRecDepth 100000 in
theorem sector_any (n : Int) (w : World) :
    Calls Tryz.prog 20 #[.int .i64 n] w fun e w' => e = .returned (secV (secOf n)) ∧ Below w.heap.size w w' := by
  obtain ⟨U, hU⟩ : ∃ U, U = secL (secOf n) := ⟨_, rfl⟩
  have hUl : U.length = 64 := by rw [hU, secL_length]
  have hUo : ∀ v ∈ U, v.oneCell' = true := by rw [hU]; exact secL_one _
  have hiU : (Tryz.prog.info? 43).map (·.size) = some U.length := by rw [hUl]; exact sec_info
  have hs : secV (secOf n) = .agg U.toArray := by rw [hU]; rfl
  have hb : Tryz.prog.built 43 [(0, .int .u8 (n % 256)), (1, .int .u8 (n / 256 % 256)), (63, .int .u8 (n % 256))] = some U.toArray := by
    rw [hU, built_sec, byteOf_mod n, byteOf_mod (n / 256)]
    rfl
  rw [hs]
  have HB := hide hb
  have HUl := hide hUl
  have HUO := hide hUo
  have HIU := hide hiU
  clear hU hUl hUo hiU hs hb
  go_enter Tryz.func20, Tryz.ntmps20
  go_wp2_with (first
    | (refine wpList_alloc_blk rfl 43 rfl _ (sec_zero _) ?_; intro w1 hb1 hl1 hs1; clear hs1)
    | (refine wpList_build_is rfl 43 #[(0, .tmp 4), (1, .tmp 7), (63, .tmp 9)] rfl [(0, .int .u8 (n % 256)), (1, .int .u8 (n / 256 % 256)), (63, .int .u8 (n % 256))] (by simp only [List.map_toArray, List.map_cons, List.map_nil]; rfl) U.toArray HB.out ?_)
    | (refine wpList_store_all rfl 43 (.tmp 2) (.tmp 10) rfl w.heap.size 43 _ hb1 rfl U rfl HIU.out (HUl.out.trans (secL_length zeroSec).symm) HUO.out ?_; intro w2 hb2 hg2 hs2; clear hs2))
  refine ret_cell rfl w.heap.size 43 U _ hb2 rfl Tryz.underlying43 rfl HIU.out rfl ⟨rfl, ?_⟩
  exact hl1.grown hg2 hl1.size (fun g e => by injection e with e; omega)
/-- The laws' bank of i disks. -/
def LaidS : Nat → Bank
  | 0 => Bank.new
  | i + 1 => (LaidS i).add 20
theorem LaidS_n : ∀ i, (LaidS i).n = i
  | 0 => rfl
  | i + 1 => by
    have h := LaidS_n i
    show (LaidS i).n + 1 = _
    rw [h]
set_option maxRecDepth 100000 in
set_option maxHeartbeats 2000000 in
theorem laid_any (w : World) (n : Nat) (hn4 : n ≤ 8) :
    Calls Tryz.prog 5 #[.int .i64 (n : Int)] w fun e w' => e = .returned (.pointer (some ⟨w.heap.size, 0, none⟩)) ∧ BankAt w' w.heap.size w.heap.size w'.heap.size (LaidS n) ∧ Below w.heap.size w w' := by
  go_enter Tryz.func5, Tryz.ntmps5
  go_wp2_with (first
    | (go_at_call 24; refine (newBank_any _).mono ?_; rintro _ w1 ⟨rfl, hB1, hl1⟩))
  go_loopw [4, 5, 6] (fun s2 _ _ wr => ∃ i : Nat, s2 = .int .i64 (i : Int) ∧ i ≤ n ∧ Hid (BankAt wr w.heap.size w.heap.size wr.heap.size (LaidS i)) ∧ Hid (Below w.heap.size w wr)) (fun s2 _ _ _ => n - (intOf s2).toNat)
  case atStart => exact ⟨0, rfl, Nat.zero_le _, hide hB1, hide hl1⟩
  case round =>
    obtain ⟨i, rfl, hi, hB, hl⟩ := hrel
    by_cases h3 : i < n
    · have hiw : (i : Int) < n := by omega
      have hn := LaidS_n i
      have HA := hide (bank_add hB.out 20 (by decide) (by decide) (by omega))
      rw [hn] at HA
      have hsz := hl.out.size
      clear hn
      go_wp2_with (first
        | (go_at_call 25; refine HA.out.mono ?_; rintro _ w2 ⟨rfl, hB2, hu2⟩; have HB2 := hide hB2; have HU2 := hide hu2; clear hB2 hu2))
      go_roundw
      case rel => exact ⟨i + 1, by simp, by omega, HB2, hide (hl.out.trans (HU2.out.low (Nat.le_refl _) hsz))⟩
      case measure => simp [intOf]; omega
    · obtain rfl : i = n := by omega
      go_wp2_with fail
      go_ret
      exact ⟨rfl, hB.out, hl.out⟩
end Go.Proofs.YtmjjnbabfldbcaaGreat
namespace Go.Proofs.YtmjjnbabfldbcaaGreat
open Go.RowKit
set_option linter.unusedVariables false
def parR (X : List PlI) (n : Nat) (t : Int) : PlI := if strE n t = 0 then strP X t.toNat else (0, 0)
def dataR (X : List PlI) (n : Nat) (t : Int) : List PlI := if strE n t = 0 then strD X t.toNat else []
def matesR (X : List PlI) (n : Nat) (slot : Int) : List PlI := if homeE n slot = 0 then matesP X slot.toNat else []
/-- A whole number as Go's int has them. -/
def I64In (v : Int) : Prop := -9223372036854775808 ≤ v ∧ v ≤ 9223372036854775807
/-- A slice of extents handed in, at most twelve. -/
structure XtIn (w : World) (A : Option Addr) (n c : Nat) (X : List PlI) : Prop where
  reads : Reads w w.heap.size 2 A n (plsL X)
  small : SmallX X
  few : n ≤ 12
  cap : n ≤ c
  max : c ≤ 9223372036854775807
theorem XtOwn.in_ {w : World} {base n c : Nat} {A : Option Addr} {X : List PlI} (h : XtOwn w base A n c X) (hs : SmallX X) (hn : n ≤ 12) : XtIn w A n c X := by
  obtain ⟨_, _, e, h1, h2⟩ := own_shape h
  injection e with e1 e2 e3
  subst e3
  exact ⟨Reads.of_own h, hs, hn, h1, by simpa [maxLen] using h2⟩
/-- A slice lies in none of these blocks. -/
def Off (F : Nat → Prop) (A : Option Addr) (n : Nat) : Prop := ∀ ad, A = some ad → 0 < n → ¬ F ad.block
end Go.Proofs.YtmjjnbabfldbcaaGreat
namespace Go.Proofs.YtmjjnbabfldbcaaGreat
open Go.RowKit
set_option linter.unusedVariables false
structure StrK : Prop where
  slots_any : ∀ (w : World) (v : Int), -1000000 ≤ v → v ≤ 1000000 → Calls Tryz.prog 23 #[.int .i64 v] w fun e w' => e = .returned (.int .i64 (slotsN v.toNat : Int)) ∧ Below w.heap.size w w'
  home_any : ∀ (w : World) (A : Option Addr) (n c : Nat) (X : List PlI), XtIn w A n c X → ∀ slot : Int, I64In slot →
    Calls Tryz.prog 17 #[.slice A n c, .int .i64 slot] w fun e w' => e = .returned (.tuple #[.agg (plC (homeR X n slot)).toArray, .int .i64 (homeE n slot : Int)]) ∧ Below w.heap.size w w'
  par_any : ∀ (w : World) (A : Option Addr) (n c : Nat) (X : List PlI), XtIn w A n c X → ∀ t : Int, I64In t →
    Calls Tryz.prog 16 #[.slice A n c, .int .i64 t] w fun e w' => e = .returned (.tuple #[.agg (plC (parR X n t)).toArray, .int .i64 (strE n t : Int)]) ∧ Below w.heap.size w w'
  mates_any : ∀ (w : World) (A : Option Addr) (n c : Nat) (X : List PlI), XtIn w A n c X → ∀ slot : Int, I64In slot →
    Calls Tryz.prog 18 #[.slice A n c, .int .i64 slot] w fun e w' => ∃ A' m c', e = .returned (.tuple #[.slice A' m c', .int .i64 (homeE n slot : Int)]) ∧ Reads w' w'.heap.size 2 A' m (plsL (matesR X n slot)) ∧ m ≤ c' ∧ c' ≤ 9223372036854775807 ∧ Below w.heap.size w w'
  read_any : ∀ (w : World) (b : Nat) (F : Nat → Prop) (S : Bank), BankOn w b F S → ∀ (A : Option Addr) (n c : Nat) (X : List PlI), XtIn w A n c X → ∀ slot : Int, I64In slot →
    Calls Tryz.prog 22 #[.pointer (some ⟨b, 0, none⟩), .slice A n c, .int .i64 slot] w fun e w' => e = .returned (.tuple #[secV (S.sread X slot).1, .int .i64 ((S.sread X slot).2 : Int)]) ∧ Below w.heap.size w w'
  rebuilt_any : ∀ (w : World) (b : Nat) (F : Nat → Prop) (S : Bank), BankOn w b F S → ∀ (A : Option Addr) (n c : Nat) (X : List PlI), XtIn w A n c X → ∀ k t : Int, I64In k → I64In t →
    Calls Tryz.prog 28 #[.pointer (some ⟨b, 0, none⟩), .slice A n c, .int .i64 k, .int .i64 t] w fun e w' => e = .returned (.tuple #[secV (S.srebuilt X k t).1, .int .i64 ((S.srebuilt X k t).2 : Int)]) ∧ Below w.heap.size w w'
  full_any : ∀ (w : World) (b : Nat) (F : Nat → Prop) (S : Bank), BankOn w b F S → S.writes < 4611686018427387000 → ∀ (A : Option Addr) (n c : Nat) (X : List PlI), XtIn w A n c X → Off F A n → ∀ t : Int, I64In t →
    ∀ (A2 : Option Addr) (m c2 : Nat) (L : List Sec), Reads w w.heap.size 64 A2 m (B8 (rawS L).flatten) → L.length = m → m ≤ 1000 → m ≤ c2 → c2 ≤ 9223372036854775807 → Off F A2 m →
    Calls Tryz.prog 19 #[.pointer (some ⟨b, 0, none⟩), .slice A n c, .int .i64 t, .slice A2 m c2] w fun e w' => e = .returned (.int .i64 ((S.sfull X t L).1 : Int)) ∧ BankOn w' b F (S.sfull X t L).2 ∧ Turn F w w'
  plug_any : ∀ (w : World) (b : Nat) (F : Nat → Prop) (S : Bank), BankOn w b F S → ∀ (A : Option Addr) (n c : Nat) (X : List PlI), XtIn w A n c X → ∀ slot : Int, I64In slot → ∀ s : Sec,
    Calls Tryz.prog 30 #[.pointer (some ⟨b, 0, none⟩), .slice A n c, .int .i64 slot, secV s] w fun e w' => e = .returned (.tuple #[secV (S.splug X slot s).1, .int .i64 ((S.splug X slot s).2 : Int)]) ∧ Below w.heap.size w w'
end Go.Proofs.YtmjjnbabfldbcaaGreat
namespace Go.Proofs.YtmjjnbabfldbcaaGreat
open Go.RowKit
def ss0 : Bank := LaidS 3
def ss1 : Bank := (ss0.sfull (rowX idN 3) 1 [secOf 1, secOf 2]).2
def ss2 : Bank := ss1.fail 2
theorem st1 : ss0.writes = 0 ∧ (ss0.sfull (rowX idN 3) 1 [secOf 1, secOf 2]).1 = 0 := by decide +kernel
theorem st2 : ss1.n = 3 := by decide +kernel
theorem st3 : (ss2.sread (rowX idN 3) 3).1 = secOf 2 ∧ (ss2.sread (rowX idN 3) 3).2 = 0 := by decide +kernel
theorem st4 : parR (rowX idN 3) 3 1 = (1, 2) ∧ strE 3 1 = 0 ∧ homeR (rowX idN 3) 3 3 = (2, 3) ∧ homeE 3 3 = 0 ∧ (matesR (rowX idN 3) 3 3).length = 2 ∧ homeE 3 16 = 3 ∧ homeE 1 0 = 1 ∧ slotsN 3 = 16 ∧ slotsN 1 = 0 := by decide +kernel
end Go.Proofs.YtmjjnbabfldbcaaGreat
