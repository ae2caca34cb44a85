/- pack.Put of a number that has room. -/
import Derived.Test.YtmjdndhpnckeeaaPut
namespace Go.Proofs.Ytmjdndhpnckeeaa
open Go.RowKit

/-- A new block that bears a mark reads as its cells. -/
theorem Reads.marked {w : World} (F : List Value) (t : TypeId) (m : Nat × Nat) (B size n : Nat) (hB : w.heap.size < B) (hF : F.length = n * size) : Reads (w.alloc (.cells F.toArray t m)) B size (some ⟨w.heap.size, 0, none⟩) n F := by
  refine ⟨hF, fun _ => ⟨_, rfl, hB, fun j u hu => ?_⟩⟩
  have hadd : (⟨w.heap.size, 0, none⟩ : Addr).add j = ⟨w.heap.size, j, none⟩ := by unfold Addr.add; split <;> simp_all
  rw [hadd, World.cell?_alloc_mark]
  simpa using hu
theorem put_fits (A : Option Addr) (n c : Nat) (xs ys : List UInt8) (v width : Int) (w : World) (hr : Reads w w.heap.size 1 A n (B8 xs)) (hc : n ≤ c) (hc2 : c ≤ 9223372036854775807) (hn : n ≤ 100) (h1 : 1 ≤ width) (h6 : width ≤ 6) (h0 : 0 ≤ v) (hv : v < 256 ^ width.toNat) (hy : xs ++ be width.toNat v.toNat = ys) :
    Calls Try.prog 73 #[.slice A n c, .int .i64 v, .int .i64 width] w (Made w.heap.size 5 1 (B8 ys) w) := by
  have hf : fitsB v width = true := by simp [fitsB, h1, h6, h0, hv]
  have hlt : v ≤ 9223372036854775807 := by
    have := pow256_lt (k := width.toNat) (by omega)
    have h2 : (256 : Int) ^ width.toNat = ((256 ^ width.toNat : Nat) : Int) := by simp
    omega
  have h := put_any A n c xs v width w hr hc hc2 (by omega) hlt
  rw [putB, if_pos hf, hy] at h
  exact h
theorem put1_ (A : Option Addr) (n c : Nat) (xs ys : List UInt8) (v : Int) (w : World) (hr : Reads w w.heap.size 1 A n (B8 xs)) (hc : n ≤ c) (hc2 : c ≤ 9223372036854775807) (hn : n ≤ 100) (h0 : 0 ≤ v) (hv : v ≤ 255) (hy : xs ++ be 1 v.toNat = ys) :
    Calls Try.prog 73 #[.slice A n c, .int .i64 v, .int .i64 1] w (Made w.heap.size 5 1 (B8 ys) w) :=
  put_fits A n c xs ys v 1 w hr hc hc2 hn (by omega) (by omega) h0 (by rw [show (256 : Int) ^ (1 : Int).toNat = 256 by decide]; omega) hy
theorem put2_ (A : Option Addr) (n c : Nat) (xs ys : List UInt8) (v : Int) (w : World) (hr : Reads w w.heap.size 1 A n (B8 xs)) (hc : n ≤ c) (hc2 : c ≤ 9223372036854775807) (hn : n ≤ 100) (h0 : 0 ≤ v) (hv : v ≤ 65535) (hy : xs ++ be 2 v.toNat = ys) :
    Calls Try.prog 73 #[.slice A n c, .int .i64 v, .int .i64 2] w (Made w.heap.size 5 1 (B8 ys) w) :=
  put_fits A n c xs ys v 2 w hr hc hc2 hn (by omega) (by omega) h0 (by rw [show (256 : Int) ^ (2 : Int).toNat = 65536 by decide]; omega) hy
theorem put4_ (A : Option Addr) (n c : Nat) (xs ys : List UInt8) (v : Int) (w : World) (hr : Reads w w.heap.size 1 A n (B8 xs)) (hc : n ≤ c) (hc2 : c ≤ 9223372036854775807) (hn : n ≤ 100) (h0 : 0 ≤ v) (hv : v ≤ 4294967295) (hy : xs ++ be 4 v.toNat = ys) :
    Calls Try.prog 73 #[.slice A n c, .int .i64 v, .int .i64 4] w (Made w.heap.size 5 1 (B8 ys) w) :=
  put_fits A n c xs ys v 4 w hr hc hc2 hn (by omega) (by omega) h0 (by rw [show (256 : Int) ^ (4 : Int).toNat = 4294967296 by decide]; omega) hy
end Go.Proofs.Ytmjdndhpnckeeaa
