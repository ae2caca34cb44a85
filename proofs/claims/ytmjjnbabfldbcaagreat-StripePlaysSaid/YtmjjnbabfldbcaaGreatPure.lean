/- Disks and what becomes of them, as the document tells it, by definition alone. No program is named here. -/
import Derived.Test.YtmjjnbabfldbcaaGreatMaps
import Derived.Test.YtmjjnbabfldbcaaGreatNum
namespace Go.Proofs.YtmjjnbabfldbcaaGreat
open Go.RowKit

/-- A sector: 64 bytes. -/
abbrev Sec := {l : List UInt8 // l.length = 64}
def zeroSec : Sec := ⟨List.replicate 64 0, by simp⟩
def secL (s : Sec) : List Value := B8 s.1
def secV (s : Sec) : Value := .agg (secL s).toArray
def newL (s : Sec) (t : Nat) : List Value := secL s ++ [.int .i64 (t : Int)]
def newV (s : Sec) (t : Nat) : Value := .agg (newL s t).toArray
theorem secL_length (s : Sec) : (secL s).length = 64 := by rw [secL, B8_length, s.2]
theorem newL_length (s : Sec) (t : Nat) : (newL s t).length = 65 := by rw [newL, List.length_append, secL_length]; rfl

/-- A bank: its disks; what is loose, in the order in which it became so. -/
structure Bank where
  n : Nat
  size : Nat → Nat
  dead : Nat → Bool
  flushed : Nat → Nat → Sec
  newest : Nat → Nat → Sec
  order : List (Nat × Nat)
  down : Bool
  writes : Nat
  failAt : Nat → Nat
  armed : Nat
  mask : Nat

/-- What always holds of a bank. -/
structure Bank.Ok (S : Bank) : Prop where
  n_le : S.n ≤ 32
  size_le : ∀ d, d < S.n → 1 ≤ S.size d ∧ S.size d ≤ 4096
  nodup : S.order.Nodup
  loose : ∀ p ∈ S.order, p.1 < S.n ∧ p.2 < S.size p.1 ∧ S.dead p.1 = false
  same : ∀ d k, (d, k) ∉ S.order → S.newest d k = S.flushed d k
  down_ : S.down = true → S.order = []
  fail_le : ∀ d, S.failAt d < 9223372036854775808
  armed_le : S.armed < 9223372036854775808
  mask_le : S.mask < 18446744073709551616

def Bank.new : Bank := { n := 0, size := fun _ => 0, dead := fun _ => false, flushed := fun _ _ => zeroSec, newest := fun _ _ => zeroSec, order := [], down := false, writes := 0, failAt := fun _ => 0, armed := 0, mask := 0 }
theorem Bank.new_ok : Bank.new.Ok := ⟨by decide, fun d h => absurd h (Nat.not_lt_zero d), List.nodup_nil, by simp [Bank.new], fun _ _ _ => rfl, fun _ => rfl, by simp [Bank.new], by decide, by decide⟩

/-- May a disk be asked now? the errno: none 8, dead 7, down 6, else 0. -/
def Bank.may (S : Bank) (d : Nat) : Nat := if S.n ≤ d then 8 else if S.dead d then 7 else if S.down then 6 else 0
/-- .. a sector? out of range 3. -/
def Bank.place (S : Bank) (d k : Nat) : Nat := if S.may d = 0 then (if k < S.size d then 0 else 3) else S.may d
def upd2 {α : Type} (f : Nat → Nat → α) (d k : Nat) (v : α) : Nat → Nat → α := fun i j => if i = d ∧ j = k then v else f i j
theorem upd2_self {α : Type} (f : Nat → Nat → α) (d k : Nat) (v : α) : upd2 f d k v d k = v := by simp [upd2]
theorem upd2_ne {α : Type} (f : Nat → Nat → α) {d k i j : Nat} (v : α) (h : ¬ (i = d ∧ j = k)) : upd2 f d k v i j = f i j := by simp [upd2, h]
theorem upd2_row {α : Type} (f : Nat → Nat → α) {d k i : Nat} (v : α) (h : i ≠ d) : upd2 f d k v i = f i := by funext j; simp [upd2, h]
theorem upd2_col {α : Type} (f : Nat → Nat → α) (d k : Nat) (v : α) : upd2 f d k v d = upd (f d) k v := by funext j; simp [upd2, upd]

def Bank.add (S : Bank) (z : Nat) : Bank :=
  { S with n := S.n + 1, size := upd S.size S.n z, dead := upd S.dead S.n false, flushed := upd S.flushed S.n (fun _ => zeroSec), newest := upd S.newest S.n (fun _ => zeroSec), failAt := upd S.failAt S.n 0 }
/-- A sector's newest content becomes s. -/
def Bank.put (S : Bank) (d k : Nat) (s : Sec) : Bank := { S with newest := upd2 S.newest d k s, order := if (d, k) ∈ S.order then S.order else S.order ++ [(d, k)] }
def Bank.flush (S : Bank) (d : Nat) : Bank := { S with flushed := upd S.flushed d (S.newest d), order := S.order.filter fun p => p.1 != d }
/-- Of the loose ones from the i-th on those that the mask names are flushed. -/
def keeps (m : Nat) (new : Nat → Nat → Sec) : Nat → List (Nat × Nat) → (Nat → Nat → Sec) → (Nat → Nat → Sec)
  | _, [], F => F
  | i, p :: l, F => keeps m new (i + 1) l (if m.testBit (i % 64) then upd2 F p.1 p.2 (new p.1 p.2) else F)
def Bank.kept (S : Bank) (m : Nat) : Nat → Nat → Sec := keeps m S.newest 0 S.order S.flushed
def Bank.crash (S : Bank) (m : Nat) : Bank := if S.down then S else { S with flushed := S.kept m, newest := S.kept m, order := [], down := true, armed := 0 }
def Bank.start (S : Bank) : Bank := { S with down := false }
/-- A disk dies. -/
def Bank.fail (S : Bank) (d : Nat) : Bank := { S with dead := upd S.dead d true, newest := upd S.newest d (S.flushed d), order := S.order.filter fun p => p.1 != d }
def Bank.arm (S : Bank) (n m : Nat) : Bank := { S with armed := n, mask := m }
def Bank.willFail (S : Bank) (d n : Nat) : Bank := { S with failAt := upd S.failAt d n }
/-- One write counts for the disks below i. -/
def Bank.tick (S : Bank) : Nat → Bank
  | 0 => S
  | i + 1 => let T := S.tick i; if T.failAt i = 0 then T else (let U := { T with failAt := upd T.failAt i (T.failAt i - 1) }; if T.failAt i = 1 then U.fail i else U)
def Bank.wrote (S : Bank) : Bank := { S with writes := S.writes + 1 }
/-- A call of Write counts: does power fail, and what is then? -/
def Bank.ticked (S : Bank) : Bank := (S.wrote).tick S.n
def Bank.count (S : Bank) : Bool × Bank :=
  if S.down then (false, S) else
  let T := S.ticked
  if T.armed = 0 then (false, T) else
  let U := { T with armed := T.armed - 1 }
  if T.armed = 1 then (true, U.crash U.mask) else (false, U)
def Bank.write (S : Bank) (d k : Nat) (s : Sec) : Nat × Bank :=
  let c := S.count
  if c.1 then (6, c.2) else
  if c.2.place d k = 0 then (0, c.2.put d k s) else (c.2.place d k, c.2)
end Go.Proofs.YtmjjnbabfldbcaaGreat
