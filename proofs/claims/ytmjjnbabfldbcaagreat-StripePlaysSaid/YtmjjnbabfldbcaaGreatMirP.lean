/- Two copies of a sector, as the document tells them, by definition alone; what is kept where one disk may fail, where none does, and behind a crash. No program is named here. -/
import Derived.Test.YtmjjnbabfldbcaaGreatPure
namespace Go.Proofs.YtmjjnbabfldbcaaGreat
open Go.RowKit
/-- Is an errno that of a copy that is lost? -/
def lostB (e : Nat) : Bool := e == 8 || e == 7
def Bank.readS (S : Bank) (d k : Nat) : Sec := if S.place d k = 0 then S.newest d k else zeroSec
def Bank.mwrite (S : Bank) (d k d' k' : Nat) (s : Sec) : Nat × Bank :=
  let a := S.write d k s
  if a.1 = 0 ∨ lostB a.1 = true then
    let c := a.2.write d' k' s
    if c.1 = 0 ∨ lostB c.1 = true then (if a.1 = 0 ∨ c.1 = 0 then 0 else 5, c.2) else c
  else a
def Bank.mread (S : Bank) (d k d' k' : Nat) : Sec × Nat :=
  if lostB (S.place d k) = true then (if lostB (S.place d' k') = true then (zeroSec, 5) else (S.readS d' k', S.place d' k'))
  else (S.readS d k, S.place d k)
/-- What Alike answers, and what is behind it. -/
def Bank.malike (S : Bank) (d k d' k' : Nat) : (Bool × Nat) × Bank :=
  let e := S.place d k
  let f := S.place d' k'
  if e = 0 ∨ lostB e = true then
    if f = 0 ∨ lostB f = true then
      if e = 0 ∧ f = 0 then
        (if S.newest d k = S.newest d' k' then ((false, 0), S) else
          let c := S.write d' k' (S.newest d k)
          ((decide (c.1 = 0), if lostB c.1 = true then 0 else c.1), c.2))
      else ((false, if e = 0 ∨ f = 0 then 0 else 5), S)
    else ((false, f), S)
  else ((false, e), S)
def Bank.mcopy (S : Bank) (d k d' k' : Nat) : Nat × Bank := if S.place d k = 0 then S.write d' k' (S.newest d k) else (S.place d k, S)
/-! ### At most one disk fails, power stays -/
/-- Two disks of twelve sectors; but for disk x none has failed or will; each that lives holds g. -/
structure Liv (S : Bank) (x : Nat) (g : Nat → Nat → Sec) : Prop where
  n : S.n = 2
  size : ∀ d, d < 2 → S.size d = 12
  up : S.down = false
  calm : S.armed = 0
  well : ∀ d, d < 2 → d ≠ x → S.dead d = false ∧ S.failAt d = 0
  holds : ∀ d k, d < 2 → k < 12 → S.dead d = false → S.newest d k = g d k
/-! ### No disk fails; power may -/
/-- Two disks of twelve sectors that live, power there; ar: at which write to come it fails (0: at none); what is flushed, and what is newest. -/
structure Cal (S : Bank) (ar : Nat) (f nw : Nat → Nat → Sec) : Prop where
  n : S.n = 2
  size : ∀ d, d < 2 → S.size d = 12
  up : S.down = false
  live : ∀ d, d < 2 → S.dead d = false ∧ S.failAt d = 0
  armed : S.armed = ar
  flu : ∀ d k, d < 2 → k < 12 → S.flushed d k = f d k
  new : ∀ d k, d < 2 → k < 12 → S.newest d k = nw d k
/-- The same, power gone. -/
structure Fel (S : Bank) (c : Nat → Nat → Sec) : Prop where
  n : S.n = 2
  size : ∀ d, d < 2 → S.size d = 12
  down : S.down = true
  live : ∀ d, d < 2 → S.dead d = false ∧ S.failAt d = 0
  armed : S.armed = 0
  flu : ∀ d k, d < 2 → k < 12 → S.flushed d k = c d k
  new : ∀ d k, d < 2 → k < 12 → S.newest d k = c d k
section
variable {S : Bank} {ar : Nat} {f nw c : Nat → Nat → Sec}
end
/-! ### Nothing is armed, and no disk fails at a write to come: any place -/
structure Qui (S : Bank) : Prop where
  n : S.n = 2
  size : ∀ d, d < 2 → S.size d = 12
  up : S.down = false
  calm : S.armed = 0
  sure : ∀ d, d < 2 → S.failAt d = 0
section
variable {S : Bank}
end
end Go.Proofs.YtmjjnbabfldbcaaGreat
