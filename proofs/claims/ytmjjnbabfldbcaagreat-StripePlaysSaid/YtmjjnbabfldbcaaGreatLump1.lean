/- Texts of the proof laid one behind the other: StrP StrB StrL StrM StrN. -/
import Derived.Test.YtmjjnbabfldbcaaGreatPure
import Derived.Test.YtmjjnbabfldbcaaGreatNegP
import Derived.Test.YtmjjnbabfldbcaaGreatMirP
import Derived.Test.YtmjjnbabfldbcaaGreatParP
namespace Go.Proofs.YtmjjnbabfldbcaaGreat
open Go.RowKit
set_option linter.unusedVariables false
/-- A place, or an extent: its disk, its sector. -/
abbrev PlI := Int × Int
def plC (p : PlI) : List Value := [.int .i64 p.1, .int .i64 p.2]
def plsL (l : List PlI) : List Value := l.flatMap plC
theorem plsL_length : ∀ l : List PlI, (plsL l).length = l.length * 2
  | [] => rfl
  | p :: l => by
    have := plsL_length l
    unfold plsL at this ⊢
    rw [List.flatMap_cons, List.length_append, this, List.length_cons]
    show 2 + l.length * 2 = (l.length + 1) * 2
    omega
theorem plsL_append (l m : List PlI) : plsL (l ++ m) = plsL l ++ plsL m := by unfold plsL; rw [List.flatMap_append]
theorem plsL_at : ∀ {l : List PlI} {i : Nat} {p : PlI}, l[i]? = some p → (plsL l)[i * 2]? = some (.int .i64 p.1) ∧ (plsL l)[i * 2 + 1]? = some (.int .i64 p.2)
  | [], i, p, h => by simp at h
  | q :: l, 0, p, h => by
    have e : q = p := by simpa using h
    subst e
    exact ⟨rfl, rfl⟩
  | q :: l, i + 1, p, h => by
    have ih := plsL_at (l := l) (i := i) (p := p) (by simpa using h)
    have hc : ∀ j, (plsL (q :: l))[j + 2]? = (plsL l)[j]? := fun j => rfl
    rw [show (i + 1) * 2 = i * 2 + 2 by omega, show i * 2 + 2 + 1 = (i * 2 + 1) + 2 by omega, hc, hc]
    exact ih
theorem plsL_take : ∀ (l : List PlI) (k : Nat), (plsL l).take (k * 2) = plsL (l.take k)
  | l, 0 => by simp [plsL]
  | [], k + 1 => by simp [plsL]
  | q :: l, k + 1 => by
    have ih := plsL_take l k
    rw [List.take_succ_cons, show (k + 1) * 2 = k * 2 + 2 by omega]
    show (plC q ++ plsL l).take (k * 2 + 2) = plC q ++ plsL (l.take k)
    rw [List.take_append, List.take_of_length_le (by show 2 ≤ k * 2 + 2; omega), show (plC q).length = 2 from rfl, Nat.add_sub_cancel, ih]
/-- Is there a stripe t of n extents? -/
def strE (n : Nat) (t : Int) : Nat := if n < 2 then 1 else if t < 0 ∨ 8 ≤ t then 3 else 0
/-- Which extent has the parity. -/
def strH (n t : Nat) : Nat := n - 1 - t % n
theorem strH_lt {n t : Nat} (h : 0 < n) : strH n t < n := by unfold strH; omega
/-- The sectors of stripe t on some extents. -/
def strM (X : List PlI) (t : Nat) : List PlI := X.map fun p => (p.1, p.2 + (t : Int))
theorem strM_length (X : List PlI) (t : Nat) : (strM X t).length = X.length := List.length_map _
theorem strM_at {X : List PlI} {t k : Nat} {p : PlI} (h : X[k]? = some p) : (strM X t)[k]? = some (p.1, p.2 + (t : Int)) := by unfold strM; rw [List.getElem?_map, h]; rfl
/-- All but one of them. -/
def strO (X : List PlI) (k t : Nat) : List PlI := (strM X t).eraseIdx k
def strD (X : List PlI) (t : Nat) : List PlI := strO X (strH X.length t) t
def strP (X : List PlI) (t : Nat) : PlI := ((strM X t)[strH X.length t]?).getD (0, 0)
/-- The places of all slots. -/
def strA (X : List PlI) : Nat → List PlI
  | 0 => []
  | t + 1 => strA X t ++ strD X t
def slotsN (n : Nat) : Nat := 8 * (n - 1)
def homeE (n : Nat) (slot : Int) : Nat := if n < 2 then 1 else if slot < 0 ∨ (slotsN n : Int) ≤ slot then 3 else 0
def homeP (X : List PlI) (slot : Nat) : PlI := ((strD X (slot / (X.length - 1)))[slot % (X.length - 1)]?).getD (0, 0)
def matesP (X : List PlI) (slot : Nat) : List PlI := (strD X (slot / (X.length - 1))).eraseIdx (slot % (X.length - 1)) ++ [strP X (slot / (X.length - 1))]
section
variable {X : List PlI} {t k slot : Nat}
theorem strO_length (h : k < X.length) : (strO X k t).length = X.length - 1 := by
  unfold strO
  rw [List.length_eraseIdx, strM_length, if_pos h]
theorem strD_length (h : 2 ≤ X.length) : (strD X t).length = X.length - 1 := strO_length (strH_lt (by omega))
theorem strA_length (h : 2 ≤ X.length) : ∀ t, (strA X t).length = t * (X.length - 1)
  | 0 => by simp [strA]
  | t + 1 => by rw [strA, List.length_append, strA_length h t, strD_length h, Nat.succ_mul]
theorem strA_at (h : 2 ≤ X.length) : ∀ (t slot : Nat), slot < t * (X.length - 1) → (strA X t)[slot]? = some (homeP X slot)
  | 0, slot, hs => by omega
  | t + 1, slot, hs => by
    rw [strA]
    rcases Nat.lt_or_ge slot (t * (X.length - 1)) with hl | hl
    · rw [List.getElem?_append_left (by rw [strA_length h]; exact hl)]
      exact strA_at h t slot hl
    · rw [List.getElem?_append_right (by rw [strA_length h]; exact hl), strA_length h]
      have hm : slot - t * (X.length - 1) < X.length - 1 := by rw [Nat.succ_mul] at hs; omega
      have hd : slot / (X.length - 1) = t := by
        apply Nat.div_eq_of_lt_le
        · exact hl
        · exact hs
      have hr : slot % (X.length - 1) = slot - t * (X.length - 1) := by
        have := Nat.div_add_mod slot (X.length - 1)
        rw [hd, Nat.mul_comm] at this
        omega
      unfold homeP
      rw [hd, hr]
      have hlen : slot - t * (X.length - 1) < (strD X t).length := by rw [strD_length h]; exact hm
      rw [List.getElem?_eq_getElem hlen]
      rfl
theorem homeE_ok {n : Nat} {slot : Int} (h : homeE n slot = 0) : 2 ≤ n ∧ 0 ≤ slot ∧ slot < (slotsN n : Int) := by
  unfold homeE at h
  split at h
  · cases h
  · split at h
    · cases h
    · omega
theorem strE_ok {n : Nat} {t : Int} (h : strE n t = 0) : 2 ≤ n ∧ 0 ≤ t ∧ t < 8 := by
  unfold strE at h
  split at h
  · cases h
  · split at h
    · cases h
    · omega
theorem slot_div {n : Nat} {slot : Nat} (h : 2 ≤ n) (hs : slot < slotsN n) : slot / (n - 1) < 8 := by
  unfold slotsN at hs
  exact Nat.div_lt_of_lt_mul (by rw [Nat.mul_comm]; exact hs)
theorem matesP_length (h : 2 ≤ X.length) : (matesP X slot).length = X.length - 1 := by
  have hm : slot % (X.length - 1) < (strD X (slot / (X.length - 1))).length := by rw [strD_length h]; exact Nat.mod_lt _ (by omega)
  unfold matesP
  rw [List.length_append, List.length_eraseIdx, if_pos hm, strD_length h]
  show X.length - 1 - 1 + 1 = _
  omega
end
/-! ### Which extent a slot is on -/
/-- The j-th of all numbers but k. -/
def skipN (k j : Nat) : Nat := if j < k then j else j + 1
/-- The number's place among all but k. -/
def placeN (k d : Nat) : Nat := if d < k then d else d - 1
theorem strP_is {X : List PlI} {t : Nat} {p : PlI} (h : X[strH X.length t]? = some p) : strP X t = (p.1, p.2 + (t : Int)) := by
  unfold strP
  rw [strM_at h]
  rfl
def idN : Nat → Int := fun i => (i : Int)
/-- The extents of a row: the i-th on the disk i, at the sector f i. -/
def rowX (f : Nat → Int) (n : Nat) : List PlI := (List.range n).map fun (i : Nat) => (((i : Nat) : Int), f i)
theorem rowX_succ (f : Nat → Int) (n : Nat) : rowX f (n + 1) = rowX f n ++ [((n : Int), f n)] := by unfold rowX; rw [List.range_succ, List.map_append]; rfl
/-- Which slot stands on the extent d in stripe t. -/
def slotAt (n t d : Nat) : Nat := t * (n - 1) + placeN (strH n t) d
/-- How many of the first k stripes have their parity on the extent d. -/
def parsN (n k d : Nat) : Nat := ((List.range k).filter fun t => strH n t == d).length
end Go.Proofs.YtmjjnbabfldbcaaGreat
namespace Go.Proofs.YtmjjnbabfldbcaaGreat
open Go.RowKit
set_option linter.unusedVariables false
/-- Sectors as rows of bytes. -/
def rawS (l : List Sec) : List (List UInt8) := l.map (·.1)
theorem rawS_secs (l : List Sec) : Secs (rawS l) := fun s hs => by
  obtain ⟨x, _, rfl⟩ := List.mem_map.1 hs
  exact x.2
theorem rawS_length (l : List Sec) : (rawS l).length = l.length := List.length_map _
theorem rawS_append (l m : List Sec) : rawS (l ++ m) = rawS l ++ rawS m := List.map_append
/-- The parity of some sectors. -/
def parS (l : List Sec) : Sec := ⟨parOf (rawS l), par_length (rawS_secs l)⟩
/-- What stands where another sector is to stand. -/
def plugS (old was s : Sec) : Sec := ⟨xorL (xorL old.1 was.1) s.1, xorL_length (xorL_length old.2 was.2) s.2⟩
def Bank.placeP (S : Bank) (p : PlI) : Nat := S.place (nI p.1) (nI p.2)
def Bank.readP (S : Bank) (p : PlI) : Sec := S.readS (nI p.1) (nI p.2)
def Bank.writeP (S : Bank) (p : PlI) (s : Sec) : Nat × Bank := S.write (nI p.1) (nI p.2) s
/-- The first error that is not of a lost place; else 0. -/
def Bank.badP (S : Bank) : List PlI → Nat
  | [] => 0
  | p :: l => if S.placeP p = 0 ∨ lostB (S.placeP p) = true then S.badP l else S.placeP p
/-- How many are lost. -/
def Bank.goneP (S : Bank) : List PlI → Nat
  | [] => 0
  | p :: l => (if S.placeP p = 0 then 0 else 1) + S.goneP l
/-- What is read of those that are not. -/
def Bank.hasP (S : Bank) : List PlI → List Sec
  | [] => []
  | p :: l => if S.placeP p = 0 then S.readP p :: S.hasP l else S.hasP l
/-- What comes of reading them all. -/
def Bank.gatherE (S : Bank) (l : List PlI) : Nat := if S.badP l = 0 then (if S.goneP l = 0 then 0 else 5) else S.badP l
section
variable {S : Bank} {l : List PlI} {p : PlI}
theorem bad_snoc (h : S.badP l = 0) : S.badP (l ++ [p]) = if S.placeP p = 0 ∨ lostB (S.placeP p) = true then 0 else S.placeP p := by
  induction l with
  | nil => rfl
  | cons q l ih =>
    unfold Bank.badP at h
    split at h
    · rename_i hq
      rw [List.cons_append, Bank.badP, if_pos hq]
      exact ih h
    · rename_i hq
      exact absurd (.inl h) hq
theorem bad_more (m : List PlI) (h : S.badP l ≠ 0) : S.badP (l ++ m) = S.badP l := by
  induction l with
  | nil => exact absurd rfl h
  | cons q l ih =>
    rw [List.cons_append, Bank.badP, Bank.badP]
    split
    · rename_i hq
      rw [Bank.badP, if_pos hq] at h
      exact ih h
    · rfl
theorem gone_snoc : ∀ l : List PlI, S.goneP (l ++ [p]) = S.goneP l + if S.placeP p = 0 then 0 else 1
  | [] => by rw [List.nil_append, Bank.goneP]; show _ + 0 = 0 + _; omega
  | q :: l => by rw [List.cons_append, Bank.goneP, Bank.goneP, gone_snoc l]; omega
theorem has_snoc : ∀ l : List PlI, S.hasP (l ++ [p]) = S.hasP l ++ if S.placeP p = 0 then [S.readP p] else []
  | [] => by rw [List.nil_append, Bank.hasP, Bank.hasP]; split <;> rfl
  | q :: l => by
    rw [List.cons_append, Bank.hasP, Bank.hasP, has_snoc l]
    split
    · rw [List.cons_append]
    · rfl
theorem gone_le : ∀ l : List PlI, S.goneP l ≤ l.length
  | [] => Nat.le_refl _
  | q :: l => by
    have := gone_le l
    rw [Bank.goneP, List.length_cons]
    split <;> omega
theorem has_all : ∀ {l : List PlI}, S.goneP l = 0 → S.hasP l = l.map S.readP
  | [], _ => rfl
  | q :: l, h => by
    rw [Bank.goneP] at h
    have h0 : S.placeP q = 0 := by
      rcases Nat.decEq (S.placeP q) 0 with h1 | h1
      · rw [if_neg h1] at h; omega
      · exact h1
    rw [Bank.hasP, if_pos h0, has_all (l := l) (by omega)]
    rfl
end
/-- Sectors written at places, one behind the other: what ends it, how many were lost, and what is behind it. -/
def Bank.wallP (S : Bank) : List (PlI × Sec) → Nat × Nat × Bank
  | [] => (0, 0, S)
  | (p, s) :: l =>
    let a := S.writeP p s
    if a.1 = 0 ∨ lostB a.1 = true then
      let r := a.2.wallP l
      (r.1, (if a.1 = 0 then 0 else 1) + r.2.1, r.2.2)
    else (a.1, 0, a.2)
theorem wall_snoc {p : PlI} {s : Sec} : ∀ (l : List (PlI × Sec)) (S : Bank), (S.wallP l).1 = 0 → S.wallP (l ++ [(p, s)]) =
    (let a := (S.wallP l).2.2.writeP p s
     if a.1 = 0 ∨ lostB a.1 = true then (0, (S.wallP l).2.1 + (if a.1 = 0 then 0 else 1), a.2) else (a.1, (S.wallP l).2.1, a.2))
  | [], S, _ => by
    rw [List.nil_append, Bank.wallP]
    show (if _ then _ else _) = _
    split
    · rename_i h
      simp only [Bank.wallP, if_pos h, Nat.zero_add, Nat.add_zero]
    · rename_i h
      simp only [if_neg h]
  | (q, t) :: l, S, h => by
    rw [Bank.wallP] at h
    simp only at h
    split at h
    · rename_i hq
      have ih := wall_snoc (p := p) (s := s) l (S.writeP q t).2 h
      rw [List.cons_append, Bank.wallP, Bank.wallP]
      simp only [if_pos hq, ih]
      split <;> simp only [Nat.add_assoc]
    · rename_i hq
      exact absurd (.inl h) hq
theorem wall_more (m : List (PlI × Sec)) : ∀ (l : List (PlI × Sec)) (S : Bank), (S.wallP l).1 ≠ 0 → S.wallP (l ++ m) = S.wallP l
  | [], S, h => absurd rfl h
  | (q, t) :: l, S, h => by
    rw [Bank.wallP] at h
    simp only at h
    rw [List.cons_append, Bank.wallP, Bank.wallP]
    simp only
    split
    · rename_i hq
      rw [if_pos hq] at h
      rw [wall_more m l _ h]
    · rfl
/-! ### The calls -/
def Bank.sread (S : Bank) (X : List PlI) (slot : Int) : Sec × Nat :=
  if homeE X.length slot = 0 then
    let p := homeP X slot.toNat
    if lostB (S.placeP p) = true then
      let m := matesP X slot.toNat
      if S.gatherE m = 0 then (parS (m.map S.readP), 0) else (zeroSec, S.gatherE m)
    else (S.readP p, S.placeP p)
  else (zeroSec, homeE X.length slot)
def rebuiltE (n : Nat) (k t : Int) : Nat := if n < 2 ∨ k < 0 ∨ (n : Int) ≤ k then 1 else if t < 0 ∨ 8 ≤ t then 3 else 0
def Bank.srebuilt (S : Bank) (X : List PlI) (k t : Int) : Sec × Nat :=
  if rebuiltE X.length k t = 0 then
    let m := strO X k.toNat t.toNat
    if S.gatherE m = 0 then (parS (m.map S.readP), 0) else (zeroSec, S.gatherE m)
  else (zeroSec, rebuiltE X.length k t)
/-- What is written of a whole stripe, and where. -/
def fullL (X : List PlI) (t : Nat) (data : List Sec) : List (PlI × Sec) := (strD X t).zip data ++ [(strP X t, parS data)]
def fullE (n m : Nat) (t : Int) : Nat := if n < 2 ∨ m ≠ n - 1 then 1 else if t < 0 ∨ 8 ≤ t then 3 else 0
def Bank.sfull (S : Bank) (X : List PlI) (t : Int) (data : List Sec) : Nat × Bank :=
  if fullE X.length data.length t = 0 then
    let r := S.wallP (fullL X t.toNat data)
    (if r.1 = 0 then (if 1 < r.2.1 then 5 else 0) else r.1, r.2.2)
  else (fullE X.length data.length t, S)
def Bank.splug (S : Bank) (X : List PlI) (slot : Int) (s : Sec) : Sec × Nat :=
  if homeE X.length slot = 0 then
    let p := homeP X slot.toNat
    let q := strP X (slot.toNat / (X.length - 1))
    if S.placeP p = 0 ∨ lostB (S.placeP p) = true then
      if S.placeP q = 0 ∨ lostB (S.placeP q) = true then
        if S.placeP p = 0 ∧ S.placeP q = 0 then (plugS (S.readP p) (S.readP q) s, 0)
        else
          let m := (strD X (slot.toNat / (X.length - 1))).eraseIdx (slot.toNat % (X.length - 1))
          if S.gatherE m = 0 then (parS (m.map S.readP ++ [s]), 0) else (zeroSec, S.gatherE m)
      else (zeroSec, S.placeP q)
    else (zeroSec, S.placeP p)
  else (zeroSec, homeE X.length slot)
end Go.Proofs.YtmjjnbabfldbcaaGreat
namespace Go.Proofs.YtmjjnbabfldbcaaGreat
open Go.RowKit
set_option linter.unusedVariables false
/-- N disks of Z sectors; but for disk x none has failed or will; each that lives holds g. -/
structure LivN (N Z : Nat) (S : Bank) (x : Nat) (g : Nat → Nat → Sec) : Prop where
  n : S.n = N
  size : ∀ d, d < N → S.size d = Z
  up : S.down = false
  calm : S.armed = 0
  well : ∀ d, d < N → d ≠ x → S.dead d = false ∧ S.failAt d = 0
  holds : ∀ d k, d < N → k < Z → S.dead d = false → S.newest d k = g d k
section
variable {N Z : Nat} {S : Bank} {x : Nat} {g g' : Nat → Nat → Sec}
end
/-! ### Whole lists of places -/
def wroteG : (Nat → Nat → Sec) → List (PlI × Sec) → Nat → Nat → Sec
  | g, [] => g
  | g, (p, s) :: l => wroteG (upd2 g (nI p.1) (nI p.2) s) l
/-- Their disks are all unlike. -/
def ApartS (l : List (PlI × Sec)) : Prop := (l.map fun q => nI q.1.1).Nodup
/-- How many of them are on the disk x. -/
def onD (x : Nat) : List (PlI × Sec) → Nat
  | [] => 0
  | q :: l => (if nI q.1.1 = x then 1 else 0) + onD x l
/-! ### Whole stripes -/
/-- What stands on the extent d of a stripe of these data. -/
def dataAt (n t d : Nat) (D : List Sec) : Sec := if d = strH n t then parS D else (D[placeN (strH n t) d]?).getD zeroSec
/-- The sectors of a stripe, extent by extent. -/
def colL (n t : Nat) (D : List Sec) : List Sec := (List.range n).map fun (d : Nat) => dataAt n t d D
/-! ### A whole stripe written -/
/-- What stands on the disks once the stripes below T are written, the extent of disk d from its sector d on. -/
def gridG (n : Nat) (D : Nat → List Sec) (T : Nat) : Nat → Nat → Sec := fun d k => if d ≤ k ∧ k - d < T then dataAt n (k - d) d (D (k - d)) else zeroSec
end Go.Proofs.YtmjjnbabfldbcaaGreat
namespace Go.Proofs.YtmjjnbabfldbcaaGreat
open Go.RowKit
set_option linter.unusedVariables false
section
variable {n x t j k : Nat} {S : Bank} {g : Nat → Nat → Sec} {D : Nat → List Sec}
/-- The place of the extent d in stripe t. -/
def rowPl (t d : Nat) : PlI := ((d : Int), idN d + (t : Int))
end
end Go.Proofs.YtmjjnbabfldbcaaGreat
namespace Go.Proofs.YtmjjnbabfldbcaaGreat
open Go.RowKit
set_option linter.unusedVariables false
/-- N disks of Z sectors of which those of dd have failed and no other will; each that lives holds g. -/
structure DedN (N Z : Nat) (S : Bank) (dd : Nat → Bool) (g : Nat → Nat → Sec) : Prop where
  n : S.n = N
  size : ∀ d, d < N → S.size d = Z
  up : S.down = false
  calm : S.armed = 0
  well : ∀ d, d < N → S.failAt d = 0
  dead : ∀ d, d < N → S.dead d = dd d
  holds : ∀ d k, d < N → k < Z → dd d = false → S.newest d k = g d k
section
variable {N Z n : Nat} {S : Bank} {dd : Nat → Bool} {g : Nat → Nat → Sec} {D : Nat → List Sec}
/-- How many of them are on lost disks. -/
def onDD (dd : Nat → Bool) : List (PlI × Sec) → Nat
  | [] => 0
  | q :: l => (if dd (nI q.1.1) then 1 else 0) + onDD dd l
end
end Go.Proofs.YtmjjnbabfldbcaaGreat
