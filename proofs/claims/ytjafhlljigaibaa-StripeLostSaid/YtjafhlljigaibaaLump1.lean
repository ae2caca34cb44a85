/- Texts of the proof laid one behind the other: StrP StrB StrL StrM StrN. -/
import Derived.Test.YtjafhlljigaibaaPure
import Derived.Test.YtjafhlljigaibaaNegP
import Derived.Test.YtjafhlljigaibaaMirP
import Derived.Test.YtjafhlljigaibaaParP
namespace Go.Proofs.Ytjafhlljigaibaa
open Go.RowKit
set_option linter.unusedVariables false
/-- A place, or an extent: its disk, its sector. -/
abbrev PlI := Int × Int
def plC (p : PlI) : List Value := [.int .i64 p.1, .int .i64 p.2]
def plsL (l : List PlI) : List Value := l.flatMap plC
theorem plsL_length : ∀ l : List PlI, (plsL l).length = l.length * 2
  | [] => rfl
  | p :: l => by
    have := plsL_length l
    unfold plsL at this ⊢
    rw [List.flatMap_cons, List.length_append, this, List.length_cons]
    show 2 + l.length * 2 = (l.length + 1) * 2
    omega
theorem plsL_append (l m : List PlI) : plsL (l ++ m) = plsL l ++ plsL m := by unfold plsL; rw [List.flatMap_append]
theorem plsL_at : ∀ {l : List PlI} {i : Nat} {p : PlI}, l[i]? = some p → (plsL l)[i * 2]? = some (.int .i64 p.1) ∧ (plsL l)[i * 2 + 1]? = some (.int .i64 p.2)
  | [], i, p, h => by simp at h
  | q :: l, 0, p, h => by
    have e : q = p := by simpa using h
    subst e
    exact ⟨rfl, rfl⟩
  | q :: l, i + 1, p, h => by
    have ih := plsL_at (l := l) (i := i) (p := p) (by simpa using h)
    have hc : ∀ j, (plsL (q :: l))[j + 2]? = (plsL l)[j]? := fun j => rfl
    rw [show (i + 1) * 2 = i * 2 + 2 by omega, show i * 2 + 2 + 1 = (i * 2 + 1) + 2 by omega, hc, hc]
    exact ih
theorem plsL_take : ∀ (l : List PlI) (k : Nat), (plsL l).take (k * 2) = plsL (l.take k)
  | l, 0 => by simp [plsL]
  | [], k + 1 => by simp [plsL]
  | q :: l, k + 1 => by
    have ih := plsL_take l k
    rw [List.take_succ_cons, show (k + 1) * 2 = k * 2 + 2 by omega]
    show (plC q ++ plsL l).take (k * 2 + 2) = plC q ++ plsL (l.take k)
    rw [List.take_append, List.take_of_length_le (by show 2 ≤ k * 2 + 2; omega), show (plC q).length = 2 from rfl, Nat.add_sub_cancel, ih]
/-- Is there a stripe t of n extents? -/
def strE (n : Nat) (t : Int) : Nat := if n < 2 then 1 else if t < 0 ∨ 8 ≤ t then 3 else 0
/-- Which extent has the parity. -/
def strH (n t : Nat) : Nat := n - 1 - t % n
theorem strH_lt {n t : Nat} (h : 0 < n) : strH n t < n := by unfold strH; omega
/-- The sectors of stripe t on some extents. -/
def strM (X : List PlI) (t : Nat) : List PlI := X.map fun p => (p.1, p.2 + (t : Int))
theorem strM_length (X : List PlI) (t : Nat) : (strM X t).length = X.length := List.length_map _
theorem strM_at {X : List PlI} {t k : Nat} {p : PlI} (h : X[k]? = some p) : (strM X t)[k]? = some (p.1, p.2 + (t : Int)) := by unfold strM; rw [List.getElem?_map, h]; rfl
/-- All but one of them. -/
def strO (X : List PlI) (k t : Nat) : List PlI := (strM X t).eraseIdx k
def strD (X : List PlI) (t : Nat) : List PlI := strO X (strH X.length t) t
def strP (X : List PlI) (t : Nat) : PlI := ((strM X t)[strH X.length t]?).getD (0, 0)
/-- The places of all slots. -/
def strA (X : List PlI) : Nat → List PlI
  | 0 => []
  | t + 1 => strA X t ++ strD X t
def slotsN (n : Nat) : Nat := 8 * (n - 1)
def homeE (n : Nat) (slot : Int) : Nat := if n < 2 then 1 else if slot < 0 ∨ (slotsN n : Int) ≤ slot then 3 else 0
def homeP (X : List PlI) (slot : Nat) : PlI := ((strD X (slot / (X.length - 1)))[slot % (X.length - 1)]?).getD (0, 0)
def matesP (X : List PlI) (slot : Nat) : List PlI := (strD X (slot / (X.length - 1))).eraseIdx (slot % (X.length - 1)) ++ [strP X (slot / (X.length - 1))]
section
variable {X : List PlI} {t k slot : Nat}
theorem strO_length (h : k < X.length) : (strO X k t).length = X.length - 1 := by
  unfold strO
  rw [List.length_eraseIdx, strM_length, if_pos h]
theorem strD_length (h : 2 ≤ X.length) : (strD X t).length = X.length - 1 := strO_length (strH_lt (by omega))
theorem strA_length (h : 2 ≤ X.length) : ∀ t, (strA X t).length = t * (X.length - 1)
  | 0 => by simp [strA]
  | t + 1 => by rw [strA, List.length_append, strA_length h t, strD_length h, Nat.succ_mul]
theorem strA_at (h : 2 ≤ X.length) : ∀ (t slot : Nat), slot < t * (X.length - 1) → (strA X t)[slot]? = some (homeP X slot)
  | 0, slot, hs => by omega
  | t + 1, slot, hs => by
    rw [strA]
    rcases Nat.lt_or_ge slot (t * (X.length - 1)) with hl | hl
    · rw [List.getElem?_append_left (by rw [strA_length h]; exact hl)]
      exact strA_at h t slot hl
    · rw [List.getElem?_append_right (by rw [strA_length h]; exact hl), strA_length h]
      have hm : slot - t * (X.length - 1) < X.length - 1 := by rw [Nat.succ_mul] at hs; omega
      have hd : slot / (X.length - 1) = t := by
        apply Nat.div_eq_of_lt_le
        · exact hl
        · exact hs
      have hr : slot % (X.length - 1) = slot - t * (X.length - 1) := by
        have := Nat.div_add_mod slot (X.length - 1)
        rw [hd, Nat.mul_comm] at this
        omega
      unfold homeP
      rw [hd, hr]
      have hlen : slot - t * (X.length - 1) < (strD X t).length := by rw [strD_length h]; exact hm
      rw [List.getElem?_eq_getElem hlen]
      rfl
theorem homeE_ok {n : Nat} {slot : Int} (h : homeE n slot = 0) : 2 ≤ n ∧ 0 ≤ slot ∧ slot < (slotsN n : Int) := by
  unfold homeE at h
  split at h
  · cases h
  · split at h
    · cases h
    · omega
theorem strE_ok {n : Nat} {t : Int} (h : strE n t = 0) : 2 ≤ n ∧ 0 ≤ t ∧ t < 8 := by
  unfold strE at h
  split at h
  · cases h
  · split at h
    · cases h
    · omega
theorem slot_div {n : Nat} {slot : Nat} (h : 2 ≤ n) (hs : slot < slotsN n) : slot / (n - 1) < 8 := by
  unfold slotsN at hs
  exact Nat.div_lt_of_lt_mul (by rw [Nat.mul_comm]; exact hs)
theorem strD_at (h : 2 ≤ X.length) (hs : slot < slotsN X.length) : (strD X (slot / (X.length - 1)))[slot % (X.length - 1)]? = some (homeP X slot) := by
  have hm : slot % (X.length - 1) < (strD X (slot / (X.length - 1))).length := by rw [strD_length h]; exact Nat.mod_lt _ (by omega)
  unfold homeP
  rw [List.getElem?_eq_getElem hm]
  rfl
theorem matesP_length (h : 2 ≤ X.length) : (matesP X slot).length = X.length - 1 := by
  have hm : slot % (X.length - 1) < (strD X (slot / (X.length - 1))).length := by rw [strD_length h]; exact Nat.mod_lt _ (by omega)
  unfold matesP
  rw [List.length_append, List.length_eraseIdx, if_pos hm, strD_length h]
  show X.length - 1 - 1 + 1 = _
  omega
theorem strP_at (h : 2 ≤ X.length) : (strM X t)[strH X.length t]? = some (strP X t) := by
  have hm : strH X.length t < (strM X t).length := by rw [strM_length]; exact strH_lt (by omega)
  unfold strP
  rw [List.getElem?_eq_getElem hm]
  rfl
end
/-! ### Which extent a slot is on -/
/-- The j-th of all numbers but k. -/
def skipN (k j : Nat) : Nat := if j < k then j else j + 1
theorem skip_ne (k j : Nat) : skipN k j ≠ k := by unfold skipN; split <;> omega
theorem skip_lt {k j n : Nat} (hj : j < n - 1) : skipN k j < n := by unfold skipN; split <;> omega
theorem skip_inj {k j j' : Nat} (h : skipN k j = skipN k j') : j = j' := by unfold skipN at h; split at h <;> split at h <;> omega
/-- The number's place among all but k. -/
def placeN (k d : Nat) : Nat := if d < k then d else d - 1
theorem place_skip {k j : Nat} : placeN k (skipN k j) = j := by
  unfold skipN
  split
  · rename_i h; unfold placeN; rw [if_pos h]
  · rename_i h; unfold placeN; rw [if_neg (by omega)]; omega
theorem skip_place {k d : Nat} (h : d ≠ k) : skipN k (placeN k d) = d := by
  unfold placeN
  split
  · rename_i h; unfold skipN; rw [if_pos h]
  · rename_i h; unfold skipN; rw [if_neg (by omega)]; omega
theorem placeN_lt {k d n : Nat} (hd : d < n) (hk : k < n) (h : d ≠ k) : placeN k d < n - 1 := by unfold placeN; split <;> omega
theorem strO_at {X : List PlI} {k t j : Nat} {p : PlI} (h : X[skipN k j]? = some p) : (strO X k t)[j]? = some (p.1, p.2 + (t : Int)) := by
  unfold strO
  rw [List.getElem?_eraseIdx]
  unfold skipN at h
  split
  · rename_i hl
    rw [if_pos hl] at h
    exact strM_at h
  · rename_i hl
    rw [if_neg hl] at h
    exact strM_at h
theorem homeP_at {X : List PlI} {slot : Nat} {p : PlI} (h : X[skipN (strH X.length (slot / (X.length - 1))) (slot % (X.length - 1))]? = some p) : homeP X slot = (p.1, p.2 + ((slot / (X.length - 1) : Nat) : Int)) := by
  unfold homeP strD
  rw [strO_at h]
  rfl
theorem strP_is {X : List PlI} {t : Nat} {p : PlI} (h : X[strH X.length t]? = some p) : strP X t = (p.1, p.2 + (t : Int)) := by
  unfold strP
  rw [strM_at h]
  rfl
def idN : Nat → Int := fun i => (i : Int)
/-- The extents of a row: the i-th on the disk i, at the sector f i. -/
def rowX (f : Nat → Int) (n : Nat) : List PlI := (List.range n).map fun (i : Nat) => (((i : Nat) : Int), f i)
theorem rowX_length (f : Nat → Int) (n : Nat) : (rowX f n).length = n := by unfold rowX; simp
theorem rowX_at (f : Nat → Int) {n i : Nat} (h : i < n) : (rowX f n)[i]? = some ((i : Int), f i) := by unfold rowX; simp [h]
theorem rowX_succ (f : Nat → Int) (n : Nat) : rowX f (n + 1) = rowX f n ++ [((n : Int), f n)] := by unfold rowX; rw [List.range_succ, List.map_append]; rfl
theorem row_home (f : Nat → Int) {n slot : Nat} (hn : 2 ≤ n) : homeP (rowX f n) slot = (((skipN (strH n (slot / (n - 1))) (slot % (n - 1)) : Nat) : Int), f (skipN (strH n (slot / (n - 1))) (slot % (n - 1))) + ((slot / (n - 1) : Nat) : Int)) := by
  have h := homeP_at (X := rowX f n) (slot := slot) (p := (((skipN (strH n (slot / (n - 1))) (slot % (n - 1)) : Nat) : Int), f (skipN (strH n (slot / (n - 1))) (slot % (n - 1)))))
  rw [rowX_length] at h
  exact h (rowX_at f (skip_lt (Nat.mod_lt _ (by omega))))
theorem row_par (f : Nat → Int) {n t : Nat} (hn : 2 ≤ n) : strP (rowX f n) t = (((strH n t : Nat) : Int), f (strH n t) + (t : Int)) := by
  have h := strP_is (X := rowX f n) (t := t) (p := (((strH n t : Nat) : Int), f (strH n t)))
  rw [rowX_length] at h
  exact h (rowX_at f (strH_lt (by omega)))
/-- Which slot stands on the extent d in stripe t. -/
def slotAt (n t d : Nat) : Nat := t * (n - 1) + placeN (strH n t) d
theorem slotAt_div {n t d : Nat} (hn : 2 ≤ n) (hd : d < n) (h : d ≠ strH n t) : slotAt n t d / (n - 1) = t ∧ slotAt n t d % (n - 1) = placeN (strH n t) d := by
  have hp := placeN_lt hd (strH_lt (t := t) (by omega : 0 < n)) h
  unfold slotAt
  constructor
  · rw [Nat.mul_comm, Nat.mul_add_div (by omega), Nat.div_eq_of_lt hp]; omega
  · rw [Nat.mul_comm, Nat.mul_add_mod, Nat.mod_eq_of_lt hp]
theorem slotAt_slot {n slot : Nat} (hn : 2 ≤ n) : slotAt n (slot / (n - 1)) (skipN (strH n (slot / (n - 1))) (slot % (n - 1))) = slot := by
  unfold slotAt
  rw [place_skip, Nat.mul_comm]
  exact Nat.div_add_mod slot (n - 1)
/-- How many of the first k stripes have their parity on the extent d. -/
def parsN (n k d : Nat) : Nat := ((List.range k).filter fun t => strH n t == d).length
theorem parsN_succ (n k d : Nat) : parsN n (k + 1) d = parsN n k d + if strH n k = d then 1 else 0 := by
  unfold parsN
  rw [List.range_succ, List.filter_append, List.length_append]
  by_cases h : strH n k = d
  · rw [if_pos h, List.filter_cons_of_pos (by simpa using h)]; rfl
  · rw [if_neg h, List.filter_cons_of_neg (by simpa using h)]; rfl
theorem pars_spread : ∀ n, 2 ≤ n → n ≤ 12 → ∀ d, d < n → ∀ d', d' < n → parsN n 8 d ≤ parsN n 8 d' + 1 := by
  intro n h2 h12
  have h : ∀ m, m < 11 → ∀ d, d < m + 2 → ∀ d', d' < m + 2 → parsN (m + 2) 8 d ≤ parsN (m + 2) 8 d' + 1 := by decide
  intro d hd d' hd'
  have := h (n - 2) (by omega) d (by omega) d' (by omega)
  rwa [show n - 2 + 2 = n by omega] at this
end Go.Proofs.Ytjafhlljigaibaa
namespace Go.Proofs.Ytjafhlljigaibaa
open Go.RowKit
set_option linter.unusedVariables false
/-- Sectors as rows of bytes. -/
def rawS (l : List Sec) : List (List UInt8) := l.map (·.1)
theorem rawS_secs (l : List Sec) : Secs (rawS l) := fun s hs => by
  obtain ⟨x, _, rfl⟩ := List.mem_map.1 hs
  exact x.2
theorem rawS_length (l : List Sec) : (rawS l).length = l.length := List.length_map _
theorem rawS_append (l m : List Sec) : rawS (l ++ m) = rawS l ++ rawS m := List.map_append
theorem rawS_at {l : List Sec} {i : Nat} {s : Sec} (h : l[i]? = some s) : (rawS l)[i]? = some s.1 := by unfold rawS; rw [List.getElem?_map, h]; rfl
theorem rawS_inj {l m : List Sec} (h : rawS l = rawS m) : l = m := by
  induction l generalizing m with
  | nil => cases m with | nil => rfl | cons => cases h
  | cons x l ih =>
    cases m with
    | nil => cases h
    | cons y m =>
      injection h with h1 h2
      rw [Subtype.ext h1, ih h2]
/-- The parity of some sectors. -/
def parS (l : List Sec) : Sec := ⟨parOf (rawS l), par_length (rawS_secs l)⟩
/-- What stands where another sector is to stand. -/
def plugS (old was s : Sec) : Sec := ⟨xorL (xorL old.1 was.1) s.1, xorL_length (xorL_length old.2 was.2) s.2⟩
def Bank.placeP (S : Bank) (p : PlI) : Nat := S.place (nI p.1) (nI p.2)
def Bank.readP (S : Bank) (p : PlI) : Sec := S.readS (nI p.1) (nI p.2)
def Bank.writeP (S : Bank) (p : PlI) (s : Sec) : Nat × Bank := S.write (nI p.1) (nI p.2) s
/-- The first error that is not of a lost place; else 0. -/
def Bank.badP (S : Bank) : List PlI → Nat
  | [] => 0
  | p :: l => if S.placeP p = 0 ∨ lostB (S.placeP p) = true then S.badP l else S.placeP p
/-- How many are lost. -/
def Bank.goneP (S : Bank) : List PlI → Nat
  | [] => 0
  | p :: l => (if S.placeP p = 0 then 0 else 1) + S.goneP l
/-- What is read of those that are not. -/
def Bank.hasP (S : Bank) : List PlI → List Sec
  | [] => []
  | p :: l => if S.placeP p = 0 then S.readP p :: S.hasP l else S.hasP l
/-- What comes of reading them all. -/
def Bank.gatherE (S : Bank) (l : List PlI) : Nat := if S.badP l = 0 then (if S.goneP l = 0 then 0 else 5) else S.badP l
section
variable {S : Bank} {l : List PlI} {p : PlI}
theorem bad_snoc (h : S.badP l = 0) : S.badP (l ++ [p]) = if S.placeP p = 0 ∨ lostB (S.placeP p) = true then 0 else S.placeP p := by
  induction l with
  | nil => rfl
  | cons q l ih =>
    unfold Bank.badP at h
    split at h
    · rename_i hq
      rw [List.cons_append, Bank.badP, if_pos hq]
      exact ih h
    · rename_i hq
      exact absurd (.inl h) hq
theorem bad_more (m : List PlI) (h : S.badP l ≠ 0) : S.badP (l ++ m) = S.badP l := by
  induction l with
  | nil => exact absurd rfl h
  | cons q l ih =>
    rw [List.cons_append, Bank.badP, Bank.badP]
    split
    · rename_i hq
      rw [Bank.badP, if_pos hq] at h
      exact ih h
    · rfl
theorem gone_snoc : ∀ l : List PlI, S.goneP (l ++ [p]) = S.goneP l + if S.placeP p = 0 then 0 else 1
  | [] => by rw [List.nil_append, Bank.goneP]; show _ + 0 = 0 + _; omega
  | q :: l => by rw [List.cons_append, Bank.goneP, Bank.goneP, gone_snoc l]; omega
theorem has_snoc : ∀ l : List PlI, S.hasP (l ++ [p]) = S.hasP l ++ if S.placeP p = 0 then [S.readP p] else []
  | [] => by rw [List.nil_append, Bank.hasP, Bank.hasP]; split <;> rfl
  | q :: l => by
    rw [List.cons_append, Bank.hasP, Bank.hasP, has_snoc l]
    split
    · rw [List.cons_append]
    · rfl
theorem gone_le : ∀ l : List PlI, S.goneP l ≤ l.length
  | [] => Nat.le_refl _
  | q :: l => by
    have := gone_le l
    rw [Bank.goneP, List.length_cons]
    split <;> omega
theorem has_le : ∀ l : List PlI, (S.hasP l).length ≤ l.length
  | [] => Nat.le_refl _
  | q :: l => by
    have := has_le l
    rw [Bank.hasP]
    split
    · rw [List.length_cons, List.length_cons]; omega
    · rw [List.length_cons]; omega
theorem has_all : ∀ {l : List PlI}, S.goneP l = 0 → S.hasP l = l.map S.readP
  | [], _ => rfl
  | q :: l, h => by
    rw [Bank.goneP] at h
    have h0 : S.placeP q = 0 := by
      rcases Nat.decEq (S.placeP q) 0 with h1 | h1
      · rw [if_neg h1] at h; omega
      · exact h1
    rw [Bank.hasP, if_pos h0, has_all (l := l) (by omega)]
    rfl
end
/-- Sectors written at places, one behind the other: what ends it, how many were lost, and what is behind it. -/
def Bank.wallP (S : Bank) : List (PlI × Sec) → Nat × Nat × Bank
  | [] => (0, 0, S)
  | (p, s) :: l =>
    let a := S.writeP p s
    if a.1 = 0 ∨ lostB a.1 = true then
      let r := a.2.wallP l
      (r.1, (if a.1 = 0 then 0 else 1) + r.2.1, r.2.2)
    else (a.1, 0, a.2)
theorem wall_snoc {p : PlI} {s : Sec} : ∀ (l : List (PlI × Sec)) (S : Bank), (S.wallP l).1 = 0 → S.wallP (l ++ [(p, s)]) =
    (let a := (S.wallP l).2.2.writeP p s
     if a.1 = 0 ∨ lostB a.1 = true then (0, (S.wallP l).2.1 + (if a.1 = 0 then 0 else 1), a.2) else (a.1, (S.wallP l).2.1, a.2))
  | [], S, _ => by
    rw [List.nil_append, Bank.wallP]
    show (if _ then _ else _) = _
    split
    · rename_i h
      simp only [Bank.wallP, if_pos h, Nat.zero_add, Nat.add_zero]
    · rename_i h
      simp only [if_neg h]
  | (q, t) :: l, S, h => by
    rw [Bank.wallP] at h
    simp only at h
    split at h
    · rename_i hq
      have ih := wall_snoc (p := p) (s := s) l (S.writeP q t).2 h
      rw [List.cons_append, Bank.wallP, Bank.wallP]
      simp only [if_pos hq, ih]
      split <;> simp only [Nat.add_assoc]
    · rename_i hq
      exact absurd (.inl h) hq
theorem wall_more (m : List (PlI × Sec)) : ∀ (l : List (PlI × Sec)) (S : Bank), (S.wallP l).1 ≠ 0 → S.wallP (l ++ m) = S.wallP l
  | [], S, h => absurd rfl h
  | (q, t) :: l, S, h => by
    rw [Bank.wallP] at h
    simp only at h
    rw [List.cons_append, Bank.wallP, Bank.wallP]
    simp only
    split
    · rename_i hq
      rw [if_pos hq] at h
      rw [wall_more m l _ h]
    · rfl
/-! ### The calls -/
def Bank.sread (S : Bank) (X : List PlI) (slot : Int) : Sec × Nat :=
  if homeE X.length slot = 0 then
    let p := homeP X slot.toNat
    if lostB (S.placeP p) = true then
      let m := matesP X slot.toNat
      if S.gatherE m = 0 then (parS (m.map S.readP), 0) else (zeroSec, S.gatherE m)
    else (S.readP p, S.placeP p)
  else (zeroSec, homeE X.length slot)
def rebuiltE (n : Nat) (k t : Int) : Nat := if n < 2 ∨ k < 0 ∨ (n : Int) ≤ k then 1 else if t < 0 ∨ 8 ≤ t then 3 else 0
def Bank.srebuilt (S : Bank) (X : List PlI) (k t : Int) : Sec × Nat :=
  if rebuiltE X.length k t = 0 then
    let m := strO X k.toNat t.toNat
    if S.gatherE m = 0 then (parS (m.map S.readP), 0) else (zeroSec, S.gatherE m)
  else (zeroSec, rebuiltE X.length k t)
/-- What is written of a whole stripe, and where. -/
def fullL (X : List PlI) (t : Nat) (data : List Sec) : List (PlI × Sec) := (strD X t).zip data ++ [(strP X t, parS data)]
def fullE (n m : Nat) (t : Int) : Nat := if n < 2 ∨ m ≠ n - 1 then 1 else if t < 0 ∨ 8 ≤ t then 3 else 0
def Bank.sfull (S : Bank) (X : List PlI) (t : Int) (data : List Sec) : Nat × Bank :=
  if fullE X.length data.length t = 0 then
    let r := S.wallP (fullL X t.toNat data)
    (if r.1 = 0 then (if 1 < r.2.1 then 5 else 0) else r.1, r.2.2)
  else (fullE X.length data.length t, S)
def Bank.splug (S : Bank) (X : List PlI) (slot : Int) (s : Sec) : Sec × Nat :=
  if homeE X.length slot = 0 then
    let p := homeP X slot.toNat
    let q := strP X (slot.toNat / (X.length - 1))
    if S.placeP p = 0 ∨ lostB (S.placeP p) = true then
      if S.placeP q = 0 ∨ lostB (S.placeP q) = true then
        if S.placeP p = 0 ∧ S.placeP q = 0 then (plugS (S.readP p) (S.readP q) s, 0)
        else
          let m := (strD X (slot.toNat / (X.length - 1))).eraseIdx (slot.toNat % (X.length - 1))
          if S.gatherE m = 0 then (parS (m.map S.readP ++ [s]), 0) else (zeroSec, S.gatherE m)
      else (zeroSec, S.placeP q)
    else (zeroSec, S.placeP p)
  else (zeroSec, homeE X.length slot)
#print axioms wall_snoc
end Go.Proofs.Ytjafhlljigaibaa
namespace Go.Proofs.Ytjafhlljigaibaa
open Go.RowKit
set_option linter.unusedVariables false
/-- N disks of Z sectors; but for disk x none has failed or will; each that lives holds g. -/
structure LivN (N Z : Nat) (S : Bank) (x : Nat) (g : Nat → Nat → Sec) : Prop where
  n : S.n = N
  size : ∀ d, d < N → S.size d = Z
  up : S.down = false
  calm : S.armed = 0
  well : ∀ d, d < N → d ≠ x → S.dead d = false ∧ S.failAt d = 0
  holds : ∀ d k, d < N → k < Z → S.dead d = false → S.newest d k = g d k
section
variable {N Z : Nat} {S : Bank} {x : Nat} {g g' : Nat → Nat → Sec}
theorem LivN.place (h : LivN N Z S x g) {d k : Nat} (hd : d < N) (hk : k < Z) : S.place d k = if S.dead d then 7 else 0 := by
  unfold Bank.place Bank.may
  have hn : ¬ S.n ≤ d := by have := h.n; omega
  rw [if_neg hn, h.up, h.size d hd]
  cases S.dead d <;> simp [hk]
theorem LivN.write (h : LivN N Z S x g) {d k : Nat} (hd : d < N) (hk : k < Z) (s : Sec) :
    LivN N Z (S.write d k s).2 x (upd2 g d k s) ∧ ((S.write d k s).1 = 0 ∨ ((S.write d k s).1 = 7 ∧ d = x)) ∧ (S.write d k s).2.writes = S.writes + 1 := by
  obtain ⟨h1, h2, h3, h4, h5, _⟩ := tick_more_keeps S.wrote S.n
  have hT : LivN N Z S.ticked x g := by
    refine ⟨h1.trans h.n, fun d hd => ?_, h3.trans h.up, h4.trans h.calm, fun d hd hx => ?_, fun d k hd hk hl => ?_⟩
    · show (S.wrote.tick S.n).size d = Z
      rw [h2]; exact h.size d hd
    · obtain ⟨a1, a2⟩ := h.well d hd hx
      obtain ⟨b1, b2, _⟩ := tick_live S.wrote S.n d a2
      exact ⟨b2.trans a1, b1⟩
    · obtain ⟨a1, a2⟩ := tick_alive S.wrote S.n d hl
      show (S.wrote.tick S.n).newest d k = _
      rw [a2]
      exact h.holds d k hd hk a1
  have hw : S.ticked.writes = S.writes + 1 := h5
  have hp := hT.place hd hk
  unfold Bank.write
  rw [count_calm h.up h.calm]
  simp only [Bool.false_eq_true, if_false]
  cases hl : S.ticked.dead d with
  | true =>
    rw [hl, if_pos rfl] at hp
    rw [hp, if_neg (by decide)]
    have hx : d = x := by
      by_cases hx : d = x
      · exact hx
      · have := (hT.well d hd hx).1
        rw [hl] at this
        cases this
    refine ⟨⟨hT.n, hT.size, hT.up, hT.calm, hT.well, fun d' k' hd' hk' hl' => ?_⟩, .inr ⟨rfl, hx⟩, hw⟩
    rw [upd2_ne _ _ (fun e => by rw [e.1, hl] at hl'; cases hl')]
    exact hT.holds d' k' hd' hk' hl'
  | false =>
    rw [hl, if_neg (by decide)] at hp
    rw [if_pos hp]
    refine ⟨⟨hT.n, hT.size, hT.up, hT.calm, hT.well, fun d' k' hd' hk' hl' => ?_⟩, .inl rfl, hw⟩
    show upd2 S.ticked.newest d k s d' k' = upd2 g d k s d' k'
    by_cases e : d' = d ∧ k' = k
    · rw [e.1, e.2, upd2_self, upd2_self]
    · rw [upd2_ne _ _ e, upd2_ne _ _ e]
      exact hT.holds d' k' hd' hk' hl'
theorem LivN.congr (h : LivN N Z S x g) (he : ∀ d k, d < N → k < Z → g d k = g' d k) : LivN N Z S x g' :=
  { h with holds := fun d k hd hk hl => (h.holds d k hd hk hl).trans (he d k hd hk) }
theorem LivN.read (h : LivN N Z S x g) {d k : Nat} (hd : d < N) (hk : k < Z) (hl : S.dead d = false) : S.readS d k = g d k := by
  have hp := h.place hd hk
  rw [hl, if_neg (by decide)] at hp
  unfold Bank.readS
  rw [if_pos hp, h.holds d k hd hk hl]
theorem LivN.other (h : LivN N Z S x g) {d d' : Nat} (hd : d < N) (hd' : d' < N) (hne : d' ≠ d) (hl : S.dead d = true) : S.dead d' = false := by
  by_cases hx : d = x
  · exact (h.well d' hd' (fun e => hne (e.trans hx.symm))).1
  · have := (h.well d hd hx).1
    rw [hl] at this
    cases this
end
/-! ### Whole lists of places -/
def wroteG : (Nat → Nat → Sec) → List (PlI × Sec) → Nat → Nat → Sec
  | g, [] => g
  | g, (p, s) :: l => wroteG (upd2 g (nI p.1) (nI p.2) s) l
theorem wrote_out {d k : Nat} : ∀ (l : List (PlI × Sec)) (g : Nat → Nat → Sec), (∀ q ∈ l, ¬ (nI q.1.1 = d ∧ nI q.1.2 = k)) → wroteG g l d k = g d k
  | [], g, _ => rfl
  | (p, s) :: l, g, h => by
    rw [wroteG, wrote_out l _ (fun q hq => h q (List.mem_cons_of_mem _ hq)), upd2_ne]
    intro e
    exact h (p, s) (List.mem_cons_self ..) ⟨e.1.symm, e.2.symm⟩
/-- Their disks are all unlike. -/
def ApartS (l : List (PlI × Sec)) : Prop := (l.map fun q => nI q.1.1).Nodup
theorem ApartS.tail {q : PlI × Sec} {l : List (PlI × Sec)} (h : ApartS (q :: l)) : ApartS l := (List.nodup_cons.1 h).2
theorem ApartS.ne {q r : PlI × Sec} {l : List (PlI × Sec)} (h : ApartS (q :: l)) (hr : r ∈ l) : nI r.1.1 ≠ nI q.1.1 := fun e => (List.nodup_cons.1 h).1 (List.mem_map.2 ⟨r, hr, e⟩)
theorem wrote_in : ∀ (l : List (PlI × Sec)) (g : Nat → Nat → Sec), ApartS l → ∀ q ∈ l, wroteG g l (nI q.1.1) (nI q.1.2) = q.2
  | [], g, _, q, hq => by cases hq
  | (p, s) :: l, g, h, q, hq => by
    rw [wroteG]
    rcases List.mem_cons.1 hq with e | hm
    · subst e
      rw [wrote_out l _ (fun r hr e => h.ne hr e.1), upd2_self]
    · exact wrote_in l _ h.tail q hm
/-- How many of them are on the disk x. -/
def onD (x : Nat) : List (PlI × Sec) → Nat
  | [] => 0
  | q :: l => (if nI q.1.1 = x then 1 else 0) + onD x l
theorem on_none {x : Nat} : ∀ (l : List (PlI × Sec)), (∀ q ∈ l, nI q.1.1 ≠ x) → onD x l = 0
  | [], _ => rfl
  | q :: l, h => by rw [onD, if_neg (h q (List.mem_cons_self ..)), on_none l (fun r hr => h r (List.mem_cons_of_mem _ hr))]
theorem on_one {x : Nat} : ∀ (l : List (PlI × Sec)), ApartS l → onD x l ≤ 1
  | [], _ => Nat.zero_le _
  | q :: l, h => by
    rw [onD]
    split
    · rename_i e
      rw [on_none l (fun r hr e2 => h.ne hr (e2.trans e.symm))]
      exact Nat.le_refl _
    · have := on_one (x := x) l h.tail
      omega
theorem LivN.wall {N Z x : Nat} : ∀ (l : List (PlI × Sec)) {S : Bank} {g : Nat → Nat → Sec}, LivN N Z S x g → (∀ q ∈ l, nI q.1.1 < N ∧ nI q.1.2 < Z) →
    (S.wallP l).1 = 0 ∧ (S.wallP l).2.1 ≤ onD x l ∧ LivN N Z (S.wallP l).2.2 x (wroteG g l) ∧ (S.wallP l).2.2.writes = S.writes + l.length
  | [], S, g, h, _ => ⟨rfl, Nat.le_refl _, h, rfl⟩
  | (p, s) :: l, S, g, h, hq => by
    obtain ⟨hp1, hp2⟩ := hq (p, s) (List.mem_cons_self ..)
    obtain ⟨a1, a2, a3⟩ := h.write hp1 hp2 s
    obtain ⟨b1, b2, b3, b4⟩ := LivN.wall l a1 (fun q hm => hq q (List.mem_cons_of_mem _ hm))
    have e1 : (S.writeP p s).1 = 0 ∨ lostB (S.writeP p s).1 = true := a2.imp id (fun e => by show lostB (S.write _ _ s).1 = true; rw [e.1]; rfl)
    rw [Bank.wallP]
    simp only [if_pos e1]
    refine ⟨b1, ?_, b3, ?_⟩
    · rw [onD]
      refine Nat.add_le_add ?_ b2
      have a2' : (S.writeP p s).1 = 0 ∨ ((S.writeP p s).1 = 7 ∧ nI p.1 = x) := a2
      rcases a2' with a2' | ⟨_, a4⟩
      · rw [if_pos a2']; exact Nat.zero_le _
      · rw [if_pos a4]; split <;> omega
    · show ((S.write _ _ s).2.wallP l).2.2.writes = _
      rw [b4, a3, List.length_cons]
      omega
/-! ### Whole stripes -/
/-- What stands on the extent d of a stripe of these data. -/
def dataAt (n t d : Nat) (D : List Sec) : Sec := if d = strH n t then parS D else (D[placeN (strH n t) d]?).getD zeroSec
theorem dataAt_par (n t : Nat) (D : List Sec) : dataAt n t (strH n t) D = parS D := if_pos rfl
theorem dataAt_skip {n t j : Nat} {D : List Sec} {s : Sec} (h : D[j]? = some s) : dataAt n t (skipN (strH n t) j) D = s := by
  unfold dataAt
  rw [if_neg (skip_ne _ _), place_skip, h]
  rfl
/-- The sectors of a stripe, extent by extent. -/
def colL (n t : Nat) (D : List Sec) : List Sec := (List.range n).map fun (d : Nat) => dataAt n t d D
theorem colL_length (n t : Nat) (D : List Sec) : (colL n t D).length = n := by unfold colL; simp
theorem colL_at (n t : Nat) (D : List Sec) {d : Nat} (h : d < n) : (colL n t D)[d]? = some (dataAt n t d D) := by unfold colL; simp [h]
theorem colL_is (n t : Nat) {D : List Sec} (hn : 2 ≤ n) (hD : D.length = n - 1) : colL n t D = D.take (strH n t) ++ parS D :: D.drop (strH n t) := by
  have hh := strH_lt (t := t) (by omega : 0 < n)
  have hl : (D.take (strH n t)).length = strH n t := by rw [List.length_take]; omega
  apply List.ext_getElem?
  intro i
  rcases Nat.lt_or_ge i n with hi | hi
  · rw [colL_at n t D hi, List.getElem?_append, hl]
    unfold dataAt placeN
    split
    · rename_i e
      rw [if_neg (by omega), e, Nat.sub_self]
      rfl
    · rename_i e
      split
      · rename_i e2
        rw [List.getElem?_take, if_pos e2, List.getElem?_eq_getElem (by omega)]
        rfl
      · rename_i e2
        rw [show i - strH n t = (i - strH n t - 1) + 1 by omega, List.getElem?_cons_succ, List.getElem?_drop, show strH n t + (i - strH n t - 1) = i - 1 by omega, List.getElem?_eq_getElem (by omega)]
        rfl
  · rw [List.getElem?_eq_none (by rw [colL_length]; exact hi), List.getElem?_eq_none (by simp; omega)]
theorem par_rot {l m : List (List UInt8)} (hl : Secs l) (hm : Secs m) : parOf (l ++ parOf (l ++ m) :: m) = zeroL := by
  have hp := par_length (hl.append hm)
  have hpm : Secs (parOf (l ++ m) :: m) := fun s hs => by
    rcases List.mem_cons.1 hs with e | e
    · rw [e]; exact hp
    · exact hm s e
  rw [par_append hl hpm, par_cons hpm, par_append hl hm, xorL_back (par_length hl) (par_length hm), xorL_same (par_length hl)]
/-- The sectors of a stripe have no parity. -/
theorem colL_zero (n t : Nat) {D : List Sec} (hn : 2 ≤ n) (hD : D.length = n - 1) : parOf (rawS (colL n t D)) = zeroL := by
  rw [colL_is n t hn hD, rawS_append]
  have h := par_rot (rawS_secs (D.take (strH n t))) (rawS_secs (D.drop (strH n t)))
  rw [← rawS_append, List.take_append_drop] at h
  exact h
theorem raw_erase (l : List Sec) (k : Nat) : parOf (rawS (l.eraseIdx k)) = rebOf (rawS l) k := by
  unfold rebOf
  rw [List.eraseIdx_eq_take_drop_succ, rawS_append]
  unfold rawS
  rw [List.map_take, List.map_drop]
/-- Each of them is the parity of the others. -/
theorem colL_back (n t : Nat) {D : List Sec} (hn : 2 ≤ n) (hD : D.length = n - 1) {d : Nat} (hd : d < n) : parS ((colL n t D).eraseIdx d) = dataAt n t d D := by
  apply Subtype.ext
  show parOf (rawS ((colL n t D).eraseIdx d)) = _
  rw [raw_erase, reb_is (rawS_secs _) (rawS_at (colL_at n t D hd)), colL_zero n t hn hD, zero_xorL (dataAt n t d D).2]
theorem data_back {D : List Sec} {j : Nat} {s : Sec} (h : D[j]? = some s) : parS (D.eraseIdx j ++ [parS D]) = s := by
  apply Subtype.ext
  show parOf (rawS (D.eraseIdx j ++ [parS D])) = s.1
  rw [rawS_append, show rawS [parS D] = [parOf (rawS D)] from rfl, par_snoc (rawS_secs _) (par_length (rawS_secs _)), raw_erase, reb_is (rawS_secs _) (rawS_at h), xorL_comm (parOf (rawS D)) s.1, xorL_back s.2 (par_length (rawS_secs _))]
theorem data_plug {D : List Sec} {j : Nat} {s0 : Sec} (h : D[j]? = some s0) (s : Sec) : parS (D.eraseIdx j ++ [s]) = parS (D.set j s) := by
  have hlt := (List.getElem?_eq_some_iff.1 h).1
  apply Subtype.ext
  show parOf (rawS (D.eraseIdx j ++ [s])) = parOf (rawS (D.set j s))
  rw [rawS_append, show rawS [s] = [s.1] from rfl, par_snoc (rawS_secs _) s.2, raw_erase, par_reb (rawS_secs (D.set j s)) (rawS_at (i := j) (s := s) (by rw [List.getElem?_set_self hlt])), xorL_comm]
  congr 1
  unfold rawS
  rw [List.map_set, reb_set]
theorem data_plug2 {D : List Sec} {j : Nat} {s0 : Sec} (h : D[j]? = some s0) (s : Sec) : plugS s0 (parS D) s = parS (D.set j s) := by
  apply Subtype.ext
  show xorL (xorL s0.1 (parOf (rawS D))) s.1 = parOf (rawS (D.set j s))
  unfold rawS
  rw [List.map_set]
  exact (par_set (rawS_secs D) (rawS_at h) s.2).symm
/-! ### A whole stripe written -/
theorem rowX_get (f : Nat → Int) (n : Nat) : ∀ i, (rowX f n)[i]? = if i < n then some ((i : Int), f i) else none := fun i => by
  split
  · rename_i h; exact rowX_at f h
  · rename_i h; exact List.getElem?_eq_none (by rw [rowX_length]; omega)
theorem row_data (f : Nat → Int) {n : Nat} (t : Nat) (hn : 2 ≤ n) : strD (rowX f n) t = (List.range (n - 1)).map fun (j : Nat) => (((skipN (strH n t) j : Nat) : Int), f (skipN (strH n t) j) + (t : Int)) := by
  apply List.ext_getElem?
  intro j
  have hl : (strD (rowX f n) t).length = n - 1 := by rw [strD_length (by rw [rowX_length]; exact hn), rowX_length]
  rcases Nat.lt_or_ge j (n - 1) with hj | hj
  · rw [List.getElem?_map, List.getElem?_range hj]
    unfold strD
    rw [rowX_length]
    exact strO_at (rowX_at f (skip_lt hj))
  · rw [List.getElem?_eq_none (by rw [hl]; exact hj), List.getElem?_eq_none (by simp; omega)]
theorem full_is (f : Nat → Int) {n t : Nat} {D : List Sec} (hn : 2 ≤ n) (hD : D.length = n - 1) :
    fullL (rowX f n) t D = ((List.range (n - 1)).map fun (j : Nat) => ((((skipN (strH n t) j : Nat) : Int), f (skipN (strH n t) j) + (t : Int)), dataAt n t (skipN (strH n t) j) D)) ++ [((((strH n t : Nat) : Int), f (strH n t) + (t : Int)), dataAt n t (strH n t) D)] := by
  unfold fullL
  rw [row_data f t hn, row_par f hn, dataAt_par]
  congr 1
  apply List.ext_getElem?
  intro j
  rcases Nat.lt_or_ge j (n - 1) with hj | hj
  · have hDj : j < D.length := by omega
    have h1 : ((List.range (n - 1)).map fun (j : Nat) => (((skipN (strH n t) j : Nat) : Int), f (skipN (strH n t) j) + (t : Int)))[j]? = some (((skipN (strH n t) j : Nat) : Int), f (skipN (strH n t) j) + (t : Int)) := by
      rw [List.getElem?_map, List.getElem?_range hj]; rfl
    rw [(List.getElem?_zip_eq_some (z := ((((skipN (strH n t) j : Nat) : Int), f (skipN (strH n t) j) + (t : Int)), D[j]))).2 ⟨h1, List.getElem?_eq_getElem hDj⟩, List.getElem?_map, List.getElem?_range hj, Option.map_some, dataAt_skip (List.getElem?_eq_getElem hDj)]
  · rw [List.getElem?_eq_none (by simp; omega), List.getElem?_eq_none (by simp; omega)]
theorem full_mem (f : Nat → Int) {n t : Nat} {D : List Sec} (hn : 2 ≤ n) (hD : D.length = n - 1) (q : PlI × Sec) : q ∈ fullL (rowX f n) t D ↔ ∃ d, d < n ∧ q = (((d : Int), f d + (t : Int)), dataAt n t d D) := by
  rw [full_is f hn hD, List.mem_append, List.mem_map]
  constructor
  · rintro (⟨j, hj, e⟩ | h)
    · exact ⟨_, skip_lt (List.mem_range.1 hj), e.symm⟩
    · exact ⟨_, strH_lt (by omega), List.mem_singleton.1 h⟩
  · rintro ⟨d, hd, e⟩
    by_cases h : d = strH n t
    · right; rw [e, h]; exact List.mem_singleton.2 rfl
    · left
      exact ⟨placeN (strH n t) d, List.mem_range.2 (placeN_lt hd (strH_lt (by omega)) h), by rw [e, skip_place h]⟩
theorem full_apart (f : Nat → Int) {n t : Nat} {D : List Sec} (hn : 2 ≤ n) (hD : D.length = n - 1) : ApartS (fullL (rowX f n) t D) := by
  unfold ApartS
  rw [full_is f hn hD, List.map_append, List.map_map, List.nodup_append]
  refine ⟨?_, by simp, ?_⟩
  · refine List.Pairwise.map _ (fun a b hne e => hne ?_) List.nodup_range
    have e2 : nI ((skipN (strH n t) a : Nat) : Int) = nI ((skipN (strH n t) b : Nat) : Int) := e
    rw [nI_nat, nI_nat] at e2
    exact skip_inj e2
  · intro a ha b hb e
    obtain ⟨j, _, ej⟩ := List.mem_map.1 ha
    have ej' : nI ((skipN (strH n t) j : Nat) : Int) = a := ej
    have eb : b = nI ((strH n t : Nat) : Int) := by simpa using hb
    rw [nI_nat] at ej' eb
    exact skip_ne (strH n t) j (by rw [ej', e, eb])
theorem full_length (f : Nat → Int) {n t : Nat} {D : List Sec} (hn : 2 ≤ n) (hD : D.length = n - 1) : (fullL (rowX f n) t D).length = n := by
  rw [full_is f hn hD]; simp; omega
/-- What stands on the disks once the stripes below T are written, the extent of disk d from its sector d on. -/
def gridG (n : Nat) (D : Nat → List Sec) (T : Nat) : Nat → Nat → Sec := fun d k => if d ≤ k ∧ k - d < T then dataAt n (k - d) d (D (k - d)) else zeroSec
theorem grid_at {n T t d : Nat} (D : Nat → List Sec) (h : t < T) : gridG n D T d (d + t) = dataAt n t d (D t) := by
  unfold gridG
  rw [Nat.add_sub_cancel_left, if_pos ⟨by omega, h⟩]
theorem grid_full {n T : Nat} {D : Nat → List Sec} (hn : 2 ≤ n) (hD : (D T).length = n - 1) {d k : Nat} (hd : d < n) : wroteG (gridG n D T) (fullL (rowX idN n) T (D T)) d k = gridG n D (T + 1) d k := by
  by_cases hk : k = d + T
  · subst hk
    have hm := (full_mem idN (t := T) hn hD (((d : Int), idN d + (T : Int)), dataAt n T d (D T))).2 ⟨d, hd, rfl⟩
    have h := wrote_in _ (gridG n D T) (full_apart idN hn hD) _ hm
    have e1 : nI ((d : Int)) = d := nI_nat d
    have e2 : nI (idN d + (T : Int)) = d + T := by show nI ((d : Int) + (T : Int)) = _; rw [← Int.natCast_add, nI_nat]
    simp only [e1, e2] at h
    rw [h, grid_at D (Nat.lt_succ_self T)]
  · rw [wrote_out]
    · unfold gridG
      by_cases hc : d ≤ k ∧ k - d < T
      · rw [if_pos hc, if_pos ⟨hc.1, by omega⟩]
      · rw [if_neg hc, if_neg (fun q => hc ⟨q.1, by omega⟩)]
    · intro q hq e
      obtain ⟨d', hd', e'⟩ := (full_mem idN hn hD q).1 hq
      rw [e'] at e
      obtain ⟨e1, e2⟩ := e
      have e1' : nI ((d' : Nat) : Int) = d := e1
      rw [nI_nat] at e1'
      have e2' : nI ((d' : Int) + (T : Int)) = k := e2
      rw [← Int.natCast_add, nI_nat] at e2'
      omega
/-- A whole stripe is written: it is there, and one disk lost does not matter. -/
theorem LivN.full {n x T : Nat} {S : Bank} {D : Nat → List Sec} (h : LivN n 20 S x (gridG n D T)) (hn : 2 ≤ n) (hn6 : n ≤ 12) (hT : T < 8) (hD : (D T).length = n - 1) :
    (S.sfull (rowX idN n) (T : Int) (D T)).1 = 0 ∧ LivN n 20 (S.sfull (rowX idN n) (T : Int) (D T)).2 x (gridG n D (T + 1)) ∧ (S.sfull (rowX idN n) (T : Int) (D T)).2.writes = S.writes + n := by
  have hq : ∀ q ∈ fullL (rowX idN n) T (D T), nI q.1.1 < n ∧ nI q.1.2 < 20 := fun q hq => by
    obtain ⟨d, hd, e⟩ := (full_mem idN hn hD q).1 hq
    rw [e]
    show nI ((d : Nat) : Int) < n ∧ nI ((d : Int) + (T : Int)) < 20
    rw [nI_nat, ← Int.natCast_add, nI_nat]
    omega
  obtain ⟨h1, h2, h3, h4⟩ := h.wall _ hq
  have h5 := Nat.le_trans h2 (on_one (x := x) _ (full_apart idN hn hD))
  have hE : fullE (rowX idN n).length (D T).length (T : Int) = 0 := by
    unfold fullE
    rw [rowX_length, if_neg (by omega), if_neg (by omega)]
  unfold Bank.sfull
  rw [if_pos hE]
  simp only [Int.toNat_natCast]
  rw [h1, if_pos rfl, if_neg (by omega)]
  refine ⟨rfl, h3.congr (fun d k hd hk => grid_full hn hD hd), ?_⟩
  rw [h4, full_length idN hn hD]
end Go.Proofs.Ytjafhlljigaibaa
namespace Go.Proofs.Ytjafhlljigaibaa
open Go.RowKit
set_option linter.unusedVariables false
theorem map_erase {α β : Type} (f : α → β) (l : List α) (k : Nat) : (l.eraseIdx k).map f = (l.map f).eraseIdx k := by
  rw [List.eraseIdx_eq_take_drop_succ, List.eraseIdx_eq_take_drop_succ, List.map_append, List.map_take, List.map_drop]
section
variable {n x t j k : Nat} {S : Bank} {g : Nat → Nat → Sec} {D : Nat → List Sec}
theorem LivN.reads {N Z : Nat} (h : LivN N Z S x g) : ∀ l : List PlI, (∀ p ∈ l, nI p.1 < N ∧ nI p.2 < Z ∧ S.dead (nI p.1) = false) → S.badP l = 0 ∧ S.goneP l = 0 ∧ l.map S.readP = l.map fun p => g (nI p.1) (nI p.2)
  | [], _ => ⟨rfl, rfl, rfl⟩
  | p :: l, hq => by
    obtain ⟨h1, h2, h3⟩ := hq p (List.mem_cons_self ..)
    obtain ⟨a1, a2, a3⟩ := LivN.reads h l (fun q hm => hq q (List.mem_cons_of_mem _ hm))
    have hp : S.placeP p = 0 := by
      show S.place _ _ = 0
      rw [h.place h1 h2, h3, if_neg (by decide)]
    rw [Bank.badP, if_pos (.inl hp), Bank.goneP, if_pos hp, List.map_cons, List.map_cons, a3]
    refine ⟨a1, by omega, ?_⟩
    rw [show S.readP p = g (nI p.1) (nI p.2) from h.read h1 h2 h3]
/-- The place of the extent d in stripe t. -/
def rowPl (t d : Nat) : PlI := ((d : Int), idN d + (t : Int))
theorem rowPl_nI (t d : Nat) : nI (rowPl t d).1 = d ∧ nI (rowPl t d).2 = d + t := by
  refine ⟨nI_nat d, ?_⟩
  show nI ((d : Int) + (t : Int)) = _
  rw [← Int.natCast_add, nI_nat]
theorem rowM_is (n t : Nat) : strM (rowX idN n) t = (List.range n).map (rowPl t) := by
  unfold strM rowX
  rw [List.map_map]
  rfl
theorem rowD_is (t : Nat) (hn : 2 ≤ n) : strD (rowX idN n) t = (List.range (n - 1)).map fun j => rowPl t (skipN (strH n t) j) := row_data idN t hn
theorem grid_row {T : Nat} (h : t < T) (d : Nat) : gridG n D T (nI (rowPl t d).1) (nI (rowPl t d).2) = dataAt n t d (D t) := by
  rw [(rowPl_nI t d).1, (rowPl_nI t d).2, grid_at D h]
theorem grid_mapM (h : t < 8) : (strM (rowX idN n) t).map (fun p => gridG n D 8 (nI p.1) (nI p.2)) = colL n t (D t) := by
  rw [rowM_is, List.map_map]
  unfold colL
  apply List.map_congr_left
  intro d _
  exact grid_row h d
theorem grid_mapD (h : t < 8) (hn : 2 ≤ n) (hD : (D t).length = n - 1) : (strD (rowX idN n) t).map (fun p => gridG n D 8 (nI p.1) (nI p.2)) = D t := by
  rw [rowD_is t hn, List.map_map]
  apply List.ext_getElem?
  intro j
  rcases Nat.lt_or_ge j (n - 1) with hj | hj
  · have hDj : j < (D t).length := by omega
    rw [List.getElem?_map, List.getElem?_range hj, List.getElem?_eq_getElem hDj]
    show some (gridG n D 8 _ _) = _
    rw [grid_row h, dataAt_skip (List.getElem?_eq_getElem hDj)]
  · rw [List.getElem?_eq_none (by simp; omega), List.getElem?_eq_none (by omega)]
/-- Which places the mates of a slot are on. -/
theorem mates_mem {slot : Nat} (hn : 2 ≤ n) {p : PlI} (h : p ∈ matesP (rowX idN n) slot) : ∃ d, d < n ∧ d ≠ skipN (strH n (slot / (n - 1))) (slot % (n - 1)) ∧ p = rowPl (slot / (n - 1)) d := by
  unfold matesP at h
  rw [rowX_length] at h
  rcases List.mem_append.1 h with h | h
  · obtain ⟨i, hi, e⟩ := List.mem_eraseIdx_iff_getElem?.1 h
    rw [rowD_is _ hn, List.getElem?_map] at e
    rcases Nat.lt_or_ge i (n - 1) with hl | hl
    · rw [List.getElem?_range hl] at e
      exact ⟨skipN (strH n (slot / (n - 1))) i, skip_lt hl, fun e2 => hi (skip_inj e2), by simpa using e.symm⟩
    · rw [List.getElem?_eq_none (by simp; omega)] at e; cases e
  · rw [row_par idN hn] at h
    exact ⟨strH n (slot / (n - 1)), strH_lt (by omega), fun e => skip_ne _ _ e.symm, List.mem_singleton.1 h⟩
theorem others_mem {d0 : Nat} {p : PlI} (h : p ∈ strO (rowX idN n) d0 t) : ∃ d, d < n ∧ d ≠ d0 ∧ p = rowPl t d := by
  unfold strO at h
  obtain ⟨i, hi, e⟩ := List.mem_eraseIdx_iff_getElem?.1 h
  rw [rowM_is, List.getElem?_map] at e
  rcases Nat.lt_or_ge i n with hl | hl
  · rw [List.getElem?_range hl] at e
    exact ⟨i, hl, hi, by simpa using e.symm⟩
  · rw [List.getElem?_eq_none (by simp; omega)] at e; cases e
theorem homeE_in {n slot : Nat} (hn : 2 ≤ n) (hs : slot < slotsN n) : homeE n (slot : Int) = 0 := by
  unfold homeE
  rw [if_neg (by omega), if_neg (by omega)]
/-- Each slot is read as it is, one disk lost or none. -/
theorem LivN.sread {slot : Nat} {s : Sec} (h : LivN n 20 S x (gridG n D 8)) (hn : 2 ≤ n) (hn12 : n ≤ 12) (hD : ∀ t, t < 8 → (D t).length = n - 1) (hs : slot < slotsN n) (hv : (D (slot / (n - 1)))[slot % (n - 1)]? = some s) : S.sread (rowX idN n) (slot : Int) = (s, 0) := by
  have ht := slot_div hn hs
  have hm : slot % (n - 1) < n - 1 := Nat.mod_lt _ (by omega)
  obtain ⟨k, hk⟩ : ∃ k, k = skipN (strH n (slot / (n - 1))) (slot % (n - 1)) := ⟨_, rfl⟩
  have hkn : k < n := hk ▸ skip_lt hm
  have hp : homeP (rowX idN n) slot = rowPl (slot / (n - 1)) k := by rw [row_home idN hn, ← hk]; rfl
  have hpl := h.place hkn (show k + slot / (n - 1) < 20 by omega)
  unfold Bank.sread
  rw [rowX_length, if_pos (homeE_in hn hs)]
  simp only [Int.toNat_natCast, hp]
  have e1 : S.placeP (rowPl (slot / (n - 1)) k) = S.place k (k + slot / (n - 1)) := by unfold Bank.placeP; rw [(rowPl_nI _ k).1, (rowPl_nI _ k).2]
  rw [e1, hpl]
  cases hl : S.dead k with
  | false =>
    rw [if_neg (by decide : ¬ (false = true)), if_neg (show ¬ lostB 0 = true by decide)]
    have e2 : S.readP (rowPl (slot / (n - 1)) k) = S.readS k (k + slot / (n - 1)) := by unfold Bank.readP; rw [(rowPl_nI _ k).1, (rowPl_nI _ k).2]
    rw [e2, h.read hkn (by omega) hl, grid_at D ht, hk, dataAt_skip hv]
  | true =>
    rw [if_pos (by decide : (true = true)), if_pos (show lostB 7 = true from rfl)]
    obtain ⟨a1, a2, a3⟩ := h.reads (matesP (rowX idN n) slot) (fun p hpm => by
      obtain ⟨d, hd, hne, e⟩ := mates_mem hn hpm
      rw [e, (rowPl_nI _ d).1, (rowPl_nI _ d).2]
      exact ⟨hd, by omega, h.other hkn hd (fun q => hne (q.trans hk)) hl⟩)
    have hE : S.gatherE (matesP (rowX idN n) slot) = 0 := by unfold Bank.gatherE; rw [if_pos a1, if_pos a2]
    rw [if_pos hE, a3]
    have e3 : (matesP (rowX idN n) slot).map (fun p => gridG n D 8 (nI p.1) (nI p.2)) = (D (slot / (n - 1))).eraseIdx (slot % (n - 1)) ++ [parS (D (slot / (n - 1)))] := by
      unfold matesP
      rw [rowX_length, List.map_append, map_erase, grid_mapD ht hn (hD _ ht), row_par idN hn]
      congr 1
      show [gridG n D 8 _ _] = _
      rw [show gridG n D 8 (nI (((strH n (slot / (n - 1)) : Nat) : Int), idN (strH n (slot / (n - 1))) + ((slot / (n - 1) : Nat) : Int)).1) (nI (((strH n (slot / (n - 1)) : Nat) : Int), idN (strH n (slot / (n - 1))) + ((slot / (n - 1) : Nat) : Int)).2) = _ from grid_row ht (strH n (slot / (n - 1))), dataAt_par]
    rw [e3, data_back hv]
/-- What the lost disk had. -/
theorem LivN.srebuilt {d : Nat} (h : LivN n 20 S x (gridG n D 8)) (hn : 2 ≤ n) (hn12 : n ≤ 12) (ht : t < 8) (hD : (D t).length = n - 1) (hd : d < n) (hl : S.dead d = true) : S.srebuilt (rowX idN n) (d : Int) (t : Int) = (dataAt n t d (D t), 0) := by
  have hE0 : rebuiltE n (d : Int) (t : Int) = 0 := by unfold rebuiltE; rw [if_neg (by omega), if_neg (by omega)]
  obtain ⟨a1, a2, a3⟩ := h.reads (strO (rowX idN n) d t) (fun p hpm => by
    obtain ⟨d', hd', hne, e⟩ := others_mem hpm
    rw [e, (rowPl_nI _ d').1, (rowPl_nI _ d').2]
    exact ⟨hd', by omega, h.other hd hd' hne hl⟩)
  have hE : S.gatherE (strO (rowX idN n) d t) = 0 := by unfold Bank.gatherE; rw [if_pos a1, if_pos a2]
  unfold Bank.srebuilt
  rw [rowX_length, if_pos hE0]
  simp only [Int.toNat_natCast]
  rw [if_pos hE, a3]
  unfold strO
  rw [map_erase, grid_mapM ht, colL_back n t hn hD hd]
/-- What the parity is to be, whichever disk is lost. -/
theorem LivN.splug {slot : Nat} {s0 : Sec} (s : Sec) (h : LivN n 20 S x (gridG n D 8)) (hn : 2 ≤ n) (hn12 : n ≤ 12) (hD : ∀ t, t < 8 → (D t).length = n - 1) (hs : slot < slotsN n) (hv : (D (slot / (n - 1)))[slot % (n - 1)]? = some s0) : S.splug (rowX idN n) (slot : Int) s = (parS ((D (slot / (n - 1))).set (slot % (n - 1)) s), 0) := by
  have ht := slot_div hn hs
  have hm : slot % (n - 1) < n - 1 := Nat.mod_lt _ (by omega)
  obtain ⟨k, hk⟩ : ∃ k, k = skipN (strH n (slot / (n - 1))) (slot % (n - 1)) := ⟨_, rfl⟩
  have hkn : k < n := hk ▸ skip_lt hm
  have hhn : strH n (slot / (n - 1)) < n := strH_lt (by omega)
  have hkh : k ≠ strH n (slot / (n - 1)) := hk ▸ skip_ne _ _
  have hp : homeP (rowX idN n) slot = rowPl (slot / (n - 1)) k := by rw [row_home idN hn, ← hk]; rfl
  have hq : strP (rowX idN n) (slot / (n - 1)) = rowPl (slot / (n - 1)) (strH n (slot / (n - 1))) := by rw [row_par idN hn]; rfl
  have hpl := h.place hkn (show k + slot / (n - 1) < 20 by omega)
  have hpq := h.place hhn (show strH n (slot / (n - 1)) + slot / (n - 1) < 20 by omega)
  unfold Bank.splug
  rw [rowX_length, if_pos (homeE_in hn hs)]
  simp only [Int.toNat_natCast, hp, hq]
  have e1 : S.placeP (rowPl (slot / (n - 1)) k) = S.place k (k + slot / (n - 1)) := by unfold Bank.placeP; rw [(rowPl_nI _ k).1, (rowPl_nI _ k).2]
  have e2 : S.placeP (rowPl (slot / (n - 1)) (strH n (slot / (n - 1)))) = S.place (strH n (slot / (n - 1))) (strH n (slot / (n - 1)) + slot / (n - 1)) := by unfold Bank.placeP; rw [(rowPl_nI _ _).1, (rowPl_nI _ _).2]
  have e3 : S.readP (rowPl (slot / (n - 1)) k) = S.readS k (k + slot / (n - 1)) := by unfold Bank.readP; rw [(rowPl_nI _ k).1, (rowPl_nI _ k).2]
  have e4 : S.readP (rowPl (slot / (n - 1)) (strH n (slot / (n - 1)))) = S.readS (strH n (slot / (n - 1))) (strH n (slot / (n - 1)) + slot / (n - 1)) := by unfold Bank.readP; rw [(rowPl_nI _ _).1, (rowPl_nI _ _).2]
  have c1 : S.placeP (rowPl (slot / (n - 1)) k) = 0 ∨ lostB (S.placeP (rowPl (slot / (n - 1)) k)) = true := by
    rw [e1, hpl]; cases S.dead k
    · exact .inl rfl
    · exact .inr rfl
  have c2 : S.placeP (rowPl (slot / (n - 1)) (strH n (slot / (n - 1)))) = 0 ∨ lostB (S.placeP (rowPl (slot / (n - 1)) (strH n (slot / (n - 1))))) = true := by
    rw [e2, hpq]; cases S.dead (strH n (slot / (n - 1)))
    · exact .inl rfl
    · exact .inr rfl
  rw [if_pos c1, if_pos c2]
  have hrest : (∀ d, d < n → d ≠ k → d ≠ strH n (slot / (n - 1)) → S.dead d = false) → S.gatherE ((strD (rowX idN n) (slot / (n - 1))).eraseIdx (slot % (n - 1))) = 0 ∧ parS (((strD (rowX idN n) (slot / (n - 1))).eraseIdx (slot % (n - 1))).map S.readP ++ [s]) = parS ((D (slot / (n - 1))).set (slot % (n - 1)) s) := fun hA => by
    obtain ⟨a1, a2, a3⟩ := h.reads ((strD (rowX idN n) (slot / (n - 1))).eraseIdx (slot % (n - 1))) (fun p hpm => by
      obtain ⟨i, hi, e⟩ := List.mem_eraseIdx_iff_getElem?.1 hpm
      rw [rowD_is _ hn, List.getElem?_map] at e
      rcases Nat.lt_or_ge i (n - 1) with hl | hl
      · rw [List.getElem?_range hl] at e
        have e' : rowPl (slot / (n - 1)) (skipN (strH n (slot / (n - 1))) i) = p := by simpa using e
        have hd : skipN (strH n (slot / (n - 1))) i < n := skip_lt hl
        rw [← e', (rowPl_nI _ _).1, (rowPl_nI _ _).2]
        exact ⟨hd, by omega, hA _ hd (fun q => hi (skip_inj (q.trans hk))) (skip_ne _ _)⟩
      · rw [List.getElem?_eq_none (by simp; omega)] at e; cases e)
    refine ⟨by unfold Bank.gatherE; rw [if_pos a1, if_pos a2], ?_⟩
    rw [a3, map_erase, grid_mapD ht hn (hD _ ht), data_plug hv s]
  cases hl : S.dead k with
  | true =>
    rw [hl, if_pos rfl] at hpl
    obtain ⟨b1, b2⟩ := hrest (fun d hd hne _ => h.other hkn hd hne hl)
    rw [if_neg (fun q => by rw [e1, hpl] at q; exact absurd q.1 (by decide)), if_pos b1, b2]
  | false =>
    rw [hl, if_neg (by decide)] at hpl
    cases hl2 : S.dead (strH n (slot / (n - 1))) with
    | true =>
      rw [hl2, if_pos rfl] at hpq
      obtain ⟨b1, b2⟩ := hrest (fun d hd _ hne => h.other hhn hd hne hl2)
      rw [if_neg (fun q => by rw [e2, hpq] at q; exact absurd q.2 (by decide)), if_pos b1, b2]
    | false =>
      rw [hl2, if_neg (by decide)] at hpq
      rw [if_pos ⟨e1.trans hpl, e2.trans hpq⟩, e3, e4, h.read hkn (by omega) hl, h.read hhn (by omega) hl2, grid_at D ht, grid_at D ht, dataAt_par, hk, dataAt_skip hv, data_plug2 hv s]
/-- A slot's new sector and the parity that goes with it. -/
theorem grid_set {n t j d kk : Nat} {s : Sec} (hn : 2 ≤ n) (hj : j < n - 1) (hD : (D t).length = n - 1) (ht : t < 8) :
    upd2 (upd2 (gridG n D 8) (skipN (strH n t) j) (skipN (strH n t) j + t) s) (strH n t) (strH n t + t) (parS ((D t).set j s)) d kk = gridG n (upd D t ((D t).set j s)) 8 d kk := by
  by_cases c1 : d = strH n t ∧ kk = strH n t + t
  · rw [c1.1, c1.2, upd2_self, grid_at _ ht, upd_self, dataAt_par]
  · rw [upd2_ne _ _ c1]
    by_cases c2 : d = skipN (strH n t) j ∧ kk = skipN (strH n t) j + t
    · rw [c2.1, c2.2, upd2_self, grid_at _ ht, upd_self, dataAt_skip (List.getElem?_set_self (by omega))]
    · rw [upd2_ne _ _ c2]
      unfold gridG
      by_cases hc : d ≤ kk ∧ kk - d < 8
      · rw [if_pos hc, if_pos hc]
        by_cases e : kk - d = t
        · rw [e, upd_self]
          unfold dataAt
          have h1 : d ≠ strH n t := fun q => c1 ⟨q, by omega⟩
          rw [if_neg h1, if_neg h1, List.getElem?_set_ne]
          intro q
          exact c2 ⟨by rw [q, skip_place h1], by rw [q, skip_place h1]; omega⟩
        · rw [upd_ne _ _ e]
      · rw [if_neg hc, if_neg hc]
theorem LivN.plugged {slot : Nat} {s : Sec} (h : LivN n 20 S x (gridG n D 8)) (hn : 2 ≤ n) (hn12 : n ≤ 12) (hD : ∀ t, t < 8 → (D t).length = n - 1) (hs : slot < slotsN n) :
    LivN n 20 ((S.writeP (homeP (rowX idN n) slot) s).2.writeP (strP (rowX idN n) (slot / (n - 1))) (parS ((D (slot / (n - 1))).set (slot % (n - 1)) s))).2 x (gridG n (upd D (slot / (n - 1)) ((D (slot / (n - 1))).set (slot % (n - 1)) s)) 8) ∧
    ((S.writeP (homeP (rowX idN n) slot) s).2.writeP (strP (rowX idN n) (slot / (n - 1))) (parS ((D (slot / (n - 1))).set (slot % (n - 1)) s))).2.writes = S.writes + 2 := by
  have ht := slot_div hn hs
  have hm : slot % (n - 1) < n - 1 := Nat.mod_lt _ (by omega)
  have hkn : skipN (strH n (slot / (n - 1))) (slot % (n - 1)) < n := skip_lt hm
  have hhn : strH n (slot / (n - 1)) < n := strH_lt (by omega)
  have hp : homeP (rowX idN n) slot = rowPl (slot / (n - 1)) (skipN (strH n (slot / (n - 1))) (slot % (n - 1))) := by rw [row_home idN hn]; rfl
  have hq : strP (rowX idN n) (slot / (n - 1)) = rowPl (slot / (n - 1)) (strH n (slot / (n - 1))) := by rw [row_par idN hn]; rfl
  unfold Bank.writeP
  rw [hp, hq, (rowPl_nI _ _).1, (rowPl_nI _ _).2, (rowPl_nI _ _).1, (rowPl_nI _ _).2]
  obtain ⟨a1, _, a3⟩ := h.write hkn (show skipN (strH n (slot / (n - 1))) (slot % (n - 1)) + slot / (n - 1) < 20 by omega) s
  obtain ⟨b1, _, b3⟩ := a1.write hhn (show strH n (slot / (n - 1)) + slot / (n - 1) < 20 by omega) (parS ((D (slot / (n - 1))).set (slot % (n - 1)) s))
  exact ⟨b1.congr (fun d k _ _ => grid_set hn hm (hD _ ht) ht), by rw [b3, a3]⟩
/-- All sectors of a stripe, the lost one's last. -/
theorem col_check (n t : Nat) {D : List Sec} (hn : 2 ≤ n) (hD : D.length = n - 1) {d : Nat} (hd : d < n) : parOf (rawS ((colL n t D).eraseIdx d ++ [dataAt n t d D])) = zeroL := by
  rw [rawS_append, show rawS [dataAt n t d D] = [(dataAt n t d D).1] from rfl, par_snoc (rawS_secs _) (dataAt n t d D).2, raw_erase, reb_is (rawS_secs _) (rawS_at (colL_at n t D hd)), colL_zero n t hn hD, zero_xorL (dataAt n t d D).2, xorL_same (dataAt n t d D).2]
end
#print axioms LivN.splug
end Go.Proofs.Ytjafhlljigaibaa
namespace Go.Proofs.Ytjafhlljigaibaa
open Go.RowKit
set_option linter.unusedVariables false
/-- N disks of Z sectors of which those of dd have failed and no other will; each that lives holds g. -/
structure DedN (N Z : Nat) (S : Bank) (dd : Nat → Bool) (g : Nat → Nat → Sec) : Prop where
  n : S.n = N
  size : ∀ d, d < N → S.size d = Z
  up : S.down = false
  calm : S.armed = 0
  well : ∀ d, d < N → S.failAt d = 0
  dead : ∀ d, d < N → S.dead d = dd d
  holds : ∀ d k, d < N → k < Z → dd d = false → S.newest d k = g d k
section
variable {N Z n : Nat} {S : Bank} {dd : Nat → Bool} {g : Nat → Nat → Sec} {D : Nat → List Sec}
theorem LivN.ded {x : Nat} (h : LivN N Z S x g) (hx : N ≤ x) : DedN N Z S (fun _ => false) g :=
  ⟨h.n, h.size, h.up, h.calm, fun d hd => (h.well d hd (by omega)).2, fun d hd => (h.well d hd (by omega)).1, fun d k hd hk _ => h.holds d k hd hk (h.well d hd (by omega)).1⟩
theorem DedN.fail (h : DedN N Z S dd g) {x : Nat} (hx : x < N) : DedN N Z (S.failI x) (upd dd x true) g := by
  unfold Bank.failI
  rw [if_pos (by rw [h.n]; exact hx)]
  refine ⟨h.n, h.size, h.up, h.calm, fun d hd => h.well d hd, fun d hd => ?_, fun d k hd hk hl => ?_⟩
  · show upd S.dead x true d = upd dd x true d
    by_cases e : d = x
    · rw [e, upd_self, upd_self]
    · rw [upd_ne _ _ e, upd_ne _ _ e]
      exact h.dead d hd
  · have e : d ≠ x := fun e => by rw [e, upd_self] at hl; cases hl
    rw [upd_ne _ _ e] at hl
    show upd S.newest x _ d k = _
    rw [upd_ne _ _ e]
    exact h.holds d k hd hk hl
theorem DedN.place (h : DedN N Z S dd g) {d k : Nat} (hd : d < N) (hk : k < Z) : S.place d k = if dd d then 7 else 0 := by
  unfold Bank.place Bank.may
  have hn : ¬ S.n ≤ d := by have := h.n; omega
  rw [if_neg hn, h.up, h.size d hd, h.dead d hd]
  cases dd d <;> simp [hk]
theorem DedN.read (h : DedN N Z S dd g) {d k : Nat} (hd : d < N) (hk : k < Z) (hl : dd d = false) : S.readS d k = g d k := by
  have hp := h.place hd hk
  rw [hl, if_neg (by decide)] at hp
  unfold Bank.readS
  rw [if_pos hp, h.holds d k hd hk hl]
theorem DedN.write (h : DedN N Z S dd g) {d k : Nat} (hd : d < N) (hk : k < Z) (s : Sec) : DedN N Z (S.write d k s).2 dd (upd2 g d k s) ∧ (S.write d k s).1 = if dd d then 7 else 0 := by
  obtain ⟨h1, h2, h3, h4, h5, _⟩ := tick_more_keeps S.wrote S.n
  have hT : DedN N Z S.ticked dd g := by
    refine ⟨h1.trans h.n, fun d hd => ?_, h3.trans h.up, h4.trans h.calm, fun d hd => ?_, fun d hd => ?_, fun d k hd hk hl => ?_⟩
    · show (S.wrote.tick S.n).size d = Z
      rw [h2]; exact h.size d hd
    · exact (tick_live S.wrote S.n d (h.well d hd)).1
    · exact (tick_live S.wrote S.n d (h.well d hd)).2.1.trans (h.dead d hd)
    · have := (tick_live S.wrote S.n d (h.well d hd)).2.2.1
      show (S.wrote.tick S.n).newest d k = _
      rw [this]
      exact h.holds d k hd hk hl
  have hp := hT.place hd hk
  unfold Bank.write
  rw [count_calm h.up h.calm]
  simp only [Bool.false_eq_true, if_false]
  cases hl : dd d with
  | true =>
    rw [hl, if_pos rfl] at hp
    rw [hp, if_neg (by decide)]
    refine ⟨⟨hT.n, hT.size, hT.up, hT.calm, hT.well, hT.dead, fun d' k' hd' hk' hl' => ?_⟩, by rw [if_pos rfl]⟩
    rw [upd2_ne _ _ (fun e => by rw [e.1, hl] at hl'; cases hl')]
    exact hT.holds d' k' hd' hk' hl'
  | false =>
    rw [hl, if_neg (by decide)] at hp
    rw [if_pos hp]
    refine ⟨⟨hT.n, hT.size, hT.up, hT.calm, hT.well, hT.dead, fun d' k' hd' hk' hl' => ?_⟩, by rw [if_neg (by decide)]⟩
    show upd2 S.ticked.newest d k s d' k' = upd2 g d k s d' k'
    by_cases e : d' = d ∧ k' = k
    · rw [e.1, e.2, upd2_self, upd2_self]
    · rw [upd2_ne _ _ e, upd2_ne _ _ e]
      exact hT.holds d' k' hd' hk' hl'
/-- How many of them are on lost disks. -/
def onDD (dd : Nat → Bool) : List (PlI × Sec) → Nat
  | [] => 0
  | q :: l => (if dd (nI q.1.1) then 1 else 0) + onDD dd l
theorem onDD_one : ∀ (l : List (PlI × Sec)) {q : PlI × Sec}, q ∈ l → dd (nI q.1.1) = true → 1 ≤ onDD dd l
  | [], q, h, _ => by cases h
  | r :: l, q, h, hq => by
    rw [onDD]
    rcases List.mem_cons.1 h with e | h
    · subst e; rw [if_pos hq]; omega
    · have := onDD_one l h hq; omega
theorem onDD_two : ∀ (l : List (PlI × Sec)) {q r : PlI × Sec}, q ∈ l → r ∈ l → nI q.1.1 ≠ nI r.1.1 → dd (nI q.1.1) = true → dd (nI r.1.1) = true → 2 ≤ onDD dd l
  | [], q, r, h, _, _, _, _ => by cases h
  | s :: l, q, r, h, h2, hne, hq, hr => by
    rw [onDD]
    rcases List.mem_cons.1 h with e | h
    · rcases List.mem_cons.1 h2 with e2 | h2
      · exact absurd (by rw [e, e2]) hne
      · have := onDD_one l h2 hr
        subst e; rw [if_pos hq]; omega
    · rcases List.mem_cons.1 h2 with e2 | h2
      · have := onDD_one l h hq
        subst e2; rw [if_pos hr]; omega
      · have := onDD_two l h h2 hne hq hr
        omega
theorem DedN.wall : ∀ (l : List (PlI × Sec)) {S : Bank} {g : Nat → Nat → Sec}, DedN N Z S dd g → (∀ q ∈ l, nI q.1.1 < N ∧ nI q.1.2 < Z) → (S.wallP l).1 = 0 ∧ (S.wallP l).2.1 = onDD dd l
  | [], S, g, h, _ => ⟨rfl, rfl⟩
  | (p, s) :: l, S, g, h, hq => by
    obtain ⟨hp1, hp2⟩ := hq (p, s) (List.mem_cons_self ..)
    obtain ⟨a1, a2⟩ := h.write hp1 hp2 s
    obtain ⟨b1, b2⟩ := DedN.wall l a1 (fun q hm => hq q (List.mem_cons_of_mem _ hm))
    have e0 : (S.writeP p s).1 = if dd (nI p.1) then 7 else 0 := a2
    have e1 : (S.writeP p s).1 = 0 ∨ lostB (S.writeP p s).1 = true := by
      rw [e0]; cases dd (nI p.1)
      · exact .inl rfl
      · exact .inr rfl
    rw [Bank.wallP]
    simp only [if_pos e1]
    refine ⟨b1, ?_⟩
    rw [onDD]
    show (if (S.writeP p s).1 = 0 then 0 else 1) + ((S.write _ _ s).2.wallP l).2.1 = _
    rw [b2, e0]
    cases hdd : dd (nI p.1)
    · rfl
    · rfl
theorem DedN.badgone (h : DedN N Z S dd g) : ∀ (l : List PlI), (∀ p ∈ l, nI p.1 < N ∧ nI p.2 < Z) → S.badP l = 0 ∧ ((∃ p ∈ l, dd (nI p.1) = true) → S.goneP l ≠ 0)
  | [], _ => ⟨rfl, fun ⟨p, hp, _⟩ => by cases hp⟩
  | p :: l, hq => by
    obtain ⟨h1, h2⟩ := hq p (List.mem_cons_self ..)
    obtain ⟨a1, a2⟩ := DedN.badgone h l (fun q hm => hq q (List.mem_cons_of_mem _ hm))
    have hp : S.placeP p = if dd (nI p.1) then 7 else 0 := h.place h1 h2
    refine ⟨?_, fun ⟨r, hr, hd⟩ => ?_⟩
    · rw [Bank.badP, if_pos (by rw [hp]; cases dd (nI p.1); exact .inl rfl; exact .inr rfl)]
      exact a1
    · rw [Bank.goneP, hp]
      rcases List.mem_cons.1 hr with e | hr
      · subst e
        rw [hd]
        simp
      · have := a2 ⟨r, hr, hd⟩
        omega
theorem mates_all {slot d : Nat} (hn : 2 ≤ n) (hd : d < n) (hne : d ≠ skipN (strH n (slot / (n - 1))) (slot % (n - 1))) : rowPl (slot / (n - 1)) d ∈ matesP (rowX idN n) slot := by
  unfold matesP
  rw [rowX_length, List.mem_append]
  by_cases h : d = strH n (slot / (n - 1))
  · right
    rw [row_par idN hn, h]
    exact List.mem_singleton.2 rfl
  · left
    rw [List.mem_eraseIdx_iff_getElem?]
    refine ⟨placeN (strH n (slot / (n - 1))) d, fun e => hne ?_, ?_⟩
    · rw [← e, skip_place h]
    · rw [rowD_is _ hn, List.getElem?_map, List.getElem?_range (placeN_lt hd (strH_lt (by omega)) h), Option.map_some, skip_place h]
theorem others_all {t d d0 : Nat} (hd : d < n) (hne : d ≠ d0) : rowPl t d ∈ strO (rowX idN n) d0 t := by
  unfold strO
  rw [List.mem_eraseIdx_iff_getElem?]
  exact ⟨d, hne, by rw [rowM_is, List.getElem?_map, List.getElem?_range hd]; rfl⟩
/-- Two disks lost, each slot: what was written, if its own disk lives, else ErrFailed. -/
theorem DedN.sread {slot x y : Nat} {s : Sec} (h : DedN n 20 S dd (gridG n D 8)) (hn : 2 ≤ n) (hn12 : n ≤ 12) (hx : x < n) (hy : y < n) (hxy : x ≠ y) (hdx : dd x = true) (hdy : dd y = true) (hs : slot < slotsN n) (hv : (D (slot / (n - 1)))[slot % (n - 1)]? = some s) :
    S.sread (rowX idN n) (slot : Int) = if dd (skipN (strH n (slot / (n - 1))) (slot % (n - 1))) then (zeroSec, 5) else (s, 0) := by
  have ht := slot_div hn hs
  have hm : slot % (n - 1) < n - 1 := Nat.mod_lt _ (by omega)
  obtain ⟨k, hk⟩ : ∃ k, k = skipN (strH n (slot / (n - 1))) (slot % (n - 1)) := ⟨_, rfl⟩
  have hkn : k < n := hk ▸ skip_lt hm
  have hp : homeP (rowX idN n) slot = rowPl (slot / (n - 1)) k := by rw [row_home idN hn, ← hk]; rfl
  have hpl := h.place hkn (show k + slot / (n - 1) < 20 by omega)
  unfold Bank.sread
  rw [rowX_length, if_pos (homeE_in hn hs)]
  simp only [Int.toNat_natCast, hp]
  have e1 : S.placeP (rowPl (slot / (n - 1)) k) = S.place k (k + slot / (n - 1)) := by unfold Bank.placeP; rw [(rowPl_nI _ k).1, (rowPl_nI _ k).2]
  rw [e1, hpl, ← hk]
  cases hl : dd k with
  | false =>
    rw [if_neg (by decide : ¬ (false = true)), if_neg (show ¬ lostB 0 = true by decide), if_neg (by decide : ¬ (false = true))]
    have e2 : S.readP (rowPl (slot / (n - 1)) k) = S.readS k (k + slot / (n - 1)) := by unfold Bank.readP; rw [(rowPl_nI _ k).1, (rowPl_nI _ k).2]
    rw [e2, h.read hkn (by omega) hl, grid_at D ht, hk, dataAt_skip hv]
  | true =>
    rw [if_pos (by decide : (true = true)), if_pos (show lostB 7 = true from rfl), if_pos (by decide : (true = true))]
    obtain ⟨z, hz, hzk, hzd⟩ : ∃ z, z < n ∧ z ≠ k ∧ dd z = true := by
      by_cases e : x = k
      · exact ⟨y, hy, fun e2 => hxy (e.trans e2.symm), hdy⟩
      · exact ⟨x, hx, e, hdx⟩
    obtain ⟨a1, a2⟩ := h.badgone (matesP (rowX idN n) slot) (fun p hpm => by
      obtain ⟨d, hd, hne, e⟩ := mates_mem hn hpm
      rw [e, (rowPl_nI _ d).1, (rowPl_nI _ d).2]
      exact ⟨hd, by omega⟩)
    have a3 := a2 ⟨rowPl (slot / (n - 1)) z, mates_all hn hz (fun e => hzk (e.trans hk.symm)), by rw [(rowPl_nI _ z).1]; exact hzd⟩
    have hE : S.gatherE (matesP (rowX idN n) slot) = 5 := by unfold Bank.gatherE; rw [if_pos a1, if_neg a3]
    rw [hE, if_neg (by decide)]
theorem DedN.srebuilt {x y t : Nat} (h : DedN n 20 S dd g) (hn : 2 ≤ n) (hn12 : n ≤ 12) (hx : x < n) (hy : y < n) (hxy : y ≠ x) (hdy : dd y = true) (ht : t < 8) : S.srebuilt (rowX idN n) (x : Int) (t : Int) = (zeroSec, 5) := by
  have hE0 : rebuiltE n (x : Int) (t : Int) = 0 := by unfold rebuiltE; rw [if_neg (by omega), if_neg (by omega)]
  obtain ⟨a1, a2⟩ := h.badgone (strO (rowX idN n) x t) (fun p hpm => by
    obtain ⟨d', hd', hne, e⟩ := others_mem hpm
    rw [e, (rowPl_nI _ d').1, (rowPl_nI _ d').2]
    exact ⟨hd', by omega⟩)
  have a3 := a2 ⟨rowPl t y, others_all hy hxy, by rw [(rowPl_nI _ y).1]; exact hdy⟩
  have hE : S.gatherE (strO (rowX idN n) x t) = 5 := by unfold Bank.gatherE; rw [if_pos a1, if_neg a3]
  unfold Bank.srebuilt
  rw [rowX_length, if_pos hE0]
  simp only [Int.toNat_natCast]
  rw [hE, if_neg (by decide)]
theorem DedN.sfull {x y t : Nat} {L : List Sec} (h : DedN n 20 S dd g) (hn : 2 ≤ n) (hn12 : n ≤ 12) (hx : x < n) (hy : y < n) (hxy : x ≠ y) (hdx : dd x = true) (hdy : dd y = true) (ht : t < 8) (hL : L.length = n - 1) : (S.sfull (rowX idN n) (t : Int) L).1 = 5 := by
  have hq : ∀ q ∈ fullL (rowX idN n) t L, nI q.1.1 < n ∧ nI q.1.2 < 20 := fun q hq => by
    obtain ⟨d, hd, e⟩ := (full_mem idN hn hL q).1 hq
    rw [e]
    show nI ((d : Nat) : Int) < n ∧ nI ((d : Int) + (t : Int)) < 20
    rw [nI_nat, ← Int.natCast_add, nI_nat]
    omega
  obtain ⟨h1, h2⟩ := h.wall _ hq
  have m1 := (full_mem idN hn hL ((((x : Nat) : Int), idN x + (t : Int)), dataAt n t x L)).2 ⟨x, hx, rfl⟩
  have m2 := (full_mem idN hn hL ((((y : Nat) : Int), idN y + (t : Int)), dataAt n t y L)).2 ⟨y, hy, rfl⟩
  have h5 := onDD_two (dd := dd) _ m1 m2 (by show nI ((x : Nat) : Int) ≠ nI ((y : Nat) : Int); rw [nI_nat, nI_nat]; exact hxy) (by show dd (nI ((x : Nat) : Int)) = true; rw [nI_nat]; exact hdx) (by show dd (nI ((y : Nat) : Int)) = true; rw [nI_nat]; exact hdy)
  have hE : fullE (rowX idN n).length L.length (t : Int) = 0 := by
    unfold fullE
    rw [rowX_length, if_neg (by omega), if_neg (by omega)]
  unfold Bank.sfull
  rw [if_pos hE]
  simp only [Int.toNat_natCast]
  have h6 : 1 < (S.wallP (fullL (rowX idN n) t L)).2.1 := by rw [h2]; omega
  rw [h1, if_pos rfl, if_pos h6]
end
#print axioms DedN.sfull
#print axioms DedN.sread
end Go.Proofs.Ytjafhlljigaibaa
