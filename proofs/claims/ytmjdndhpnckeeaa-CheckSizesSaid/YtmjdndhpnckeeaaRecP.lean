/- A record's parts as plain lists of bytes: what a sector says of itself, when it is a part, what Split makes and Join reads. -/
import Derived.Test.YtmjdndhpnckeeaaSec
import Derived.Test.YtmjdndhpnckeeaaArr
namespace Go.Proofs.Ytmjdndhpnckeeaa
open Go.RowKit

/-- What a part says of itself. -/
structure Tg where
  gen : Int
  nr : Int
  part : Int
  parts : Int
  len : Int
def Tg.zero : Tg := ⟨0, 0, 0, 0, 0⟩
theorem Tg.ext_ {a b : Tg} (h1 : a.gen = b.gen) (h2 : a.nr = b.nr) (h3 : a.part = b.part) (h4 : a.parts = b.parts) (h5 : a.len = b.len) : a = b := by
  cases a; cases b; simp_all
/-- Each number has room in its bytes. -/
structure Tg.Ok (t : Tg) : Prop where
  g0 : 0 ≤ t.gen
  g1 : t.gen ≤ 4294967295
  n0 : 0 ≤ t.nr
  n1 : t.nr ≤ 4294967295
  p0 : 0 ≤ t.part
  p1 : t.part ≤ 255
  q0 : 0 ≤ t.parts
  q1 : t.parts ≤ 255
  l0 : 0 ≤ t.len
  l1 : t.len ≤ 255

def headT (t : Tg) : List UInt8 := be 4 t.gen.toNat ++ be 4 t.nr.toNat ++ be 1 t.part.toNat ++ be 1 t.parts.toNat ++ be 1 t.len.toNat
theorem headT_length (t : Tg) : (headT t).length = 11 := by simp [headT, be_length]
/-- The part with this tag, which holds these bytes. -/
def secT (t : Tg) (held : List UInt8) : List UInt8 := front (headT t ++ held)
theorem secT_length (t : Tg) (held : List UInt8) : (secT t held).length = 64 := front_length _
def byteAt (s : List UInt8) (k : Nat) : Nat := (s.getD k 0).toNat
/-- What a sector says where a tag is. -/
def readT (s : List UInt8) : Tg := ⟨num (s.take 4), num ((s.drop 4).take 4), byteAt s 8, byteAt s 9, byteAt s 10⟩
def leastT (t : Tg) : Int := if t.part < t.parts - 1 then 53 else if 1 < t.parts then 1 else 0
def rightT (t : Tg) : Bool := decide (t.parts ≤ 40) && decide (t.part < t.parts) && decide (leastT t ≤ t.len) && decide (t.len ≤ 53)
def contT (s : List UInt8) (t : Tg) : List UInt8 := (s.drop 11).take t.len.toNat
/-- Is a sector a part? -/
def partB (s : List UInt8) : Bool := rightT (readT s) && decide (secT (readT s) (contT s (readT s)) = s)
def tagT (s : List UInt8) : Tg := if partB s then readT s else Tg.zero

theorem leastT_ge (t : Tg) : 0 ≤ leastT t := by
  unfold leastT
  split
  · omega
  · split <;> omega
theorem leastT_le (t : Tg) : leastT t ≤ 53 := by
  unfold leastT
  split
  · omega
  · split <;> omega
theorem right_iff (t : Tg) : rightT t = true ↔ t.parts ≤ 40 ∧ t.part < t.parts ∧ leastT t ≤ t.len ∧ t.len ≤ 53 := by
  unfold rightT
  simp only [Bool.and_eq_true, decide_eq_true_eq]
  constructor
  · rintro ⟨⟨⟨a, b⟩, c⟩, d⟩; exact ⟨a, b, c, d⟩
  · rintro ⟨a, b, c, d⟩; exact ⟨⟨⟨a, b⟩, c⟩, d⟩
theorem byteAt_lt (s : List UInt8) (k : Nat) : byteAt s k ≤ 255 := by
  have := (s.getD k 0).toNat_lt
  unfold byteAt
  omega
theorem byteAt_get (s : List UInt8) {k : Nat} (h : k < s.length) : s[k]? = some (UInt8.ofNat (byteAt s k)) := by
  unfold byteAt
  rw [List.getElem?_eq_getElem h]
  simp [List.getD, h]
theorem readT_ok (s : List UInt8) : (readT s).Ok := by
  have h1 := num_lt (s.take 4)
  have h2 := num_lt ((s.drop 4).take 4)
  have e1 : 256 ^ (s.take 4).length ≤ 256 ^ 4 := Nat.pow_le_pow_right (by omega) (List.length_take_le _ _)
  have e2 : 256 ^ ((s.drop 4).take 4).length ≤ 256 ^ 4 := Nat.pow_le_pow_right (by omega) (List.length_take_le _ _)
  have e3 : 256 ^ 4 = 4294967296 := by decide
  have h8 := byteAt_lt s 8
  have h9 := byteAt_lt s 9
  have h10 := byteAt_lt s 10
  constructor <;> simp only [readT] <;> omega
theorem be_one (v : Nat) : be 1 v = [UInt8.ofNat (v % 256)] := rfl
theorem be_byte (s : List UInt8) {k : Nat} (h : k < s.length) : be 1 (byteAt s k) = [s[k]] := by
  have hb := byteAt_get s h
  have hl := byteAt_lt s k
  rw [List.getElem?_eq_getElem h] at hb
  rw [be_one, Nat.mod_eq_of_lt (by omega), ← Option.some.inj hb]
/-- A sector begins with the tag that it is read as. -/
theorem head_read (s : List UInt8) (h : s.length = 64) : headT (readT s) = s.take 11 := by
  have e1 : be 4 (num (s.take 4)) = s.take 4 := by
    have := be_num (s.take 4)
    rwa [List.length_take, h] at this
  have e2 : be 4 (num ((s.drop 4).take 4)) = (s.drop 4).take 4 := by
    have := be_num ((s.drop 4).take 4)
    rwa [List.length_take, List.length_drop, h] at this
  have e3 : s.take 8 = s.take 4 ++ (s.drop 4).take 4 := List.take_add (i := 4) (j := 4)
  simp only [headT, readT, Int.toNat_natCast]
  rw [e1, e2, be_byte s (by omega), be_byte s (by omega), be_byte s (by omega), ← e3, ← List.take_succ_eq_append_getElem (by omega), ← List.take_succ_eq_append_getElem (by omega), ← List.take_succ_eq_append_getElem (by omega)]
theorem front_le (bs : List UInt8) (h : bs.length ≤ 64) : front bs = bs ++ List.replicate (64 - bs.length) 0 := by
  rw [front, List.take_of_length_le h]
theorem cont_length (s : List UInt8) (t : Tg) (h : s.length = 64) (ht : t.len ≤ 53) : (contT s t).length = t.len.toNat := by
  rw [contT, List.length_take, List.length_drop, h]
  omega
/-- What a sector that says right things is, when it is a part: noughts stand behind what it holds. -/
theorem part_iff (s : List UInt8) (h : s.length = 64) (hl : (readT s).len ≤ 53) : secT (readT s) (contT s (readT s)) = s ↔ s.drop (11 + (readT s).len.toNat) = List.replicate (53 - (readT s).len.toNat) 0 := by
  have hc := cont_length s (readT s) h hl
  generalize (readT s).len.toNat = L at *
  have hle : L ≤ 53 := by
    have := (readT_ok s).l0
    have hlen := hc
    rw [contT, List.length_take, List.length_drop, h] at hlen
    omega
  have e : headT (readT s) ++ contT s (readT s) = s.take (11 + L) := by
    rw [head_read s h, List.take_add]
    congr 1
    have := hc
    rw [contT] at this ⊢
    rw [List.length_take] at this
    rcases Nat.le_total (readT s).len.toNat ((s.drop 11).length) with h1 | h1
    · rw [Nat.min_eq_left h1] at this
      rw [this]
    · rw [Nat.min_eq_right h1] at this
      rw [List.take_of_length_le h1, List.take_of_length_le (by omega)]
  rw [secT, e, front_le _ (by rw [List.length_take]; omega)]
  have hln : (s.take (11 + L)).length = 11 + L := by rw [List.length_take]; omega
  rw [hln, show 64 - (11 + L) = 53 - L by omega]
  constructor
  · intro h2
    have h3 := congrArg (List.drop (11 + L)) h2
    rw [List.drop_append_of_le_length (by omega), List.drop_of_length_le (by omega), List.nil_append] at h3
    exact h3.symm
  · intro h2
    rw [← h2, List.take_append_drop]
theorem take_app {α : Type} (a b : List α) {k : Nat} (h : a.length = k) : (a ++ b).take k = a := by
  rw [List.take_append_of_le_length (by omega), List.take_of_length_le (by omega)]
theorem drop_app {α : Type} (a b : List α) {k : Nat} (h : a.length = k) : (a ++ b).drop k = b := by
  rw [List.drop_append_of_le_length (by omega), List.drop_of_length_le (by omega), List.nil_append]
theorem num_be4 {v : Int} (h0 : 0 ≤ v) (h1 : v ≤ 4294967295) : (num (be 4 v.toNat) : Int) = v := by
  have e : 256 ^ 4 = 4294967296 := by decide
  rw [num_be_lt (show v.toNat < 256 ^ 4 by omega)]
  omega
theorem byteAt_app (a b : List UInt8) (v : Int) {k : Nat} (h : a.length = k) (h0 : 0 ≤ v) (h1 : v ≤ 255) : ((byteAt (a ++ (be 1 v.toNat ++ b)) k : Nat) : Int) = v := by
  subst h
  unfold byteAt
  rw [be_one]
  simp [List.getD]
  omega
/-- What was written is read. -/
theorem read_secT (t : Tg) (held : List UInt8) (ht : t.Ok) (hh : held.length ≤ 53) : readT (secT t held) = t := by
  have e0 : secT t held = be 4 t.gen.toNat ++ (be 4 t.nr.toNat ++ (be 1 t.part.toNat ++ (be 1 t.parts.toNat ++ (be 1 t.len.toNat ++ (held ++ List.replicate (53 - held.length) 0))))) := by
    rw [secT, front_le _ (by rw [List.length_append, headT_length]; omega), List.length_append, headT_length, show 64 - (11 + held.length) = 53 - held.length by omega]
    simp [headT, List.append_assoc]
  have l4 := be_length 4 t.gen.toNat
  have n4 := be_length 4 t.nr.toNat
  rw [e0]
  refine Tg.ext_ ?_ ?_ ?_ ?_ ?_
  · show ((num _ : Nat) : Int) = _
    rw [take_app _ _ l4, num_be4 ht.g0 ht.g1]
  · show ((num _ : Nat) : Int) = _
    rw [drop_app _ _ l4, take_app _ _ n4, num_be4 ht.n0 ht.n1]
  · show ((byteAt _ 8 : Nat) : Int) = _
    rw [← List.append_assoc, byteAt_app _ _ t.part (by simp [be_length]) ht.p0 ht.p1]
  · show ((byteAt _ 9 : Nat) : Int) = _
    rw [← List.append_assoc, ← List.append_assoc, byteAt_app _ _ t.parts (by simp [be_length]) ht.q0 ht.q1]
  · show ((byteAt _ 10 : Nat) : Int) = _
    rw [← List.append_assoc, ← List.append_assoc, ← List.append_assoc, byteAt_app _ _ t.len (by simp [be_length]) ht.l0 ht.l1]
theorem cont_secT (t u : Tg) (held : List UInt8) (hh : held.length ≤ 53) (hl : u.len.toNat = held.length) : contT (secT t held) u = held := by
  rw [contT, secT, front_le _ (by rw [List.length_append, headT_length]; omega), List.append_assoc, drop_app _ _ (headT_length t), hl, take_app _ _ rfl]
theorem part_secT (t : Tg) (held : List UInt8) (ht : t.Ok) (hr : rightT t = true) (hl : t.len.toNat = held.length) : partB (secT t held) = true := by
  have hh : held.length ≤ 53 := by
    have := (right_iff t).1 hr
    have := ht.l0
    omega
  rw [partB, read_secT t held ht hh, hr, cont_secT t t held hh hl]
  simp
theorem part_right {s : List UInt8} (h : partB s = true) : rightT (readT s) = true := by
  unfold partB at h
  simp only [Bool.and_eq_true] at h
  exact h.1
/-! ### Many sectors -/
/-- k pieces one behind the other. -/
def cat (f : Nat → List UInt8) (k : Nat) : List UInt8 := (List.range k).flatMap f
theorem cat_zero (f : Nat → List UInt8) : cat f 0 = [] := rfl
theorem cat_succ (f : Nat → List UInt8) (k : Nat) : cat f (k + 1) = cat f k ++ f k := by
  simp [cat, List.range_succ]
theorem cat_congr {f g : Nat → List UInt8} {k : Nat} (h : ∀ i, i < k → f i = g i) : cat f k = cat g k := by
  induction k with
  | zero => rfl
  | succ k ih => rw [cat_succ, cat_succ, ih (fun i hi => h i (by omega)), h k (by omega)]
theorem cat_length {f : Nat → List UInt8} {k : Nat} (h : ∀ i, i < k → (f i).length = 64) : (cat f k).length = k * 64 := by
  induction k with
  | zero => rfl
  | succ k ih => rw [cat_succ, List.length_append, ih (fun i hi => h i (by omega)), h k (by omega)]; omega
theorem secAt_app_left (a b : List UInt8) (i : Nat) (h : (i + 1) * 64 ≤ a.length) : secAt (a ++ b) i = secAt a i := by
  rw [secAt, secAt, List.drop_append_of_le_length (by omega), List.take_append_of_le_length (by rw [List.length_drop]; omega)]
theorem secAt_cat {f : Nat → List UInt8} {k i : Nat} (h : ∀ i, i < k → (f i).length = 64) (hi : i < k) : secAt (cat f k) i = f i := by
  induction k with
  | zero => omega
  | succ k ih =>
    have hl : (cat f k).length = k * 64 := cat_length (fun i hi => h i (by omega))
    rw [cat_succ]
    by_cases hk : i < k
    · rw [secAt_app_left _ _ _ (by rw [hl]; omega), ih (fun i hi => h i (by omega)) hk]
    · obtain rfl : i = k := by omega
      rw [secAt, drop_app _ _ hl, List.take_of_length_le (by rw [h i (by omega)]; omega)]
theorem cat_secAt (bs : List UInt8) (n : Nat) (h : bs.length = n * 64) : cat (secAt bs) n = bs := by
  have hh : ∀ k, k ≤ n → cat (secAt bs) k = bs.take (k * 64) := by
    intro k hk
    induction k with
    | zero => simp [cat_zero]
    | succ k ih => rw [cat_succ, ih (by omega), take_secAt]
  rw [hh n (Nat.le_refl _), List.take_of_length_le (by omega)]
/-! ### Split -/
def partsI (n : Int) : Int := if n < 0 ∨ 2120 < n then 0 else if (n + 52) / 53 < 1 then 1 else (n + 52) / 53
def partsN (n : Nat) : Nat := (partsI n).toNat
def heldT (b : List UInt8) (i : Nat) : List UInt8 := (b.drop (53 * i)).take 53
def pieceT (gen nr : Int) (b : List UInt8) (i : Nat) : Tg := ⟨gen, nr, i, partsN b.length, (heldT b i).length⟩
def pieceS (gen nr : Int) (b : List UInt8) (i : Nat) : List UInt8 := secT (pieceT gen nr b i) (heldT b i)
def splitT (gen nr : Int) (b : List UInt8) : List UInt8 := cat (pieceS gen nr b) (partsN b.length)
def numB (v : Int) : Bool := decide (0 ≤ v ∧ v ≤ 4294967295)

theorem partsI_nat (n : Nat) : partsI n = (partsN n : Nat) := by
  unfold partsN
  have : 0 ≤ partsI n := by
    unfold partsI
    split
    · omega
    · split <;> omega
  omega
theorem partsN_big {n : Nat} (h : 2120 < n) : partsN n = 0 := by
  unfold partsN partsI
  rw [if_pos (by omega)]
  rfl
theorem partsN_le (n : Nat) : partsN n ≤ 40 := by
  unfold partsN partsI
  split
  · omega
  · split <;> omega
/-- As many parts as fifty-three goes into it. -/
theorem partsN_is {n : Nat} (h : n ≤ 2120) : 1 ≤ partsN n ∧ n ≤ 53 * partsN n ∧ (partsN n = 1 ∨ 53 * (partsN n - 1) < n) := by
  unfold partsN partsI
  rw [if_neg (by omega)]
  split <;> omega
theorem heldT_length (b : List UInt8) (i : Nat) : (heldT b i).length = min 53 (b.length - 53 * i) := by
  rw [heldT, List.length_take, List.length_drop]
theorem heldT_le (b : List UInt8) (i : Nat) : (heldT b i).length ≤ 53 := by rw [heldT_length]; omega
theorem cat_held (b : List UInt8) (k : Nat) : cat (heldT b) k = b.take (53 * k) := by
  induction k with
  | zero => rfl
  | succ k ih => rw [cat_succ, ih, heldT, ← List.take_add, Nat.mul_succ]
theorem cat_held_all {b : List UInt8} (h : b.length ≤ 2120) : cat (heldT b) (partsN b.length) = b := by
  rw [cat_held, List.take_of_length_le (partsN_is h).2.1]
theorem numB_iff {v : Int} : numB v = true ↔ 0 ≤ v ∧ v ≤ 4294967295 := by simp [numB]
theorem piece_ok {gen nr : Int} {b : List UInt8} {i : Nat} (hg : numB gen = true) (hn : numB nr = true) (hi : i < partsN b.length) : (pieceT gen nr b i).Ok := by
  have h1 := partsN_le b.length
  have h2 := heldT_le b i
  have g := numB_iff.1 hg
  have n := numB_iff.1 hn
  constructor <;> simp only [pieceT] <;> omega
theorem piece_right {gen nr : Int} {b : List UInt8} {i : Nat} (hi : i < partsN b.length) : rightT (pieceT gen nr b i) = true := by
  have h1 := partsN_le b.length
  have hb : b.length ≤ 2120 := by
    rcases Nat.lt_or_ge 2120 b.length with h | h
    · rw [partsN_big h] at hi; omega
    · exact h
  obtain ⟨h2, h3, h4⟩ := partsN_is hb
  have h5 := heldT_length b i
  rw [right_iff]
  refine ⟨by simp only [pieceT]; omega, by simp only [pieceT]; omega, ?_, by have := heldT_le b i; simp only [pieceT]; omega⟩
  show (if (i : Int) < (partsN b.length : Int) - 1 then (53 : Int) else if 1 < (partsN b.length : Int) then 1 else 0) ≤ ((heldT b i).length : Int)
  by_cases c1 : (i : Int) < (partsN b.length : Int) - 1
  · rw [if_pos c1]
    omega
  · rw [if_neg c1]
    by_cases c2 : 1 < (partsN b.length : Int)
    · rw [if_pos c2]
      omega
    · rw [if_neg c2]
      omega
theorem piece_read {gen nr : Int} {b : List UInt8} {i : Nat} (hg : numB gen = true) (hn : numB nr = true) (hi : i < partsN b.length) : readT (pieceS gen nr b i) = pieceT gen nr b i := read_secT _ _ (piece_ok hg hn hi) (heldT_le b i)
theorem piece_part {gen nr : Int} {b : List UInt8} {i : Nat} (hg : numB gen = true) (hn : numB nr = true) (hi : i < partsN b.length) : partB (pieceS gen nr b i) = true := part_secT _ _ (piece_ok hg hn hi) (piece_right hi) (by simp [pieceT])
theorem piece_cont {gen nr : Int} {b : List UInt8} {i : Nat} (hg : numB gen = true) (hn : numB nr = true) (hi : i < partsN b.length) : contT (pieceS gen nr b i) (readT (pieceS gen nr b i)) = heldT b i := by
  rw [piece_read hg hn hi]
  exact cont_secT _ _ _ (heldT_le b i) (by simp [pieceT])
theorem split_length (gen nr : Int) (b : List UInt8) : (splitT gen nr b).length = partsN b.length * 64 := cat_length (fun _ _ => secT_length _ _)
theorem split_at (gen nr : Int) (b : List UInt8) {i : Nat} (hi : i < partsN b.length) : secAt (splitT gen nr b) i = pieceS gen nr b i := secAt_cat (fun _ _ => secT_length _ _) hi
/-! ### Join -/
/-- Is this sector part i of n, of this generation and number? -/
def okT (gen nr : Int) (n i : Nat) (s : List UInt8) : Bool := partB s && decide ((readT s).gen = gen ∧ (readT s).nr = nr ∧ (readT s).part = i ∧ (readT s).parts = n)
def AllOk (gen nr : Int) (n : Nat) (bs : List UInt8) (k : Nat) : Prop := ∀ i, i < k → okT gen nr n i (secAt bs i) = true
def contAt (bs : List UInt8) (i : Nat) : List UInt8 := contT (secAt bs i) (readT (secAt bs i))
def joinB (gen nr : Int) (n : Nat) (bs : List UInt8) : Bool := decide (0 < n) && (List.range n).all fun i => okT gen nr n i (secAt bs i)
def joinL (gen nr : Int) (n : Nat) (bs : List UInt8) : List UInt8 := if joinB gen nr n bs then cat (contAt bs) n else []
theorem join_yes {gen nr : Int} {n : Nat} {bs : List UInt8} (h0 : 0 < n) (h : AllOk gen nr n bs n) : joinB gen nr n bs = true := by
  rw [joinB, decide_eq_true h0, Bool.true_and, List.all_eq_true]
  intro i hi
  exact h i (List.mem_range.1 hi)
theorem join_no {gen nr : Int} {n i : Nat} {bs : List UInt8} (hi : i < n) (h : okT gen nr n i (secAt bs i) = false) : joinB gen nr n bs = false := by
  rw [joinB, Bool.and_eq_false_iff]
  right
  rw [List.all_eq_false]
  exact ⟨i, List.mem_range.2 hi, by simp [h]⟩
theorem join_none (gen nr : Int) (bs : List UInt8) : joinB gen nr 0 bs = false := rfl
theorem joinL_no {gen nr : Int} {n : Nat} {bs : List UInt8} (h : joinB gen nr n bs = false) : joinL gen nr n bs = [] := by rw [joinL, h]; rfl
theorem ok_parts {gen nr : Int} {n i : Nat} {s : List UInt8} (h : okT gen nr n i s = true) : n ≤ 40 ∧ (readT s).len ≤ 53 := by
  unfold okT at h
  simp only [Bool.and_eq_true, decide_eq_true_eq] at h
  have h1 := (right_iff _).1 (part_right h.1)
  omega
theorem cont_le (s : List UInt8) (h : (readT s).len ≤ 53) : (contT s (readT s)).length ≤ 53 := by
  rw [contT, List.length_take]
  omega
theorem cat_cont_le {gen nr : Int} {n k : Nat} {bs : List UInt8} (h : AllOk gen nr n bs k) : (cat (contAt bs) k).length ≤ 53 * k := by
  induction k with
  | zero => simp [cat_zero]
  | succ k ih =>
    have h1 := ih (fun i hi => h i (by omega))
    have h2 : (contAt bs k).length ≤ 53 := cont_le _ (ok_parts (h k (by omega))).2
    rw [cat_succ, List.length_append]
    omega
/-- What is split is joined. -/
theorem join_split {gen nr : Int} {b : List UInt8} (hg : numB gen = true) (hn : numB nr = true) (hb : b.length ≤ 2120) : joinB gen nr (partsN b.length) (splitT gen nr b) = true ∧ joinL gen nr (partsN b.length) (splitT gen nr b) = b := by
  have h1 : joinB gen nr (partsN b.length) (splitT gen nr b) = true := by
    refine join_yes (by have := (partsN_is hb).1; omega) (fun i hi => ?_)
    rw [split_at gen nr b hi, okT, piece_part hg hn hi, piece_read hg hn hi]
    simp [pieceT]
  refine ⟨h1, ?_⟩
  rw [joinL, if_pos h1]
  refine Eq.trans (cat_congr (fun i hi => ?_)) (cat_held_all hb)
  rw [contAt, split_at gen nr b hi, piece_cont hg hn hi]
theorem ok_no {gen nr : Int} {n i : Nat} {s : List UInt8} {t : Tg} (h : readT s = t) (hne : ¬ (t.gen = gen ∧ t.nr = nr ∧ t.part = i ∧ t.parts = n)) : okT gen nr n i s = false := by
  rw [okT, h, decide_eq_false hne, Bool.and_false]
#print axioms join_split
end Go.Proofs.Ytmjdndhpnckeeaa
