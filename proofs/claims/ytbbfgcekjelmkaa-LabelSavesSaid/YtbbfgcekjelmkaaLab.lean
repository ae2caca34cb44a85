/- Labels, as the document tells them, by definition alone: which are right, the sector of one, what a sector says. No program is named here. -/
import Derived.Test.YtbbfgcekjelmkaaSec
import Derived.Test.YtbbfgcekjelmkaaPure
namespace Go.Proofs.Ytbbfgcekjelmkaa
open Go.RowKit

/-- A member: its number, how many sectors it has, how it is. -/
abbrev Mb := Int × Int × Int
structure Lab where
  array : Int
  gen : Int
  member : Int
  blocks : Int
  members : List Mb
theorem Lab.same {a b : Lab} (h1 : a.array = b.array) (h2 : a.gen = b.gen) (h3 : a.member = b.member) (h4 : a.blocks = b.blocks) (h5 : a.members = b.members) : a = b := by
  cases a
  cases b
  simp at h1 h2 h3 h4 h5
  subst h1 h2 h3 h4 h5
  rfl
def Lab.none_ : Lab := ⟨0, 0, 0, 0, []⟩
def mbC (m : Mb) : List Value := [.int .i64 m.1, .int .i64 m.2.1, .int .i64 m.2.2]
def mbL (l : List Mb) : List Value := l.flatMap mbC
theorem mbL_nil : mbL [] = [] := rfl
theorem mbL_cons (m : Mb) (l : List Mb) : mbL (m :: l) = mbC m ++ mbL l := rfl
theorem mbL_append (a b : List Mb) : mbL (a ++ b) = mbL a ++ mbL b := by simp [mbL]
theorem mbL_length (l : List Mb) : (mbL l).length = l.length * 3 := by
  induction l with
  | nil => rfl
  | cons m l ih => rw [mbL_cons, List.length_append, ih, List.length_cons]; simp [mbC]; omega
theorem mbL_one (l : List Mb) : ∀ u ∈ mbL l, u.oneCell' = true := by
  intro u hu
  obtain ⟨m, _, hm⟩ := List.mem_flatMap.1 hu
  simp [mbC] at hm
  rcases hm with rfl | rfl | rfl <;> rfl
theorem mbL_drop : ∀ (k : Nat) (l : List Mb), (mbL l).drop (k * 3) = mbL (l.drop k)
  | 0, l => by simp
  | k + 1, [] => by simp [mbL]
  | k + 1, m :: l => by
    rw [List.drop_succ_cons, ← mbL_drop k l, mbL_cons, Nat.add_mul, Nat.one_mul, Nat.add_comm, ← List.drop_drop]
    rfl
theorem mbL_take : ∀ (k : Nat) (l : List Mb), (mbL l).take (k * 3) = mbL (l.take k)
  | 0, l => by simp [mbL]
  | k + 1, [] => by simp [mbL]
  | k + 1, m :: l => by
    rw [List.take_succ_cons, mbL_cons m l, mbL_cons m (l.take k), ← mbL_take k l, Nat.add_mul, Nat.one_mul, Nat.add_comm, List.take_add]
    rfl
theorem mbL_at {l : List Mb} {k : Nat} {m : Mb} (h : l[k]? = some m) (j : Nat) (hj : j < 3) : (mbL l)[k * 3 + j]? = (mbC m)[j]? := by
  rw [← List.getElem?_drop, mbL_drop]
  obtain ⟨hk, hm⟩ := List.getElem?_eq_some_iff.1 h
  rw [List.drop_eq_getElem_cons hk, hm, mbL_cons, List.getElem?_append_left (by simpa [mbC] using hj)]
theorem mbL_inj : ∀ {a b : List Mb}, mbL a = mbL b → a = b
  | [], [], _ => rfl
  | [], m :: b, h => by simp [mbL, mbC] at h
  | m :: a, [], h => by simp [mbL, mbC] at h
  | m :: a, n :: b, h => by
    obtain ⟨m1, m2, m3⟩ := m
    obtain ⟨n1, n2, n3⟩ := n
    rw [mbL_cons, mbL_cons] at h
    simp [mbC] at h
    obtain ⟨rfl, rfl, rfl, h⟩ := h
    rw [mbL_inj h]

/-- Is v from a to c? -/
def inB (v a c : Int) : Bool := decide (a ≤ v ∧ v ≤ c)
theorem inB_iff {v a c : Int} : inB v a c = true ↔ a ≤ v ∧ v ≤ c := by simp [inB]
theorem inB_no {v a c : Int} : inB v a c = false ↔ ¬ (a ≤ v ∧ v ≤ c) := by rw [← inB_iff, Bool.not_eq_true]
/-- May a member have these sectors, and be so? -/
def memberB (m : Mb) : Bool := inB m.2.1 160 4096 && inB m.2.2 0 2
/-- Numbers that rise behind 'last', each member right. -/
def risingB : Int → List Mb → Bool
  | _, [] => true
  | last, m :: l => inB m.1 (last + 1) 31 && memberB m && risingB m.1 l
def membersB (l : List Mb) : Bool := inB (l.length : Int) 3 12 && risingB (-1) l
def ownB (l : List Mb) (own : Int) : Bool := l.any fun m => m.1 == own
def rightB (l : Lab) : Bool := inB l.array 0 4294967295 && inB l.gen 1 4294967295 && inB l.blocks 1 96 && membersB l.members && ownB l.members l.member

/-- The bytes of members; of a label. -/
def mbB (l : List Mb) : List UInt8 := l.flatMap fun m => be 1 m.1.toNat ++ be 2 m.2.1.toNat ++ be 1 m.2.2.toNat
theorem mbB_append (a b : List Mb) : mbB (a ++ b) = mbB a ++ mbB b := by simp [mbB]
theorem mbB_length (l : List Mb) : (mbB l).length = l.length * 4 := by
  induction l with
  | nil => rfl
  | cons m l ih => rw [show mbB (m :: l) = be 1 m.1.toNat ++ be 2 m.2.1.toNat ++ be 1 m.2.2.toNat ++ mbB l from rfl]; simp [be_length, ih]; omega
def headB (l : Lab) : List UInt8 := [66, 87] ++ be 4 l.array.toNat ++ be 4 l.gen.toNat ++ be 1 l.member.toNat ++ be 2 l.blocks.toNat ++ be 1 l.members.length
theorem headB_length (l : Lab) : (headB l).length = 14 := by simp [headB, be_length]
def labB (l : Lab) : List UInt8 := headB l ++ mbB l.members
theorem labB_length (l : Lab) : (labB l).length = 14 + l.members.length * 4 := by rw [labB, List.length_append, headB_length, mbB_length]
/-- A label's sector. -/
def labS (l : Lab) : Sec := ⟨front (labB l), front_length _⟩
def putS (l : Lab) : Sec := if rightB l then labS l else zeroSec
def putE (l : Lab) : Int := if rightB l then 0 else 1

/-- What bytes say as a label. -/
def readM (s : List UInt8) (i : Nat) : Mb := ((getV (s.drop (14 + 4 * i)) 1 : Nat), (getV (s.drop (15 + 4 * i)) 2 : Nat), (getV (s.drop (17 + 4 * i)) 1 : Nat))
def countM (s : List UInt8) : Nat := getV (s.drop 13) 1
def readL (s : List UInt8) : Lab := { array := (getV (s.drop 2) 4 : Nat), gen := (getV (s.drop 6) 4 : Nat), member := (getV (s.drop 10) 1 : Nat), blocks := (getV (s.drop 11) 2 : Nat), members := (List.range (countM s)).map (readM s) }
/-- Is a sector a label's? Which? -/
def ofB (s : Sec) : Bool := rightB (readL s.1) && decide (labS (readL s.1) = s)
def ofL (s : Sec) : Lab := if ofB s then readL s.1 else Lab.none_
def ofE (s : Sec) : Int := if ofB s then 0 else 2
def sameB (a b : Lab) : Bool := decide (a.array = b.array) && decide (a.gen = b.gen) && decide (a.member = b.member) && decide (a.blocks = b.blocks) && decide (a.members = b.members)
theorem sameB_iff {a b : Lab} : sameB a b = true ↔ a = b := by
  constructor
  · intro h
    simp [sameB] at h
    exact Lab.same h.1.1.1.1 h.1.1.1.2 h.1.1.2 h.1.2 h.2
  · rintro rfl
    simp [sameB]
theorem sameB_self (a : Lab) : sameB a a = true := sameB_iff.2 rfl

theorem getV_of {A F R : List UInt8} {o w : Nat} {v : Nat} (hA : A.length = o) (hF : F = be w v) (hw1 : 1 ≤ w) (hw6 : w ≤ 6) (hv : v < 256 ^ w) : getV ((A ++ F ++ R).drop o) w = v := by
  have hl : F.length = w := by rw [hF, be_length]
  have hd : (A ++ F ++ R).drop o = F ++ R := by rw [← hA, List.append_assoc, List.drop_left]
  have ho : getO (F ++ R) w = true := by simp [getO]; omega
  rw [hd, getV_yes ho, Int.toNat_natCast, ← hl, List.take_left, hF, num_be_lt hv]
theorem right_parts {l : Lab} (h : rightB l = true) : (0 ≤ l.array ∧ l.array ≤ 4294967295) ∧ (1 ≤ l.gen ∧ l.gen ≤ 4294967295) ∧ (1 ≤ l.blocks ∧ l.blocks ≤ 96) ∧ (3 ≤ l.members.length ∧ l.members.length ≤ 12) ∧ risingB (-1) l.members = true ∧ ownB l.members l.member = true := by
  simp only [rightB, membersB, Bool.and_eq_true, inB_iff] at h
  obtain ⟨⟨⟨⟨h1, h2⟩, h3⟩, h4, h5⟩, h6⟩ := h
  exact ⟨h1, h2, h3, by omega, h5, h6⟩
theorem rising_all : ∀ {l : List Mb} {last : Int}, -1 ≤ last → risingB last l = true → ∀ m ∈ l, (0 ≤ m.1 ∧ m.1 ≤ 31) ∧ (160 ≤ m.2.1 ∧ m.2.1 ≤ 4096) ∧ 0 ≤ m.2.2 ∧ m.2.2 ≤ 2
  | [], _, _, _, m, hm => by cases hm
  | x :: l, last, hl, h, m, hm => by
    simp only [risingB, memberB, Bool.and_eq_true, inB_iff] at h
    obtain ⟨⟨h1, h2, h3⟩, h4⟩ := h
    rcases List.mem_cons.1 hm with rfl | hm
    · exact ⟨⟨by omega, h1.2⟩, h2, h3⟩
    · exact rising_all (by omega) h4 m hm
theorem right_member {l : Lab} (h : rightB l = true) : 0 ≤ l.member ∧ l.member ≤ 31 := by
  obtain ⟨_, _, _, _, h5, h6⟩ := right_parts h
  obtain ⟨m, hm, he⟩ := List.any_eq_true.1 h6
  have := (rising_all (by omega) h5 m hm).1
  have e : m.1 = l.member := by simpa using he
  omega
theorem toNat_lt {v : Int} {n : Nat} (h : v < (n : Int)) (h0 : 0 ≤ v) : v.toNat < n := by omega
theorem front_short {bs : List UInt8} (h : bs.length ≤ 64) : front bs = bs ++ List.replicate (64 - bs.length) 0 := by rw [front, List.take_of_length_le h]
theorem pad_short {bs : List UInt8} (h0 : 0 < bs.length) (h : bs.length ≤ 64) : pad bs = front bs := by
  rw [pad_step bs h0, List.drop_eq_nil_of_le h, pad_nil, List.append_nil]
/-- A right label is read as it was written. -/
theorem read_back {l : Lab} (h : rightB l = true) : readL (labS l).1 = l := by
  obtain ⟨h1, h2, h3, h4, h5, h6⟩ := right_parts h
  have hm := right_member h
  have hall := rising_all (by omega) h5
  have hlen : (labB l).length ≤ 64 := by rw [labB_length]; omega
  have hs : (labS l).1 = labB l ++ List.replicate (64 - (labB l).length) 0 := front_short hlen
  obtain ⟨Z, hZ⟩ : ∃ Z, Z = List.replicate (64 - (labB l).length) (0 : UInt8) := ⟨_, rfl⟩
  rw [← hZ] at hs
  have hc : countM (labS l).1 = l.members.length := by
    rw [hs]
    have := getV_of (A := [66, 87] ++ be 4 l.array.toNat ++ be 4 l.gen.toNat ++ be 1 l.member.toNat ++ be 2 l.blocks.toNat) (F := be 1 l.members.length) (R := mbB l.members ++ Z) (o := 13) (w := 1) (by simp [be_length]) rfl (by omega) (by omega) (by omega)
    unfold countM labB headB
    rw [List.append_assoc _ (mbB l.members) Z]
    exact this
  apply Lab.same
  · have := getV_of (A := [66, 87]) (F := be 4 l.array.toNat) (R := be 4 l.gen.toNat ++ be 1 l.member.toNat ++ be 2 l.blocks.toNat ++ be 1 l.members.length ++ mbB l.members ++ Z) (o := 2) (w := 4) rfl rfl (by omega) (by omega) (v := l.array.toNat) (by omega)
    show ((getV ((labS l).1.drop 2) 4 : Nat) : Int) = _
    rw [hs, show labB l ++ Z = [66, 87] ++ be 4 l.array.toNat ++ (be 4 l.gen.toNat ++ be 1 l.member.toNat ++ be 2 l.blocks.toNat ++ be 1 l.members.length ++ mbB l.members ++ Z) by simp [labB, headB], show (4 : Int) = ((4 : Nat) : Int) from rfl, this]
    omega
  · have := getV_of (A := [66, 87] ++ be 4 l.array.toNat) (F := be 4 l.gen.toNat) (R := be 1 l.member.toNat ++ be 2 l.blocks.toNat ++ be 1 l.members.length ++ mbB l.members ++ Z) (o := 6) (w := 4) (by simp [be_length]) rfl (by omega) (by omega) (v := l.gen.toNat) (by omega)
    show ((getV ((labS l).1.drop 6) 4 : Nat) : Int) = _
    rw [hs, show labB l ++ Z = [66, 87] ++ be 4 l.array.toNat ++ be 4 l.gen.toNat ++ (be 1 l.member.toNat ++ be 2 l.blocks.toNat ++ be 1 l.members.length ++ mbB l.members ++ Z) by simp [labB, headB], show (4 : Int) = ((4 : Nat) : Int) from rfl, this]
    omega
  · have := getV_of (A := [66, 87] ++ be 4 l.array.toNat ++ be 4 l.gen.toNat) (F := be 1 l.member.toNat) (R := be 2 l.blocks.toNat ++ be 1 l.members.length ++ mbB l.members ++ Z) (o := 10) (w := 1) (by simp [be_length]) rfl (by omega) (by omega) (v := l.member.toNat) (by omega)
    show ((getV ((labS l).1.drop 10) 1 : Nat) : Int) = _
    rw [hs, show labB l ++ Z = [66, 87] ++ be 4 l.array.toNat ++ be 4 l.gen.toNat ++ be 1 l.member.toNat ++ (be 2 l.blocks.toNat ++ be 1 l.members.length ++ mbB l.members ++ Z) by simp [labB, headB], show (1 : Int) = ((1 : Nat) : Int) from rfl, this]
    omega
  · have := getV_of (A := [66, 87] ++ be 4 l.array.toNat ++ be 4 l.gen.toNat ++ be 1 l.member.toNat) (F := be 2 l.blocks.toNat) (R := be 1 l.members.length ++ mbB l.members ++ Z) (o := 11) (w := 2) (by simp [be_length]) rfl (by omega) (by omega) (v := l.blocks.toNat) (by omega)
    show ((getV ((labS l).1.drop 11) 2 : Nat) : Int) = _
    rw [hs, show labB l ++ Z = [66, 87] ++ be 4 l.array.toNat ++ be 4 l.gen.toNat ++ be 1 l.member.toNat ++ be 2 l.blocks.toNat ++ (be 1 l.members.length ++ mbB l.members ++ Z) by simp [labB, headB], show (2 : Int) = ((2 : Nat) : Int) from rfl, this]
    omega
  · show (List.range (countM (labS l).1)).map (readM (labS l).1) = _
    rw [hc]
    apply List.ext_getElem
    · simp
    · intro i hi1 hi2
      rw [List.getElem_map, List.getElem_range]
      obtain ⟨b1, b2, b3⟩ := hall l.members[i] (List.getElem_mem hi2)
      have hsplit : mbB l.members = mbB (l.members.take i) ++ (be 1 l.members[i].1.toNat ++ be 2 l.members[i].2.1.toNat ++ be 1 l.members[i].2.2.toNat ++ mbB (l.members.drop (i + 1))) := by
        conv => lhs; rw [← List.take_append_drop i l.members, mbB_append, List.drop_eq_getElem_cons hi2]
        rfl
      have hli : (headB l ++ mbB (l.members.take i)).length = 14 + 4 * i := by rw [List.length_append, headB_length, mbB_length, List.length_take]; omega
      have e1 := getV_of (A := headB l ++ mbB (l.members.take i)) (F := be 1 l.members[i].1.toNat) (R := be 2 l.members[i].2.1.toNat ++ be 1 l.members[i].2.2.toNat ++ mbB (l.members.drop (i + 1)) ++ Z) (o := 14 + 4 * i) (w := 1) hli rfl (by omega) (by omega) (v := l.members[i].1.toNat) (by omega)
      have e2 := getV_of (A := headB l ++ mbB (l.members.take i) ++ be 1 l.members[i].1.toNat) (F := be 2 l.members[i].2.1.toNat) (R := be 1 l.members[i].2.2.toNat ++ mbB (l.members.drop (i + 1)) ++ Z) (o := 15 + 4 * i) (w := 2) (by rw [List.length_append, hli, be_length]; omega) rfl (by omega) (by omega) (v := l.members[i].2.1.toNat) (by omega)
      have e3 := getV_of (A := headB l ++ mbB (l.members.take i) ++ be 1 l.members[i].1.toNat ++ be 2 l.members[i].2.1.toNat) (F := be 1 l.members[i].2.2.toNat) (R := mbB (l.members.drop (i + 1)) ++ Z) (o := 17 + 4 * i) (w := 1) (by rw [List.length_append, List.length_append, hli, be_length, be_length]; omega) rfl (by omega) (by omega) (v := l.members[i].2.2.toNat) (by omega)
      have q : (labS l).1 = headB l ++ mbB (l.members.take i) ++ be 1 l.members[i].1.toNat ++ (be 2 l.members[i].2.1.toNat ++ be 1 l.members[i].2.2.toNat ++ mbB (l.members.drop (i + 1)) ++ Z) := by rw [hs, labB, hsplit]; simp
      unfold readM
      refine Prod.ext ?_ (Prod.ext ?_ ?_)
      · show ((getV ((labS l).1.drop (14 + 4 * i)) 1 : Nat) : Int) = _
        rw [q, show (1 : Int) = ((1 : Nat) : Int) from rfl, e1]
        omega
      · show ((getV ((labS l).1.drop (15 + 4 * i)) 2 : Nat) : Int) = _
        rw [q, show (2 : Int) = ((2 : Nat) : Int) from rfl, show headB l ++ mbB (l.members.take i) ++ be 1 l.members[i].1.toNat ++ (be 2 l.members[i].2.1.toNat ++ be 1 l.members[i].2.2.toNat ++ mbB (l.members.drop (i + 1)) ++ Z) = headB l ++ mbB (l.members.take i) ++ be 1 l.members[i].1.toNat ++ be 2 l.members[i].2.1.toNat ++ (be 1 l.members[i].2.2.toNat ++ mbB (l.members.drop (i + 1)) ++ Z) by simp, e2]
        omega
      · show ((getV ((labS l).1.drop (17 + 4 * i)) 1 : Nat) : Int) = _
        rw [q, show (1 : Int) = ((1 : Nat) : Int) from rfl, show headB l ++ mbB (l.members.take i) ++ be 1 l.members[i].1.toNat ++ (be 2 l.members[i].2.1.toNat ++ be 1 l.members[i].2.2.toNat ++ mbB (l.members.drop (i + 1)) ++ Z) = headB l ++ mbB (l.members.take i) ++ be 1 l.members[i].1.toNat ++ be 2 l.members[i].2.1.toNat ++ be 1 l.members[i].2.2.toNat ++ (mbB (l.members.drop (i + 1)) ++ Z) by simp, e3]
        omega
theorem of_put {l : Lab} (h : rightB l = true) : ofB (labS l) = true ∧ ofL (labS l) = l ∧ ofE (labS l) = 0 := by
  have hb : ofB (labS l) = true := by rw [ofB, read_back h, h]; simp
  exact ⟨hb, by rw [ofL, if_pos hb, read_back h], by rw [ofE, if_pos hb]⟩
theorem of_parts {s : Sec} (h : ofB s = true) : rightB (ofL s) = true ∧ labS (ofL s) = s := by
  have h2 := h
  rw [ofB, Bool.and_eq_true] at h2
  rw [ofL, if_pos h]
  exact ⟨h2.1, by simpa using h2.2⟩
#print axioms read_back
end Go.Proofs.Ytbbfgcekjelmkaa
