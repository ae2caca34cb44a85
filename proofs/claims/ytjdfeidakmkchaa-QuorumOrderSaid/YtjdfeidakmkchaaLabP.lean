/- Labels and members as plain data: which are right, when two are the same. No program is named here. -/
import Derived.Test.YtjdfeidakmkchaaMem
namespace Go.Proofs.Ytjdfeidakmkchaa
open Go.RowKit

/-- A member: its number, how many sectors it has, how it is. -/
abbrev Mb := Int × Int × Int
structure Lab where
  array : Int
  gen : Int
  member : Int
  blocks : Int
  members : List Mb
theorem Lab.same {a b : Lab} (h1 : a.array = b.array) (h2 : a.gen = b.gen) (h3 : a.member = b.member) (h4 : a.blocks = b.blocks) (h5 : a.members = b.members) : a = b := by
  cases a
  cases b
  simp at h1 h2 h3 h4 h5
  subst h1 h2 h3 h4 h5
  rfl
def Lab.none_ : Lab := ⟨0, 0, 0, 0, []⟩
def mbC (m : Mb) : List Value := [.int .i64 m.1, .int .i64 m.2.1, .int .i64 m.2.2]
def mbL (l : List Mb) : List Value := l.flatMap mbC
theorem mbL_nil : mbL [] = [] := rfl
theorem mbL_cons (m : Mb) (l : List Mb) : mbL (m :: l) = mbC m ++ mbL l := rfl
theorem mbL_append (a b : List Mb) : mbL (a ++ b) = mbL a ++ mbL b := by simp [mbL]
theorem mbL_length (l : List Mb) : (mbL l).length = l.length * 3 := by
  induction l with
  | nil => rfl
  | cons m l ih => rw [mbL_cons, List.length_append, ih, List.length_cons]; simp [mbC]; omega
theorem mbL_one (l : List Mb) : ∀ u ∈ mbL l, u.oneCell' = true := by
  intro u hu
  obtain ⟨m, _, hm⟩ := List.mem_flatMap.1 hu
  simp [mbC] at hm
  rcases hm with rfl | rfl | rfl <;> rfl
theorem mbL_drop : ∀ (k : Nat) (l : List Mb), (mbL l).drop (k * 3) = mbL (l.drop k)
  | 0, l => by simp
  | k + 1, [] => by simp [mbL]
  | k + 1, m :: l => by
    rw [List.drop_succ_cons, ← mbL_drop k l, mbL_cons, Nat.add_mul, Nat.one_mul, Nat.add_comm, ← List.drop_drop]
    rfl
theorem mbL_take : ∀ (k : Nat) (l : List Mb), (mbL l).take (k * 3) = mbL (l.take k)
  | 0, l => by simp [mbL]
  | k + 1, [] => by simp [mbL]
  | k + 1, m :: l => by
    rw [List.take_succ_cons, mbL_cons m l, mbL_cons m (l.take k), ← mbL_take k l, Nat.add_mul, Nat.one_mul, Nat.add_comm, List.take_add]
    rfl
theorem mbL_at {l : List Mb} {k : Nat} {m : Mb} (h : l[k]? = some m) (j : Nat) (hj : j < 3) : (mbL l)[k * 3 + j]? = (mbC m)[j]? := by
  rw [← List.getElem?_drop, mbL_drop]
  obtain ⟨hk, hm⟩ := List.getElem?_eq_some_iff.1 h
  rw [List.drop_eq_getElem_cons hk, hm, mbL_cons, List.getElem?_append_left (by simpa [mbC] using hj)]
theorem mbL_inj : ∀ {a b : List Mb}, mbL a = mbL b → a = b
  | [], [], _ => rfl
  | [], m :: b, h => by simp [mbL, mbC] at h
  | m :: a, [], h => by simp [mbL, mbC] at h
  | m :: a, n :: b, h => by
    obtain ⟨m1, m2, m3⟩ := m
    obtain ⟨n1, n2, n3⟩ := n
    rw [mbL_cons, mbL_cons] at h
    simp [mbC] at h
    obtain ⟨rfl, rfl, rfl, h⟩ := h
    rw [mbL_inj h]
/-- Is v from a to c? -/
def inB (v a c : Int) : Bool := decide (a ≤ v ∧ v ≤ c)
theorem inB_iff {v a c : Int} : inB v a c = true ↔ a ≤ v ∧ v ≤ c := by simp [inB]
theorem inB_no {v a c : Int} : inB v a c = false ↔ ¬ (a ≤ v ∧ v ≤ c) := by rw [← inB_iff, Bool.not_eq_true]
/-- May a member have these sectors, and be so? -/
def memberB (m : Mb) : Bool := inB m.2.1 160 4096 && inB m.2.2 0 2
/-- Numbers that rise behind 'last', each member right. -/
def risingB : Int → List Mb → Bool
  | _, [] => true
  | last, m :: l => inB m.1 (last + 1) 31 && memberB m && risingB m.1 l
def membersB (l : List Mb) : Bool := inB (l.length : Int) 3 12 && risingB (-1) l
def ownB (l : List Mb) (own : Int) : Bool := l.any fun m => m.1 == own
def rightB (l : Lab) : Bool := inB l.array 0 4294967295 && inB l.gen 1 4294967295 && inB l.blocks 1 96 && membersB l.members && ownB l.members l.member
def sameB (a b : Lab) : Bool := decide (a.array = b.array) && decide (a.gen = b.gen) && decide (a.member = b.member) && decide (a.blocks = b.blocks) && decide (a.members = b.members)
theorem sameB_iff {a b : Lab} : sameB a b = true ↔ a = b := by
  constructor
  · intro h
    simp [sameB] at h
    exact Lab.same h.1.1.1.1 h.1.1.1.2 h.1.1.2 h.1.2 h.2
  · rintro rfl
    simp [sameB]
theorem sameB_self (a : Lab) : sameB a a = true := sameB_iff.2 rfl
theorem right_parts {l : Lab} (h : rightB l = true) : (0 ≤ l.array ∧ l.array ≤ 4294967295) ∧ (1 ≤ l.gen ∧ l.gen ≤ 4294967295) ∧ (1 ≤ l.blocks ∧ l.blocks ≤ 96) ∧ (3 ≤ l.members.length ∧ l.members.length ≤ 12) ∧ risingB (-1) l.members = true ∧ ownB l.members l.member = true := by
  simp only [rightB, membersB, Bool.and_eq_true, inB_iff] at h
  obtain ⟨⟨⟨⟨h1, h2⟩, h3⟩, h4, h5⟩, h6⟩ := h
  exact ⟨h1, h2, h3, by omega, h5, h6⟩
theorem rising_all : ∀ {l : List Mb} {last : Int}, -1 ≤ last → risingB last l = true → ∀ m ∈ l, (0 ≤ m.1 ∧ m.1 ≤ 31) ∧ (160 ≤ m.2.1 ∧ m.2.1 ≤ 4096) ∧ 0 ≤ m.2.2 ∧ m.2.2 ≤ 2
  | [], _, _, _, m, hm => by cases hm
  | x :: l, last, hl, h, m, hm => by
    simp only [risingB, memberB, Bool.and_eq_true, inB_iff] at h
    obtain ⟨⟨h1, h2, h3⟩, h4⟩ := h
    rcases List.mem_cons.1 hm with rfl | hm
    · exact ⟨⟨by omega, h1.2⟩, h2, h3⟩
    · exact rising_all (by omega) h4 m hm
theorem right_member {l : Lab} (h : rightB l = true) : 0 ≤ l.member ∧ l.member ≤ 31 := by
  obtain ⟨_, _, _, _, h5, h6⟩ := right_parts h
  obtain ⟨m, hm, he⟩ := List.any_eq_true.1 h6
  have := (rising_all (by omega) h5 m hm).1
  have e : m.1 = l.member := by simpa using he
  omega
end Go.Proofs.Ytjdfeidakmkchaa
