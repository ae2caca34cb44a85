/- How a bank lies in memory. -/
import Derived.Deep.QuietTactic
import Derived.BigQuiet
import Derived.Outline
import Derived.Test.YtmjjnbabfldbcaaGreatLoose
namespace Go.Proofs.YtmjjnbabfldbcaaGreat
open Go.RowKit

/-- Where a bank's parts lie: the block of its members, the maps of each, and the write at which a sector became loose. -/
structure Lay where
  mb : Nat
  cap : Nat
  fl : Nat → Option Nat
  lo : Nat → Option Nat
  since : Nat → Nat → Nat
def Lay.ad (L : Lay) (n : Nat) : Option Addr := if n = 0 then none else some ⟨L.mb, 0, none⟩
/-- What the map of the loose sectors of disk d holds. -/
def looseF (S : Bank) (L : Lay) (d : Nat) : Nat → Option Value := fun k => if (d, k) ∈ S.order then some (newV (S.newest d k) (L.since d k)) else none
/-- What the map of the flushed ones holds: nothing where a sector is zero (or its zeros). -/
def Flat (f : Nat → Option Value) (F : Nat → Sec) : Prop := ∀ k, f k = some (secV (F k)) ∨ (f k = none ∧ F k = zeroSec)

structure BankIn (w : World) (b : Nat) (L : Lay) (S : Bank) : Prop where
  head : Blk w b 78 #[.slice (L.ad S.n) S.n L.cap, .bool S.down, .int .i64 (S.writes : Int), .int .i64 (S.armed : Int), .int .u64 (S.mask : Int)]
  cap : S.n ≤ L.cap ∧ L.cap ≤ maxLen ∧ (S.n = 0 → L.cap = 0)
  row : 0 < S.n → ∃ cs : Array Value, Blk w L.mb 84 cs ∧ cs.size = L.cap * 5 ∧ ∀ i, i < S.n →
    cs[i * 5]? = some (.int .i64 (S.size i : Int)) ∧ cs[i * 5 + 1]? = some (.bool (S.dead i)) ∧ cs[i * 5 + 2]? = some (.map (L.fl i)) ∧ cs[i * 5 + 3]? = some (.map (L.lo i)) ∧ cs[i * 5 + 4]? = some (.int .i64 (S.failAt i : Int))
  gone : ∀ i, i < S.n → S.dead i = true → L.fl i = none ∧ L.lo i = none
  flat : ∀ i, i < S.n → S.dead i = false → ∃ x f, L.fl i = some x ∧ MapIs w x f ∧ Flat f (S.flushed i)
  loose : ∀ i, i < S.n → S.dead i = false → ∃ x, L.lo i = some x ∧ MapIs w x (looseF S L i)
  apart1 : ∀ i j x, i < S.n → j < S.n → L.fl i = some x → L.fl j = some x → i = j
  apart2 : ∀ i j x, i < S.n → j < S.n → L.lo i = some x → L.lo j = some x → i = j
  apart3 : ∀ i j x, i < S.n → j < S.n → L.fl i = some x → L.lo j ≠ some x
  rising : S.order.Pairwise fun p q => L.since p.1 p.2 < L.since q.1 q.2
  past : ∀ p ∈ S.order, L.since p.1 p.2 ≤ S.writes

/-- The blocks that a bank takes. -/
def Foot (b : Nat) (L : Lay) (S : Bank) : Nat → Prop := fun x => x = b ∨ (0 < S.n ∧ x = L.mb) ∨ ∃ i, i < S.n ∧ (L.fl i = some x ∨ L.lo i = some x)
section
variable {w w' : World} {b : Nat} {L : Lay} {S : Bank}
theorem BankIn.c0 (h : BankIn w b L S) : w.cell? ⟨b, 0, none⟩ = some (.slice (L.ad S.n) S.n L.cap) := h.head.cell 0
theorem BankIn.c1 (h : BankIn w b L S) : w.cell? ⟨b, 1, none⟩ = some (.bool S.down) := h.head.cell 1
theorem BankIn.c2 (h : BankIn w b L S) : w.cell? ⟨b, 2, none⟩ = some (.int .i64 (S.writes : Int)) := h.head.cell 2
theorem BankIn.c3 (h : BankIn w b L S) : w.cell? ⟨b, 3, none⟩ = some (.int .i64 (S.armed : Int)) := h.head.cell 3
theorem BankIn.c4 (h : BankIn w b L S) : w.cell? ⟨b, 4, none⟩ = some (.int .u64 (S.mask : Int)) := h.head.cell 4
theorem Lay.ad_pos (L : Lay) {n i : Nat} (hi : i < n) : L.ad n = some ⟨L.mb, 0, none⟩ := by unfold Lay.ad; rw [if_neg (by omega)]
theorem BankIn.m (h : BankIn w b L S) {i : Nat} (hi : i < S.n) : w.cell? ⟨L.mb, i * 5, none⟩ = some (.int .i64 (S.size i : Int)) ∧ w.cell? ⟨L.mb, i * 5 + 1, none⟩ = some (.bool (S.dead i)) ∧ w.cell? ⟨L.mb, i * 5 + 2, none⟩ = some (.map (L.fl i)) ∧
    w.cell? ⟨L.mb, i * 5 + 3, none⟩ = some (.map (L.lo i)) ∧ w.cell? ⟨L.mb, i * 5 + 4, none⟩ = some (.int .i64 (S.failAt i : Int)) := by
  obtain ⟨cs, hb, _, hc⟩ := h.row (by omega)
  obtain ⟨h0, h1, h2, h3, h4⟩ := hc i hi
  exact ⟨(hb.cell _).trans h0, (hb.cell _).trans h1, (hb.cell _).trans h2, (hb.cell _).trans h3, (hb.cell _).trans h4⟩
theorem BankIn.mlt (h : BankIn w b L S) {i : Nat} (hi : i < S.n) : L.mb < w.heap.size := by
  obtain ⟨cs, hb, _⟩ := h.row (by omega)
  exact hb.lt
theorem BankIn.mfree (h : BankIn w b L S) {i : Nat} (hi : i < S.n) (j : Nat) : w.frozen? ⟨L.mb, j, none⟩ = false := by
  obtain ⟨cs, hb, _⟩ := h.row (by omega)
  exact hb.frozen j
theorem BankIn.mne (h : BankIn w b L S) {i : Nat} (hi : i < S.n) : L.mb ≠ b := by
  intro e
  obtain ⟨cs, hb, _⟩ := h.row (by omega)
  have h2 := h.head
  unfold Blk at hb h2
  rw [e, h2] at hb
  injection hb with hb
  injection hb with _ hb
  exact absurd hb (by decide)
theorem BankIn.foot_lt (h : BankIn w b L S) : ∀ x, Foot b L S x → x < w.heap.size := by
  rintro x (rfl | ⟨h0, rfl⟩ | ⟨i, hi, hx⟩)
  · exact h.head.lt
  · exact h.mlt h0
  · cases hd : S.dead i with
    | true =>
      obtain ⟨e1, e2⟩ := h.gone i hi hd
      rcases hx with hx | hx
      · rw [e1] at hx; cases hx
      · rw [e2] at hx; cases hx
    | false =>
      rcases hx with hx | hx
      · obtain ⟨y, f, e, hm, _⟩ := h.flat i hi hd
        rw [e] at hx
        injection hx with hx
        subst hx
        exact hm.lt
      · obtain ⟨y, e, hm⟩ := h.loose i hi hd
        rw [e] at hx
        injection hx with hx
        subst hx
        exact hm.lt
theorem BankIn.kept (h : BankIn w b L S) (hk : ∀ x, Foot b L S x → w'.heap[x]? = w.heap[x]?) : BankIn w' b L S := by
  refine { h with head := h.head.of_block (hk b (.inl rfl)), row := fun h0 => ?_, flat := fun i hi hd => ?_, loose := fun i hi hd => ?_ }
  · obtain ⟨cs, hb, h2⟩ := h.row h0
    exact ⟨cs, hb.of_block (hk _ (.inr (.inl ⟨h0, rfl⟩))), h2⟩
  · obtain ⟨y, f, e, hm, h2⟩ := h.flat i hi hd
    exact ⟨y, f, e, hm.of_block (hk _ (.inr (.inr ⟨i, hi, .inl e⟩))), h2⟩
  · obtain ⟨y, e, hm⟩ := h.loose i hi hd
    exact ⟨y, e, hm.of_block (hk _ (.inr (.inr ⟨i, hi, .inr e⟩)))⟩
theorem BankIn.later (h : BankIn w b L S) (hb : Below w.heap.size w w') : BankIn w' b L S := h.kept fun x hx => hb.block x (h.foot_lt x hx)
theorem BankIn.drew (h : BankIn w b L S) : BankIn w.drew b L S := h.kept fun _ _ => rfl
theorem newIs_of (L : Lay) (hok : S.Ok) {i : Nat} {f : Nat → Option Value} (hf : Flat f (S.flushed i)) (k : Nat) : NewIs (looseF S L i) f k (S.newest i k) := by
  by_cases hm : (i, k) ∈ S.order
  · exact .inl ⟨L.since i k, by unfold looseF; rw [if_pos hm]⟩
  · refine .inr ⟨by unfold looseF; rw [if_neg hm], ?_⟩
    rw [hok.same i k hm]
    rcases hf k with h1 | ⟨h1, h2⟩
    · exact .inl h1
    · exact .inr ⟨h1, h2.symm⟩
/-- The bank lies in the blocks of F. -/
structure Span (b : Nat) (L : Lay) (S : Bank) (F : Nat → Prop) : Prop where
  inside : ∀ x, Foot b L S x → F x
theorem Span.wider {b : Nat} {L : Lay} {S : Bank} {F G : Nat → Prop} (h : Span b L S F) (hFG : ∀ x, F x → G x) : Span b L S G := ⟨fun x hx => hFG x (h.inside x hx)⟩
/-- The blocks from lo to below hi. -/
abbrev In (lo hi : Nat) : Nat → Prop := fun x => lo ≤ x ∧ x < hi
theorem Turn.upto_in {lo hi : Nat} {a b : World} (h : Turn (In lo hi) a b) : Upto lo hi a b := h.upto fun _ hx => hx
/-- Block b is bank S, all of which lies in the blocks of F. -/
def BankOn (w : World) (b : Nat) (F : Nat → Prop) (S : Bank) : Prop := (∀ x, F x → x < w.heap.size) ∧ S.Ok ∧ ∃ L, BankIn w b L S ∧ Span b L S F
theorem BankOn.kept {F G : Nat → Prop} (h : BankOn w b F S) (hu : Turn G w w') (ha : ∀ x, F x → ¬ G x) : BankOn w' b F S := by
  obtain ⟨h1, h2, L, h3, h4⟩ := h
  exact ⟨fun x hx => Nat.lt_of_lt_of_le (h1 x hx) hu.size, h2, L, h3.kept fun x hx => hu.block x (h3.foot_lt x hx) (ha x (h4.inside x hx)), h4⟩
theorem BankOn.later {F : Nat → Prop} (h : BankOn w b F S) (hb : Below w.heap.size w w') : BankOn w' b F S := by
  obtain ⟨h1, h2, L, h3, h4⟩ := h
  exact ⟨fun x hx => Nat.lt_of_lt_of_le (h1 x hx) hb.size, h2, L, h3.later hb, h4⟩
theorem BankOn.drew {F : Nat → Prop} (h : BankOn w b F S) : BankOn w.drew b F S := h.later ((Below.refl _ _).drew)
theorem BankOn.ok {F : Nat → Prop} (h : BankOn w b F S) : S.Ok := h.2.1
theorem BankOn.wider {F G : Nat → Prop} (h : BankOn w b F S) (hFG : ∀ x, F x → G x) (hG : ∀ x, G x → x < w.heap.size) : BankOn w b G S := by
  obtain ⟨h1, h2, L, h3, h4⟩ := h
  exact ⟨hG, h2, L, h3, h4.wider hFG⟩
/-- Block b is bank S, all of which lies in the blocks from lo to below hi. -/
def BankAt (w : World) (b lo hi : Nat) (S : Bank) : Prop := hi ≤ w.heap.size ∧ S.Ok ∧ ∃ L, BankIn w b L S ∧ Span b L S (In lo hi)
theorem BankOn.at_ {lo hi : Nat} (h : BankOn w b (In lo hi) S) (h1 : hi ≤ w.heap.size) : BankAt w b lo hi S := ⟨h1, h.2⟩
theorem BankAt.on {lo hi : Nat} (h : BankAt w b lo hi S) : BankOn w b (In lo hi) S := ⟨fun x hx => by have := h.1; have := hx.2; omega, h.2⟩
theorem BankAt.later {lo hi : Nat} (h : BankAt w b lo hi S) (hb : Below w.heap.size w w') : BankAt w' b lo hi S := by
  obtain ⟨h1, h2, L, h3, h4⟩ := h
  exact ⟨Nat.le_trans h1 hb.size, h2, L, h3.later hb, h4⟩
theorem there_yes (h : BankIn w b L S) (d : Nat) (hd : d < S.n) :
    Calls Tryz.prog 60 #[.pointer (some ⟨b, 0, none⟩), .int .i64 (d : Int)] w fun e w' => e = .returned (.bool true) ∧ w = w' := by
  have hc := h.c0
  have hd2 : decide (d < S.n) = true := by simpa using hd
  go_enter Tryz.func60, Tryz.ntmps60
  go_wp2
  go_ret
  exact ⟨rfl, rfl⟩
theorem there_no (h : BankIn w b L S) (d : Nat) (hd : S.n ≤ d) :
    Calls Tryz.prog 60 #[.pointer (some ⟨b, 0, none⟩), .int .i64 (d : Int)] w fun e w' => e = .returned (.bool false) ∧ w = w' := by
  have hc := h.c0
  have hd2 : decide (d < S.n) = false := by simpa using hd
  go_enter Tryz.func60, Tryz.ntmps60
  go_wp2
  go_ret
  exact ⟨rfl, rfl⟩
/-- What working hands back. -/
def workV (L : Lay) (S : Bank) (d : Nat) : Value := .tuple #[.pointer (if S.may d = 0 then some ⟨L.mb, d * 5, none⟩ else none), .int .i64 (S.may d : Int)]
theorem working_any (h : BankIn w b L S) (d : Nat) :
    Calls Tryz.prog 84 #[.pointer (some ⟨b, 0, none⟩), .int .i64 (d : Int)] w fun e w' => e = .returned (workV L S d) ∧ w = w' := by
  unfold workV
  by_cases hd : d < S.n
  · have hm : ¬ S.n ≤ d := by omega
    have hc := h.c0
    have hc1 := h.c1
    obtain ⟨_, m1, _⟩ := h.m hd
    rw [L.ad_pos hd] at hc
    have hdw : (d : Int) < (S.n : Int) := by omega
    cases hdead : S.dead d with
    | true =>
      have hmay : S.may d = 7 := by unfold Bank.may; rw [if_neg hm, if_pos hdead]
      rw [hdead] at m1
      rw [hmay, if_neg (by decide)]
      clear hmay hm
      go_enter Tryz.func84, Tryz.ntmps84
      go_wp2_with (first | (go_at_call 60; refine (there_yes h d hd).mono ?_; rintro _ _ ⟨rfl, rfl⟩))
      go_ret2
      exact ⟨rfl, rfl⟩
    | false =>
      rw [hdead] at m1
      cases hdown : S.down with
      | true =>
        have hmay : S.may d = 6 := by unfold Bank.may; rw [if_neg hm, hdead, hdown]; rfl
        rw [hdown] at hc1
        rw [hmay, if_neg (by decide)]
        clear hmay hm
        go_enter Tryz.func84, Tryz.ntmps84
        go_wp2_with (first | (go_at_call 60; refine (there_yes h d hd).mono ?_; rintro _ _ ⟨rfl, rfl⟩))
        go_ret2
        exact ⟨rfl, rfl⟩
      | false =>
        have hmay : S.may d = 0 := by unfold Bank.may; rw [if_neg hm, hdead, hdown]; rfl
        rw [hdown] at hc1
        rw [hmay, if_pos rfl]
        clear hmay hm
        go_enter Tryz.func84, Tryz.ntmps84
        go_wp2_with (first | (go_at_call 60; refine (there_yes h d hd).mono ?_; rintro _ _ ⟨rfl, rfl⟩))
        go_ret2
        exact ⟨rfl, rfl⟩
  · have hm : S.may d = 8 := by unfold Bank.may; rw [if_pos (by omega)]
    rw [hm, if_neg (by decide)]
    clear hm
    go_enter Tryz.func84, Tryz.ntmps84
    go_wp2_with (first | (go_at_call 60; refine (there_no h d (by omega)).mono ?_; rintro _ _ ⟨rfl, rfl⟩))
    go_ret2
    exact ⟨rfl, rfl⟩
end
end Go.Proofs.YtmjjnbabfldbcaaGreat
