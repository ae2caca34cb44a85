/- A bank of three members that checkpoints are laid on one after the other, power failing: what each call of the law makes of it, and what the law keeps beside it. -/
import Derived.Test.YtmjdndhpnckeeaaChkC
import Derived.Test.YtmjdndhpnckeeaaArgU
import Derived.Laws.OwnMore
namespace Go.Proofs.Ytmjdndhpnckeeaa
open Go.RowKit
set_option linter.unusedVariables false

theorem own10_aside {w w' : World} {F : Nat → Prop} {base : Nat} {e : TypeId} {size : Nat} {v : Value} {n : Nat} {xs : List Value} (h : w.ownsRow base e size v n xs) (hu : Turn F w w') (hF : ∀ g, v.ownBlock = some g → ¬ F g) : w'.ownsRow base e size v n xs := by
  refine ⟨h.1, ?_⟩
  rcases h.2 with ⟨h1, h2⟩ | ⟨g, cap, cur, rfl, hb, hh, hr⟩
  · exact .inl ⟨h1, h2⟩
  · exact .inr ⟨g, cap, cur, rfl, hb, (hu.block g (Array.getElem?_eq_some_iff.1 hh).1 (hF g rfl)).trans hh, hr⟩
theorem Reads.turned {w w' : World} {F : Nat → Prop} {size n : Nat} {A : Option Addr} {xs : List Value} (h : Reads w w.heap.size size A n xs) (hT : Turn F w w') (hA : ∀ ad, A = some ad → 0 < n → ¬ F ad.block) : Reads w' w'.heap.size size A n xs := by
  refine ⟨h.1, fun hn => ?_⟩
  obtain ⟨ad, e, hb, hc⟩ := h.2 hn
  refine ⟨ad, e, Nat.lt_of_lt_of_le hb hT.size, fun j u hu => ?_⟩
  have h1 := hc j u hu
  rw [← h1]
  have hbj : (ad.add j).block = ad.block := block_of_add _ _
  have hk := hT.block ad.block hb (hA ad e hn)
  unfold World.cell?
  rw [hbj, hk]
theorem crash_count (S : Bank) (m : Nat) : (S.crash m).writes = S.writes := by
  unfold Bank.crash
  split <;> rfl
/-- A bank that is down: what will be there when it starts. -/
structure CkDn (w : World) (F : Nat → Prop) (b : Nat) (wr : World) (S : Bank) (live : List Nat) (C : Cont) (k : Nat) : Prop where
  lo : ∀ x, F x → w.heap.size ≤ x
  bank : BankOn wr b F S
  down : S.down = true
  ck : CkB S.start live C
  few : S.writes ≤ k
  low : Below w.heap.size w wr
section
variable {w wr w' : World} {F : Nat → Prop} {b k : Nat} {S : Bank} {live : List Nat} {C : Cont}
theorem CkDn.later (h : CkDn w F b wr S live C k) (hb : Below wr.heap.size wr w') : CkDn w F b w' S live C k :=
  { h with bank := h.bank.later hb, low := h.low.trans (hb.mono h.low.size) }
theorem CkDn.start (h : CkDn w F b wr S live C k) :
    Calls Try.prog 20 #[.pointer (some ⟨b, 0, none⟩)] wr fun e w' => e = .returned (.tuple #[]) ∧ CkIs w F b w' S.start live C k ∧ Turn F wr w' :=
  (on_start h.bank).mono fun e w' ⟨he, hB, hT⟩ => ⟨he, { lo := h.lo, bank := hB, ck := h.ck, few := h.few, low := below_turned h.low h.lo hT h.low.size }, hT⟩
theorem CkDn.up (h : CkDn w F b wr S live C k) :
    Calls Try.prog 18 #[.pointer (some ⟨b, 0, none⟩)] wr fun e w' => e = .returned (.bool false) ∧ wr = w' := by
  have hU := on_up h.bank
  rw [h.down] at hU
  exact hU
theorem CkIs.up (h : CkIs w F b wr S live C k) :
    Calls Try.prog 18 #[.pointer (some ⟨b, 0, none⟩)] wr fun e w' => e = .returned (.bool true) ∧ wr = w' := by
  have hU := on_up h.bank
  rw [h.ck.std.up] at hU
  exact hU
theorem CkIs.start (h : CkIs w F b wr S live C k) :
    Calls Try.prog 20 #[.pointer (some ⟨b, 0, none⟩)] wr fun e w' => e = .returned (.tuple #[]) ∧ CkIs w F b w' S.start live C k ∧ Turn F wr w' :=
  (on_start h.bank).mono fun e w' ⟨he, hB, hT⟩ => ⟨he, { lo := h.lo, bank := hB, ck := h.ck.start, few := h.few, low := h.turned hT }, hT⟩
theorem CkIs.crash (h : CkIs w F b wr S live C k) (m : Nat) (hm : m < 18446744073709551616) :
    Calls Try.prog 19 #[.pointer (some ⟨b, 0, none⟩), .int .u64 (m : Int)] wr fun e w' => e = .returned (.tuple #[]) ∧ CkDn w F b w' (S.crash m) live C k ∧ Turn F wr w' :=
  (on_crash h.bank m hm).mono fun e w' ⟨he, hB, hT⟩ => ⟨he, { lo := h.lo, bank := hB, down := by unfold Bank.crash; rw [if_neg (by rw [h.ck.std.up]; decide)], ck := h.ck.crash m, few := by rw [crash_count]; exact h.few, low := h.turned hT }, hT⟩
theorem CkIs.arm (h : CkIs w F b wr S live C k) (n : Int) (a m : Nat) (ha : (a : Int) = if 0 < n then n else 0) (ha2 : a < 9223372036854775808) (hm : m < 18446744073709551616) :
    Calls Try.prog 16 #[.pointer (some ⟨b, 0, none⟩), .int .i64 n, .int .u64 (m : Int)] wr fun e w' => e = .returned (.tuple #[]) ∧ CkIs w F b w' (S.arm a m) live C k ∧ Turn F wr w' :=
  (on_arm h.bank n a m ha ha2 hm).mono fun e w' ⟨he, hB, hT⟩ => ⟨he, { lo := h.lo, bank := hB, ck := h.ck.arm a m, few := h.few, low := h.turned hT }, hT⟩
/-- A checkpoint that has room: it is laid, or power fails on the way. -/
theorem CkIs.lay (K : CheckK) (h : CkIs w F b wr S live C k) (hne : live ≠ []) (hnd : live.Nodup) (hlen : live.length ≤ 5) {a g : Nat} {x : List UInt8} (ha : a ≤ 1) (hx : x.length ≤ 1696) (hg : numB (g : Nat) = true) (hk : k ≤ 1000000)
    (A : Option Addr) (n c : Nat) (hr : Reads wr wr.heap.size 1 A n (I64 (live.map Int.ofNat))) (hc : n ≤ c) (hc2 : c ≤ 9223372036854775807) (hn : n ≤ 5) (hA : ∀ ad, A = some ad → 0 < n → ¬ F ad.block) (B : Option Addr) (m q : Nat) (hb : Reads wr wr.heap.size 1 B m (B8 x)) (hq : m ≤ q) (hq2 : q ≤ 9223372036854775807) (hB : ∀ ad, B = some ad → 0 < m → ¬ F ad.block) :
    Calls Try.prog 29 #[.pointer (some ⟨b, 0, none⟩), .slice A n c, .int .i64 (a : Int), .int .i64 (g : Int), .slice B m q] wr fun e w' => Turn F wr w' ∧
      ((e = .returned (.int .i64 0) ∧ ∃ S', CkIs w F b w' S' live (putC C a g x) (k + 160)) ∨
       (e = .returned (.int .i64 6) ∧ ∃ S' C', CkDn w F b w' S' live C' (k + 160) ∧ Either live C (putC C a g x) C')) := by
  have hk2 := h.few
  refine (K.save_any wr b F S A n c live a (g : Int) B m q x h.bank hr hc hc2 hn hA hb hq hq2 hB (by omega)).mono ?_
  rintro _ w' ⟨rfl, hBk, hT⟩
  have hw := saveC_writes (k := g) (x := x) h.ck ha
  refine ⟨hT, ?_⟩
  rcases h.ck.save hne hnd (k := g) ha hx hg with ⟨h1, h2, _⟩ | ⟨_, h1, h2, _, C', h4, h5⟩
  · rw [h1]
    exact .inl ⟨rfl, _, { lo := h.lo, bank := hBk, ck := h2, few := by omega, low := h.turned hT }⟩
  · rw [h1]
    exact .inr ⟨rfl, _, C', { lo := h.lo, bank := hBk, down := h2, ck := h4, few := by omega, low := h.turned hT }, h5⟩
end
/-- What the law keeps beside the bank: its members' row, its own row of strings. -/
structure RowsL (w : World) (F : Nat → Prop) (lv base : Nat) (wr : World) (M : List (List UInt8)) (v : Value) : Prop where
  row : wr.ownsRow base 9 1 v M.length (strV M)
  live : Blk wr lv 3 (I64 [0, 1, 2]).toArray
  far : ¬ F lv
  lt : lv < base
  all : ∀ x, F x → x < base
  lo : w.heap.size ≤ base
  base : base ≤ wr.heap.size
section
variable {w wr w' : World} {F : Nat → Prop} {lv base : Nat} {M : List (List UInt8)} {v : Value}
theorem RowsL.later (h : RowsL w F lv base wr M v) (hb : Below wr.heap.size wr w') : RowsL w F lv base w' M v :=
  { h with row := own_later h.row hb, live := h.live.below hb h.live.lt, base := Nat.le_trans h.base hb.size }
theorem own_ge10 {w : World} {base : Nat} {e : TypeId} {size : Nat} {v : Value} {n : Nat} {xs : List Value} (h : w.ownsRow base e size v n xs) : ∀ g, v.ownBlock = some g → base ≤ g := fun g hg => by
  rcases h.2 with ⟨rfl, _⟩ | ⟨g', cap, cur, rfl, hb, _⟩
  · cases hg
  · have e : g' = g := Option.some.inj hg
    rw [← e]
    exact hb
theorem RowsL.turned (h : RowsL w F lv base wr M v) (hT : Turn F wr w') : RowsL w F lv base w' M v :=
  { h with row := own10_aside h.row hT (fun g hg hf => by have h1 := own_ge10 h.row g hg; have h2 := h.all g hf; omega), live := h.live.of_block (hT.block _ h.live.lt h.far), base := Nat.le_trans h.base hT.size }
/-- The members' row reads. -/
theorem RowsL.reads (h : RowsL w F lv base wr M v) : Reads wr wr.heap.size 1 (some ⟨lv, 0, none⟩) 3 (I64 (([0, 1, 2] : List Nat).map Int.ofNat)) := Blk.readsI9 (xs := [0, 1, 2]) h.live rfl
theorem RowsL.apart (h : RowsL w F lv base wr M v) : ∀ ad, (some ⟨lv, 0, none⟩ : Option Addr) = some ad → 0 < 3 → ¬ F ad.block := fun ad e _ hf => by
  injection e with e
  subst e
  exact h.far hf
/-- Its own row is a new one. -/
theorem RowsL.one (h : RowsL w F lv base wr M v) (x : List UInt8) : RowsL w F lv base (wr.alloc (.cells #[strS x] 9)) [x] (.slice (some ⟨wr.heap.size, 0, none⟩) 1 1) :=
  { (h.later ((Below.refl _ _).alloc (Nat.le_refl _) _)) with row := World.ownsRow_lit wr #[strS x] 1 h.base (by decide) rfl }
theorem RowsL.none (h : RowsL w F lv base wr M v) : RowsL w F lv base wr [] (.slice none 0 0) :=
  { h with row := World.ownsRow_nil _ _ _ _ }
/-- Its own row has one more. -/
theorem RowsL.more (h : RowsL w F lv base wr M v) {N : List (List UInt8)} {v' : Value} (hr : w'.ownsRow base 9 1 v' N.length (strV N)) (hg : wr.grownBy w' v.ownBlock) : RowsL w F lv base w' N v' := by
  have hTg := Turn.of_grown (F := fun x => v.ownBlock = some x) hg (fun g e => e)
  exact { h with row := hr, live := h.live.of_block (hTg.block _ h.live.lt (fun e => by have h1 := own_ge10 h.row _ e; have h2 := h.lt; omega)), base := Nat.le_trans h.base hTg.size }
end
theorem CkIs.more {w wr : World} {F : Nat → Prop} {b k k' : Nat} {S : Bank} {live : List Nat} {C : Cont} (h : CkIs w F b wr S live C k) (hk : k ≤ k') : CkIs w F b wr S live C k' := { h with few := Nat.le_trans h.few hk }
theorem CkDn.more {w wr : World} {F : Nat → Prop} {b k k' : Nat} {S : Bank} {live : List Nat} {C : Cont} (h : CkDn w F b wr S live C k) (hk : k ≤ k') : CkDn w F b wr S live C k' := { h with few := Nat.le_trans h.few hk }
theorem CkDn.aside {w wr w' : World} {F : Nat → Prop} {b k : Nat} {S : Bank} {live : List Nat} {C : Cont} (h : CkDn w F b wr S live C k) {T : Nat → Prop} (hT : Turn T wr w') (hF : ∀ x, F x → ¬ T x) (hl : ∀ x, T x → w.heap.size ≤ x) : CkDn w F b w' S live C k :=
  { h with bank := h.bank.kept hT hF, low := below_turned h.low hl hT h.low.size }
theorem own10_slice {w : World} {base : Nat} {e : TypeId} {size : Nat} {v : Value} {n : Nat} {xs : List Value} (h : w.ownsRow base e size v n xs) : ∃ A c, v = .slice A n c := by
  rcases h.2 with ⟨rfl, rfl⟩ | ⟨g, cap, cur, rfl, _, _, h1, h2, _⟩
  · exact ⟨_, _, rfl⟩
  · exact ⟨_, _, rfl⟩
/-- One of three members is lost, or none. -/
theorem CkB.lost {S : Bank} {C : Cont} (h : CkB S [0, 1, 2] C) (N : Nat) : (S.fail_ N).down = false ∧ (∀ d ∈ ([0, 1, 2] : List Nat), d < (S.fail_ N).n ∧ 114 ≤ (S.fail_ N).size d) ∧ Shows (S.fail_ N) [0, 1, 2] C ∧ ∃ d ∈ ([0, 1, 2] : List Nat), (S.fail_ N).dead d = false := by
  obtain ⟨d, hd, hdN⟩ : ∃ d ∈ ([0, 1, 2] : List Nat), d ≠ N := by
    by_cases e : N = 0
    · exact ⟨1, by decide, by omega⟩
    · exact ⟨0, by decide, fun h => e h.symm⟩
  unfold Bank.fail_
  split
  · refine ⟨h.std.up, h.lv, fun j hj hx q hq => ?_, d, hd, ?_⟩
    · have hjN : j ≠ N := fun e => by
        subst e
        have h1 : upd S.dead j true j = false := hx
        unfold upd at h1
        rw [if_pos rfl] at h1
        cases h1
      show (upd S.newest N (S.flushed N) j (50 + q)).1 = C j q
      unfold upd
      rw [if_neg hjN]
      exact h.newest hj hq
    · show upd S.dead N true d = false
      unfold upd
      rw [if_neg hdN]
      exact h.alive d hd
  · exact ⟨h.std.up, h.lv, h.shows, d, hd, h.alive d hd⟩
/-- What Load told, in a block of its own. -/
structure FoundAt (F : Nat → Prop) (wr : World) (g : Nat) (L : LoadV) (B : Option Addr) (m q : Nat) : Prop where
  blk : Blk wr g 55 (foundC L B m q).toArray
  bts : Reads wr wr.heap.size 1 B m (B8 L.bytes)
  farg : ¬ F g
  farb : ∀ ad, B = some ad → 0 < m → ¬ F ad.block
  le : m ≤ q
  lt : q ≤ 9223372036854775807
section
variable {wr w' : World} {F : Nat → Prop} {g m q : Nat} {L : LoadV} {B : Option Addr}
theorem FoundAt.later (h : FoundAt F wr g L B m q) (hb : Below wr.heap.size wr w') : FoundAt F w' g L B m q :=
  { h with blk := h.blk.below hb h.blk.lt, bts := (h.bts.below hb).more hb.size }
theorem FoundAt.turned (h : FoundAt F wr g L B m q) (hT : Turn F wr w') : FoundAt F w' g L B m q :=
  { h with blk := h.blk.of_block (hT.block _ h.blk.lt h.farg), bts := h.bts.turned hT h.farb }
end
/-- Save, its answer as a number. -/
theorem CkIs.layF {w wr : World} {F : Nat → Prop} {b k : Nat} {S : Bank} {C : Cont} {lv base : Nat} {M : List (List UInt8)} {v : Value} (K : CheckK) (h : CkIs w F b wr S [0, 1, 2] C k) (hR : RowsL w F lv base wr M v) {a g : Nat} {x : List UInt8} (ha : a ≤ 1) (hx : x.length ≤ 300) (hg : numB (g : Nat) = true) (hk : k ≤ 1000000) (B : Option Addr) (m q : Nat) (hb : Reads wr wr.heap.size 1 B m (B8 x)) (hq : m ≤ q) (hq2 : q ≤ 9223372036854775807) (hB : ∀ ad, B = some ad → 0 < m → ¬ F ad.block) :
    Calls Try.prog 29 #[.pointer (some ⟨b, 0, none⟩), .slice (some ⟨lv, 0, none⟩) 3 3, .int .i64 (a : Int), .int .i64 (g : Int), .slice B m q] wr fun e w' => ∃ f : Int, e = .returned (.int .i64 f) ∧ Turn F wr w' ∧
      ((f = 0 ∧ ∃ S', CkIs w F b w' S' [0, 1, 2] (putC C a g x) (k + 160)) ∨
       (f = 6 ∧ ∃ S' C', CkDn w F b w' S' [0, 1, 2] C' (k + 160) ∧ Either [0, 1, 2] C (putC C a g x) C')) := by
  refine (h.lay K (by decide) (by decide) (by decide) ha (by omega) hg hk (some ⟨lv, 0, none⟩) 3 3 hR.reads (by omega) (by omega) (by omega) hR.apart B m q hb hq hq2 hB).mono ?_
  rintro _ w' ⟨hT, ⟨rfl, h1⟩ | ⟨rfl, h1⟩⟩
  · exact ⟨0, rfl, hT, .inl ⟨rfl, h1⟩⟩
  · exact ⟨6, rfl, hT, .inr ⟨rfl, h1⟩⟩
/-- Load of all three. -/
theorem CkIs.loadF {w wr : World} {F : Nat → Prop} {b k : Nat} {S : Bank} {C : Cont} {lv base : Nat} {M : List (List UInt8)} {v : Value} (K : CheckK) (h : CkIs w F b wr S [0, 1, 2] C k) (hR : RowsL w F lv base wr M v) {L : LoadV} (hL : loadR (viewsC S [0, 1, 2]) = L) :
    Calls Try.prog 30 #[.pointer (some ⟨b, 0, none⟩), .slice (some ⟨lv, 0, none⟩) 3 3] wr fun e w' => ∃ (B : Option Addr) (m q : Nat), e = .returned (.tuple #[.agg (foundC L B m q).toArray, .int .i64 (L.err : Int)]) ∧ Reads w' w'.heap.size 1 B m (B8 L.bytes) ∧ (∀ ad, B = some ad → wr.heap.size ≤ ad.block) ∧ m ≤ q ∧ q ≤ 9223372036854775807 ∧ Below wr.heap.size wr w' :=
  h.load K (some ⟨lv, 0, none⟩) 3 3 hR.reads (by omega) (by omega) (by omega) (by decide) hL
/-- What Load tells, as the invariant knows it. -/
theorem CkI.told {D : List Nat} {C : Cont} {X : Known} {m k0 a0 : Nat} {x0 : List UInt8} {may : List (List UInt8)} (h : CkI D C X m k0 a0 x0 may) {S : Bank} (hS : Shows S D C) {d : Nat} (hd : d ∈ D) (hx : S.dead d = false) :
    ∃ L : LoadV, loadR (viewsC S D) = L ∧ L.err = 0 ∧ L.area ≤ 1 ∧ L.bytes.length ≤ 300 ∧ numB (L.gen : Nat) = true ∧ L.bytes ∈ may ∧ X L.gen = some (L.area, L.bytes) ∧ (L.gen = k0 ∨ L.area ≠ a0) ∧ WholeC X D C L.gen ∧ L.seen ≤ m ∧ ((∀ d ∈ D, S.dead d = false) → (∀ k, WholeC X D C k → k ≤ L.gen) ∧ ∀ d ∈ D, ∀ j, j < 64 → gen0 (C d j) ≤ L.seen) := by
  obtain ⟨c, e, q1, q2, q3, q4, q5, q6, q7, q8, q9⟩ := h.load hS hd hx
  have hr : loadR (viewsC S D) = ⟨c.area, c.gen, c.bytes, seenC (viewsC S D), 0⟩ := by
    unfold loadR
    rw [if_neg (views_nil hd hx), e]
  obtain ⟨r1, _, r3⟩ := h.right _ _ _ q1
  exact ⟨_, hr, rfl, r1, (h.bound _ _ _ q1).2, r3, q3, q1, q4, q5, q7, fun ha => ⟨q6 ha, q8 ha⟩⟩
/-- What was loaded is laid again, and the next one into the other area: both, or the next one on the way. -/
theorem CkI.next {D : List Nat} {C : Cont} {X : Known} {m k0 a0 : Nat} {x0 : List UInt8} {may : List (List UInt8)} (h : CkI D C X m k0 a0 x0 may) {g a s : Nat} {y x : List UInt8} (hX : X g = some (a, y)) (hmax : ∀ k, WholeC X D C k → k ≤ g) (hw : WholeC X D C g) (hfar : ∀ d ∈ D, ∀ j, j < 64 → gen0 (C d j) ≤ s) (hs : s ≤ m) (hm : m ≤ 100) (hx : x.length ≤ 300) :
    ∃ X', CkI D (putC (putC C a g y) (1 - a) (s + 1) x) X' (m + 1) (s + 1) (1 - a) x [x] ∧ ∀ C2, Either D (putC C a g y) (putC (putC C a g y) (1 - a) (s + 1) x) C2 → CkI D C2 X' (m + 1) g a y [y, x] := by
  obtain ⟨ha, hy, hg⟩ := h.right g a y hX
  have hp := parts_32 hy
  have hgs : g ≤ s := by
    obtain ⟨a', y', h1, h2⟩ := hw
    rw [hX] at h1
    injection h1 with h1
    injection h1 with e1 e2
    subst e1
    subst e2
    obtain ⟨d, hd, e⟩ := h2 0 (by omega)
    have h5 := hfar d hd (32 * a + 0) (by omega)
    rw [e, gen0_piece hg (by omega)] at h5
    exact h5
  have h1 := h.laid hX hmax
  have hmax1 : ∀ k, WholeC X D (putC C a g y) k → k ≤ g := fun k hk => by
    by_cases e : k = g
    · omega
    · exact hmax k (whole_back h.right hX Either.right e hk)
  have hfar1 : ∀ d ∈ D, ∀ j, j < 64 → gen0 (putC C a g y d j) < s + 1 := fun d hd j hj => by
    unfold putC
    split
    · rename_i hr
      rw [gen0_piece hg (by omega)]
      omega
    · have := hfar d hd j hj
      omega
  have hnb : numB ((s + 1 : Nat) : Int) = true := by
    unfold numB
    simp only [decide_eq_true_eq]
    omega
  obtain ⟨h2, hmax2⟩ := h1.learnt hmax1 (g := s + 1) (a := 1 - a) (x := x) (by omega) (by omega) hnb (by omega) hx hfar1
  have hk2 : learnX X (s + 1) (1 - a) x (s + 1) = some (1 - a, x) := if_pos rfl
  exact ⟨_, h2.laid hk2 (fun k hk => by have := hmax2 k hk; omega), fun C2 hc => h2.begun hmax2 hk2 (by omega) (by omega) hc⟩
theorem num100 {n : Nat} (h : n ≤ 1000) : numB (n : Int) = true := by
  unfold numB
  simp only [decide_eq_true_eq]
  omega
/-- One checkpoint alone. -/
def oneK (x : List UInt8) : Known := fun k => if k = 1 then some (0, x) else none
theorem oneK_yes (x : List UInt8) : oneK x 1 = some (0, x) := if_pos rfl
theorem oneK_only {x y : List UInt8} {k a : Nat} (h : oneK x k = some (a, y)) : k = 1 ∧ a = 0 ∧ y = x := by
  unfold oneK at h
  split at h
  · injection h with h
    injection h with h1 h2
    exact ⟨by assumption, h1.symm, h2.symm⟩
  · cases h
/-- The first one is laid on new disks. -/
theorem CkI.first {D : List Nat} {x : List UInt8} (hx : x.length ≤ 300) : CkI D (putC noC 0 1 x) (oneK x) 1 1 0 x [x] := by
  have hR : Right (oneK x) := fun k a' x' hk => by
    obtain ⟨rfl, rfl, rfl⟩ := oneK_only hk
    exact ⟨by omega, by omega, by decide⟩
  refine { right := hR, prov := prov_either (oneK_yes x) (fun d _ j _ => noC_prov _ j d) Either.right, known := oneK_yes x, in_ := by simp, all := fun d _ i hi => put_all hi, newer := fun k hk hw => ?_, bound := fun k a' x' hk => ?_ }
  · obtain ⟨a, y, h1, _⟩ := hw
    obtain ⟨rfl, _, _⟩ := oneK_only h1
    exact absurd hk (by decide)
  · obtain ⟨rfl, rfl, rfl⟩ := oneK_only hk
    exact ⟨Nat.le_refl _, hx⟩
#print axioms CkIs.lay
#print axioms RowsL.more
#print axioms CkI.next
#print axioms CkI.first
end Go.Proofs.Ytmjdndhpnckeeaa
