/- What MetalogLasts wants besides: power that fails under an Append; banks that come back, one disk lost. -/
import Derived.Test.YtmjdndhpnckeeaaMetS
import Derived.Test.YtmjdndhpnckeeaaWhen
namespace Go.Proofs.Ytmjdndhpnckeeaa
open Go.RowKit

/-- Power is armed to fail. -/
theorem MetIs.arm {K : LogK} {w wr : World} {F G : Nat → Prop} {b p k : Nat} {bs : View} {S : Bank} {V : LogV} {R : List (List UInt8)} (h : MetIs K w F G b p bs wr S V R k) (n : Int) (a m : Nat) (ha : (a : Int) = if 0 < n then n else 0) (ha2 : a < 9223372036854775808) (hm : m < 18446744073709551616) :
    Calls Try.prog 16 #[.pointer (some ⟨b, 0, none⟩), .int .i64 n, .int .u64 (m : Int)] wr fun e w' => e = .returned (.tuple #[]) ∧ MetIs K w F G b p bs w' (S.arm a m) V R k ∧ Turn (fun x => F x ∨ x = p) wr w' := by
  refine (on_arm h.bank n a m ha ha2 hm).mono ?_
  rintro _ w' ⟨rfl, hB, hT⟩
  have hT2 : Turn (fun x => F x ∨ x = p) wr w' := Turn.wide hT (fun x hx => .inl hx)
  exact ⟨rfl, { base := h.base, bank := hB, log := K.kept h.log hT (fun x hx hf => h.base.apart x hf hx), ji := { std := ⟨h.ji.std.up, h.ji.std.nofail⟩, holds := h.ji.holds.arm a m, at_ := h.ji.at_, num := h.ji.num, going := h.ji.going, gen := h.ji.gen, live := h.ji.live, nodup := h.ji.nodup, used := h.ji.used, lens := h.ji.lens }, short := h.short, few := h.few, low := h.base.low h.low hT2 }, hT2⟩
/-- A record that has room, one member living: it is taken, or power fails. -/
theorem MetIs.either {K : LogK} {w wr : World} {F G : Nat → Prop} {b p k : Nat} {bs : View} {S : Bank} {V : LogV} {R : List (List UInt8)} (h : MetIs K w F G b p bs wr S V R k) {d : Nat} (hd : d ∈ V.live) (hx : S.dead d = false) (A : Option Addr) (n c : Nat) (r : List UInt8) (hr : Reads wr wr.heap.size 1 A n (B8 r)) (hc : n ≤ c) (hc2 : c ≤ 9223372036854775807) (hk : k ≤ 1000000) (hl : r.length ≤ 2120) (hu : usedL R + partsN r.length ≤ 48) :
    Calls Try.prog 17 #[.pointer (some ⟨p, 0, none⟩), .slice A n c] wr fun e w' => ((e = .returned (.int .i64 0) ∧ ∃ S' V', MetIs K w F G b p bs w' S' V' (R ++ [r]) (k + 240) ∧ V'.live = V.live ∧ V'.gen = V.gen ∧ Alike S S') ∨ (e = .returned (.int .i64 6) ∧ ∃ S', BankOn w' b F S' ∧ S'.down = true ∧ Alike S S' ∧ Nearly S' V.live bs V.gen R r)) ∧ Turn (fun x => F x ∨ x = p) wr w' := by
  have hat := h.ji.at_
  have hus := h.ji.used
  have hfew := h.ji.few
  have hnum := h.ji.num
  have hk2 := h.few
  refine (K.append_any wr p b F G S V A n c r h.bank h.log h.base.apart hr hc hc2 (by omega) h.short (by omega) (by omega)).mono ?_
  rintro _ w' ⟨rfl, hB, hO, hT⟩
  rcases h.ji.append (r := r) hl with ⟨h1, _⟩ | ⟨_, _, h1, h2, h3, h4, h5, h6⟩ | ⟨_, h1, _⟩ | ⟨_, _, h1, h2, h3, _, h4, h5, h6⟩
  · omega
  · rw [h1]
    refine ⟨.inl ⟨rfl, _, _, { base := h.base, bank := hB, log := hO, ji := h3, short := ?_, few := ?_, low := h.base.low h.low hT }, ?_, ?_, h4⟩, hT⟩
    · rw [h2]; exact h.short
    · have h7 : V.live.length * 48 ≤ 5 * 48 := Nat.mul_le_mul_right _ h.short
      omega
    · rw [h2]
    · rw [h2]
  · have := h1 d hd
    rw [hx] at this
    cases this
  · rw [h1]
    exact ⟨.inr ⟨rfl, _, hB, h3, h4, h5⟩, hT⟩
/-- Scan, and what it tells known. -/
theorem scan_of (K : LogK) {wr : World} {F : Nat → Prop} {b : Nat} {S : Bank} (hB : BankOn wr b F S) (hup : S.down = false) {live : List Nat} (hlv : ∀ d ∈ live, d < S.n ∧ 50 ≤ S.size d) {gen : Int} {X : List (List UInt8)} {u : Nat} (hv : viewsOf S live ≠ []) (hs : scanL (viewsOf S live) gen 49 0 0 = (X, u)) (A : Option Addr) (n c : Nat) (hr : Reads wr wr.heap.size 1 A n (I64 (live.map Int.ofNat))) (hc : n ≤ c) (hc2 : c ≤ 9223372036854775807) (hn : n ≤ 5) :
    Calls Try.prog 22 #[.pointer (some ⟨b, 0, none⟩), .slice A n c, .int .i64 gen] wr fun e w' => ∃ (B : Option Addr) (m : Nat) (f : Nat → BsV), e = .returned (.tuple #[.slice B X.length m, .int .i64 ((u : Nat) : Int), .int .i64 0]) ∧ RowsIn w' w'.heap.size B X.length m f ∧ (List.range X.length).map (fun i => (f i).l) = X ∧ Below wr.heap.size wr w' := by
  refine (K.scan_any wr b F S A n c live gen hB hup hr hc hc2 hn hlv).mono ?_
  rintro _ w' ⟨B, m, k1, f, rfl, hR, hM, hl⟩
  rw [if_neg hv, hs] at hM
  rw [if_neg hv, if_neg hv, hs]
  have hm : m = X.length := by have := congrArg List.length hM; simpa using this
  subst hm
  exact ⟨B, k1, f, rfl, hR, hM, hl⟩
/-- A bank that is up again, and one of its disks lost. -/
structure BackS (S : Bank) : Prop where
  up : S.down = false
  lv : ∀ d ∈ ([0, 1, 2] : List Nat), d < S.n ∧ 50 ≤ S.size d
  some : ∃ d, d ∈ ([0, 1, 2] : List Nat) ∧ S.dead d = false
theorem back_of {T : Bank} (hn : ∀ d ∈ ([0, 1, 2] : List Nat), d < T.n ∧ 50 ≤ T.size d) (hd : ∀ d, T.dead d = false) (N : Nat) : BackS (T.start.fail_ N) := by
  obtain ⟨h1, h2, h3, h4, _, _⟩ := fail_is T.start N
  have hsz : (T.start.fail_ N).size = T.size := by
    unfold Bank.fail_
    split <;> rfl
  refine ⟨h3.trans rfl, fun d hd => ?_, ?_⟩
  · rw [h2, hsz]
    exact hn d hd
  · by_cases h0 : N = 0
    · exact ⟨1, by decide, (h4 1 (by omega)).trans (hd 1)⟩
    · exact ⟨0, by decide, (h4 0 (by omega)).trans (hd 0)⟩
theorem Holds.fail_ {S : Bank} {live : List Nat} {base : View} {gen : Int} {R : List (List UInt8)} (h : Holds S live base gen R) (d : Nat) : Holds (S.fail_ d) live base gen R := by
  unfold Bank.fail_
  split
  · exact h.fail d
  · exact h
theorem Nearly.fail_ {S : Bank} {live : List Nat} {base : View} {gen : Int} {R : List (List UInt8)} {r : List UInt8} (h : Nearly S live base gen R r) (d : Nat) : Nearly (S.fail_ d) live base gen R r := by
  unfold Bank.fail_
  split
  · exact h.fail d
  · exact h
theorem back_holds {T : Bank} {R : List (List UInt8)} {N : Nat} (hb : BackS (T.start.fail_ N)) (h : Holds T [0, 1, 2] noughts 5 R) (hl : ∀ r ∈ R, r.length ≤ 2120) (hu : usedL R ≤ 48) (hn : R.length ≤ 48) : viewsOf (T.start.fail_ N) [0, 1, 2] ≠ [] ∧ scanL (viewsOf (T.start.fail_ N) [0, 1, 2]) 5 49 0 0 = (R, usedL R) := by
  obtain ⟨d, hd, hx⟩ := hb.some
  exact ⟨views_ne hd hx, (h.start.fail_ N).scan hd hx (by decide) hl hu (by omega) (by omega) (fun _ => foreign_noughts _ _ _)⟩
theorem back_near {T : Bank} {R : List (List UInt8)} {r : List UInt8} {N : Nat} (hb : BackS (T.start.fail_ N)) (h : Nearly T [0, 1, 2] noughts 5 R r) (hl : ∀ r ∈ R, r.length ≤ 2120) (hr : r.length ≤ 2120) (hu : usedL R + partsN r.length ≤ 48) (hn : R.length ≤ 47) : viewsOf (T.start.fail_ N) [0, 1, 2] ≠ [] ∧ (scanL (viewsOf (T.start.fail_ N) [0, 1, 2]) 5 49 0 0 = (R, usedL R) ∨ scanL (viewsOf (T.start.fail_ N) [0, 1, 2]) 5 49 0 0 = (R ++ [r], usedL (R ++ [r]))) := by
  obtain ⟨d, hd, hx⟩ := hb.some
  exact ⟨views_ne hd hx, (h.start.fail_ N).scan hd hx (by decide) hl hr hu (by omega) (by omega)⟩
theorem when_conv {P : Program} {ops : Array Oper} {o : Oper} {rest : List Oper} {a : Act} {w : World} {Q : Exit → Act → World → Prop} (hw : Region.wanted o (yielded ops a.tmps) = true) (s d : TypeId) (x : Operand) (ho : o.op = .convert s d x) (v u : Value) (hx : a.eval x = u) (hrun : (convert s d u).run P w = .ok v w) (h : wpList P ops Q rest (a.put o.dst v) w) : wpList P ops Q (o :: rest) a w :=
  when_gives hw v (by
    unfold execOp
    simp only [ho, hx, Sem.run_bind, hrun, Result.andThen_ok, Sem.run_pure]) h
theorem below_turned {B : Nat} {w a b : World} {F : Nat → Prop} (h : Below B w a) (hF : ∀ x, F x → B ≤ x) (hT : Turn F a b) (hB : B ≤ a.heap.size) : Below B w b :=
  h.trans ⟨hT.os, hT.tape, hT.output, hT.size, fun y hy => hT.block y (by omega) (fun hf => by have := hF y hf; omega)⟩
theorem failV {w : World} {b : Nat} {S : Bank} {F : Nat → Prop} (h : BankOn w b F S) (d : Nat) :
    Calls Try.prog 21 #[.pointer (some ⟨b, 0, none⟩), .int .i64 (d : Int)] w fun e w' => (∃ v : Int, e = .returned (.int .i64 v)) ∧ BankOn w' b F (S.fail_ d) ∧ Turn F w w' :=
  (on_failD h d).mono fun _ _ h => ⟨⟨_, h.1⟩, h.2⟩
theorem mask127 (v : Int) : ∃ N : Nat, bits .and .i64 v 127 = (N : Int) ∧ N < 128 := by
  have h := i64_mask v 7 (by decide)
  have h2 : bits .and .i64 v 127 = v % 128 := h
  exact ⟨(v % 128).toNat, by rw [h2]; omega, by omega⟩
theorem mask3 (v : Int) : ∃ N : Nat, bits .and .i64 v 3 = (N : Int) ∧ N < 4 := by
  have h := i64_mask v 2 (by decide)
  have h2 : bits .and .i64 v 3 = v % 4 := h
  exact ⟨(v % 4).toNat, by rw [h2]; omega, by omega⟩
#print axioms MetIs.arm
#print axioms MetIs.either
#print axioms scan_of
#print axioms back_near
end Go.Proofs.Ytmjdndhpnckeeaa
