/- The laws' banks and strings; what they want of Save and Load; what Load tells of none, one, two, torn; the laws' shown. -/
import Derived.Test.YtmjdndhpnckeeaaCalls
import Derived.Test.YtmjdndhpnckeeaaJouM
import Derived.Test.YtmjdndhpnckeeaaBank
import Derived.Test.YtmjdndhpnckeeaaArgI
import Derived.Test.YtmjdndhpnckeeaaTwoRows
import Derived.Test.YtmjdndhpnckeeaaWhen
import Derived.Test.YtmjdndhpnckeeaaPutF
import Derived.Deep.QuietTactic
import Derived.BigQuiet
import Derived.Test.YtmjdndhpnckeeaaChkP
import Derived.Lib.SlBytesConst
namespace Go.Proofs.Ytmjdndhpnckeeaa
open Go.RowKit
def Disks : Nat → Bank
  | 0 => Bank.new
  | i + 1 => (Disks i).add 200
theorem Disks_n : ∀ i, (Disks i).n = i
  | 0 => rfl
  | i + 1 => by
    have h := Disks_n i
    show (Disks i).n + 1 = _
    rw [h]
theorem Disks_std : ∀ i, Std (Disks i) ∧ (Disks i).writes = 0 ∧ (Disks i).armed = 0
  | 0 => ⟨⟨rfl, fun _ => rfl⟩, rfl, rfl⟩
  | i + 1 => by
    obtain ⟨h1, h2, h3⟩ := Disks_std i
    refine ⟨⟨h1.up, fun d => ?_⟩, h2, h3⟩
    show upd (Disks i).failAt (Disks i).n 0 d = 0
    unfold upd
    split
    · rfl
    · exact h1.nofail d
theorem Disks_live : ∀ i d, (Disks i).dead d = false
  | 0, _ => rfl
  | i + 1, d => by
    show upd (Disks i).dead (Disks i).n false d = false
    unfold upd
    split
    · rfl
    · exact Disks_live i d
theorem Disks_size : ∀ i d, d < i → (Disks i).size d = 200
  | 0, d, h => absurd h (Nat.not_lt_zero d)
  | i + 1, d, h => by
    show upd (Disks i).size (Disks i).n 200 d = 200
    rw [Disks_n]
    unfold upd
    split
    · rfl
    · exact Disks_size i d (by omega)
theorem Disks_zero : ∀ i d k, (Disks i).newest d k = zeroSec ∧ (Disks i).flushed d k = zeroSec
  | 0, _, _ => ⟨rfl, rfl⟩
  | i + 1, d, k => by
    obtain ⟨h1, h2⟩ := Disks_zero i d k
    constructor
    · show upd (Disks i).newest (Disks i).n (fun _ => zeroSec) d k = zeroSec
      unfold upd
      split
      · rfl
      · exact h1
    · show upd (Disks i).flushed (Disks i).n (fun _ => zeroSec) d k = zeroSec
      unfold upd
      split
      · rfl
      · exact h2
theorem Disks_holds (n : Nat) (live : List Nat) (gen : Int) : Holds (Disks n) live noughts gen [] := by
  intro d _ _ j _
  obtain ⟨h1, h2⟩ := Disks_zero n d (2 + j)
  rw [h1, h2]
  exact ⟨rfl, rfl⟩
set_option maxRecDepth 100000 in
set_option maxHeartbeats 2000000 in
theorem disks_any (w : World) (n : Nat) (hn : n ≤ 3) :
    Calls Try.prog 28 #[.int .i64 (n : Int)] w fun e w' => (∃ (b : Nat) (F : Nat → Prop), e = .returned (.pointer (some ⟨b, 0, none⟩)) ∧ BankOn w' b F (Disks n) ∧ (∀ x, F x → w.heap.size ≤ x)) ∧ Below w.heap.size w w' := by
  go_enter Try.func28, Try.ntmps28
  go_wp2_with fail
  refine (newBank_any w).mono ?_
  rintro _ w1 ⟨rfl, hB1, hl1⟩
  have HL1 := hide hl1
  have HB1 := hide hB1.on
  clear hB1 hl1
  go_wp2_with fail
  go_loopw [4] (fun s4 wr => ∃ (i : Nat) (F : Nat → Prop), s4 = .int .i64 (i : Int) ∧ i ≤ n ∧ Hid (BankOn wr w.heap.size F (Disks i)) ∧ Hid (∀ x, F x → w.heap.size ≤ x) ∧ Hid (Below w.heap.size w wr)) (fun s4 _ => n - (intOf s4).toNat)
  case atStart => exact ⟨0, _, rfl, Nat.zero_le _, HB1, hide fun x h => h.1, HL1⟩
  case round =>
    obtain ⟨i, F, rfl, hi, hB, hlo, hl⟩ := hrel
    obtain ⟨wo, rfl⟩ : ∃ wo, wo = wr := ⟨_, rfl⟩
    by_cases hin : i < n
    · have hg1 : (i : Int) < n := by omega
      go_wp2_with fail
      refine (on_add hB.out 200 (by decide) (by decide) (by rw [Disks_n]; omega)).mono ?_
      rintro _ w3 ⟨rfl, hB3, hT3⟩
      have hw1 := hl.out.size
      have hz3 := hT3.size
      have HLo : Hid (∀ x, (F x ∨ wo.heap.size ≤ x ∧ x < w3.heap.size) → w.heap.size ≤ x) := hide fun x h => by
        rcases h with h | h
        · exact hlo.out x h
        · omega
      have HL3 : Hid (Below w.heap.size w w3) := hide (hl.out.trans ⟨hT3.os, hT3.tape, hT3.output, hT3.size, fun y hy => hT3.block y (by omega) (fun hf => by have := hlo.out y hf; omega)⟩)
      have HB3 : Hid (BankOn w3 w.heap.size (fun y => F y ∨ wo.heap.size ≤ y ∧ y < w3.heap.size) (Disks (i + 1))) := hide hB3
      clear hB3 hT3
      go_wp2_with fail
      go_roundw
      case rel => exact ⟨i + 1, _, by simp, by omega, HB3, HLo, HL3⟩
      case measure => simp [intOf]; omega
    · obtain rfl : i = n := by omega
      go_wp2_with fail
      go_ret
      exact ⟨⟨_, F, rfl, hB.out, hlo.out⟩, hl.out⟩
#print axioms disks_any
section
variable {w : World} {b : Nat} {L : Lay} {S : Bank}
theorem failNo_any (h : BankIn w b L S) (d : Nat) (hd : S.n ≤ d) :
    Calls Try.prog 21 #[.pointer (some ⟨b, 0, none⟩), .int .i64 (d : Int)] w fun e w' => e = .returned (.int .i64 8) ∧ w = w' := by
  have HT := hide (there_no h d hd)
  clear h
  go_enter Try.func21, Try.ntmps21
  go_wp2_with (first
    | (go_at_call 40; refine HT.out.mono ?_; rintro _ _ ⟨rfl, rfl⟩))
  go_ret
  exact ⟨rfl, rfl⟩
/-- What Fail does to a bank. -/
def Bank.fail_ (S : Bank) (d : Nat) : Bank := if d < S.n then S.fail d else S
theorem on_failD {F : Nat → Prop} (h : BankOn w b F S) (d : Nat) :
    Calls Try.prog 21 #[.pointer (some ⟨b, 0, none⟩), .int .i64 (d : Int)] w fun e w' => e = .returned (.int .i64 (if d < S.n then 0 else 8)) ∧ BankOn w' b F (S.fail_ d) ∧ Turn F w w' := by
  unfold Bank.fail_
  by_cases hd : d < S.n
  · rw [if_pos hd, if_pos hd]
    exact on_fail h d hd
  · rw [if_neg hd, if_neg hd]
    obtain ⟨h1, h2, L, h3, h4⟩ := h
    refine (failNo_any h3 d (by omega)).mono ?_
    rintro _ _ ⟨rfl, rfl⟩
    exact ⟨rfl, ⟨h1, h2, L, h3, h4⟩, Turn.refl _ _⟩
#print axioms on_failD
end
def strS (r : List UInt8) : Value := .string ⟨r.toArray⟩
def strV (R : List (List UInt8)) : List Value := R.map strS
theorem strV_append (R : List (List UInt8)) (r : List UInt8) : strV (R ++ [r]) = strV R ++ [strS r] := by simp [strV]
theorem strV_length (R : List (List UInt8)) : (strV R).length = R.length := by simp [strV]
theorem strV_get {R : List (List UInt8)} {j : Nat} {r : List UInt8} (h : R[j]? = some r) : (strV R)[j]? = some (strS r) := by simp [strV, h]
theorem str_info9 : ∃ i, Try.prog.info? 9 = some i ∧ i.zero = some (.string ⟨#[]⟩) ∧ i.size = 1 ∧ i.bytes = 16 := ⟨(Try.prog.info? 9).get!, by kernel_rfl, by kernel_rfl, by kernel_rfl, by kernel_rfl⟩
theorem conv9 {w : World} {B n c : Nat} {A : Option Addr} {l : List UInt8} (h : Reads w B 1 A n (B8 l)) : (convert 32 9 (.slice A n c)).run Try.prog w = .ok (strS l) w :=
  run_conv_reads (P := Try.prog) w 32 5 9 Try.underlying32 Try.underlying5 Try.underlying9 _ A n c l h
section
variable {P : Program} {ops : Array Oper} {o : Oper} {rest : List Oper} {a : Act}
theorem wpList_conv {w : World} {Q : Exit → Act → World → Prop} (hgd : o.guard = none) (s d : TypeId) (x : Operand) (ho : o.op = .convert s d x) (v u : Value) (hx : a.eval x = u) (hrun : (convert s d u).run P w = .ok v w) (h : wpList P ops Q rest (a.put o.dst v) w) : wpList P ops Q (o :: rest) a w :=
  wpList_gives hgd v (by
    unfold execOp
    simp only [ho, hx, Sem.run_bind, hrun, Result.andThen_ok, Sem.run_pure]) h
theorem quietS_when {C : World → Prop} {Q : Act → Prop} (hw : Region.wanted o (yielded ops a.tmps) = true) (v : Value) (hrun : ∀ w, C w → (execOp a.eval o).run P w = .ok (.value v) w) (h : wpQuiet P ops C Q rest (a.put o.dst v)) : wpQuiet P ops C Q (o :: rest) a := by
  unfold wpQuiet
  rw [if_pos hw]
  exact ⟨v, fun w hC => by unfold Oper.quietAt; rw [hrun w hC]; exact ⟨rfl, rfl⟩, h⟩
theorem quietS_conv {C : World → Prop} {Q : Act → Prop} (hw : Region.wanted o (yielded ops a.tmps) = true) (s d : TypeId) (x : Operand) (ho : o.op = .convert s d x) (v u : Value) (hx : a.eval x = u) (hrun : ∀ w, C w → (convert s d u).run P w = .ok v w) (h : wpQuiet P ops C Q rest (a.put o.dst v)) : wpQuiet P ops C Q (o :: rest) a :=
  quietS_when hw v (fun w hC => by
    unfold execOp
    simp only [ho, hx, Sem.run_bind, hrun w hC, Result.andThen_ok, Sem.run_pure]) h
end
theorem run_build_str (a : Value) (ha : a.cells = #[a]) (w : World) : (Instr.buildSlice 31 1 #[(0, a)]).run Try.prog w = .ok (.slice (some ⟨w.heap.size, 0, none⟩) 1 1) (w.alloc (.cells #[a] 9)) := by
  obtain ⟨i, hi, _, hs, _⟩ := str_info9
  have hA : ∀ f : Nat → Value, (Array.map f (Array.range 1)).setIfInBounds 0 a = #[a] := by
    intro f
    apply Array.ext'
    simp [Array.toList_setIfInBounds, List.range_succ]
  simp [Instr.buildSlice, run_underlying Try.underlying31, sizeOf, typeInfo, hi, hs, Instr.fill, ha, hA]
  rfl
theorem wpList_build_str {ops : Array Oper} {rest : List Oper} {o : Oper} {a : Act} {w : World} {Q : Exit → Act → World → Prop} (hgd : o.guard = none) (x : Operand) (ho : o.op = .buildSlice 31 1 #[(0, x)]) (v : Value) (hx : a.eval x = v) (_h1 : v.oneCell' = true) (hc : v.cells = #[v])
    (hK : wpList Try.prog ops Q rest (a.put o.dst (.slice (some ⟨w.heap.size, 0, none⟩) 1 1)) (w.alloc (.cells #[v] 9))) : wpList Try.prog ops Q (o :: rest) a w :=
  wpList_plain hgd fun _ hK' => by
    have hrun := run_build_str v hc w
    unfold Oper.wp
    simp [execOp, ho, hx, hrun, Result.andThen]
    exact hK' _ _ hK
theorem when_conv {P : Program} {ops : Array Oper} {o : Oper} {rest : List Oper} {a : Act} {w : World} {Q : Exit → Act → World → Prop} (hw : Region.wanted o (yielded ops a.tmps) = true) (s d : TypeId) (x : Operand) (ho : o.op = .convert s d x) (v u : Value) (hx : a.eval x = u) (hrun : (convert s d u).run P w = .ok v w) (h : wpList P ops Q rest (a.put o.dst v) w) : wpList P ops Q (o :: rest) a w :=
  when_gives hw v (by
    unfold execOp
    simp only [ho, hx, Sem.run_bind, hrun, Result.andThen_ok, Sem.run_pure]) h
theorem below_turned {B : Nat} {w a b : World} {F : Nat → Prop} (h : Below B w a) (hF : ∀ x, F x → B ≤ x) (hT : Turn F a b) (hB : B ≤ a.heap.size) : Below B w b :=
  h.trans ⟨hT.os, hT.tape, hT.output, hT.size, fun y hy => hT.block y (by omega) (fun hf => by have := hF y hf; omega)⟩
/-- A row that was just laid. -/
theorem newRow9 (w : World) (F : List Value) (t : TypeId) (m : Nat × Nat) : Below w.heap.size w (w.alloc (.cells F.toArray t m)) ∧ (w.alloc (.cells F.toArray t m)).heap.size = w.heap.size + 1 ∧ Reads (w.alloc (.cells F.toArray t m)) (w.heap.size + 1) 1 (some ⟨w.heap.size, 0, none⟩) F.length F :=
  ⟨(Below.refl _ _).alloc (Nat.le_refl _) _, by rw [World.size_alloc], Reads.marked F t m _ 1 _ (by omega) (by omega)⟩
theorem Blk.readsI9 {w : World} {g n : Nat} {t : TypeId} {xs : List Int} (h : Blk w g t (I64 xs).toArray) (hn : xs.length = n) : Reads w w.heap.size 1 (some ⟨g, 0, none⟩) n (I64 xs) := by
  refine ⟨by rw [I64_length]; omega, fun _ => ⟨_, rfl, h.lt, fun j u hu => ?_⟩⟩
  have hadd : (⟨g, 0, none⟩ : Addr).add j = ⟨g, j, none⟩ := by unfold Addr.add; split <;> simp_all
  rw [hadd, h.cell j]
  simpa using hu
#print axioms conv9
#print axioms run_build_str
/-- What Load tells of members: area, generation, bytes, the greatest one seen; the errno. -/
structure LoadV where
  area : Nat
  gen : Nat
  bytes : List UInt8
  seen : Nat
  err : Nat
def loadR (V : List View) : LoadV := if V = [] then ⟨0, 0, [], 0, 5⟩ else match loadC V with
  | none => ⟨0, 0, [], seenC V, 8⟩
  | some c => ⟨c.area, c.gen, c.bytes, seenC V, 0⟩
/-- A checkpoint that was found, in cells. -/
def foundC (L : LoadV) (B : Option Addr) (m k : Nat) : List Value := [.int .i64 (L.area : Int), .int .i64 (L.gen : Int), .slice B m k, .int .i64 (L.seen : Int)]
theorem foundC_one (L : LoadV) (B : Option Addr) (m k : Nat) : ∀ v ∈ foundC L B m k, v.oneCell' = true := by
  intro v hv
  simp [foundC] at hv
  rcases hv with rfl | rfl | rfl | rfl <;> rfl
theorem found_info : (Try.prog.info? 55).map (·.size) = some 4 := by kernel_rfl
theorem found_zero (w : World) : (zeroValue 55).run Try.prog w = .ok (.agg #[.int .i64 0, .int .i64 0, .slice none 0 0, .int .i64 0]) w := by kernel_rfl
section
variable {w : World} {g : Nat} {T : TypeId} {L : LoadV} {B : Option Addr} {m k : Nat}
theorem found_c0 (h : Blk w g T (foundC L B m k).toArray) : w.cell? ⟨g, 0, none⟩ = some (.int .i64 (L.area : Int)) := h.cell 0
theorem found_c1 (h : Blk w g T (foundC L B m k).toArray) : w.cell? ⟨g, 1, none⟩ = some (.int .i64 (L.gen : Int)) := h.cell 1
theorem found_c2 (h : Blk w g T (foundC L B m k).toArray) : w.cell? ⟨g, 2, none⟩ = some (.slice B m k) := h.cell 2
theorem found_c3 (h : Blk w g T (foundC L B m k).toArray) : w.cell? ⟨g, 3, none⟩ = some (.int .i64 (L.seen : Int)) := h.cell 3
end
structure CheckK where
  save_any : ∀ (w : World) (b : Nat) (F : Nat → Prop) (S : Bank) (A : Option Addr) (n c : Nat) (live : List Nat) (area : Nat) (gen : Int) (B : Option Addr) (m k : Nat) (x : List UInt8), BankOn w b F S → Reads w w.heap.size 1 A n (I64 (live.map Int.ofNat)) → n ≤ c → c ≤ 9223372036854775807 → n ≤ 5 → (∀ ad, A = some ad → 0 < n → ¬ F ad.block) → Reads w w.heap.size 1 B m (B8 x) → m ≤ k → k ≤ 9223372036854775807 → (∀ ad, B = some ad → 0 < m → ¬ F ad.block) → S.writes ≤ 1000000 →
    Calls Try.prog 29 #[.pointer (some ⟨b, 0, none⟩), .slice A n c, .int .i64 (area : Int), .int .i64 gen, .slice B m k] w fun e w' => e = .returned (.int .i64 ((saveC S live area gen x).1 : Int)) ∧ BankOn w' b F (saveC S live area gen x).2 ∧ Turn F w w'
  load_any : ∀ (w : World) (b : Nat) (F : Nat → Prop) (S : Bank) (A : Option Addr) (n c : Nat) (live : List Nat), BankOn w b F S → S.down = false → Reads w w.heap.size 1 A n (I64 (live.map Int.ofNat)) → n ≤ c → c ≤ 9223372036854775807 → n ≤ 5 → (∀ d ∈ live, d < S.n ∧ 114 ≤ S.size d) → live.Nodup →
    Calls Try.prog 30 #[.pointer (some ⟨b, 0, none⟩), .slice A n c] w fun e w' => ∃ (B : Option Addr) (m k : Nat), e = .returned (.tuple #[.agg (foundC (loadR (viewsC S live)) B m k).toArray, .int .i64 ((loadR (viewsC S live)).err : Int)]) ∧ Reads w' w'.heap.size 1 B m (B8 (loadR (viewsC S live)).bytes) ∧ (∀ ad, B = some ad → w.heap.size ≤ ad.block) ∧ m ≤ k ∧ k ≤ 9223372036854775807 ∧ Below w.heap.size w w'
/-! ### A bank whose members hold checkpoints, as the laws go along -/
theorem layB_writes9 : ∀ (l : List Sec) (S : Bank) (d q : Nat), Std S → d < S.n → q + l.length ≤ S.size d → (layB S d q l).2.writes ≤ S.writes + l.length := lay_writes
theorem saveC_writes {S : Bank} {live : List Nat} {C : Cont} (h : CkB S live C) {a k : Nat} {x : List UInt8} (ha : a ≤ 1) : (saveC S live a (k : Nat) x).2.writes ≤ S.writes + live.length * 32 := by
  unfold saveC
  split
  · rename_i hc
    have hp := parts_32 hc.2.2
    have hlen : (partsS (k : Nat) 0 x).length = partsN x.length := partsS_length _ _ _
    have h1 := layAll_writes (50 + 32 * a) (partsS (k : Nat) 0 x) live S false h.std (fun d hd => by
      obtain ⟨h1, h2⟩ := h.lv d hd
      exact ⟨h1, by rw [hlen]; omega⟩)
    have h2 : live.length * (partsS (k : Nat) 0 x).length ≤ live.length * 32 := Nat.mul_le_mul_left _ (by rw [hlen]; omega)
    omega
  · show S.writes ≤ _
    omega
structure CkIs (w : World) (F : Nat → Prop) (b : Nat) (wr : World) (S : Bank) (live : List Nat) (C : Cont) (k : Nat) : Prop where
  lo : ∀ x, F x → w.heap.size ≤ x
  bank : BankOn wr b F S
  ck : CkB S live C
  few : S.writes ≤ k
  low : Below w.heap.size w wr
section
variable {w wr w' : World} {F : Nat → Prop} {b k : Nat} {S : Bank} {live : List Nat} {C : Cont}
theorem CkIs.later (h : CkIs w F b wr S live C k) (hb : Below wr.heap.size wr w') : CkIs w F b w' S live C k :=
  { h with bank := h.bank.later hb, low := h.low.trans (hb.mono h.low.size) }
theorem CkIs.turned (h : CkIs w F b wr S live C k) (hT : Turn F wr w') : Below w.heap.size w w' := below_turned h.low h.lo hT h.low.size
/-- What turns is not the bank's, nor what the law came in with. -/
theorem CkIs.aside (h : CkIs w F b wr S live C k) {T : Nat → Prop} (hT : Turn T wr w') (hF : ∀ x, F x → ¬ T x) (hl : ∀ x, T x → w.heap.size ≤ x) : CkIs w F b w' S live C k :=
  { h with bank := h.bank.kept hT hF, low := below_turned h.low hl hT h.low.size }
/-- A checkpoint that has room, no fall armed: it is laid. -/
theorem CkIs.save (K : CheckK) (h : CkIs w F b wr S live C k) (h0 : S.armed = 0) (hne : live ≠ []) (hnd : live.Nodup) (hlen : live.length ≤ 5) {a g : Nat} {x : List UInt8} (ha : a ≤ 1) (hx : x.length ≤ 1696) (hg : numB (g : Nat) = true) (hk : k ≤ 1000000)
    (A : Option Addr) (n c : Nat) (hr : Reads wr wr.heap.size 1 A n (I64 (live.map Int.ofNat))) (hc : n ≤ c) (hc2 : c ≤ 9223372036854775807) (hn : n ≤ 5) (hA : ∀ ad, A = some ad → 0 < n → ¬ F ad.block) (B : Option Addr) (m q : Nat) (hb : Reads wr wr.heap.size 1 B m (B8 x)) (hq : m ≤ q) (hq2 : q ≤ 9223372036854775807) (hB : ∀ ad, B = some ad → 0 < m → ¬ F ad.block) :
    Calls Try.prog 29 #[.pointer (some ⟨b, 0, none⟩), .slice A n c, .int .i64 (a : Int), .int .i64 (g : Int), .slice B m q] wr fun e w' => e = .returned (.int .i64 0) ∧ (∃ S', CkIs w F b w' S' live (putC C a g x) (k + 160) ∧ Alike S S' ∧ S'.armed = 0) ∧ Turn F wr w' := by
  have hk2 := h.few
  refine (K.save_any wr b F S A n c live a (g : Int) B m q x h.bank hr hc hc2 hn hA hb hq hq2 hB (by omega)).mono ?_
  rintro _ w' ⟨rfl, hBk, hT⟩
  have hw := saveC_writes (k := g) (x := x) h.ck ha
  have harm : (saveC S live a (g : Nat) x).2.armed = 0 := by
    unfold saveC
    split
    · rename_i hcc
      have hp := parts_32 hcc.2.2
      have hl : (partsS (g : Nat) 0 x).length = partsN x.length := partsS_length _ _ _
      exact layAll_armed _ _ live S false h.ck.std h0 (fun d hd => by
        obtain ⟨h1, h2⟩ := h.ck.lv d hd
        exact ⟨h1, by rw [hl]; omega⟩)
    · exact h0
  rcases h.ck.save hne hnd (k := g) ha hx hg with ⟨h1, h2, h3⟩ | ⟨h1, _⟩
  · rw [h1]
    exact ⟨rfl, ⟨_, { lo := h.lo, bank := hBk, ck := h2, few := by omega, low := h.turned hT }, h3, harm⟩, hT⟩
  · exact absurd h0 h1
/-- What Load tells. -/
theorem CkIs.load (K : CheckK) (h : CkIs w F b wr S live C k) (A : Option Addr) (n c : Nat) (hr : Reads wr wr.heap.size 1 A n (I64 (live.map Int.ofNat))) (hc : n ≤ c) (hc2 : c ≤ 9223372036854775807) (hn : n ≤ 5) (hnd : live.Nodup) {L : LoadV} (hL : loadR (viewsC S live) = L) :
    Calls Try.prog 30 #[.pointer (some ⟨b, 0, none⟩), .slice A n c] wr fun e w' => ∃ (B : Option Addr) (m q : Nat), e = .returned (.tuple #[.agg (foundC L B m q).toArray, .int .i64 (L.err : Int)]) ∧ Reads w' w'.heap.size 1 B m (B8 L.bytes) ∧ (∀ ad, B = some ad → wr.heap.size ≤ ad.block) ∧ m ≤ q ∧ q ≤ 9223372036854775807 ∧ Below wr.heap.size wr w' := by
  subst hL
  exact K.load_any wr b F S A n c live h.bank h.ck.std.up hr hc hc2 hn h.ck.lv hnd
end
/-- Bytes that lie below the bank's blocks are not the bank's. -/
theorem Reads.far {w : World} {B size : Nat} {A : Option Addr} {n : Nat} {xs : List Value} {F : Nat → Prop} (h : Reads w B size A n xs) (hF : ∀ x, F x → B ≤ x) : ∀ ad, A = some ad → 0 < n → ¬ F ad.block := fun ad e hn hf => by
  obtain ⟨ad2, e2, hb, _⟩ := h.2 hn
  rw [e] at e2
  injection e2 with e2
  subst e2
  have := hF _ hf
  omega
/-- New disks hold nothing. -/
def noC : Cont := fun _ _ => List.replicate 64 0
theorem Disks_ck (n : Nat) (live : List Nat) (hl : ∀ d ∈ live, d < n) : CkB (Disks n) live noC where
  std := (Disks_std n).1
  lv := fun d hd => by
    have := hl d hd
    rw [Disks_n, Disks_size n d this]
    omega
  alive := fun d _ => Disks_live n d
  hold := fun d q => by
    obtain ⟨h1, h2⟩ := Disks_zero n d q
    rw [h1, h2]
    exact ⟨fun _ _ _ _ => rfl, fun _ _ _ _ => rfl⟩
theorem noC_prov (X : Known) (j : Nat) (d : Nat) : ProvS X j (noC d j) := .inl (.inl (by unfold noC; decide +kernel))
theorem views_nil {S : Bank} {live : List Nat} {d : Nat} (hd : d ∈ live) (hx : S.dead d = false) : viewsC S live ≠ [] := fun h => by
  have : (fun j => (S.newest d (50 + j)).1) ∈ viewsC S live := viewsC_mem.2 ⟨d, hd, hx, rfl⟩
  rw [h] at this
  cases this
#print axioms CkIs.save
#print axioms CkIs.load
#print axioms Disks_ck
/-- One checkpoint is known. -/
def oneX (g a : Nat) (x : List UInt8) : Known := fun k => if k = g then some (a, x) else none
/-- A sector of area a at place i is a piece of this checkpoint, or no part of one. -/
def OfA (V : List View) (a g : Nat) (x : List UInt8) : Prop := ∀ v ∈ V, ∀ i, i < 32 → (partB (v (32 * a + i)) = false ∨ (readT (v (32 * a + i))).nr ≠ 0) ∨ (i < partsN x.length ∧ v (32 * a + i) = pieceS (g : Nat) 0 x i)
section
variable {V : List View} {a g : Nat} {x : List UInt8}
theorem one_right (ha : a ≤ 1) (hx : x.length ≤ 1696) (hg : numB (g : Nat) = true) : Right (oneX g a x) := fun k a' x' h => by
  unfold oneX at h
  split at h
  · rename_i e
    injection h with h
    injection h with h1 h2
    subst h1
    subst h2
    subst e
    exact ⟨ha, hx, hg⟩
  · cases h
theorem OfA.prov (h : OfA V a g x) : ProvA (oneX g a x) V a := fun v hv i hi => by
  rcases h v hv i hi with q | ⟨q1, q2⟩
  · exact .inl q
  · exact .inr ⟨g, a, i, x, if_pos rfl, rfl, q1, q2⟩
/-- It is there: nothing else is. -/
theorem cand_areaL (ha : a ≤ 1) (hx : x.length ≤ 1696) (hg : numB (g : Nat) = true) (h : OfA V a g x) (hw : ∀ i, i < partsN x.length → ∃ v ∈ V, v (32 * a + i) = pieceS (g : Nat) 0 x i) : candC V a ≠ [] ∧ ∀ c ∈ candC V a, c = ⟨a, g, x⟩ := by
  have hR := one_right ha hx hg
  refine ⟨fun e => ?_, fun c hc => ?_⟩
  · have := cand_in hR h.prov (show oneX g a x g = some (a, x) from if_pos rfl) ⟨a, x, if_pos rfl, hw⟩
    rw [e] at this
    cases this
  · obtain ⟨k, x', rfl, h1, _⟩ := cand_out hR h.prov ha hc
    unfold oneX at h1
    split at h1
    · rename_i e
      injection h1 with h1
      injection h1 with _ h2
      rw [e, h2]
    · cases h1
/-- A piece of it is on none of the members: nothing is there. -/
theorem cand_torn (ha : a ≤ 1) (hx : x.length ≤ 1696) (hg : numB (g : Nat) = true) (h : OfA V a g x) {i : Nat} (hi : i < partsN x.length) (hn : ∀ v ∈ V, v (32 * a + i) ≠ pieceS (g : Nat) 0 x i) : candC V a = [] := by
  have hR := one_right ha hx hg
  cases hc : candC V a with
  | nil => rfl
  | cons c l =>
    exfalso
    obtain ⟨k, x', _, h1, a', x2, h2, h3⟩ := cand_out hR h.prov ha (show c ∈ candC V a by rw [hc]; simp)
    have hk : k = g := by
      unfold oneX at h1
      split at h1
      · assumption
      · cases h1
    subst hk
    rw [show oneX k a x k = some (a, x) from if_pos rfl] at h2
    injection h2 with h2
    injection h2 with e1 e2
    subst e1
    subst e2
    obtain ⟨v, hv, e⟩ := h3 i hi
    exact hn v hv e
theorem cand_none (ha : a ≤ 1) (h : ∀ v ∈ V, ∀ i, i < 32 → partB (v (32 * a + i)) = false) : candC V a = [] :=
  cand_torn (g := 0) (x := []) ha (by decide) (by decide) (fun v hv i hi => .inl (.inl (h v hv i hi))) (i := 0) (by decide) (fun v hv e => by
    have h1 := h v hv 0 (by decide)
    rw [e, piece_part (by decide) nr_zero (by decide)] at h1
    cases h1)
end
theorem best_const : ∀ (l : List Ckp) (c : Ckp) (b : Option Ckp), l ≠ [] → (∀ d ∈ l, d = c) → bestC l b = newer b c
  | [], _, _, h, _ => absurd rfl h
  | d :: l, c, b, _, h => by
    have hd := h d (by simp)
    subst hd
    show bestC l (newer b d) = newer b d
    cases l with
    | nil => rfl
    | cons e l =>
      rw [best_const (e :: l) d _ (by simp) (fun x hx => h x (by simp [hx]))]
      cases b with
      | none => unfold newer; simp
      | some b =>
        by_cases hlt : b.gen < d.gen
        · have e1 : newer (some b) d = some d := by unfold newer; simp only; rw [if_pos hlt]
          rw [e1]
          unfold newer
          simp only
          rw [if_neg (Nat.lt_irrefl _)]
        · have e1 : newer (some b) d = some b := by unfold newer; simp only; rw [if_neg hlt]
          rw [e1, e1]
theorem best_appendL (l m : List Ckp) (b : Option Ckp) : bestC (l ++ m) b = bestC m (bestC l b) := by
  unfold bestC
  rw [List.foldl_append]
theorem seen_eq {V : List View} {m : Nat} (h : ∀ v ∈ V, ∀ j, j < 64 → gen0 (v j) ≤ m) {v : View} (hv : v ∈ V) {j : Nat} (hj : j < 64) (he : gen0 (v j) = m) : seenC V = m :=
  Nat.le_antisymm (seen_le h) (by rw [← he]; exact le_seen hv hj)
theorem nought_part : partB (List.replicate 64 0) = false := by decide +kernel
theorem gen0_nought : gen0 (List.replicate 64 0) = 0 := by
  unfold gen0
  rw [nought_part]
  simp
/-! ### Contents that are known -/
def shownC (D : List Nat) (C : Cont) (V : List View) : Prop := (∀ v ∈ V, ∃ d ∈ D, ∀ j, j < 64 → v j = C d j) ∧ ∀ d ∈ D, ∃ v ∈ V, ∀ j, j < 64 → v j = C d j
theorem CkB.shown {S : Bank} {live : List Nat} {C : Cont} (h : CkB S live C) : shownC live C (viewsC S live) :=
  ⟨fun v hv => by obtain ⟨d, hd, _, rfl⟩ := viewsC_mem.1 hv; exact ⟨d, hd, fun j hj => h.newest hd hj⟩, fun d hd => ⟨_, viewsC_mem.2 ⟨d, hd, h.alive d hd, rfl⟩, fun j hj => h.newest hd hj⟩⟩
theorem CkB.some {S : Bank} {live l2 : List Nat} {C : Cont} (h : CkB S live C) (hs : ∀ d ∈ l2, d ∈ live) : CkB S l2 C :=
  { std := h.std, lv := fun d hd => h.lv d (hs d hd), alive := fun d hd => h.alive d (hs d hd), hold := fun d q => ⟨fun hd => (h.hold d q).1 (hs d hd), fun hd => (h.hold d q).2 (hs d hd)⟩ }
section
variable {D : List Nat} {V : List View} {a g : Nat} {x : List UInt8}
/-- New disks. -/
theorem load_new (h : shownC D noC V) (hne : V ≠ []) : loadR V = ⟨0, 0, [], 0, 8⟩ := by
  have hn : ∀ v ∈ V, ∀ j, j < 64 → v j = List.replicate 64 0 := fun v hv j hj => by
    obtain ⟨d, _, e⟩ := h.1 v hv
    rw [e j hj]
    rfl
  have hc : ∀ a, a ≤ 1 → candC V a = [] := fun a ha => cand_none ha (fun v hv i hi => by rw [hn v hv _ (by omega)]; exact nought_part)
  have hs : seenC V = 0 := Nat.le_zero.1 (seen_le fun v hv j hj => by rw [hn v hv j hj, gen0_nought]; exact Nat.le_refl _)
  have hl : loadC V = none := by
    unfold loadC
    rw [hc 0 (by decide), hc 1 (by decide)]
    rfl
  unfold loadR
  rw [if_neg hne, hl, hs]
/-- One checkpoint on new disks. -/
theorem load_one (h : shownC D (putC noC a g x) V) (hne : D ≠ []) (ha : a ≤ 1) (hx : x.length ≤ 1696) (hg : numB (g : Nat) = true) : loadR V = ⟨a, g, x, g, 0⟩ := by
  obtain ⟨hp1, hp32⟩ := parts_32 hx
  obtain ⟨d0, hd0⟩ : ∃ d, d ∈ D := List.exists_mem_of_ne_nil D hne
  obtain ⟨v0, hv0, e0⟩ := h.2 d0 hd0
  have hV : V ≠ [] := fun e => by rw [e] at hv0; cases hv0
  have hat : ∀ v ∈ V, ∀ j, j < 64 → v j = if 32 * a ≤ j ∧ j < 32 * a + partsN x.length then pieceS (g : Nat) 0 x (j - 32 * a) else List.replicate 64 0 := fun v hv j hj => by
    obtain ⟨d, _, e⟩ := h.1 v hv
    rw [e j hj]
    rfl
  have hin : ∀ v ∈ V, ∀ i, i < partsN x.length → v (32 * a + i) = pieceS (g : Nat) 0 x i := fun v hv i hi => by
    rw [hat v hv _ (by omega), if_pos (by omega), show 32 * a + i - 32 * a = i by omega]
  have hO : OfA V a g x := fun v hv i hi => by
    by_cases hin2 : i < partsN x.length
    · exact .inr ⟨hin2, hin v hv i hin2⟩
    · left; left
      rw [hat v hv _ (by omega), if_neg (by omega)]
      exact nought_part
  have hc := cand_areaL ha hx hg hO (fun i hi => ⟨v0, hv0, hin v0 hv0 i hi⟩)
  have ho : candC V (1 - a) = [] := cand_none (by omega) (fun v hv i hi => by rw [hat v hv _ (by omega), if_neg (by omega)]; exact nought_part)
  have hl : loadC V = some ⟨a, g, x⟩ := by
    unfold loadC
    rcases (by omega : a = 0 ∨ a = 1) with rfl | rfl
    · rw [ho, List.append_nil, best_const _ _ none hc.1 hc.2]
      rfl
    · rw [show candC V 0 = [] from ho, List.nil_append, best_const _ _ none hc.1 hc.2]
      rfl
  have hs : seenC V = g := seen_eq (fun v hv j hj => by
    rw [hat v hv j hj]
    split
    · rw [gen0_piece hg (by omega)]; exact Nat.le_refl _
    · rw [gen0_nought]; exact Nat.zero_le _) hv0 (j := 32 * a + 0) (by omega) (by rw [hin v0 hv0 0 (by omega), gen0_piece hg (by omega)])
  unfold loadR
  rw [if_neg hV, hl, hs]
/-- Two checkpoints, one in each area. -/
theorem load_two {h : Nat} {y : List UInt8} (hs : shownC D (putC (putC noC 0 g x) 1 h y) V) (hne : D ≠ []) (hx : x.length ≤ 1696) (hy : y.length ≤ 1696) (hg : numB (g : Nat) = true) (hh : numB (h : Nat) = true) : loadR V = if g < h then ⟨1, h, y, max g h, 0⟩ else ⟨0, g, x, max g h, 0⟩ := by
  obtain ⟨hp1, hp32⟩ := parts_32 hx
  obtain ⟨hq1, hq32⟩ := parts_32 hy
  obtain ⟨d0, hd0⟩ : ∃ d, d ∈ D := List.exists_mem_of_ne_nil D hne
  obtain ⟨v0, hv0, e0⟩ := hs.2 d0 hd0
  have hV : V ≠ [] := fun e => by rw [e] at hv0; cases hv0
  have hat : ∀ v ∈ V, ∀ j, j < 64 → v j = if 32 ≤ j ∧ j < 32 + partsN y.length then pieceS (h : Nat) 0 y (j - 32) else if j < partsN x.length then pieceS (g : Nat) 0 x j else List.replicate 64 0 := fun v hv j hj => by
    obtain ⟨d, _, e⟩ := hs.1 v hv
    rw [e j hj]
    unfold putC noC
    simp only [Nat.mul_one, Nat.mul_zero, Nat.zero_le, true_and, Nat.zero_add, Nat.sub_zero]
  have hin0 : ∀ v ∈ V, ∀ i, i < partsN x.length → v (32 * 0 + i) = pieceS (g : Nat) 0 x i := fun v hv i hi => by
    rw [hat v hv _ (by omega), if_neg (by omega), if_pos (by omega), show 32 * 0 + i = i by omega]
  have hin1 : ∀ v ∈ V, ∀ i, i < partsN y.length → v (32 * 1 + i) = pieceS (h : Nat) 0 y i := fun v hv i hi => by
    rw [hat v hv _ (by omega), if_pos (by omega), show 32 * 1 + i - 32 = i by omega]
  have hO0 : OfA V 0 g x := fun v hv i hi => by
    by_cases hin2 : i < partsN x.length
    · exact .inr ⟨hin2, hin0 v hv i hin2⟩
    · left; left
      rw [hat v hv _ (by omega), if_neg (by omega), if_neg (by omega)]
      exact nought_part
  have hO1 : OfA V 1 h y := fun v hv i hi => by
    by_cases hin2 : i < partsN y.length
    · exact .inr ⟨hin2, hin1 v hv i hin2⟩
    · left; left
      rw [hat v hv _ (by omega), if_neg (by omega), if_neg (by omega)]
      exact nought_part
  have hc0 := cand_areaL (by decide) hx hg hO0 (fun i hi => ⟨v0, hv0, hin0 v0 hv0 i hi⟩)
  have hc1 := cand_areaL (by decide) hy hh hO1 (fun i hi => ⟨v0, hv0, hin1 v0 hv0 i hi⟩)
  have hl : loadC V = newer (some ⟨0, g, x⟩) ⟨1, h, y⟩ := by
    unfold loadC
    rw [best_appendL, best_const _ _ none hc0.1 hc0.2, best_const _ _ _ hc1.1 hc1.2]
    rfl
  have hle : ∀ v ∈ V, ∀ j, j < 64 → gen0 (v j) ≤ max g h := fun v hv j hj => by
    rw [hat v hv j hj]
    split
    · rw [gen0_piece hh (by omega)]; omega
    · split
      · rw [gen0_piece hg (by omega)]; omega
      · rw [gen0_nought]; omega
  have hsn : seenC V = max g h := by
    by_cases hgh : g < h
    · exact seen_eq hle hv0 (j := 32 * 1 + 0) (by omega) (by rw [hin1 v0 hv0 0 (by omega), gen0_piece hh (by omega)]; omega)
    · exact seen_eq hle hv0 (j := 32 * 0 + 0) (by omega) (by rw [hin0 v0 hv0 0 (by omega), gen0_piece hg (by omega)]; omega)
  unfold loadR
  rw [if_neg hV, hl, hsn]
  unfold newer
  simp only
  by_cases hgh : g < h
  · rw [if_pos hgh, if_pos hgh]
  · rw [if_neg hgh, if_neg hgh]
/-- Two checkpoints, the newer one with a sector of noughts at place k on some of the members. -/
theorem load_torn {h k : Nat} {y : List UInt8} {Z : Nat → Bool} {C : Cont} (hC : ∀ d ∈ D, ∀ j, j < 64 → C d j = if Z d = true ∧ j = 32 + k then List.replicate 64 0 else putC (putC noC 0 g x) 1 h y d j) (hs : shownC D C V) (hne : D ≠ []) (hx : x.length ≤ 1696) (hy : y.length ≤ 1696) (hg : numB (g : Nat) = true) (hh : numB (h : Nat) = true) (hgh : g < h) (hk : k < partsN y.length) :
    ((∀ d ∈ D, Z d = true) → (loadR V).err = 0 ∧ (loadR V).area = 0 ∧ (loadR V).gen = g ∧ (loadR V).bytes = x) ∧ ((∃ d ∈ D, Z d = false) → (loadR V).err = 0 ∧ (loadR V).area = 1 ∧ (loadR V).gen = h ∧ (loadR V).bytes = y) := by
  obtain ⟨hp1, hp32⟩ := parts_32 hx
  obtain ⟨hq1, hq32⟩ := parts_32 hy
  obtain ⟨d0, hd0⟩ : ∃ d, d ∈ D := List.exists_mem_of_ne_nil D hne
  obtain ⟨v0, hv0, e0⟩ := hs.2 d0 hd0
  have hV : V ≠ [] := fun e => by rw [e] at hv0; cases hv0
  have hput : ∀ d j, putC (putC noC 0 g x) 1 h y d j = if 32 ≤ j ∧ j < 32 + partsN y.length then pieceS (h : Nat) 0 y (j - 32) else if j < partsN x.length then pieceS (g : Nat) 0 x j else List.replicate 64 0 := fun d j => by
    unfold putC noC
    simp only [Nat.mul_one, Nat.mul_zero, Nat.zero_le, true_and, Nat.zero_add, Nat.sub_zero]
  have hat : ∀ v ∈ V, ∃ d ∈ D, ∀ j, j < 64 → v j = if Z d = true ∧ j = 32 + k then List.replicate 64 0 else if 32 ≤ j ∧ j < 32 + partsN y.length then pieceS (h : Nat) 0 y (j - 32) else if j < partsN x.length then pieceS (g : Nat) 0 x j else List.replicate 64 0 := fun v hv => by
    obtain ⟨d, hd, e⟩ := hs.1 v hv
    exact ⟨d, hd, fun j hj => by rw [e j hj, hC d hd j hj, hput]⟩
  have hin0 : ∀ v ∈ V, ∀ i, i < partsN x.length → v (32 * 0 + i) = pieceS (g : Nat) 0 x i := fun v hv i hi => by
    obtain ⟨d, hd, e⟩ := hat v hv
    rw [e _ (by omega), if_neg (by omega), if_neg (by omega), if_pos (by omega), show 32 * 0 + i = i by omega]
  have hO0 : OfA V 0 g x := fun v hv i hi => by
    by_cases hin2 : i < partsN x.length
    · exact .inr ⟨hin2, hin0 v hv i hin2⟩
    · left; left
      obtain ⟨d, hd, e⟩ := hat v hv
      rw [e _ (by omega), if_neg (by omega), if_neg (by omega), if_neg (by omega)]
      exact nought_part
  have hO1 : OfA V 1 h y := fun v hv i hi => by
    obtain ⟨d, hd, e⟩ := hat v hv
    rw [e _ (by omega)]
    by_cases hz : Z d = true ∧ 32 * 1 + i = 32 + k
    · rw [if_pos hz]
      exact .inl (.inl nought_part)
    · rw [if_neg hz]
      by_cases hin2 : i < partsN y.length
      · right
        rw [if_pos (by omega), show 32 * 1 + i - 32 = i by omega]
        exact ⟨hin2, rfl⟩
      · left; left
        rw [if_neg (by omega), if_neg (by omega)]
        exact nought_part
  have hc0 := cand_areaL (by decide) hx hg hO0 (fun i hi => ⟨v0, hv0, hin0 v0 hv0 i hi⟩)
  constructor
  · intro hall
    have hc1 : candC V 1 = [] := cand_torn (by decide) hy hh hO1 hk (fun v hv e => by
      obtain ⟨d, hd, e2⟩ := hat v hv
      rw [e2 _ (by omega), if_pos ⟨hall d hd, by omega⟩] at e
      have h3 := piece_part (b := y) hh nr_zero hk
      rw [← e, nought_part] at h3
      cases h3)
    have hl : loadC V = some ⟨0, g, x⟩ := by
      unfold loadC
      rw [hc1, List.append_nil, best_const _ _ none hc0.1 hc0.2]
      rfl
    unfold loadR
    rw [if_neg hV, hl]
    exact ⟨rfl, rfl, rfl, rfl⟩
  · rintro ⟨d1, hd1, hz1⟩
    obtain ⟨v1, hv1, e1⟩ := hs.2 d1 hd1
    have hin1 : ∀ i, i < partsN y.length → v1 (32 * 1 + i) = pieceS (h : Nat) 0 y i := fun i hi => by
      rw [e1 _ (by omega), hC d1 hd1 _ (by omega), if_neg (by rw [hz1]; simp), hput, if_pos (by omega), show 32 * 1 + i - 32 = i by omega]
    have hc1 := cand_areaL (by decide) hy hh hO1 (fun i hi => ⟨v1, hv1, hin1 i hi⟩)
    have hl : loadC V = some ⟨1, h, y⟩ := by
      unfold loadC
      rw [best_appendL, best_const _ _ none hc0.1 hc0.2, best_const _ _ _ hc1.1 hc1.2]
      show newer (some ⟨0, g, x⟩) ⟨1, h, y⟩ = _
      unfold newer
      simp only
      rw [if_pos hgh]
    unfold loadR
    rw [if_neg hV, hl]
    exact ⟨rfl, rfl, rfl, rfl⟩
end
#print axioms load_one
#print axioms load_two
#print axioms load_torn
def stL : List UInt8 := [115, 116, 97, 116, 101]
theorem CkB.two {S : Bank} {C : Cont} (h : CkB S [0, 1] C) : CkB S [1] C := h.some (by decide)
set_option maxRecDepth 100000 in
set_option maxHeartbeats 4000000 in
theorem shown10_any (K : CheckK) (w : World) : Calls Try.prog 27 #[] w fun e w' => e = .returned (.bool true) ∧ Below w.heap.size w w' := by
  have HPN := hide (load_new (Disks_ck 2 [0, 1] (by decide)).shown (views_nil (d := 0) (by decide) (Disks_live 2 0)))
  go_enter Try.func27, Try.ntmps27
  go_wp2_with fail
  refine (disks_any w 2 (by decide)).mono ?_
  rintro _ w1 ⟨⟨b, F, rfl, hB1, hlo1⟩, hl1⟩
  have HI1 : Hid (CkIs w F b w1 (Disks 2) [0, 1] noC 0) := hide { lo := hlo1, bank := hB1, ck := Disks_ck 2 [0, 1] (by decide), few := Nat.le_of_eq (Disks_std 2).2.1, low := hl1 }
  have HF1 := hide (fun x hx => hB1.1 x hx)
  clear hB1 hlo1 hl1
  go_wp2_with fail
  have hN := newRow9 w1 (I64 [0, 1]) 3 (0, 0)
  show Calls _ _ _ (w1.alloc (.cells (I64 [0, 1]).toArray 3 (0, 0))) _
  generalize w1.alloc (.cells (I64 [0, 1]).toArray 3 (0, 0)) = w2 at hN ⊢
  obtain ⟨hl2, hz2, hr2⟩ := hN
  rw [← hz2] at hr2
  refine ((HI1.out.later hl2).load K (some ⟨w1.heap.size, 0, none⟩) 2 2 hr2 (by omega) (by omega) (by omega) (by decide) HPN.out).mono ?_
  rintro _ w3 ⟨B3, m3, q3, rfl, _, _, _, _, hl3⟩
  have HI3 := hide ((HI1.out.later hl2).later hl3)
  have hz3 := hl3.size
  clear hr2 hl2 hl3
  have kc := fun (w : World) (C : Array Value) (n c : Nat) => Lib.run_convert_bytes_const (P := Try.prog) w 32 5 C n c Try.underlying32 Try.underlying5
  go_wp2_with (first
    | ((with_reducible refine at_slot 2 ?_); refine wpList_alloc_blk rfl 55 rfl _ (found_zero _) ?_; intro w4 hb4 hl4 hs4; clear hs4)
    | ((with_reducible refine at_store 2 ?_); refine wpList_store_all rfl 55 (.tmp 2) (.tmp 14) rfl w3.heap.size 55 _ hb4 rfl (foundC ⟨0, 0, [], 0, 8⟩ B3 m3 q3) rfl found_info rfl (foundC_one _ _ _ _) ?_; intro w5 hb5 hg5 hs5; have hz4 := hb4.lt; have hl35 : Below w3.heap.size w3 w5 := hl4.grown hg5 (by omega) (fun g e => by injection e with e; omega); have HI5 := hide (HI3.out.later hl35); have hz5 := hl35.size; clear hb4 hl4 hb5 hg5 hs5 hl35)
    | ((with_reducible refine at_slot 18 ?_); have hN6 := newRow9 w5 (I64 [0, 1]) 3 (0, 0); show wpList _ _ _ _ _ (w5.alloc (.cells (I64 [0, 1]).toArray 3 (0, 0))); generalize w5.alloc (.cells (I64 [0, 1]).toArray 3 (0, 0)) = w6 at hN6 ⊢; obtain ⟨hl6, hz6, hr6⟩ := hN6; have HZ6 := hide hz6; clear hz6))
  clear kc
  have hN := newRow9 w6 (B8 stL) 5 (5, 6)
  show Calls _ _ _ (w6.alloc (.cells (B8 stL).toArray 5 (5, 6))) _
  generalize w6.alloc (.cells (B8 stL).toArray 5 (5, 6)) = w7 at hN ⊢
  obtain ⟨hl7, hz7, hr7⟩ := hN
  rw [← hz7] at hr7
  have hz6 := HZ6.out
  have hz5w := HI5.out.low.size
  have hF5 := HI5.out.bank.1
  have hr67 : Reads w7 w7.heap.size 1 (some ⟨w5.heap.size, 0, none⟩) 2 (I64 ([0, 1] : List Int)) := (hr6.below (hl7.mono (by omega))).more (by omega)
  refine (((HI5.out.later hl6).later hl7).save K (Disks_std 2).2.2 (by decide) (by decide) (by decide) (a := 1) (g := 3) (x := stL) (by decide) (by decide) (by decide) (by decide) (some ⟨w5.heap.size, 0, none⟩) 2 2 hr67 (by omega) (by omega) (by omega) (fun ad e _ hf => by injection e with e; subst e; exact absurd (hF5 _ hf) (Nat.lt_irrefl _)) (some ⟨w6.heap.size, 0, none⟩) 5 5 hr7 (by omega) (by omega) (fun ad e _ hf => by injection e with e; subst e; have h2 : w6.heap.size < w5.heap.size := hF5 _ hf; omega)).mono ?_
  rintro _ w8 ⟨rfl, ⟨S8, hI8, hA8, _⟩, hT8⟩
  have HI8 := hide hI8
  clear hr67 hr6 hr7 hl6 hl7 hI8 hA8 hT8 HI5 HI3 hz6 hz7
  go_wp2_with fail
  have hN := newRow9 w8 (I64 [1]) 3 (0, 0)
  show Calls _ _ _ (w8.alloc (.cells (I64 [1]).toArray 3 (0, 0))) _
  generalize w8.alloc (.cells (I64 [1]).toArray 3 (0, 0)) = w9 at hN ⊢
  obtain ⟨hl9, hz9, hr9⟩ := hN
  rw [← hz9] at hr9
  have hI9 := HI8.out.later hl9
  have hI91 : CkIs w F b w9 S8 [1] (putC noC 1 3 stL) 160 := { hI9 with ck := hI9.ck.two }
  refine (hI91.load K (some ⟨w8.heap.size, 0, none⟩) 1 1 hr9 (by omega) (by omega) (by omega) (by decide) (load_one hI91.ck.shown (by decide) (by decide) (by decide) (by decide))).mono ?_
  rintro _ w10 ⟨B10, m10, q10, rfl, hrB, _, _, _, hl10⟩
  have hlen10 : m10 = 5 := by have h5 : stL.length = 5 := rfl; have h := hrB.1; rw [B8_length] at h; change stL.length = m10 * 1 at h; omega
  subst hlen10
  have HRB := hide hrB
  have HL10 := hide (hI9.low.trans (hl10.mono hI9.low.size))
  clear hI9 hI91 hr9 hl9 hl10 hrB
  go_wp2_with (first
    | ((with_reducible refine at_slot 5 ?_); refine wpList_alloc_blk rfl 55 rfl _ (found_zero _) ?_; intro x4 hb4 hl4 hs4; clear hs4)
    | ((with_reducible refine at_store 5 ?_); refine wpList_store_all rfl 55 (.tmp 5) (.tmp 25) rfl w10.heap.size 55 _ hb4 rfl (foundC ⟨1, 3, stL, 3, 0⟩ B10 5 q10) rfl found_info rfl (foundC_one _ _ _ _) ?_; intro x5 hb5 hg5 hs5; have hy4 := hb4.lt; have hl35 : Below w10.heap.size w10 x5 := hl4.grown hg5 (by omega) (fun g e => by injection e with e; omega); have HL5 := hide (HL10.out.trans (hl35.mono HL10.out.size)); have z0 := found_c0 hb5; have z1 := found_c1 hb5; have z2 := found_c2 hb5; have z3 := found_c3 hb5; have hcv := conv9 (c := q10) (HRB.out.below hl35); rw [show strS stL = .string ⟨#[115, 116, 97, 116, 101]⟩ from rfl] at hcv; have HCV := hide hcv; clear hb4 hl4 hb5 hg5 hs5 hl35 hcv)
    | ((with_reducible refine at_slot 55 ?_); refine when_conv (by rfl) 32 9 (.tmp 54) rfl _ _ rfl HCV.out ?_))
  go_ret
  exact ⟨rfl, HL5.out⟩
#print axioms shown10_any
end Go.Proofs.Ytmjdndhpnckeeaa
