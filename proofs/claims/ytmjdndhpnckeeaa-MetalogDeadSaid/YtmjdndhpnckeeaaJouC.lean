/- What stage 9's laws want of the code's own log and scan, as one structure; new disks; a disk that fails. -/
import Derived.Test.YtmjdndhpnckeeaaCalls
import Derived.Test.YtmjdndhpnckeeaaJouM
import Derived.Test.YtmjdndhpnckeeaaArgY
namespace Go.Proofs.Ytmjdndhpnckeeaa
open Go.RowKit
def Disks : Nat → Bank
  | 0 => Bank.new
  | i + 1 => (Disks i).add 200
theorem Disks_n : ∀ i, (Disks i).n = i
  | 0 => rfl
  | i + 1 => by
    have h := Disks_n i
    show (Disks i).n + 1 = _
    rw [h]
theorem Disks_std : ∀ i, Std (Disks i) ∧ (Disks i).writes = 0 ∧ (Disks i).armed = 0
  | 0 => ⟨⟨rfl, fun _ => rfl⟩, rfl, rfl⟩
  | i + 1 => by
    obtain ⟨h1, h2, h3⟩ := Disks_std i
    refine ⟨⟨h1.up, fun d => ?_⟩, h2, h3⟩
    show upd (Disks i).failAt (Disks i).n 0 d = 0
    unfold upd
    split
    · rfl
    · exact h1.nofail d
theorem Disks_live : ∀ i d, (Disks i).dead d = false
  | 0, _ => rfl
  | i + 1, d => by
    show upd (Disks i).dead (Disks i).n false d = false
    unfold upd
    split
    · rfl
    · exact Disks_live i d
theorem Disks_size : ∀ i d, d < i → (Disks i).size d = 200
  | 0, d, h => absurd h (Nat.not_lt_zero d)
  | i + 1, d, h => by
    show upd (Disks i).size (Disks i).n 200 d = 200
    rw [Disks_n]
    unfold upd
    split
    · rfl
    · exact Disks_size i d (by omega)
theorem Disks_zero : ∀ i d k, (Disks i).newest d k = zeroSec ∧ (Disks i).flushed d k = zeroSec
  | 0, _, _ => ⟨rfl, rfl⟩
  | i + 1, d, k => by
    obtain ⟨h1, h2⟩ := Disks_zero i d k
    constructor
    · show upd (Disks i).newest (Disks i).n (fun _ => zeroSec) d k = zeroSec
      unfold upd
      split
      · rfl
      · exact h1
    · show upd (Disks i).flushed (Disks i).n (fun _ => zeroSec) d k = zeroSec
      unfold upd
      split
      · rfl
      · exact h2
theorem Disks_holds (n : Nat) (live : List Nat) (gen : Int) : Holds (Disks n) live noughts gen [] := by
  intro d _ _ j _
  obtain ⟨h1, h2⟩ := Disks_zero n d (2 + j)
  rw [h1, h2]
  exact ⟨rfl, rfl⟩
set_option maxRecDepth 100000 in
set_option maxHeartbeats 2000000 in
theorem disks_any (w : World) (n : Nat) (hn : n ≤ 3) :
    Calls Try.prog 14 #[.int .i64 (n : Int)] w fun e w' => (∃ (b : Nat) (F : Nat → Prop), e = .returned (.pointer (some ⟨b, 0, none⟩)) ∧ BankOn w' b F (Disks n) ∧ (∀ x, F x → w.heap.size ≤ x)) ∧ Below w.heap.size w w' := by
  go_enter Try.func14, Try.ntmps14
  go_wp2_with fail
  refine (newBank_any w).mono ?_
  rintro _ w1 ⟨rfl, hB1, hl1⟩
  have HL1 := hide hl1
  have HB1 := hide hB1.on
  clear hB1 hl1
  go_wp2_with fail
  go_loopw [4] (fun s4 wr => ∃ (i : Nat) (F : Nat → Prop), s4 = .int .i64 (i : Int) ∧ i ≤ n ∧ Hid (BankOn wr w.heap.size F (Disks i)) ∧ Hid (∀ x, F x → w.heap.size ≤ x) ∧ Hid (Below w.heap.size w wr)) (fun s4 _ => n - (intOf s4).toNat)
  case atStart => exact ⟨0, _, rfl, Nat.zero_le _, HB1, hide fun x h => h.1, HL1⟩
  case round =>
    obtain ⟨i, F, rfl, hi, hB, hlo, hl⟩ := hrel
    obtain ⟨wo, rfl⟩ : ∃ wo, wo = wr := ⟨_, rfl⟩
    by_cases hin : i < n
    · have hg1 : (i : Int) < n := by omega
      go_wp2_with fail
      refine (on_add hB.out 200 (by decide) (by decide) (by rw [Disks_n]; omega)).mono ?_
      rintro _ w3 ⟨rfl, hB3, hT3⟩
      have hw1 := hl.out.size
      have hz3 := hT3.size
      have HLo : Hid (∀ x, (F x ∨ wo.heap.size ≤ x ∧ x < w3.heap.size) → w.heap.size ≤ x) := hide fun x h => by
        rcases h with h | h
        · exact hlo.out x h
        · omega
      have HL3 : Hid (Below w.heap.size w w3) := hide (hl.out.trans ⟨hT3.os, hT3.tape, hT3.output, hT3.size, fun y hy => hT3.block y (by omega) (fun hf => by have := hlo.out y hf; omega)⟩)
      have HB3 : Hid (BankOn w3 w.heap.size (fun y => F y ∨ wo.heap.size ≤ y ∧ y < w3.heap.size) (Disks (i + 1))) := hide hB3
      clear hB3 hT3
      go_wp2_with fail
      go_roundw
      case rel => exact ⟨i + 1, _, by simp, by omega, HB3, HLo, HL3⟩
      case measure => simp [intOf]; omega
    · obtain rfl : i = n := by omega
      go_wp2_with fail
      go_ret
      exact ⟨⟨_, F, rfl, hB.out, hlo.out⟩, hl.out⟩
#print axioms disks_any
variable {w : World} {b : Nat} {L : Lay} {S : Bank}
theorem failNo_any (h : BankIn w b L S) (d : Nat) (hd : S.n ≤ d) :
    Calls Try.prog 21 #[.pointer (some ⟨b, 0, none⟩), .int .i64 (d : Int)] w fun e w' => e = .returned (.int .i64 8) ∧ w = w' := by
  have HT := hide (there_no h d hd)
  clear h
  go_enter Try.func21, Try.ntmps21
  go_wp2_with (first
    | (go_at_call 40; refine HT.out.mono ?_; rintro _ _ ⟨rfl, rfl⟩))
  go_ret
  exact ⟨rfl, rfl⟩
/-- What Fail does to a bank. -/
def Bank.fail_ (S : Bank) (d : Nat) : Bank := if d < S.n then S.fail d else S
theorem on_failD {F : Nat → Prop} (h : BankOn w b F S) (d : Nat) :
    Calls Try.prog 21 #[.pointer (some ⟨b, 0, none⟩), .int .i64 (d : Int)] w fun e w' => e = .returned (.int .i64 (if d < S.n then 0 else 8)) ∧ BankOn w' b F (S.fail_ d) ∧ Turn F w w' := by
  unfold Bank.fail_
  by_cases hd : d < S.n
  · rw [if_pos hd, if_pos hd]
    exact on_fail h d hd
  · rw [if_neg hd, if_neg hd]
    obtain ⟨h1, h2, L, h3, h4⟩ := h
    refine (failNo_any h3 d (by omega)).mono ?_
    rintro _ _ ⟨rfl, rfl⟩
    exact ⟨rfl, ⟨h1, h2, L, h3, h4⟩, Turn.refl _ _⟩
#print axioms on_failD
/-- A log in memory, and what is known of its calls. -/
structure LogK where
  On : World → Nat → (Nat → Prop) → Nat → LogV → Prop
  kept : ∀ {w w' : World} {p b : Nat} {G T : Nat → Prop} {V : LogV}, On w p G b V → Turn T w w' → (∀ x, G x → ¬ T x) → On w' p G b V
  own : ∀ {w : World} {p b : Nat} {G : Nat → Prop} {V : LogV}, On w p G b V → G p ∧ ∀ x, G x → x < w.heap.size
  new_any : ∀ (w : World) (b : Nat) (A : Option Addr) (n c : Nat) (live : List Nat) (gen : Int), Reads w w.heap.size 1 A n (I64 (live.map Int.ofNat)) → n ≤ c → c ≤ 9223372036854775807 → n ≤ 5 →
    Calls Try.prog 15 #[.pointer (some ⟨b, 0, none⟩), .slice A n c, .int .i64 gen] w fun e w' => ∃ (p : Nat) (G : Nat → Prop), e = .returned (.pointer (some ⟨p, 0, none⟩)) ∧ On w' p G b ⟨live, gen, 0, 0, false⟩ ∧ w.heap.size ≤ p ∧ (∀ x, G x → w.heap.size ≤ x ∨ ∃ ad, A = some ad ∧ x = ad.block) ∧ Below w.heap.size w w'
  append_any : ∀ (w : World) (p b : Nat) (F G : Nat → Prop) (S : Bank) (V : LogV) (A : Option Addr) (n c : Nat) (r : List UInt8), BankOn w b F S → On w p G b V → (∀ x, F x → ¬ G x) → Reads w w.heap.size 1 A n (B8 r) → n ≤ c → c ≤ 9223372036854775807 → S.writes ≤ 1000000 → V.live.length ≤ 5 → V.at_ ≤ 48 → V.num ≤ 48 →
    Calls Try.prog 17 #[.pointer (some ⟨p, 0, none⟩), .slice A n c] w fun e w' => e = .returned (.int .i64 ((appendJ V S r).1 : Int)) ∧ BankOn w' b F (appendJ V S r).2.2 ∧ On w' p G b (appendJ V S r).2.1 ∧ Turn (fun x => F x ∨ x = p) w w'
  scan_any : ∀ (w : World) (b : Nat) (F : Nat → Prop) (S : Bank) (A : Option Addr) (n c : Nat) (live : List Nat) (gen : Int), BankOn w b F S → S.down = false → Reads w w.heap.size 1 A n (I64 (live.map Int.ofNat)) → n ≤ c → c ≤ 9223372036854775807 → n ≤ 5 → (∀ d ∈ live, d < S.n ∧ 50 ≤ S.size d) →
    Calls Try.prog 22 #[.pointer (some ⟨b, 0, none⟩), .slice A n c, .int .i64 gen] w fun e w' => ∃ (B : Option Addr) (m k : Nat) (f : Nat → BsV), e = .returned (.tuple #[.slice B m k, .int .i64 ((if viewsOf S live = [] then 0 else (scanL (viewsOf S live) gen 49 0 0).2 : Nat) : Int), .int .i64 ((if viewsOf S live = [] then 5 else 0 : Nat) : Int)]) ∧ RowsIn w' w'.heap.size B m k f ∧ (List.range m).map (fun i => (f i).l) = (if viewsOf S live = [] then [] else (scanL (viewsOf S live) gen 49 0 0).1) ∧ Below w.heap.size w w'
  room_any : ∀ (w : World) (p b : Nat) (G : Nat → Prop) (V : LogV), On w p G b V → V.at_ ≤ 48 → Calls Try.prog 24 #[.pointer (some ⟨p, 0, none⟩)] w fun e w' => e = .returned (.int .i64 ((48 - V.at_ : Nat) : Int)) ∧ w = w'
  next_any : ∀ (w : World) (p b : Nat) (G : Nat → Prop) (V : LogV), On w p G b V → V.num ≤ 48 → Calls Try.prog 25 #[.pointer (some ⟨p, 0, none⟩)] w fun e w' => e = .returned (.int .i64 ((V.num : Nat) : Int)) ∧ w = w'
theorem Below.turn {w w' : World} (h : Below w.heap.size w w') (T : Nat → Prop) : Turn T w w' := ⟨h.os, h.tape, h.output, h.size, fun i hi _ => h.block i hi⟩
theorem LogK.later (K : LogK) {w w' : World} {p b : Nat} {G : Nat → Prop} {V : LogV} (h : K.On w p G b V) (hb : Below w.heap.size w w') : K.On w' p G b V :=
  K.kept h (Below.turn hb fun _ => False) (fun _ _ h => h)
#print axioms LogK.later
end Go.Proofs.Ytmjdndhpnckeeaa
