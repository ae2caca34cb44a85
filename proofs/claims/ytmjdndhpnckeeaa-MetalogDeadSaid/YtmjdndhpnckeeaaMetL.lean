/- The small case of stage 9's laws; a bank and a log on it, as the laws go along. -/
import Derived.Test.YtmjdndhpnckeeaaJouC
import Derived.Test.YtmjdndhpnckeeaaRecJ
import Derived.Test.YtmjdndhpnckeeaaRecS
import Derived.Lib.SlBytesConst
namespace Go.Proofs.Ytmjdndhpnckeeaa
open Go.RowKit
/-- A new log on new disks. -/
theorem Disks_JI (n : Nat) (live : List Nat) (gen : Int) (hl : ∀ d ∈ live, d < n) (hnd : live.Nodup) (hg : numB gen = true) : JI (Disks n) ⟨live, gen, 0, 0, false⟩ noughts [] where
  std := (Disks_std n).1
  holds := Disks_holds n live gen
  at_ := rfl
  num := rfl
  going := rfl
  gen := hg
  live := fun d hd => by
    have := hl d hd
    rw [Disks_n, Disks_size n d this]
    omega
  nodup := hnd
  used := Nat.zero_le _
  lens := fun r hr => by cases hr
theorem Holds.some {S : Bank} {live l2 : List Nat} {base : View} {gen : Int} {R : List (List UInt8)} (h : Holds S live base gen R) (hs : ∀ d ∈ l2, d ∈ live) : Holds S l2 base gen R := fun d hd => h d (hs d hd)
def V01 : LogV := ⟨[0, 1], 7, 0, 0, false⟩
def abL : List UInt8 := [97, 98]
theorem shown_pure : (appendJ V01 (Disks 2) abL).1 = 0 ∧ (appendJ V01 (Disks 2) abL).2.1 = ⟨[0, 1], 7, 1, 1, false⟩ ∧ (∀ d, d < 2 → d < (appendJ V01 (Disks 2) abL).2.2.n ∧ 50 ≤ (appendJ V01 (Disks 2) abL).2.2.size d) ∧ (appendJ V01 (Disks 2) abL).2.2.down = false ∧
    viewsOf (appendJ V01 (Disks 2) abL).2.2 [1] ≠ [] ∧ viewsOf (appendJ V01 (Disks 2) abL).2.2 [0, 1] ≠ [] ∧ scanL (viewsOf (appendJ V01 (Disks 2) abL).2.2 [1]) 7 49 0 0 = ([abL], 1) ∧ scanL (viewsOf (appendJ V01 (Disks 2) abL).2.2 [0, 1]) 8 49 0 0 = ([], 0) := by
  have h0 : JI (Disks 2) V01 noughts [] := Disks_JI 2 [0, 1] 7 (by decide) (by decide) (by decide)
  have hp : partsN abL.length = 1 := by decide
  rcases h0.append (r := abL) (by decide) with ⟨h1, _⟩ | ⟨_, _, h1, h2, h3, h4, _⟩ | ⟨_, h1, _⟩ | ⟨_, h1, _⟩
  · rw [hp] at h1
    exact absurd h1 (by decide)
  · rw [hp] at h2
    have hx : ∀ d, (appendJ V01 (Disks 2) abL).2.2.dead d = false := fun d => by rw [h4.dead]; exact Disks_live 2 d
    have hh := h3.holds
    rw [h2] at hh
    refine ⟨h1, h2, fun d hd => ?_, h3.std.up, views_ne (d := 1) (by decide) (hx 1), views_ne (d := 0) (by decide) (hx 0), ?_, ?_⟩
    · have := h3.live d (by
        rw [h2]
        show d ∈ [0, 1]
        have : d = 0 ∨ d = 1 := by omega
        rcases this with rfl | rfl <;> decide)
      exact this
    · have := h3.scan (T := (appendJ V01 (Disks 2) abL).2.2) (live := [1]) (d := 1) (h3.holds.some (by rw [h2]; decide)) (by decide) (hx 1)
      rw [h2] at this
      exact this
    · exact Holds.older (R := []) (r := abL) hh (by decide) (by decide) (by decide)
  · have := h1 0 (by decide)
    rw [Disks_live] at this
    cases this
  · exact absurd (Disks_std 2).2.2 h1
#print axioms shown_pure
/-- A row that was just laid. -/
theorem newRow (w : World) (F : List Value) (t : TypeId) (m : Nat × Nat) : Below w.heap.size w (w.alloc (.cells F.toArray t m)) ∧ (w.alloc (.cells F.toArray t m)).heap.size = w.heap.size + 1 ∧ Reads (w.alloc (.cells F.toArray t m)) (w.heap.size + 1) 1 (some ⟨w.heap.size, 0, none⟩) F.length F :=
  ⟨(Below.refl _ _).alloc (Nat.le_refl _) _, by rw [World.size_alloc], Reads.marked F t m _ 1 _ (by omega) (by omega)⟩
theorem strOf_ab : ByteArray.mk abL.toArray = ⟨#[97, 98]⟩ := rfl
set_option maxRecDepth 100000 in
set_option maxHeartbeats 4000000 in
theorem shown9_any (K : LogK) (w : World) : Calls Try.prog 13 #[] w fun e w' => e = .returned (.bool true) ∧ Below w.heap.size w w' := by
  have HP := hide shown_pure
  go_enter Try.func13, Try.ntmps13
  go_wp2_with fail
  refine (disks_any w 2 (by decide)).mono ?_
  rintro _ w1 ⟨⟨b, F, rfl, hB1, hlo1⟩, hl1⟩
  have HB1 := hide hB1
  have HLo1 := hide hlo1
  have HL1 := hide hl1
  clear hB1 hlo1 hl1
  go_wp2_with fail
  have hN := newRow w1 (I64 [0, 1]) 3 (0, 0)
  show Calls _ _ _ (w1.alloc (.cells (I64 [0, 1]).toArray 3 (0, 0))) _
  generalize w1.alloc (.cells (I64 [0, 1]).toArray 3 (0, 0)) = w2 at hN ⊢
  obtain ⟨hl2, hz2, hr2⟩ := hN
  rw [← hz2] at hr2
  refine (K.new_any w2 b (some ⟨w1.heap.size, 0, none⟩) 2 2 [0, 1] 7 hr2 (by omega) (by omega) (by omega)).mono ?_
  rintro _ w3 ⟨p, G, rfl, hO3, hp3, hG3, hl3⟩
  have HB3 := hide ((HB1.out.later hl2).later hl3)
  have HL3 := hide ((HL1.out.trans (hl2.mono HL1.out.size)).trans (hl3.mono (by have := HL1.out.size; omega)))
  have HG3 : Hid (∀ x, G x → w1.heap.size ≤ x) := hide fun x hg => by
    rcases hG3 x hg with h | ⟨ad, h, e⟩
    · omega
    · injection h with h
      rw [← h] at e
      have e2 : x = w1.heap.size := e
      omega
  have HD : Hid (∀ x, F x → ¬ G x) := hide fun x hx hg => by
    have h1 := HB1.out.1 x hx
    have h2 := HG3.out x hg
    omega
  have HO3 := hide hO3
  have hz3 := hl3.size
  have hpw : w.heap.size ≤ p := by have := HL1.out.size; omega
  clear hr2 hl2 hO3 hG3 hl3 hp3
  have kc := fun (w : World) (C : Array Value) (n c : Nat) => Lib.run_convert_bytes_const (P := Try.prog) w 32 5 C n c Try.underlying32 Try.underlying5
  go_wp2_with fail
  clear kc
  have hN := newRow w3 (B8 abL) 5 (2, 3)
  show Calls _ _ _ (w3.alloc (.cells (B8 abL).toArray 5 (2, 3))) _
  generalize w3.alloc (.cells (B8 abL).toArray 5 (2, 3)) = w4 at hN ⊢
  obtain ⟨hl4, hz4, hr4⟩ := hN
  rw [← hz4] at hr4
  refine (K.append_any w4 p b F G (Disks 2) V01 (some ⟨w3.heap.size, 0, none⟩) 2 2 abL (HB3.out.later hl4) (K.later HO3.out hl4) HD.out hr4 (by omega) (by omega) (by rw [(Disks_std 2).2.1]; omega) (by decide) (by decide) (by decide)).mono ?_
  rintro _ w5 ⟨rfl, hB5, hO5, hT5⟩
  obtain ⟨q1, q2, q3, q4, q5, q6, q7, q8⟩ := HP.out
  rw [q1]
  rw [q2] at hO5
  have HL5 : Hid (Below w.heap.size w w5) := hide ((HL3.out.trans (hl4.mono HL3.out.size)).trans ⟨hT5.os, hT5.tape, hT5.output, hT5.size, fun y hy => hT5.block y (by have := HL3.out.size; omega) (fun hf => by
    rcases hf with hf | hf
    · have := HLo1.out y hf; omega
    · omega)⟩)
  have HB5 := hide hB5
  have HO5 := hide hO5
  have HQ := hide (show _ ∧ _ ∧ _ ∧ _ ∧ _ ∧ _ from ⟨q3, q4, q5, q6, q7, q8⟩)
  clear q1 q2 q3 q4 q5 q6 q7 q8 HP hB5 hO5 hT5 hr4 hl4 HB3 HO3
  generalize (appendJ V01 (Disks 2) abL).2.2 = S5 at HB5 HQ
  go_wp2_with fail
  have hN := newRow w5 (I64 [1]) 3 (0, 0)
  show Calls _ _ _ (w5.alloc (.cells (I64 [1]).toArray 3 (0, 0))) _
  generalize w5.alloc (.cells (I64 [1]).toArray 3 (0, 0)) = w6 at hN ⊢
  obtain ⟨hl6, hz6, hr6⟩ := hN
  rw [← hz6] at hr6
  refine (K.scan_any w6 b F S5 (some ⟨w5.heap.size, 0, none⟩) 1 1 [1] 7 (HB5.out.later hl6) HQ.out.2.1 hr6 (by omega) (by omega) (by omega) (fun d hd => HQ.out.1 d (by simp at hd; omega))).mono ?_
  rintro _ w7 ⟨B1, m1, k1, f1, rfl, hR7, hM7, hl7⟩
  rw [if_neg HQ.out.2.2.1, HQ.out.2.2.2.2.1] at hM7
  rw [if_neg HQ.out.2.2.1, if_neg HQ.out.2.2.1, HQ.out.2.2.2.2.1]
  have hm1 : m1 = 1 := by have := congrArg List.length hM7; simpa using this
  subst hm1
  have hf1 : (f1 0).l = abL := by simpa using hM7
  obtain ⟨ad, rfl, hadl, hrow⟩ := hR7.row (by omega)
  obtain ⟨hc0, hbs0⟩ := hrow 0 (by omega)
  generalize f1 0 = y at hf1 hc0 hbs0
  obtain ⟨yA, yn, yc, yl⟩ := y
  obtain rfl : yl = abL := hf1
  have HC := hide hc0
  have HBs := hide hbs0
  have HB7 := hide ((HB5.out.later hl6).later hl7)
  have HO7 := hide (K.later (K.later HO5.out hl6) hl7)
  have HL7 := hide ((HL5.out.trans (hl6.mono HL5.out.size)).trans (hl7.mono (by have := HL5.out.size; omega)))
  clear hR7 hM7 hl7 hrow hc0 hbs0 hr6 hl6 HB5 HO5
  go_wp2_with fail
  have hN := newRow w7 (I64 [0, 1]) 3 (0, 0)
  show Calls _ _ _ (w7.alloc (.cells (I64 [0, 1]).toArray 3 (0, 0))) _
  generalize w7.alloc (.cells (I64 [0, 1]).toArray 3 (0, 0)) = w8 at hN ⊢
  obtain ⟨hl8, hz8, hr8⟩ := hN
  rw [← hz8] at hr8
  refine (K.scan_any w8 b F S5 (some ⟨w7.heap.size, 0, none⟩) 2 2 [0, 1] 8 (HB7.out.later hl8) HQ.out.2.1 hr8 (by omega) (by omega) (by omega) (fun d hd => HQ.out.1 d (by simp at hd; omega))).mono ?_
  rintro _ w9 ⟨B2, m2, k2, f2, rfl, hR9, hM9, hl9⟩
  rw [if_neg HQ.out.2.2.2.1, HQ.out.2.2.2.2.2] at hM9
  rw [if_neg HQ.out.2.2.2.1, if_neg HQ.out.2.2.2.1, HQ.out.2.2.2.2.2]
  have hm2 : m2 = 0 := by have := congrArg List.length hM9; simpa using this
  subst hm2
  have hl79 := hl8.trans (hl9.mono (by omega))
  have hc9 := (hl79.cell (p := ad.add 0) (by rw [block_of_add]; exact hadl)).trans HC.out
  have ha0 : ad.add 0 = ad := by cases ad; rfl
  rw [ha0] at hc9
  have hbs9 := HBs.out.below hl79
  have hk := run_conv_reads (P := Try.prog) w9 32 5 9 Try.underlying32 Try.underlying5 Try.underlying9 _ yA yn yc _ hbs9.reads
  have HO9 := hide (K.later (K.later HO7.out hl8) hl9)
  have HL9 := hide (HL7.out.trans (hl79.mono HL7.out.size))
  clear hR9 hM9 hl9 hl8 hl79 hbs9 hr8 HB7 HO7 HC HBs
  go_wp2_with (first
    | (go_at_call 24; refine (K.room_any _ p b G _ HO9.out (by decide)).mono ?_; rintro _ _ ⟨rfl, rfl⟩)
    | (go_at_call 25; refine (K.next_any _ p b G _ HO9.out (by decide)).mono ?_; rintro _ _ ⟨rfl, rfl⟩))
  go_ret
  exact ⟨rfl, HL9.out⟩
#print axioms shown9_any
theorem mask7 (v : Int) : ∃ N : Nat, bits .and .i64 v 7 = (N : Int) ∧ N < 8 := by
  have h := i64_mask v 3 (by decide)
  have h2 : bits .and .i64 v 7 = v % 8 := h
  exact ⟨(v % 8).toNat, by rw [h2]; omega, by omega⟩
theorem JI.fail {S : Bank} {V : LogV} {base : View} {R : List (List UInt8)} (h : JI S V base R) (d : Nat) : JI (S.fail_ d) V base R := by
  unfold Bank.fail_
  split
  · exact { std := ⟨h.std.up, h.std.nofail⟩, holds := h.holds.fail d, at_ := h.at_, num := h.num, going := h.going, gen := h.gen, live := h.live, nodup := h.nodup, used := h.used, lens := h.lens }
  · exact h
theorem fail_is (S : Bank) (d : Nat) : (S.fail_ d).armed = S.armed ∧ (S.fail_ d).n = S.n ∧ (S.fail_ d).down = S.down ∧ (∀ j, j ≠ d → (S.fail_ d).dead j = S.dead j) ∧ (d < S.n → (S.fail_ d).dead d = true) ∧ (∀ j, S.dead j = true → (S.fail_ d).dead j = true) := by
  unfold Bank.fail_
  split
  · refine ⟨rfl, rfl, rfl, fun j hj => upd_ne _ _ hj, fun _ => upd_self _ _ _, fun j hj => ?_⟩
    show upd S.dead d true j = true
    by_cases h : j = d
    · subst h; rw [upd_self]
    · rw [upd_ne _ _ h]; exact hj
  · exact ⟨rfl, rfl, rfl, fun _ _ => rfl, fun h => by omega, fun _ h => h⟩
/-- Bytes that a law took of an argument take at most four sectors. -/
theorem parts_200 {n : Nat} (h : n ≤ 200) : 1 ≤ partsN n ∧ partsN n ≤ 4 := by
  obtain ⟨h1, h2, h3⟩ := partsN_is (n := n) (by omega)
  omega
structure MetB (w : World) (F G : Nat → Prop) (p : Nat) : Prop where
  lo : ∀ x, F x → w.heap.size ≤ x
  apart : ∀ x, F x → ¬ G x
  hp : w.heap.size ≤ p
structure MetIs (K : LogK) (w : World) (F G : Nat → Prop) (b p : Nat) (bs : View) (wr : World) (S : Bank) (V : LogV) (R : List (List UInt8)) (k : Nat) : Prop where
  base : MetB w F G p
  bank : BankOn wr b F S
  log : K.On wr p G b V
  ji : JI S V bs R
  short : V.live.length ≤ 5
  few : S.writes ≤ k
  low : Below w.heap.size w wr
section
variable {K : LogK} {w wr w' : World} {F G : Nat → Prop} {b p k : Nat} {bs : View} {S : Bank} {V : LogV} {R : List (List UInt8)}
theorem MetIs.later (h : MetIs K w F G b p bs wr S V R k) (hb : Below wr.heap.size wr w') : MetIs K w F G b p bs w' S V R k :=
  { h with bank := h.bank.later hb, log := K.later h.log hb, low := h.low.trans (hb.mono h.low.size) }
theorem MetB.low (h : MetB w F G p) (hl : Below w.heap.size w wr) (hT : Turn (fun x => F x ∨ x = p) wr w') : Below w.heap.size w w' :=
  hl.trans ⟨hT.os, hT.tape, hT.output, hT.size, fun y hy => hT.block y (by have := hl.size; omega) (fun hf => by
    rcases hf with hf | hf
    · have := h.lo y hf; omega
    · have := h.hp; omega)⟩
theorem Turn.wide {F T : Nat → Prop} (h : Turn F wr w') (hs : ∀ x, F x → T x) : Turn T wr w' := ⟨h.os, h.tape, h.output, h.size, fun i hi hn => h.block i hi (fun hf => hn (hs i hf))⟩
/-- What turns is neither the bank's nor the log's, nor what the law came in with. -/
theorem MetIs.aside (h : MetIs K w F G b p bs wr S V R k) {T : Nat → Prop} (hT : Turn T wr w') (hF : ∀ x, F x ∨ G x → ¬ T x) (hl : ∀ x, T x → w.heap.size ≤ x) : MetIs K w F G b p bs w' S V R k :=
  { h with bank := h.bank.kept hT (fun x hx => hF x (.inl hx)), log := K.kept h.log hT (fun x hx => hF x (.inr hx)), low := h.low.trans ⟨hT.os, hT.tape, hT.output, hT.size, fun y hy => hT.block y (by have := h.low.size; omega) (fun ht => by have := hl y ht; omega)⟩ }
/-- A disk fails. -/
theorem MetIs.fail (h : MetIs K w F G b p bs wr S V R k) (d : Nat) :
    Calls Try.prog 21 #[.pointer (some ⟨b, 0, none⟩), .int .i64 (d : Int)] wr fun e w' => (∃ v : Int, e = .returned (.int .i64 v)) ∧ MetIs K w F G b p bs w' (S.fail_ d) V R k ∧ Turn (fun x => F x ∨ x = p) wr w' := by
  refine (on_failD h.bank d).mono ?_
  rintro _ w' ⟨rfl, hB, hT⟩
  have hT2 : Turn (fun x => F x ∨ x = p) wr w' := Turn.wide hT (fun x hx => .inl hx)
  refine ⟨⟨_, rfl⟩, { base := h.base, bank := hB, log := K.kept h.log hT (fun x hx hf => h.base.apart x hf hx), ji := h.ji.fail d, short := h.short, few := ?_, low := h.base.low h.low hT2 }, hT2⟩
  unfold Bank.fail_
  split
  · exact h.few
  · exact h.few
/-- A record that has room, one member living, no fall armed: it is taken. -/
theorem MetIs.took (h : MetIs K w F G b p bs wr S V R k) (h0 : S.armed = 0) {d : Nat} (hd : d ∈ V.live) (hx : S.dead d = false) (A : Option Addr) (n c : Nat) (r : List UInt8) (hr : Reads wr wr.heap.size 1 A n (B8 r)) (hc : n ≤ c) (hc2 : c ≤ 9223372036854775807) (hk : k ≤ 1000000) (hl : r.length ≤ 2120) (hu : usedL R + partsN r.length ≤ 48) :
    Calls Try.prog 17 #[.pointer (some ⟨p, 0, none⟩), .slice A n c] wr fun e w' => e = .returned (.int .i64 0) ∧ (∃ S' V', MetIs K w F G b p bs w' S' V' (R ++ [r]) (k + 240) ∧ V'.live = V.live ∧ V'.gen = V.gen ∧ Alike S S' ∧ S'.armed = 0) ∧ Turn (fun x => F x ∨ x = p) wr w' := by
  have hat := h.ji.at_
  have hus := h.ji.used
  have hfew := h.ji.few
  have hnum := h.ji.num
  have hk2 := h.few
  refine (K.append_any wr p b F G S V A n c r h.bank h.log h.base.apart hr hc hc2 (by omega) h.short (by omega) (by omega)).mono ?_
  rintro _ w' ⟨rfl, hB, hO, hT⟩
  rcases h.ji.append (r := r) hl with ⟨h1, _⟩ | ⟨_, _, h1, h2, h3, h4, h5, h6⟩ | ⟨_, h1, _⟩ | ⟨_, h1, _⟩
  · omega
  · rw [h1]
    refine ⟨rfl, ⟨_, _, { base := h.base, bank := hB, log := hO, ji := h3, short := ?_, few := ?_, low := h.base.low h.low hT }, ?_, ?_, h4, h5 h0⟩, hT⟩
    · rw [h2]; exact h.short
    · have h7 : V.live.length * 48 ≤ 5 * 48 := Nat.mul_le_mul_right _ h.short
      omega
    · rw [h2]
    · rw [h2]
  · have := h1 d hd
    rw [hx] at this
    cases this
  · exact absurd h0 h1
/-- A record, and no member living. -/
theorem MetIs.alone (h : MetIs K w F G b p bs wr S V R k) (hx : ∀ d ∈ V.live, S.dead d = true) (h0 : S.armed = 0) (A : Option Addr) (n c : Nat) (r : List UInt8) (hr : Reads wr wr.heap.size 1 A n (B8 r)) (hc : n ≤ c) (hc2 : c ≤ 9223372036854775807) (hk : k ≤ 900000) (hl : r.length ≤ 2120) (hu : usedL R + partsN r.length ≤ 48) :
    Calls Try.prog 17 #[.pointer (some ⟨p, 0, none⟩), .slice A n c] wr fun e w' => e = .returned (.int .i64 5) ∧ (∃ S', BankOn w' b F S' ∧ K.On w' p G b { V with ended := true } ∧ Std S' ∧ Alike S S' ∧ S'.writes ≤ 1000000) ∧ Turn (fun x => F x ∨ x = p) wr w' := by
  have hat := h.ji.at_
  have hus := h.ji.used
  have hfew := h.ji.few
  have hnum := h.ji.num
  have hk2 := h.few
  refine (K.append_any wr p b F G S V A n c r h.bank h.log h.base.apart hr hc hc2 (by omega) h.short (by omega) (by omega)).mono ?_
  rintro _ w' ⟨rfl, hB, hO, hT⟩
  rcases h.ji.append (r := r) hl with ⟨h1, _⟩ | ⟨_, ⟨d, hd, hdx⟩, _⟩ | ⟨_, _, h1, h2, h3, h4, h5⟩ | ⟨_, h1, _⟩
  · omega
  · rw [hx d hd] at hdx
    cases hdx
  · rw [h1]
    rw [h2] at hO
    have h7 : V.live.length * 48 ≤ 5 * 48 := Nat.mul_le_mul_right _ h.short
    exact ⟨rfl, ⟨_, hB, hO, h3, h4, by omega⟩, hT⟩
  · exact absurd h0 h1
/-- Behind it Append answers that it is not now. -/
theorem ended_any (K : LogK) {wr : World} {F G : Nat → Prop} {b p : Nat} {S : Bank} {V : LogV} (hB : BankOn wr b F S) (hO : K.On wr p G b { V with ended := true }) (hap : ∀ x, F x → ¬ G x) (A : Option Addr) (n c : Nat) (r : List UInt8) (hr : Reads wr wr.heap.size 1 A n (B8 r)) (hc : n ≤ c) (hc2 : c ≤ 9223372036854775807) (hk : S.writes ≤ 1000000) (hl : V.live.length ≤ 5) (ha : V.at_ ≤ 48) (hn : V.num ≤ 48) :
    Calls Try.prog 17 #[.pointer (some ⟨p, 0, none⟩), .slice A n c] wr fun e w' => e = .returned (.int .i64 9) ∧ BankOn w' b F S ∧ Turn (fun x => F x ∨ x = p) wr w' := by
  refine (K.append_any wr p b F G S { V with ended := true } A n c r hB hO hap hr hc hc2 hk hl ha hn).mono ?_
  rintro _ w' ⟨rfl, hB2, _, hT⟩
  have e : appendJ { V with ended := true } S r = (9, { V with ended := true }, S) := by unfold appendJ; rw [if_pos rfl]
  rw [e] at hB2 ⊢
  exact ⟨rfl, hB2, hT⟩
theorem views_none {S : Bank} {live : List Nat} (h : ∀ d ∈ live, S.dead d = true) : viewsOf S live = [] := by
  unfold viewsOf
  rw [List.map_eq_nil_iff, List.filter_eq_nil_iff]
  intro d hd
  rw [h d hd]
  decide
/-- Scan, and no member living. -/
theorem lost_any (K : LogK) {wr : World} {F : Nat → Prop} {b : Nat} {S : Bank} (hB : BankOn wr b F S) (hup : S.down = false) {live : List Nat} (hx : ∀ d ∈ live, S.dead d = true) (hlv : ∀ d ∈ live, d < S.n ∧ 50 ≤ S.size d) (A : Option Addr) (n c : Nat) (gen : Int) (hr : Reads wr wr.heap.size 1 A n (I64 (live.map Int.ofNat))) (hc : n ≤ c) (hc2 : c ≤ 9223372036854775807) (hn : n ≤ 5) :
    Calls Try.prog 22 #[.pointer (some ⟨b, 0, none⟩), .slice A n c, .int .i64 gen] wr fun e w' => ∃ (B : Option Addr) (m : Nat), e = .returned (.tuple #[.slice B 0 m, .int .i64 0, .int .i64 5]) ∧ Below wr.heap.size wr w' := by
  refine (K.scan_any wr b F S A n c live gen hB hup hr hc hc2 hn hlv).mono ?_
  rintro _ w' ⟨B, m, k1, f, rfl, hR, hM, hl⟩
  have hv := views_none hx
  rw [if_pos hv] at hM
  rw [if_pos hv, if_pos hv]
  have hm : m = 0 := by have := congrArg List.length hM; simpa using this
  subst hm
  exact ⟨B, k1, rfl, hl⟩
/-- Scan of some of its members, one of them living. -/
theorem MetIs.scan (h : MetIs K w F G b p bs wr S V R k) (hbs : ∀ (nr : Int) j, Foreign V.gen nr (bs j)) {live : List Nat} {d : Nat} (hs : ∀ d ∈ live, d ∈ V.live) (hd : d ∈ live) (hx : S.dead d = false) (A : Option Addr) (n c : Nat) (hr : Reads wr wr.heap.size 1 A n (I64 (live.map Int.ofNat))) (hc : n ≤ c) (hc2 : c ≤ 9223372036854775807) (hn : n ≤ 5) :
    Calls Try.prog 22 #[.pointer (some ⟨b, 0, none⟩), .slice A n c, .int .i64 V.gen] wr fun e w' => ∃ (B : Option Addr) (m : Nat) (f : Nat → BsV), e = .returned (.tuple #[.slice B R.length m, .int .i64 ((usedL R : Nat) : Int), .int .i64 0]) ∧ RowsIn w' w'.heap.size B R.length m f ∧ (List.range R.length).map (fun i => (f i).l) = R ∧ Below wr.heap.size wr w' := by
  refine (K.scan_any wr b F S A n c live V.gen h.bank h.ji.std.up hr hc hc2 hn (fun i hi => h.ji.live i (hs i hi))).mono ?_
  rintro _ w' ⟨B, m, k1, f, rfl, hR, hM, hl⟩
  have hv := views_ne hd hx
  have hsc := h.ji.scan_ hbs (T := S) (live := live) (h.ji.holds.some hs) hd hx
  rw [if_neg hv, hsc] at hM
  rw [if_neg hv, if_neg hv, hsc]
  have hm : m = R.length := by have := congrArg List.length hM; simpa using this
  subst hm
  exact ⟨B, k1, f, rfl, hR, hM, hl⟩
end
/-- A block that stands beside them. -/
theorem Blk.beside {F : Nat → Prop} {wr w' : World} {p g : Nat} {t : TypeId} {cs : Array Value} (h : Blk wr g t cs) (hT : Turn (fun x => F x ∨ x = p) wr w') (hf : ¬ F g) (hp : g ≠ p) : Blk w' g t cs :=
  h.of_block (hT.block g h.lt (fun e => e.elim hf hp))
theorem Blk.readsI {w : World} {g n : Nat} {t : TypeId} {xs : List Int} (h : Blk w g t (I64 xs).toArray) (hn : xs.length = n) : Reads w w.heap.size 1 (some ⟨g, 0, none⟩) n (I64 xs) := by
  refine ⟨by rw [I64_length]; omega, fun _ => ⟨_, rfl, h.lt, fun j u hu => ?_⟩⟩
  have hadd : (⟨g, 0, none⟩ : Addr).add j = ⟨g, j, none⟩ := by unfold Addr.add; split <;> simp_all
  rw [hadd, h.cell j]
  simpa using hu
/-- A new log on new disks. -/
theorem fresh_any (K : LogK) {w wr : World} {F : Nat → Prop} {b : Nat} (n : Nat) (live : List Nat) (gen : Int) (g k c : Nat) (hB : BankOn wr b F (Disks n)) (hlo : ∀ x, F x → w.heap.size ≤ x) (hl : Below w.heap.size w wr) (hr : Reads wr wr.heap.size 1 (some ⟨g, 0, none⟩) k (I64 (live.map Int.ofNat))) (hc : k ≤ c) (hc2 : c ≤ 9223372036854775807) (hk : k ≤ 5) (hg : ¬ F g) (hlv : ∀ d ∈ live, d < n) (hnd : live.Nodup) (hgn : numB gen = true) (hlen : live.length ≤ 5) :
    Calls Try.prog 15 #[.pointer (some ⟨b, 0, none⟩), .slice (some ⟨g, 0, none⟩) k c, .int .i64 gen] wr fun e w' => ∃ (p : Nat) (G : Nat → Prop), e = .returned (.pointer (some ⟨p, 0, none⟩)) ∧ MetIs K w F G b p noughts w' (Disks n) ⟨live, gen, 0, 0, false⟩ [] 0 ∧ wr.heap.size ≤ p ∧ (∀ x, G x → wr.heap.size ≤ x ∨ x = g) ∧ Below wr.heap.size wr w' := by
  refine (K.new_any wr b (some ⟨g, 0, none⟩) k c live gen hr hc hc2 hk).mono ?_
  rintro _ w' ⟨p, G, rfl, hO, hp, hG, hl2⟩
  have hG2 : ∀ x, G x → wr.heap.size ≤ x ∨ x = g := fun x hx => by
    rcases hG x hx with h | ⟨ad, h, e⟩
    · exact .inl h
    · injection h with h
      rw [← h] at e
      exact .inr e
  have hws := hl.size
  refine ⟨p, G, rfl, { base := ⟨hlo, fun x hx hg2 => ?_, by omega⟩, bank := hB.later hl2, log := hO, ji := Disks_JI n live gen hlv hnd hgn, short := hlen, few := ?_, low := hl.trans (hl2.mono hws) }, hp, hG2, hl2⟩
  · have h1 := hB.1 x hx
    rcases hG2 x hg2 with h | h
    · omega
    · exact hg (h ▸ hx)
  · rw [(Disks_std n).2.1]
    exact Nat.le_refl _
#print axioms fresh_any
#print axioms MetIs.took
#print axioms MetIs.scan
#print axioms MetIs.fail
end Go.Proofs.Ytmjdndhpnckeeaa
