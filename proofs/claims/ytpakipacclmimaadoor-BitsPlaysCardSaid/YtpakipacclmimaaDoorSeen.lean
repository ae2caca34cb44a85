/- The small case that each law of bits begins with: it works. -/
import Derived.Test.YtpakipacclmimaaDoorNext
import Derived.Test.YtpakipacclmimaaDoorOf
namespace Go.Proofs.YtpakipacclmimaaDoor
open Go.RowKit

theorem NextIs.same {t : Nat → Bool} {n fr k k' : Nat} {ok ok' : Bool} (h : NextIs t n fr k ok) (h' : NextIs t n fr k' ok') : k = k' ∧ ok = ok' := by
  rcases h with ⟨rfl, h1, h2, h3, h4⟩ | ⟨rfl, rfl, h1⟩
  · rcases h' with ⟨rfl, g1, g2, g3, g4⟩ | ⟨rfl, rfl, g1⟩
    · refine ⟨?_, rfl⟩
      rcases Nat.lt_trichotomy k k' with h | h | h
      · have := g4 k h1 h; rw [h3] at this; cases this
      · exact h
      · have := h4 k' g1 h; rw [g3] at this; cases this
    · have := g1 k h1 h2; rw [h3] at this; cases this
  · rcases h' with ⟨rfl, g1, g2, g3, g4⟩ | ⟨rfl, rfl, g1⟩
    · have := h1 k' g1 g2; rw [g3] at this; cases this
    · exact ⟨rfl, rfl⟩
section
variable {b n : Nat} {t : Nat → Bool} {w : World}
theorem take_known (k : Nat) (hm : MapAt w b n t) (hT : Tab w) (hk : NextIs t n 0 k true) :
    Calls Tryd.prog 24 #[.pointer (some ⟨b, 0, none⟩)] w fun e w' => e = .returned (.tuple #[.int .i64 (k : Int), .bool true]) ∧ MapAt w' b n (put t k true) ∧ w.grownBy w' (some b) := by
  refine (take_any hm hT).mono ?_
  rintro e w' ⟨k', ok, rfl, h1, h2, h3⟩
  obtain ⟨rfl, rfl⟩ := hk.same h1
  exact ⟨rfl, h2, h3⟩
theorem take_none (hm : MapAt w b n t) (hT : Tab w) (hk : NextIs t n 0 0 false) :
    Calls Tryd.prog 24 #[.pointer (some ⟨b, 0, none⟩)] w fun e w' => e = .returned (.tuple #[.int .i64 0, .bool false]) ∧ MapAt w' b n t ∧ w.grownBy w' (some b) := by
  refine (take_any hm hT).mono ?_
  rintro e w' ⟨k', ok, rfl, h1, h2, h3⟩
  obtain ⟨rfl, rfl⟩ := hk.same h1
  exact ⟨rfl, h2, h3⟩
end
/-- The least free place of a short map is reckoned. -/
def nextB (t : Nat → Bool) (n k : Nat) : Bool := decide (k < n) && !t k && (List.range k).all t
theorem next_of {t : Nat → Bool} {n k : Nat} (h : nextB t n k = true) : NextIs t n 0 k true := by
  simp only [nextB, Bool.and_eq_true, decide_eq_true_eq, Bool.not_eq_true'] at h
  exact .inl ⟨rfl, Nat.zero_le _, h.1.1, h.1.2, fun i _ hi => List.all_eq_true.1 h.2 i (List.mem_range.2 hi)⟩
theorem none_of {t : Nat → Bool} {n : Nat} (h : (List.range n).all t = true) : NextIs t n 0 0 false :=
  .inr ⟨rfl, rfl, fun i _ hi => List.all_eq_true.1 h i (List.mem_range.2 hi)⟩
def s0 : Nat → Bool := fun _ => false
def s1 : Nat → Bool := put s0 0 true
def s2 : Nat → Bool := put s1 1 true
def s3 : Nat → Bool := put s2 0 false
def s4 : Nat → Bool := put s3 0 true
def s5 : Nat → Bool := put s4 2 true
def z2 : Nat → Bool := put (put s0 1 true) 9 true
theorem z2_bytes : bytesOf 10 z2 = [2, 2] := by decide +kernel
theorem z2_code : ofCode 10 [0, 4] = 2 := by decide +kernel
theorem s5_cnt : cnt s5 3 = 3 := by decide +kernel
theorem own_conv {P : Program} {w : World} {base n c : Nat} {A : Option Addr} {l : List UInt8} (src e dst : TypeId) (hs : P.underlying src = some (.slice e)) (he : P.underlying e = some (.int .u8)) (hd : P.underlying dst = some .string)
    (h : w.ownsRow base e 1 (.slice A n c) n (B8 l)) : (convert src dst (.slice A n c)).run P w = .ok (.string ⟨l.toArray⟩) w := run_conv_reads w src e dst hs he hd _ A n c l (Reads.of_own h)

set_option maxRecDepth 100000 in
set_option maxHeartbeats 2000000 in
theorem shown_any (w : World) (hT : Tab w) : Calls Tryd.prog 9 #[] w fun e w' => e = .returned (.bool true) ∧ Below w.heap.size w w' := by
  have hw0 := hT.pos
  have hr04 : ∀ w : World, Reads (w.alloc (.cells #[.int .u8 0, .int .u8 4] 5)) (w.alloc (.cells #[.int .u8 0, .int .u8 4] 5)).heap.size 1 (some ⟨w.heap.size, 0, none⟩) 2 (B8 [0, 4]) := fun w => Reads.fresh w (B8 [0, 4]) 5 _ 1 2 (by rw [World.size_alloc]; omega) rfl
  have HR := hide hr04
  clear hr04
  go_enter Tryd.func9, Tryd.ntmps9
  go_wp2_with fail
  refine (new_any 3 w).mono ?_
  rintro e w1 ⟨rfl, hm1, hb1⟩
  obtain ⟨b, hb⟩ : ∃ b, b = w.heap.size := ⟨_, rfl⟩
  rw [← hb] at hm1 ⊢
  have HB : Hid (w.heap.size ≤ b) := by show _ ≤ _; omega
  have HB0 : Hid (some 0 ≠ some b) := by show _ ≠ _; intro h; injection h; omega
  clear hb
  have hT1 := hT.later hb1
  go_wp2_with fail
  refine (take_known (t := s0) 0 hm1 hT1 (next_of (by decide))).mono ?_
  rintro e w2 ⟨rfl, hm2, hg2⟩
  have hT2 := hT1.grown hg2 HB0.out
  go_wp2_with fail
  refine (take_known (t := s1) 1 hm2 hT2 (next_of (by decide))).mono ?_
  rintro e w3 ⟨rfl, hm3, hg3⟩
  have hT3 := hT2.grown hg3 HB0.out
  go_wp2_with fail
  refine (free_yes (t := s2) 0 hm3 (by decide) (by decide)).mono ?_
  rintro e w4 ⟨rfl, hm4, hg4⟩
  have hT4 := hT3.grown hg4 HB0.out
  go_wp2_with fail
  refine (take_known (t := s3) 0 hm4 hT4 (next_of (by decide))).mono ?_
  rintro e w5 ⟨rfl, hm5, hg5⟩
  have hT5 := hT4.grown hg5 HB0.out
  go_wp2_with fail
  refine (take_known (t := s4) 2 hm5 hT5 (next_of (by decide))).mono ?_
  rintro e w6 ⟨rfl, hm6, hg6⟩
  have hT6 := hT5.grown hg6 HB0.out
  go_wp2_with fail
  refine (take_none (t := s5) hm6 hT6 (none_of (by decide))).mono ?_
  rintro e w7 ⟨rfl, hm7, hg7⟩
  have hg : w1.grownBy w7 (some b) := grown_trans hg2 (grown_trans hg3 (grown_trans hg4 (grown_trans hg5 (grown_trans hg6 hg7))))
  have hb7 : Below w.heap.size w w7 := below_of hb1 hg hb1.size (fun k hk => by cases hk; exact HB.out)
  clear hg hg2 hg3 hg4 hg5 hg6 hg7 hT1 hT2 hT3 hT4 hT5 hT6 hm1 hm2 hm3 hm4 hm5 hm6
  go_wp2_with fail
  refine (new_any 10 w7).mono ?_
  rintro e w8 ⟨rfl, hn8, hb8⟩
  have hm8 := hm7.later hb8
  have HBB : Hid (some b ≠ some w7.heap.size) := by show _ ≠ _; intro h; injection h with h; have := hm7.lt; omega
  have h8 := hb7.trans (hb8.mono hb7.size)
  obtain ⟨b2, hb2⟩ : ∃ b2, b2 = w7.heap.size := ⟨_, rfl⟩
  rw [← hb2] at hn8 HBB ⊢
  have HB2 : Hid (w.heap.size ≤ b2) := by show _ ≤ _; rw [hb2]; exact hb7.size
  clear hb2 hb8 hm7 hb7
  go_wp2_with fail
  refine (takeAt_yes (t := s0) 1 hn8 (by decide) (by decide)).mono ?_
  rintro e w9 ⟨rfl, hn9, hg9⟩
  have hm9 := hm8.grown hg9 HBB.out
  have h9 := below_of h8 hg9 h8.size (fun k hk => by cases hk; exact HB2.out)
  clear hg9 hm8 h8 hn8
  go_wp2_with fail
  refine (takeAt_yes (t := put s0 1 true) 9 hn9 (by decide) (by decide)).mono ?_
  rintro e w10 ⟨rfl, hn10, hg10⟩
  have hm10 := hm9.grown hg10 HBB.out
  have h10 := below_of h9 hg10 h9.size (fun k hk => by cases hk; exact HB2.out)
  clear hg10 hm9 h9 hn9
  go_wp2_with fail
  refine (of_any (w := w10.alloc (.cells #[.int .u8 0, .int .u8 4] 5)) 10 _ 2 2 [0, 4] (HR.out w10)).mono ?_
  rintro e w11 ⟨hb11, hcode⟩
  rw [z2_code] at hcode
  rcases hcode with ⟨_, rfl⟩ | ⟨hc, _⟩
  case inr => exact absurd hc (by decide)
  have hm11 := (hm10.alloc _).later hb11
  have hn11 : MapAt w11 b2 10 z2 := (hn10.alloc _).later hb11
  have h11 := (h10.alloc h10.size (.cells #[.int .u8 0, .int .u8 4] 5)).trans (hb11.mono (le_alloc h10.size _))
  clear hm10 hn10 h10 hb11
  go_wp2_with fail
  refine (count_any hm11).mono ?_
  rintro e w12 ⟨rfl, rfl⟩
  rw [show cnt s5 (clamp 3) = 3 from s5_cnt]
  go_wp2_with fail
  refine (bytes_any hn11).mono ?_
  rintro e w13 ⟨A13, n13, c13, rfl, hn13, hc13, hown13, hbel13⟩
  rw [z2_bytes] at hown13
  have h13 := h11.trans (hbel13.mono h11.size)
  have hk := own_conv 36 5 9 Tryd.underlying36 Tryd.underlying5 Tryd.underlying9 hown13
  go_wp2
  go_ret
  exact ⟨rfl, h13⟩
#print axioms shown_any
end Go.Proofs.YtpakipacclmimaaDoor
