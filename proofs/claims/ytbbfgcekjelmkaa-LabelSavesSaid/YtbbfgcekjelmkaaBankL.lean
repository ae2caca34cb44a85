/- The banks that stage 4's laws begin with, where nothing is laid in them: three disks of 200 sectors. -/
import Derived.Test.YtbbfgcekjelmkaaLoadL
import Derived.Test.YtbbfgcekjelmkaaShell
namespace Go.Proofs.Ytbbfgcekjelmkaa
open Go.RowKit

def ThreeTo : Nat → Bank
  | 0 => Bank.new
  | i + 1 => (ThreeTo i).add 200
def Three : Bank := ThreeTo 3
theorem ThreeTo_n : ∀ i, (ThreeTo i).n = i
  | 0 => rfl
  | i + 1 => by
    have h := ThreeTo_n i
    show (ThreeTo i).n + 1 = _
    rw [h]
set_option maxRecDepth 100000 in
set_option maxHeartbeats 2000000 in
theorem bankNil_any (w : World) :
    Calls Try.prog 19 #[.slice none 0 0, .slice none 0 0] w fun e w' => (∃ (b r : Nat) (F : Nat → Prop), e = .returned (.tuple #[.pointer (some ⟨b, 0, none⟩), .pointer (some ⟨r, 0, none⟩)]) ∧ BankOn w' b F Three ∧ (∀ x, F x → w.heap.size ≤ x)) ∧ Below w.heap.size w w' := by
  go_enter Try.func19, Try.ntmps19
  go_wp2_with (first
    | (go_at_call 46; refine (newBank_any w).mono ?_; rintro _ w1 ⟨rfl, hB1, hl1⟩)
    | (go_at_call 47; refine (refNew_any w1).mono ?_; rintro _ w2 ⟨rfl, hS2, hl2, hz2⟩))
  have hz1 := hl1.size
  have hb1 := hB1.on.lt
  have HL2 := hide (hl1.trans (hl2.mono hz1))
  have HB2 := hide (hB1.on.later hl2)
  have HS2 := hide hS2
  clear hB1 hl1 hl2 hS2
  go_loopw [8] (fun s8 wr => ∃ (i : Nat) (F G : Nat → Prop), s8 = .int .i64 (i : Int) ∧ i ≤ 3 ∧ Hid (BankOn wr w.heap.size F (ThreeTo i)) ∧ Hid (Shell wr w1.heap.size G i) ∧ Hid (∀ x, F x → ¬ G x) ∧ Hid (∀ x, F x ∨ G x → w.heap.size ≤ x) ∧ Hid (Below w.heap.size w wr)) (fun s8 _ => 3 - (intOf s8).toNat)
  case atStart =>
    refine ⟨0, _, _, rfl, by decide, HB2, HS2, fun x h1 h2 => ?_, fun x h => ?_, HL2⟩
    · have h3 := h1.2
      have h4 : x = w1.heap.size := h2
      omega
    · rcases h with h | h
      · exact h.1
      · have h4 : x = w1.heap.size := h
        omega
  case round =>
    obtain ⟨i, F, G, rfl, hi, hB, hS, hd, hlo, hl⟩ := hrel
    obtain ⟨wo, rfl⟩ : ∃ wo, wo = wr := ⟨_, rfl⟩
    by_cases hi3 : i < 3
    · have hg1 : (i : Int) < 3 := by omega
      go_wp2_with fail
      refine (on_add hB.out 200 (by decide) (by decide) (by rw [ThreeTo_n]; omega)).mono ?_
      rintro _ w3 ⟨rfl, hB3, hT3⟩
      have hS3 := hS.out.kept hT3 (fun x hx hf => hd.out x hf hx)
      have hz3 := hT3.size
      have HB3 := hide hB3
      have HS3 := hide hS3
      have HT3 := hide hT3
      clear hB3 hS3 hT3
      go_wp2_with fail
      refine (refAdd_any HS3.out (by omega)).mono ?_
      rintro _ w4 ⟨⟨v, rfl⟩, hS4, hT4⟩
      have hB4 := HB3.out.kept hT4 (fun x hx hg => by
        rcases hx with hx | hx
        · exact hd.out x hx hg
        · have := hS.out.own.2 x hg
          omega)
      have hz4 := hT4.size
      have HD : Hid (∀ x, (F x ∨ wo.heap.size ≤ x ∧ x < w3.heap.size) → ¬ (G x ∨ w3.heap.size ≤ x ∧ x < w4.heap.size)) := fun x h1 h2 => by
        rcases h1 with h1 | h1
        · rcases h2 with h2 | h2
          · exact hd.out x h1 h2
          · have := hB.out.1 x h1
            omega
        · rcases h2 with h2 | h2
          · have := hS.out.own.2 x h2
            omega
          · omega
      have hw1 := hl.out.size
      have HLo : Hid (∀ x, (F x ∨ wo.heap.size ≤ x ∧ x < w3.heap.size) ∨ (G x ∨ w3.heap.size ≤ x ∧ x < w4.heap.size) → w.heap.size ≤ x) := fun x h => by
        rcases h with (h | h) | (h | h)
        · exact hlo.out x (.inl h)
        · omega
        · exact hlo.out x (.inr h)
        · omega
      have HL4 : Hid (Below w.heap.size w w4) := by
        have h3 : Below w.heap.size wo w3 := ⟨HT3.out.os, HT3.out.tape, HT3.out.output, HT3.out.size, fun y hy => HT3.out.block y (by omega) (fun hf => by have := hlo.out y (.inl hf); omega)⟩
        have h4 : Below w.heap.size w3 w4 := ⟨hT4.os, hT4.tape, hT4.output, hT4.size, fun y hy => hT4.block y (by omega) (fun hf => by have := hlo.out y (.inr hf); omega)⟩
        exact (hl.out.trans h3).trans h4
      have HB4 := hide hB4
      have HS4 := hide hS4
      clear hB4 hS4 hT4
      go_wp2_with fail
      go_roundw
      case rel => exact ⟨i + 1, _, _, by simp, by omega, HB4, HS4, HD, HLo, HL4⟩
      case measure => simp [intOf]; omega
    · obtain rfl : i = 3 := by omega
      go_wp2_with fail
      go_loopw [9, 10] (fun s9 _ wr => s9 = .int .i64 0 ∧ wr = wo) (fun _ _ _ => 0)
      case atStart => exact ⟨rfl, rfl⟩
      case round =>
        obtain ⟨rfl, rfl⟩ := hrel
        go_wp2_with fail
        go_loopw [11, 12, 13, 14] (fun s11 _ _ _ wx => s11 = .int .i64 0 ∧ wx = wr) (fun _ _ _ _ _ => 0)
        case atStart => exact ⟨rfl, rfl⟩
        case round =>
          obtain ⟨rfl, rfl⟩ := hrel
          go_wp2_with fail
          go_ret2
          exact ⟨⟨_, _, F, rfl, hB.out, fun x hx => hlo.out x (.inl hx)⟩, hl.out⟩
#print axioms bankNil_any
end Go.Proofs.Ytbbfgcekjelmkaa
