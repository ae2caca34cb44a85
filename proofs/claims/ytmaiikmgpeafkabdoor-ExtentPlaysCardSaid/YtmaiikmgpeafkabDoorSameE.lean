/- What both maps tell of themselves is the same. -/
import Derived.Test.YtmaiikmgpeafkabDoorDoesE
import Derived.Test.YtmaiikmgpeafkabDoorRefOA
import Derived.Test.YtmaiikmgpeafkabDoorExtD
namespace Go.Proofs.YtmaiikmgpeafkabDoor
open Go.RowKit

theorem disksE_in {S : Ext} (hok : S.Ok) {i : Nat} {x : Int} (h : (disksE S)[i]? = some x) : 0 ≤ x ∧ x < 9223372036854775808 := by
  have hm : x ∈ disksE S := List.mem_iff_getElem?.2 ⟨i, h⟩
  unfold disksE at hm
  rw [List.mem_mergeSort] at hm
  obtain ⟨k, hk, rfl⟩ := List.mem_map.1 hm
  have := hok.lt k hk
  omega
section
variable {w : World} {b r : Nat} {F G : Nat → Prop} {S : Ext}
set_option maxRecDepth 100000 in
set_option maxHeartbeats 4000000 in
theorem sameE_any (h : TwoE w b r F G S) :
    Calls Tryd.prog 10 #[.pointer (some ⟨b, 0, none⟩), .pointer (some ⟨r, 0, none⟩)] w fun e w' => e = .returned (.bool true) ∧ Below w.heap.size w w' := by
  have HH := hide h
  have HOK := hide h.one.ok
  have hf := h.one.ok.few
  clear h
  obtain ⟨N, hN⟩ : ∃ N, N = S.ks.length := ⟨_, rfl⟩
  obtain ⟨D, hD⟩ : ∃ D, D = disksE S := ⟨_, rfl⟩
  have HD1 : Hid (∀ W, Below w.heap.size w W → Calls Tryd.prog 25 #[.pointer (some ⟨b, 0, none⟩)] W fun e w' => ∃ A c, e = .returned (.slice A N c) ∧ Reads w' w'.heap.size 1 A N (I64 D) ∧ Below W.heap.size W w') := hide (fun W hb => (on_disks (HH.out.later hb).one).mono fun e w' ⟨v, h1, h2, h3⟩ => by
    rw [← hN, ← hD] at h2
    obtain ⟨A, c, rfl, _, _⟩ := own_shape h2
    exact ⟨A, c, h1, Reads.of_own h2, h3⟩)
  have HD2 : Hid (∀ W, Below w.heap.size w W → Calls Tryd.prog 26 #[.pointer (some ⟨r, 0, none⟩)] W fun e w' => ∃ A c, e = .returned (.slice A N c) ∧ Reads w' w'.heap.size 1 A N (I64 D) ∧ Below W.heap.size W w') := hide (fun W hb => (rOnE_disks (HH.out.later hb).two).mono fun e w' ⟨v, h1, h2, h3⟩ => by
    rw [← hN, ← hD] at h2
    obtain ⟨A, c, rfl, _, _⟩ := own_shape h2
    exact ⟨A, c, h1, Reads.of_own h2, h3⟩)
  have HPU : Hid (∀ (z : Int), -9223372036854775808 ≤ z → z < 9223372036854775808 → ∀ W, Below w.heap.size w W → Calls Tryd.prog 27 #[.pointer (some ⟨b, 0, none⟩), .int .i64 z] W fun e w' => e = .returned (.int .i64 ((usedE S z : Nat) : Int)) ∧ W = w') := hide (fun z h1 h2 W hb => on_used (HH.out.later hb).one z h1 h2)
  have HPR : Hid (∀ (z : Int), -9223372036854775808 ≤ z → z < 9223372036854775808 → ∀ W, Below w.heap.size w W → Calls Tryd.prog 29 #[.pointer (some ⟨b, 0, none⟩), .int .i64 z] W fun e w' => e = .returned (.int .i64 ((roomE S z : Nat) : Int)) ∧ W = w') := hide (fun z h1 h2 W hb => on_room (HH.out.later hb).one z h1 h2)
  have HRU : Hid (∀ (z : Int), -9223372036854775808 ≤ z → z < 9223372036854775808 → ∀ W, Below w.heap.size w W → Calls Tryd.prog 28 #[.pointer (some ⟨r, 0, none⟩), .int .i64 z] W fun e w' => e = .returned (.int .i64 ((usedE S z : Nat) : Int)) ∧ W = w') := hide (fun z h1 h2 W hb => rOnE_used (HH.out.later hb).two z h1 h2)
  have HRR : Hid (∀ (z : Int), -9223372036854775808 ≤ z → z < 9223372036854775808 → ∀ W, Below w.heap.size w W → Calls Tryd.prog 30 #[.pointer (some ⟨r, 0, none⟩), .int .i64 z] W fun e w' => e = .returned (.int .i64 ((roomE S z : Nat) : Int)) ∧ ∃ n, w' = W.drewN n) := hide (fun z h1 h2 W hb => rOnE_room (HH.out.later hb).two z h1 h2)
  have HNU : Hid (usedE S (-1) = 0) := hide rfl
  have HNR : Hid (roomE S (-1) = 0) := hide rfl
  have HLD : Hid (∀ (i : Nat) x, D[i]? = some x → 0 ≤ x ∧ x < 9223372036854775808) := hide (fun i x hx => disksE_in HOK.out (by rw [← hD]; exact hx))
  rw [← hN] at hf
  clear hN hD HOK
  go_enter Tryd.func10, Tryd.ntmps10
  go_wp2_with (first
    | (go_at_call 25; refine (HD1.out w (Below.refl _ _)).mono ?_; rintro _ w1 ⟨A1, c1, rfl, hr1, hl1⟩; have HR1 := hide hr1; have HL1 := hide hl1; clear hr1 hl1)
    | (go_at_call 26; refine (HD2.out w1 HL1.out).mono ?_; rintro _ w2 ⟨A2, c2, rfl, hr2, hl2⟩; have HR2 := hide hr2; have HR1' := hide (HR1.out.later hl2); have HL2 := hide (HL1.out.trans (hl2.mono HL1.out.size)); clear hr2 hl2))
  go_loopw [7, 8] (fun a _ wx => ∃ i : Nat, i ≤ N ∧ a = .int .i64 (i : Int) ∧ Hid (Below w2.heap.size w2 wx)) (fun a _ _ => N - (intOf a).toNat)
  case atStart => exact ⟨0, Nat.zero_le _, rfl, hide (Below.refl _ _)⟩
  case round =>
    obtain ⟨i, hi, rfl, HL⟩ := hrel
    have HLW : Hid (Below w.heap.size w wr) := hide (HL2.out.trans (HL.out.mono HL2.out.size))
    by_cases hiN : i < N
    · have hii : (i : Int) < (N : Int) := by omega
      have h0i : (0 : Int) ≤ (i : Int) := Int.natCast_nonneg i
      obtain ⟨ad1, x, hA1, _, hx1, hk1⟩ := (HR1'.out.later HL.out).i64_at hiN
      obtain ⟨ad2, x2, hA2, _, hx2, hk2⟩ := (HR2.out.later HL.out).i64_at hiN
      have e12 : x = x2 := by rw [hx1] at hx2; exact Option.some.inj hx2
      subst e12
      subst hA1
      subst hA2
      obtain ⟨hx0, hx63⟩ := HLD.out i x hx1
      have HY : Hid (-9223372036854775808 ≤ wrap64 (x + 1) ∧ wrap64 (x + 1) < 9223372036854775808) := hide (by unfold wrap64; omega)
      have HX : Hid (-9223372036854775808 ≤ x ∧ x < 9223372036854775808) := hide ⟨by omega, hx63⟩
      clear hx1 hx2 hx0
      go_wp2_with (first
        | (go_at_call 27; with_reducible refine (HPU.out x HX.out.1 HX.out.2 _ HLW.out).mono ?_; rintro _ _ ⟨rfl, rfl⟩)
        | (go_at_call 28; with_reducible refine (HRU.out x HX.out.1 HX.out.2 _ HLW.out).mono ?_; rintro _ _ ⟨rfl, rfl⟩)
        | (go_at_call 29; with_reducible refine (HPR.out x HX.out.1 HX.out.2 _ HLW.out).mono ?_; rintro _ _ ⟨rfl, rfl⟩)
        | (go_at_call 30; with_reducible refine (HRR.out x HX.out.1 HX.out.2 _ HLW.out).mono ?_; rintro _ _ ⟨rfl, n1, rfl⟩; have HLX := hide (below_drewN HLW.out n1))
        | (go_at_call 27; with_reducible refine (HPU.out (wrap64 (x + 1)) HY.out.1 HY.out.2 _ HLX.out).mono ?_; rintro _ _ ⟨rfl, rfl⟩)
        | (go_at_call 28; with_reducible refine (HRU.out (wrap64 (x + 1)) HY.out.1 HY.out.2 _ HLX.out).mono ?_; rintro _ _ ⟨rfl, rfl⟩)
        | (go_at_call 29; with_reducible refine (HPR.out (wrap64 (x + 1)) HY.out.1 HY.out.2 _ HLX.out).mono ?_; rintro _ _ ⟨rfl, rfl⟩)
        | (go_at_call 30; with_reducible refine (HRR.out (wrap64 (x + 1)) HY.out.1 HY.out.2 _ HLX.out).mono ?_; rintro _ _ ⟨rfl, n2, rfl⟩))
      go_roundw
      case rel => exact ⟨i + 1, by omega, by go_num, hide (below_drewN HL.out _)⟩
      case measure => simp [intOf]; omega
    · have hii : ¬ ((i : Int) < (N : Int)) := by omega
      go_wp2_with (first
        | (go_at_call 27; refine (HPU.out (-1) (by decide) (by decide) _ HLW.out).mono ?_; rw [HNU.out]; rintro _ _ ⟨rfl, rfl⟩)
        | (go_at_call 29; refine (HPR.out (-1) (by decide) (by decide) _ HLW.out).mono ?_; rw [HNR.out]; rintro _ _ ⟨rfl, rfl⟩))
      go_ret
      exact ⟨rfl, HLW.out⟩
end
#print axioms sameE_any
end Go.Proofs.YtmaiikmgpeafkabDoor
