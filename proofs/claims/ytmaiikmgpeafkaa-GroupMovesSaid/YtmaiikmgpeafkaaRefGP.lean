/- The reference's Pick. -/
import Derived.Test.YtmaiikmgpeafkaaRefG
import Derived.Test.YtmaiikmgpeafkaaGrpK
namespace Go.Proofs.Ytmaiikmgpeafkaa
open Go.RowKit

theorem mem_toI {l : List Nat} {x : Int} : x ∈ toI l ↔ ∃ k ∈ l, (k : Int) = x := by simp [toI]
theorem orderL_drop (rm ban : List Int) : ∀ q, q ≤ (orderL rm ban).length → orderL rm (ban ++ toI ((orderL rm ban).take q)) = (orderL rm ban).drop q
  | 0, _ => by simp [toI]
  | q + 1, h => by
    have ih := orderL_drop rm ban q (by omega)
    have hd : (orderL rm ban)[q]? = some ((orderL rm ban)[q]'(by omega)) := List.getElem?_eq_getElem (by omega)
    rw [List.drop_eq_getElem_cons (by omega)] at ih
    refine orderL_tail ih _ fun x => ?_
    rw [take_more hd, toI_append]
    simp only [List.mem_append, mem_toI]
    constructor
    · rintro (h1 | h1 | ⟨k, h1, h2⟩)
      · exact .inl (.inl h1)
      · exact .inl (.inr h1)
      · simp at h1; subst h1; exact .inr h2.symm
    · rintro ((h1 | h1) | h1)
      · exact .inl h1
      · exact .inr (.inl h1)
      · exact .inr (.inr ⟨_, by simp, h1.symm⟩)
theorem most_at {rm ban : List Int} {q d : Nat} (h : (orderL rm ban)[q]? = some d) : mostI rm (ban ++ toI ((orderL rm ban).take q)) = (d : Int) := by
  obtain ⟨hq, he⟩ := List.getElem?_eq_some_iff.1 h
  unfold mostI
  rw [orderL_drop rm ban q (by omega), List.drop_eq_getElem_cons hq, he]
theorem most_end (rm ban : List Int) : mostI rm (ban ++ toI ((orderL rm ban).take (orderL rm ban).length)) = -1 := by
  unfold mostI
  rw [orderL_drop rm ban _ (Nat.le_refl _), List.drop_length]
theorem orderL_le (rm ban : List Int) : (orderL rm ban).length ≤ rm.length := by
  have h1 := (orderL_perm rm ban).length_eq
  have h2 := List.length_filter_le (mayB rm ban) (List.range rm.length)
  rw [List.length_range] at h2
  omega
def lenS (v : Value) : Nat := match v with
  | .slice _ n _ => n
  | _ => 0
set_option maxRecDepth 100000 in
set_option maxHeartbeats 2000000 in
theorem refPick_any (AR : Option Addr) (cR : Nat) (rm : List Int) (width : Int) (AB : Option Addr) (nB cB : Nat) (ban : List Int) (B0 : Nat) (w : World) (hr : Reads w B0 1 AR rm.length (I64 rm)) (hb : Reads w B0 1 AB nB (I64 ban)) (hB0 : B0 ≤ w.heap.size) (hn : rm.length ≤ 1000000) (hnB : nB + rm.length ≤ maxLen) (hn8 : (nB + rm.length) * 8 ≤ 140737488355328) :
    Calls Try.prog 12 #[.slice AR rm.length cR, .int .i64 width, .slice AB nB cB] w fun e w' => ∃ A c, e = .returned (.tuple #[.slice A (pickL rm width ban).length c, .bool (pickB rm width ban)]) ∧ w'.ownsRow w.heap.size 3 1 (.slice A (pickL rm width ban).length c) (pickL rm width ban).length (I64 (toI (pickL rm width ban))) ∧ Below w.heap.size w w' := by
  obtain ⟨i0, hi0, hz0, hz1, hz2⟩ := info_parts int_parts
  have HI := hide (And.intro hi0 (And.intro hz0 (And.intro hz1 hz2)))
  have HR := hide hr
  have HB := hide hb
  have hole := orderL_le rm ban
  have hlb : ban.length = nB := by have := hb.1; rw [I64_length] at this; omega
  have HLB := hide hlb
  have hno : pickB rm width ban = false → pickL rm width ban = [] := fun h => by unfold pickL; rw [h]; rfl
  clear hr hb hlb hi0 hz0 hz1 hz2
  by_cases h1 : width < 1
  · have e : pickB rm width ban = false := by
      unfold pickB
      have : ¬ 1 ≤ width := by omega
      simp [this]
    rw [hno e, e]
    clear hno e
    go_enter Try.func12, Try.ntmps12
    go_wp2
    go_ret2
    exact ⟨none, 0, rfl, World.ownsRow_nil _ _ _ _, Below.refl _ _⟩
  · by_cases h2 : (rm.length : Int) < width
    · have e : pickB rm width ban = false := by
        unfold pickB
        have : ¬ width ≤ ((orderL rm ban).length : Int) := by omega
        simp [this]
      rw [hno e, e]
      clear hno e
      go_enter Try.func12, Try.ntmps12
      go_wp2
      go_ret2
      exact ⟨none, 0, rfl, World.ownsRow_nil _ _ _ _, Below.refl _ _⟩
    · obtain ⟨k, rfl⟩ : ∃ k : Nat, width = (k : Int) := ⟨width.toNat, by omega⟩
      have HNO := hide hno
      have hyes : k ≤ (orderL rm ban).length → pickB rm (k : Int) ban = true ∧ pickL rm (k : Int) ban = (orderL rm ban).take k := fun h => by
        have e : pickB rm (k : Int) ban = true := by
          unfold pickB
          have a1 : (1 : Int) ≤ (k : Int) := by omega
          have a2 : (k : Int) ≤ ((orderL rm ban).length : Int) := by omega
          simp [a1, a2]
        refine ⟨e, ?_⟩
        unfold pickL
        rw [if_pos e, Int.toNat_natCast]
      have hbad : (orderL rm ban).length < k → pickB rm (k : Int) ban = false := fun h => by
        unfold pickB
        have : ¬ (k : Int) ≤ ((orderL rm ban).length : Int) := by omega
        simp [this]
      have HYES := hide hyes
      have HBAD := hide hbad
      have hmat : ∀ q d : Nat, (orderL rm ban)[q]? = some d → mostI rm (ban ++ toI ((orderL rm ban).take q)) = (d : Int) := fun q d h => most_at h
      have hmend := most_end rm ban
      obtain ⟨O, hO⟩ : ∃ O, O = orderL rm ban := ⟨_, rfl⟩
      rw [← hO] at HYES HBAD hole hmat hmend
      have HMAT := hide hmat
      have HMEND := hide hmend
      obtain ⟨PL, hPL⟩ : ∃ PL, PL = pickL rm (k : Int) ban := ⟨_, rfl⟩
      obtain ⟨PB, hPB⟩ : ∃ PB, PB = pickB rm (k : Int) ban := ⟨_, rfl⟩
      rw [← hPL, ← hPB] at HYES HNO ⊢
      rw [← hPB] at HBAD
      clear hno hyes hbad hmat hmend hO hPL hPB
      have hone : ∀ u ∈ I64 ban, u.oneCell' = true := I64_one ban
      have HONE := hide hone
      have hm1 : 0 + nB ≤ maxLen := by omega
      have hm2 : (0 + nB) * 8 ≤ 140737488355328 := by omega
      clear hone
      go_enter Try.func12, Try.ntmps12
      go_wp2_with (first
        | ((with_reducible refine at_slot 21 ?_); refine wpList_append_any _ rfl (.tmp 19) (.tmp 20) _ rfl w.heap.size 3 i0 _ 1 8 Try.underlying22 HI.out.1 HI.out.2.1 HI.out.2.2.1 HI.out.2.2.2 rfl (by decide) _ 0 [] rfl (World.ownsRow_made w #[] 0 (Nat.le_refl _) (Nat.zero_le _) rfl) B0 AB nB cB (I64 ban) rfl (HB.out.alloc hB0 _) HONE.out hm1 hm2 (le_alloc (Nat.le_refl _) _) ?_; intro v1 w1 hown1 hbel1))
      have hl1 : Below w.heap.size w w1 := ((Below.refl _ _).alloc (Nat.le_refl _) _).trans hbel1
      have hz1 := hl1.size
      obtain ⟨w2, hw2⟩ : ∃ w2, w2 = w1.alloc (.cells #[] 3) := ⟨_, rfl⟩
      have hl12 : Below w1.heap.size w1 w2 := by rw [hw2]; exact (Below.refl _ _).alloc (Nat.le_refl _) _
      have hrow9 : w2.ownsRow w.heap.size 3 1 (.slice (some ⟨w1.heap.size, 0, none⟩) 0 0) 0 (I64 (toI (O.take 0))) := by
        rw [hw2]
        exact own_mono (World.ownsRow_made w1 #[] 0 (Nat.le_refl _) (Nat.zero_le _) rfl) hz1
      have hrow8 : w2.ownsRow w.heap.size 3 1 v1 (nB + 0) (I64 (ban ++ toI (O.take 0))) := by
        have h := own_later hown1 hl12
        simpa [toI] using h
      have hap : Apart v1 (.slice (some ⟨w1.heap.size, 0, none⟩) 0 0) := fun g h1 h2 => by
        have := (hown1.lt g h1).2
        simp [Value.ownBlock] at h2
        omega
      rw [← hw2]
      have H8 := hide hrow8
      have H9 := hide hrow9
      have HAP := hide hap
      have HL2 := hide (hl1.trans (hl12.mono hz1))
      clear hw2 hrow8 hrow9 hap hl12 hl1 hbel1 hown1
      go_loopw [8, 9] (fun s8 s9 wr => ∃ q : Nat, q ≤ O.length ∧ q ≤ k ∧ (∃ A9 c9, s9 = .slice A9 q c9) ∧ Hid (wr.ownsRow w.heap.size 3 1 s9 q (I64 (toI (O.take q)))) ∧ Hid (wr.ownsRow w.heap.size 3 1 s8 (nB + q) (I64 (ban ++ toI (O.take q)))) ∧ Hid (Apart s8 s9) ∧ Hid (Below w.heap.size w wr)) (fun _ s9 _ => k - lenS s9)
      case atStart => exact ⟨0, Nat.zero_le _, Nat.zero_le _, ⟨_, _, rfl⟩, H9, H8, HAP, HL2⟩
      case round =>
        clear H8 H9 HAP HL2
        obtain ⟨q, hqO, hqk, ⟨A9, c9, rfl⟩, H9, H8, HAP, HL2⟩ := hrel
        have hzr := HL2.out.size
        by_cases hqk2 : q < k
        · obtain ⟨A8, c8, hv8, _, _⟩ := own_shape H8.out
          subst hv8
          have hmost := refMost_any AR cR rm A8 (nB + q) c8 (ban ++ toI (O.take q)) B0 wr.heap.size wr (HR.out.below (HL2.out.mono hB0)) (Reads.of_own H8.out) hn (by omega)
          by_cases hqO2 : q < O.length
          · obtain ⟨d, hd⟩ : ∃ d, O[q]? = some d := ⟨_, List.getElem?_eq_getElem hqO2⟩
            rw [HMAT.out q d hd] at hmost
            have HM := hide hmost
            have htk := take_more hd
            have HTK := hide htk
            have a1 : q + 1 ≤ maxLen := by omega
            have a2 : (q + 1) * 8 ≤ 140737488355328 := by omega
            have a3 : nB + q + 1 ≤ maxLen := by omega
            have a4 : (nB + q + 1) * 8 ≤ 140737488355328 := by omega
            have HAA := hide (And.intro a1 (And.intro a2 (And.intro a3 a4)))
            clear hmost hd htk a1 a2 a3 a4
            go_wp2_with (first
              | (go_at_call 27; refine HM.out.mono ?_; rintro _ w3 ⟨rfl, z, hw3⟩; have hl3 : Below wr.heap.size wr w3 := (by rw [hw3]; exact ⟨rfl, rfl, rfl, Nat.le_refl _, fun _ _ => rfl⟩); clear hw3; have H93 := hide (own_later H9.out hl3); have H83 := hide (own_later H8.out hl3); have hz3 := hl3.size)
              | ((with_reducible refine at_slot 35 ?_); refine wpList_append_two _ rfl (.tmp 32) (.tmp 34) _ rfl w.heap.size 3 i0 _ 1 8 Try.underlying22 HI.out.1 HI.out.2.1 HI.out.2.2.1 HI.out.2.2.2 rfl (by decide) _ q _ rfl (H93.out.alloc _) (w3.heap.size + 1) (some ⟨w3.heap.size, 0, none⟩) 1 1 [.int .i64 (d : Int)] rfl (Reads.one _ _ _ _ (by omega)) (one_i64 _) HAA.out.1 HAA.out.2.1 (le_alloc (by omega) _) ?_; intro v4 w4 hown4 hg4 hb4; have H84 := hide (own_other (H83.out.alloc (.cells #[.int .i64 (d : Int)] 3)) hg4 HAP.out.symm); have hz4 := hg4.size; rw [World.size_alloc] at hz4; have H94 := hide hown4; have HAP4 := hide (Apart.next HAP.out.symm (H83.out.alloc (.cells #[.int .i64 (d : Int)] 3)) hb4); have HG4 := hide hg4; clear hown4 hg4 hb4)
              | ((with_reducible refine at_slot 39 ?_); refine wpList_append_two _ rfl (.tmp 36) (.tmp 38) _ rfl w.heap.size 3 i0 _ 1 8 Try.underlying22 HI.out.1 HI.out.2.1 HI.out.2.2.1 HI.out.2.2.2 rfl (by decide) _ (nB + q) _ rfl (H84.out.alloc _) (w4.heap.size + 1) (some ⟨w4.heap.size, 0, none⟩) 1 1 [.int .i64 (d : Int)] rfl (Reads.one _ _ _ _ (by omega)) (one_i64 _) HAA.out.2.2.1 HAA.out.2.2.2 (le_alloc (by omega) _) ?_; intro v5 w5 hown5 hg5 hb5))
            have hl5 : Below w.heap.size w w5 := ((((HL2.out.trans (hl3.mono hzr)).alloc (by omega) _).grown HG4.out (by rw [World.size_alloc]; omega) (fun g e => (H93.out.lt g e).1)).alloc (by omega) _).grown hg5 (by rw [World.size_alloc]; omega) (fun g e => (H84.out.lt g e).1)
            have H95 : Hid (w5.ownsRow w.heap.size 3 1 v4 (q + 1) (I64 (toI (O.take (q + 1))))) := hide (by
              have h := own_other (H94.out.alloc (.cells #[.int .i64 (d : Int)] 3)) hg5 HAP4.out.symm
              rw [HTK.out, toI_append, I64_append]
              exact h)
            have H85 : Hid (w5.ownsRow w.heap.size 3 1 v5 (nB + (q + 1)) (I64 (ban ++ toI (O.take (q + 1))))) := hide (by
              rw [HTK.out, toI_append, ← List.append_assoc, I64_append]
              exact hown5)
            have HAP5 : Hid (Apart v5 v4) := hide (Apart.next HAP4.out.symm (H94.out.alloc (.cells #[.int .i64 (d : Int)] 3)) hb5)
            have HL5 := hide hl5
            obtain ⟨A4, c4, hv4, _, _⟩ := own_shape H94.out
            subst hv4
            clear hown5 hg5 hb5 hl5 hl3
            go_roundw
            case rel => exact ⟨q + 1, by omega, by omega, ⟨_, _, rfl⟩, H95, H85, HAP5, HL5⟩
            case measure => simp [lenS]; omega
          · obtain rfl : q = O.length := by omega
            rw [HMEND.out] at hmost
            have HM := hide hmost
            have HBD := hide (HBAD.out (by omega))
            clear hmost
            go_wp2_with (first
              | (go_at_call 27; refine HM.out.mono ?_; rintro _ w3 ⟨rfl, z, hw3⟩; have hl3 : Below wr.heap.size wr w3 := (by rw [hw3]; exact ⟨rfl, rfl, rfl, Nat.le_refl _, fun _ _ => rfl⟩); clear hw3))
            go_ret2
            rw [HNO.out HBD.out, HBD.out]
            exact ⟨none, 0, rfl, World.ownsRow_nil _ _ _ _, HL2.out.trans (hl3.mono hzr)⟩
        · obtain rfl : q = k := by omega
          obtain ⟨y1, y2⟩ := HYES.out hqO
          have HY1 := hide y1
          have HY2 := hide y2
          clear y1 y2
          go_wp2
          go_ret2
          have hlen : (O.take q).length = q := by rw [List.length_take]; omega
          rw [HY1.out, HY2.out, hlen]
          exact ⟨A9, c9, rfl, H9.out, HL2.out⟩
#print axioms refPick_any
end Go.Proofs.Ytmaiikmgpeafkaa
