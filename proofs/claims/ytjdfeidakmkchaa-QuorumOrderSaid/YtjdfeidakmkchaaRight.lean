/- What label.Right and all that it calls answer, over whatever label comes in. -/
import Derived.Test.YtjdfeidakmkchaaRows
import Derived.Test.YtjdfeidakmkchaaLabP
import Derived.Test.YtjdfeidakmkchaaBlk
import Derived.Deep.QuietTactic
import Derived.BigQuiet
import Derived.Outline
namespace Go.Proofs.Ytjdfeidakmkchaa
open Go.RowKit

/-- A label by value; its members' slice. -/
def labV (l : Lab) (A : Option Addr) (n c : Nat) : Value := .agg #[.int .i64 l.array, .int .i64 l.gen, .int .i64 l.member, .int .i64 l.blocks, .slice A n c]
def mbV (m : Mb) : Value := .agg #[.int .i64 m.1, .int .i64 m.2.1, .int .i64 m.2.2]
/-- The members' slice of address A and length n holds these members. -/
def MbIn (w : World) (B : Nat) (A : Option Addr) (n c : Nat) (l : List Mb) : Prop := Reads w B 3 A n (mbL l) ∧ n ≤ c ∧ c ≤ 9223372036854775807
section
variable {w w' : World} {B B' n c : Nat} {A : Option Addr} {l : List Mb}
theorem MbIn.len (h : MbIn w B A n c l) : l.length = n := by
  have := h.1.1
  rw [mbL_length] at this
  omega
theorem MbIn.below (h : MbIn w B A n c l) (hb : Below B w w') : MbIn w' B A n c l := ⟨h.1.below hb, h.2⟩
theorem MbIn.more (h : MbIn w B A n c l) (hB : B ≤ B') : MbIn w B' A n c l := ⟨h.1.more hB, h.2⟩
theorem MbIn.later (h : MbIn w w.heap.size A n c l) (hb : Below w.heap.size w w') : MbIn w' w'.heap.size A n c l := ⟨h.1.later hb, h.2⟩
theorem MbIn.at_ {k : Nat} (h : MbIn w B A n c l) (hk : k < n) : ∃ ad m, A = some ad ∧ ad.block < B ∧ l[k]? = some m ∧ ∀ j v, (mbC m)[j]? = some v → w.cell? ((ad.add (k * 3)).add j) = some v := by
  obtain ⟨ad, hA, hb, hc⟩ := h.1.2 (by omega)
  have hl := h.len
  have hm : l[k]? = some (l[k]'(by omega)) := List.getElem?_eq_getElem (by omega)
  refine ⟨ad, _, hA, hb, hm, fun j v hv => ?_⟩
  have hj : j < 3 := (List.getElem?_eq_some_iff.1 hv).1
  rw [add_of_add]
  exact hc _ v ((mbL_at hm j hj).trans hv)
end
theorem mb_info : (Try.prog.info? 28).map (·.size) = some 3 := by kernel_rfl

set_option maxHeartbeats 400000 in
theorem within_any (v a c : Int) (w : World) :
    Calls Try.prog 15 #[.int .i64 v, .int .i64 a, .int .i64 c] w fun e w' => e = .returned (.bool (inB v a c)) ∧ w = w' := by
  by_cases h1 : a ≤ v
  · by_cases h2 : v ≤ c
    · have H := hide (inB_iff.2 ⟨h1, h2⟩)
      have hd1 : decide (a ≤ v) = true := by simpa using h1
      have hd2 : decide (v ≤ c) = true := by simpa using h2
      rw [H.out]
      go_enter Try.func15, Try.ntmps15
      go_wp2
      go_ret
      exact ⟨rfl, rfl⟩
    · have H := hide (inB_no.2 (fun h => h2 h.2 : ¬ (a ≤ v ∧ v ≤ c)))
      have hd1 : decide (a ≤ v) = true := by simpa using h1
      have hd2 : decide (v ≤ c) = false := by simpa using h2
      rw [H.out]
      go_enter Try.func15, Try.ntmps15
      go_wp2
      go_ret
      exact ⟨rfl, rfl⟩
  · have H := hide (inB_no.2 (fun h => h1 h.1 : ¬ (a ≤ v ∧ v ≤ c)))
    have hd1 : decide (a ≤ v) = false := by simpa using h1
    rw [H.out]
    go_enter Try.func15, Try.ntmps15
    go_wp2
    go_ret
    exact ⟨rfl, rfl⟩

set_option maxHeartbeats 400000 in
theorem rightMember_any (m : Mb) (w : World) :
    Calls Try.prog 32 #[mbV m] w fun e w' => e = .returned (.bool (memberB m)) ∧ Below w.heap.size w w' := by
  unfold mbV
  cases h1 : inB m.2.1 160 4096 with
  | false =>
    have H := hide (show memberB m = false by rw [memberB, h1]; rfl)
    rw [H.out]
    go_enter Try.func32, Try.ntmps32
    go_wp2_with (go_at_call 15; refine (within_any _ _ _ _).mono ?_; rintro e w' ⟨rfl, rfl⟩)
    go_ret
    exact ⟨rfl, (Below.refl _ _).alloc (Nat.le_refl _) _⟩
  | true =>
    have H := hide (show memberB m = inB m.2.2 0 2 by rw [memberB, h1, Bool.true_and])
    rw [H.out]
    go_enter Try.func32, Try.ntmps32
    go_wp2_with (go_at_call 15; refine (within_any _ _ _ _).mono ?_; rintro e w' ⟨rfl, rfl⟩)
    go_ret
    exact ⟨rfl, (Below.refl _ _).alloc (Nat.le_refl _) _⟩

theorem own_any (m : Mb) (own : Int) (B : Nat) (w : World) (hB : B < w.heap.size) (hc : w.cell? ⟨B, 2, none⟩ = some (.int .i64 own)) :
    Calls Try.prog 18 #[mbV m, .pointer (some ⟨B, 0, none⟩)] w fun e w' => e = .returned (.bool (m.1 == own)) ∧ Below w.heap.size w w' := by
  unfold mbV
  have hne : B ≠ w.heap.size := by omega
  go_enter Try.func18, Try.ntmps18
  go_wp2
  all_goals (go_ret; exact ⟨by simp_all, (Below.refl _ _).alloc (Nat.le_refl _) _⟩)

/-- Is the member at place k the first whose number is 'own'? -/
theorem own_step {l : List Mb} {k : Nat} {m : Mb} (own : Int) (h : l[k]? = some m) : ownB (l.drop k) own = (m.1 == own || ownB (l.drop (k + 1)) own) := by
  obtain ⟨hk, hm⟩ := List.getElem?_eq_some_iff.1 h
  rw [List.drop_eq_getElem_cons hk, hm]
  rfl
set_option maxHeartbeats 1000000 in
theorem indexFunc_any (A : Option Addr) (n c : Nat) (l : List Mb) (own : Int) (B B0 : Nat) (w : World) (hr : MbIn w B0 A n c l) (hB0 : B0 ≤ w.heap.size) (hB : B < w.heap.size) (hc : w.cell? ⟨B, 2, none⟩ = some (.int .i64 own)) :
    Calls Try.prog 19 #[.slice A n c, .func (.func 18) #[] #[.pointer (some ⟨B, 0, none⟩)]] w fun e w' => (∃ r : Int, e = .returned (.int .i64 r) ∧ decide (0 ≤ r) = ownB l own) ∧ Below w.heap.size w w' := by
  have hn := hr.2
  have HL := hide hr.len
  go_enter Try.func19, Try.ntmps19
  go_wp2
  go_loopw [5, 8] (fun _ i wr => ∃ k : Nat, k ≤ n ∧ i = .int .i64 k ∧ Hid (ownB l own = ownB (l.drop k) own) ∧ Below w.heap.size w wr) (fun _ i _ => n - (intOf i).toNat)
  case atStart => exact ⟨0, Nat.zero_le _, rfl, hide rfl, Below.refl _ _⟩
  case round =>
    obtain ⟨k, hk, rfl, hall, hbel⟩ := hrel
    by_cases hkn : k < n
    · obtain ⟨ad, m, rfl, hab, hm, hcs⟩ := (hr.below (hbel.mono hB0)).at_ hkn
      have hcw : wr.cell? ⟨B, 2, none⟩ = some (.int .i64 own) := (hbel.cell (p := ⟨B, 2, none⟩) hB).trans hc
      have hcall := own_any m own B wr (Nat.lt_of_lt_of_le hB hbel.size) hcw
      unfold mbV at hcall
      have HO := hide (own_step own hm)
      have HC := hide hcall
      have HS := hide hcs
      clear hcall hm hc hcw hcs
      cases hq : (m.1 == own) with
      | true =>
        have HR := hide (show decide ((0 : Int) ≤ (k : Int)) = ownB l own by rw [hall.out, HO.out, hq]; simp)
        rw [hq] at HC
        go_wp2_with (first | (refine wpList_load_at rfl 28 (.tmp 14) rfl (ad.add (k * 3)) rfl (mbC m) _ HS.out Try.underlying28 rfl mb_info ?_) | (go_at_call 18; refine HC.out.mono ?_; rintro _ w1 ⟨rfl, hb1⟩))
        go_ret
        exact ⟨⟨_, rfl, HR.out⟩, hbel.trans (hb1.mono hbel.size)⟩
      | false =>
        have HR := hide (show ownB l own = ownB (l.drop (k + 1)) own by rw [hall.out, HO.out, hq]; simp)
        rw [hq] at HC
        go_wp2_with (first | (refine wpList_load_at rfl 28 (.tmp 14) rfl (ad.add (k * 3)) rfl (mbC m) _ HS.out Try.underlying28 rfl mb_info ?_) | (go_at_call 18; refine HC.out.mono ?_; rintro _ w1 ⟨rfl, hb1⟩))
        go_roundw
        case rel => exact ⟨k + 1, by omega, by go_num, HR, hbel.trans (hb1.mono hbel.size)⟩
        case measure => simp [intOf]; omega
    · obtain rfl : k = n := by omega
      have HR := hide (show decide ((0 : Int) ≤ -1) = ownB l own by rw [hall.out, List.drop_eq_nil_of_le (by rw [HL.out]; exact Nat.le_refl _)]; rfl)
      go_wp2
      go_ret
      exact ⟨⟨_, rfl, HR.out⟩, hbel⟩
theorem contains_any (A : Option Addr) (n c : Nat) (l : List Mb) (own : Int) (B B0 : Nat) (w : World) (hr : MbIn w B0 A n c l) (hB0 : B0 ≤ w.heap.size) (hB : B < w.heap.size) (hc : w.cell? ⟨B, 2, none⟩ = some (.int .i64 own)) :
    Calls Try.prog 17 #[.slice A n c, .func (.func 18) #[] #[.pointer (some ⟨B, 0, none⟩)]] w fun e w' => e = .returned (.bool (ownB l own)) ∧ Below w.heap.size w w' := by
  go_enter Try.func17, Try.ntmps17
  go_wp2_with (go_at_call 19; refine (indexFunc_any A n c l own B B0 w hr hB0 hB hc).mono ?_; rintro _ w' ⟨⟨r, rfl, hr⟩, hb⟩)
  go_ret
  exact ⟨by rw [← hr]; rfl, hb⟩
#print axioms contains_any
end Go.Proofs.Ytjdfeidakmkchaa
