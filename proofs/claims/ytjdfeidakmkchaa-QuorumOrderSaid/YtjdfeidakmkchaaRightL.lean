/- What label.rightMembers and label.Right answer, over whatever label comes in. -/
import Derived.Test.YtjdfeidakmkchaaRight
import Derived.Test.YtjdfeidakmkchaaWhenQ
namespace Go.Proofs.Ytjdfeidakmkchaa
open Go.RowKit

theorem rising_step {l : List Mb} {k : Nat} {m : Mb} (last : Int) (h : l[k]? = some m) : risingB last (l.drop k) = (inB m.1 (last + 1) 31 && memberB m && risingB m.1 (l.drop (k + 1))) := by
  obtain ⟨hk, hm⟩ := List.getElem?_eq_some_iff.1 h
  rw [List.drop_eq_getElem_cons hk, hm]
  rfl
theorem rising_end {l : List Mb} {n : Nat} (last : Int) (h : l.length = n) : risingB last (l.drop n) = true := by
  rw [List.drop_eq_nil_of_le (by omega)]
  rfl
set_option maxRecDepth 100000 in
set_option maxHeartbeats 2000000 in
theorem rightMembers_any (A : Option Addr) (n c : Nat) (l : List Mb) (B0 : Nat) (w : World) (hr : MbIn w B0 A n c l) (hB0 : B0 ≤ w.heap.size) :
    Calls Try.prog 16 #[.slice A n c] w fun e w' => e = .returned (.bool (membersB l)) ∧ Below w.heap.size w w' := by
  have hn := hr.2
  have HL := hide hr.len
  cases h0 : inB (n : Int) 3 12 with
  | false =>
    have H := hide (show membersB l = false by rw [membersB, HL.out, h0]; rfl)
    rw [H.out]
    go_enter Try.func16, Try.ntmps16
    go_wp2_with (go_at_call 15; refine (within_any _ _ _ _).mono ?_; rintro e w' ⟨rfl, rfl⟩)
    go_ret
    exact ⟨rfl, Below.refl _ _⟩
  | true =>
    have H := hide (show membersB l = risingB (-1) l by rw [membersB, HL.out, h0]; rfl)
    have hn12 := hide (inB_iff.1 h0)
    rw [H.out]
    go_enter Try.func16, Try.ntmps16
    go_wp2_with (go_at_call 15; refine (within_any _ _ _ _).mono ?_; rintro e w' ⟨rfl, rfl⟩)
    go_loopw [3, 5, 12] (fun s3 _ i wr => ∃ (k : Nat) (last : Int), k ≤ n ∧ i = .int .i64 k ∧ s3 = .int .i64 last ∧ -1 ≤ last ∧ last ≤ 31 ∧ Hid (risingB (-1) l = risingB last (l.drop k)) ∧ Below w.heap.size w wr) (fun _ _ i _ => n - (intOf i).toNat)
    case atStart => exact ⟨0, -1, Nat.zero_le _, rfl, rfl, by omega, by omega, hide rfl, Below.refl _ _⟩
    case round =>
      obtain ⟨k, last, hk, rfl, rfl, hl1, hl2, hall, hbel⟩ := hrel
      by_cases hkn : k < n
      · obtain ⟨ad, m, rfl, hab, hm, hcs⟩ := (hr.below (hbel.mono hB0)).at_ hkn
        have HO := hide (rising_step last hm)
        have HS := hide hcs
        have HW := hide (rightMember_any m)
        clear hm hcs
        have hsz := hbel.size
        cases hq : inB m.1 (last + 1) 31 with
        | false =>
          have HR := hide (show risingB (-1) l = false by rw [hall.out, HO.out, hq]; rfl)
          go_wp2_with (first | (refine wpList_load_at rfl 28 (.tmp 14) rfl (ad.add (k * 3)) rfl (mbC m) _ HS.out Try.underlying28 rfl mb_info ?_; unfold mbC) | (go_at_call 15; refine (within_any _ _ _ _).mono ?_; rintro e w' ⟨rfl, rfl⟩))
          go_ret
          exact ⟨ret_b HR.out.symm, (hbel.alloc hbel.size _)⟩
        | true =>
          have hq2 := inB_iff.1 hq
          cases hp : memberB m with
          | false =>
            have HR := hide (show risingB (-1) l = false by rw [hall.out, HO.out, hq, hp]; rfl)
            rw [hp] at HW
            unfold mbV at HW
            go_wp2_with (first | (refine wpList_load_at rfl 28 (.tmp 14) rfl (ad.add (k * 3)) rfl (mbC m) _ HS.out Try.underlying28 rfl mb_info ?_; unfold mbC) | (go_at_call 15; refine (within_any _ _ _ _).mono ?_; rintro e w' ⟨rfl, rfl⟩) | (go_at_call 32; refine (HW.out _).mono ?_; rintro e w1 ⟨rfl, hb1⟩))
            go_ret
            exact ⟨ret_b HR.out.symm, (hbel.alloc hbel.size _).trans (hb1.mono (by rw [World.size_alloc]; omega))⟩
          | true =>
            have HR := hide (show risingB (-1) l = risingB m.1 (l.drop (k + 1)) by rw [hall.out, HO.out, hq, hp]; rfl)
            rw [hp] at HW
            unfold mbV at HW
            go_wp2_with (first | (refine wpList_load_at rfl 28 (.tmp 14) rfl (ad.add (k * 3)) rfl (mbC m) _ HS.out Try.underlying28 rfl mb_info ?_; unfold mbC) | (go_at_call 15; refine (within_any _ _ _ _).mono ?_; rintro e w' ⟨rfl, rfl⟩) | (go_at_call 32; refine (HW.out _).mono ?_; rintro e w1 ⟨rfl, hb1⟩; have hx1 := hb1.cell (p := ⟨wr.heap.size, 0, none⟩) (by rw [World.size_alloc]; exact Nat.lt_succ_self _)))
            go_roundw
            case rel => exact ⟨k + 1, m.1, by omega, by go_num, rfl, by omega, by omega, HR, (hbel.alloc hbel.size _).trans (hb1.mono (by rw [World.size_alloc]; omega))⟩
            case measure => simp [intOf]; omega
      · obtain rfl : k = n := by omega
        have HR := hide (show risingB (-1) l = true by rw [hall.out, rising_end last HL.out])
        go_wp2
        go_ret
        exact ⟨ret_b HR.out.symm, hbel⟩
set_option maxRecDepth 100000 in
set_option maxHeartbeats 2000000 in
/-- A label comes in: its members' slice is read below block B0. -/
theorem right_any (l : Lab) (A : Option Addr) (n c : Nat) (B0 : Nat) (w : World) (hr : MbIn w B0 A n c l.members) (hB0 : B0 ≤ w.heap.size) :
    Calls Try.prog 10 #[labV l A n c] w fun e w' => e = .returned (.bool (rightB l)) ∧ Below w.heap.size w w' := by
  unfold labV
  have hmf : ∀ (fn : Fn) (first cap : Array Value) (w : World), (Instr.makeFunc fn first cap).run Try.prog w = .ok (.func fn first cap) w := fun _ _ _ _ => rfl
  have hW : ∀ v a c (w : World), Calls Try.prog 15 #[.int .i64 v, .int .i64 a, .int .i64 c] w fun e w' => e = .returned (.bool (inB v a c)) ∧ w = w' := within_any
  have HW := hide hW
  clear hW
  have hba : ∀ o, Below w.heap.size w (w.alloc o) := fun o => (Below.refl _ _).alloc (Nat.le_refl _) o
  have hM : ∀ o, Calls Try.prog 16 #[.slice A n c] (w.alloc o) fun e w' => e = .returned (.bool (membersB l.members)) ∧ Below (w.alloc o).heap.size (w.alloc o) w' := fun o =>
    rightMembers_any A n c l.members B0 (w.alloc o) (hr.below ((hba o).mono hB0)) (by rw [World.size_alloc]; omega)
  have HM := hide hM
  clear hM
  cases h1 : inB l.array 0 4294967295 with
  | false =>
    have HR := hide (show rightB l = false by simp [rightB, h1])
    rw [HR.out]
    go_enter Try.func10, Try.ntmps10
    go_wp2_with (go_at_call 15; refine (HW.out _ _ _ _).mono ?_; rintro e w' ⟨rfl, rfl⟩)
    go_ret
    exact ⟨rfl, hba _⟩
  | true =>
    cases h2 : inB l.gen 1 4294967295 with
    | false =>
      have HR := hide (show rightB l = false by simp [rightB, h2])
      rw [HR.out]
      go_enter Try.func10, Try.ntmps10
      go_wp2_with (go_at_call 15; refine (HW.out _ _ _ _).mono ?_; rintro e w' ⟨rfl, rfl⟩)
      go_ret
      exact ⟨rfl, hba _⟩
    | true =>
      cases h3 : inB l.blocks 1 96 with
      | false =>
        have HR := hide (show rightB l = false by simp [rightB, h3])
        rw [HR.out]
        go_enter Try.func10, Try.ntmps10
        go_wp2_with (go_at_call 15; refine (HW.out _ _ _ _).mono ?_; rintro e w' ⟨rfl, rfl⟩)
        go_ret
        exact ⟨rfl, hba _⟩
      | true =>
        cases h4 : membersB l.members with
        | false =>
          rw [h4] at HM
          have HR := hide (show rightB l = false by simp [rightB, h4])
          rw [HR.out]
          go_enter Try.func10, Try.ntmps10
          go_wp2_with (first | (go_at_call 15; refine (HW.out _ _ _ _).mono ?_; rintro e w' ⟨rfl, rfl⟩) | (go_at_call 16; refine (HM.out _).mono ?_; rintro e w1 ⟨rfl, hb1⟩))
          go_ret
          exact ⟨rfl, (hba _).trans (hb1.mono (by rw [World.size_alloc]; omega))⟩
        | true =>
          rw [h4] at HM
          have HR := hide (show rightB l = ownB l.members l.member by simp [rightB, h1, h2, h3, h4])
          rw [HR.out]
          have HRR := hide hr
          clear hr
          go_enter Try.func10, Try.ntmps10
          go_wp2_with (first | (go_at_call 15; refine (HW.out _ _ _ _).mono ?_; rintro e w' ⟨rfl, rfl⟩) | (go_at_call 16; refine (HM.out _).mono ?_; rintro e w1 ⟨rfl, hb1⟩; have hbw := (hba _).trans (hb1.mono (by rw [World.size_alloc]; omega)); have hx4 := hb1.cell (p := ⟨w.heap.size, 4, none⟩) (by rw [World.size_alloc]; exact Nat.lt_succ_self _); have hx2 := hb1.cell (p := ⟨w.heap.size, 2, none⟩) (by rw [World.size_alloc]; exact Nat.lt_succ_self _)) | (go_at_call 17; refine (contains_any A n c l.members l.member w.heap.size B0 w1 (HRR.out.below (hbw.mono hB0)) (by have := hbw.size; omega) (by have := hb1.size; rw [World.size_alloc] at this; omega) (by rw [hx2]; simp)).mono ?_; rintro e w2 ⟨rfl, hb2⟩))
          go_ret
          exact ⟨rfl, hbw.trans (hb2.mono hbw.size)⟩
#print axioms right_any
end Go.Proofs.Ytjdfeidakmkchaa
