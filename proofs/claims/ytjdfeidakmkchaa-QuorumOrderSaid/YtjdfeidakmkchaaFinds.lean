/- slices.IndexFunc and slices.ContainsFunc of labels and members, by the closures of Choose, missingOf and Lost. -/
import Derived.Test.YtjdfeidakmkchaaAlike
namespace Go.Proofs.Ytjdfeidakmkchaa
open Go.RowKit

set_option maxHeartbeats 1000000 in
theorem index_other (A : Option Addr) (n c : Nat) (L : List LabV) (N : LabV) (g : Nat) (B0 : Nat) (w : World) (hr : LbIn w B0 A n c L) (hB0 : B0 ≤ w.heap.size) (hN : Blk w g 24 (lvC N).toArray) (hNm : LvIn w B0 N) :
    Calls Try.prog 36 #[.slice A n c, .func (.func 27) #[] #[.pointer (some ⟨g, 0, none⟩)]] w fun e w' => e = .returned (.int .i64 (idxI (fun y : LabV => anotherB N.1 y.1) L)) ∧ Below w.heap.size w w' := by
  have hn := hr.le
  have hn2 := hr.cap
  have HL := hide hr.len
  go_enter Try.func36, Try.ntmps36
  go_wp2
  go_loopw [5, 8] (fun _ i wr => ∃ k : Nat, k ≤ n ∧ i = .int .i64 k ∧ Hid (NoneYet (fun y : LabV => anotherB N.1 y.1) L k) ∧ Below w.heap.size w wr) (fun _ i _ => n - (intOf i).toNat)
  case atStart => exact ⟨0, Nat.zero_le _, rfl, hide NoneYet.zero, Below.refl _ _⟩
  case round =>
    obtain ⟨k, hk, rfl, hall, hbel⟩ := hrel
    by_cases hkn : k < n
    · obtain ⟨ad, x, rfl, hab, hx, hlv, hcs⟩ := (hr.below (hbel.mono hB0)).at_ hkn
      have hcall := other_any x N g B0 wr hlv (Nat.le_trans hB0 hbel.size) (hN.below hbel hN.lt) (hNm.below (hbel.mono hB0))
      have HC := hide hcall
      have HS := hide hcs
      have HX := hide hx
      clear hcall hcs hx
      cases hq : (fun y : LabV => anotherB N.1 y.1) x with
      | true =>
        have HR := hide (idx_found hall.out HX.out hq)
        have HC2 : Hid (Calls Try.prog 27 #[.agg (lvC x).toArray, .pointer (some ⟨g, 0, none⟩)] wr fun e w' => e = .returned (.bool true) ∧ Below wr.heap.size wr w') := hide (HC.out.mono (fun e w' h => ⟨by rw [h.1, ← hq], h.2⟩))
        clear HC hq
        go_wp2_with (first | (refine wpList_load_at rfl 24 (.tmp 14) rfl (ad.add (k * 5)) rfl (lvC x) _ HS.out Try.underlying24 rfl lab_info ?_) | (go_at_call 27; refine HC2.out.mono ?_; rintro _ w1 ⟨rfl, hb1⟩))
        go_ret
        exact ⟨ret_of HR.out.symm, hbel.trans (hb1.mono hbel.size)⟩
      | false =>
        have HR := hide (hall.out.succ HX.out hq)
        have HC2 : Hid (Calls Try.prog 27 #[.agg (lvC x).toArray, .pointer (some ⟨g, 0, none⟩)] wr fun e w' => e = .returned (.bool false) ∧ Below wr.heap.size wr w') := hide (HC.out.mono (fun e w' h => ⟨by rw [h.1, ← hq], h.2⟩))
        clear HC hq
        go_wp2_with (first | (refine wpList_load_at rfl 24 (.tmp 14) rfl (ad.add (k * 5)) rfl (lvC x) _ HS.out Try.underlying24 rfl lab_info ?_) | (go_at_call 27; refine HC2.out.mono ?_; rintro _ w1 ⟨rfl, hb1⟩))
        go_roundw
        case rel => exact ⟨k + 1, by omega, by go_num, HR, hbel.trans (hb1.mono hbel.size)⟩
        case measure => simp [intOf]; omega
    · obtain rfl : k = n := by omega
      have HR := hide (idx_none (p := (fun y : LabV => anotherB N.1 y.1)) (by rw [HL.out]; exact hall.out))
      go_wp2
      go_ret
      exact ⟨ret_of HR.out.symm, hbel⟩
theorem contains_other (A : Option Addr) (n c : Nat) (L : List LabV) (N : LabV) (g : Nat) (B0 : Nat) (w : World) (hr : LbIn w B0 A n c L) (hB0 : B0 ≤ w.heap.size) (hN : Blk w g 24 (lvC N).toArray) (hNm : LvIn w B0 N) :
    Calls Try.prog 29 #[.slice A n c, .func (.func 27) #[] #[.pointer (some ⟨g, 0, none⟩)]] w fun e w' => e = .returned (.bool (L.any (fun y : LabV => anotherB N.1 y.1))) ∧ Below w.heap.size w w' := by
  have HI := hide (index_other A n c L N g B0 w hr hB0 hN hNm)
  rw [← idx_any]
  obtain ⟨r, hr⟩ : ∃ r, r = idxI (fun y : LabV => anotherB N.1 y.1) L := ⟨_, rfl⟩
  rw [← hr] at HI ⊢
  clear hr
  go_enter Try.func29, Try.ntmps29
  go_wp2_with (go_at_call 36; refine HI.out.mono ?_; rintro _ w' ⟨rfl, hb⟩)
  go_ret
  exact ⟨rfl, hb⟩
set_option maxHeartbeats 1000000 in
theorem index_ofIt (A : Option Addr) (n c : Nat) (L : List LabV) (K : Lab) (id : Int) (g gm : Nat) (B0 : Nat) (w : World) (hr : LbIn w B0 A n c L) (hB0 : B0 ≤ w.heap.size) (hg : g < w.heap.size) (hgm : gm < w.heap.size) (h0 : w.cell? ⟨g, 0, none⟩ = some (.int .i64 K.array)) (h1 : w.cell? ⟨gm, 0, none⟩ = some (.int .i64 id)) :
    Calls Try.prog 36 #[.slice A n c, .func (.func 37) #[] #[.pointer (some ⟨g, 0, none⟩), .pointer (some ⟨gm, 0, none⟩)]] w fun e w' => e = .returned (.int .i64 (idxI (fun y : LabV => ofItB K id y.1) L)) ∧ Below w.heap.size w w' := by
  have hn := hr.le
  have hn2 := hr.cap
  have HL := hide hr.len
  go_enter Try.func36, Try.ntmps36
  go_wp2
  go_loopw [5, 8] (fun _ i wr => ∃ k : Nat, k ≤ n ∧ i = .int .i64 k ∧ Hid (NoneYet (fun y : LabV => ofItB K id y.1) L k) ∧ Below w.heap.size w wr) (fun _ i _ => n - (intOf i).toNat)
  case atStart => exact ⟨0, Nat.zero_le _, rfl, hide NoneYet.zero, Below.refl _ _⟩
  case round =>
    obtain ⟨k, hk, rfl, hall, hbel⟩ := hrel
    by_cases hkn : k < n
    · obtain ⟨ad, x, rfl, hab, hx, hlv, hcs⟩ := (hr.below (hbel.mono hB0)).at_ hkn
      have hcall := ofIt_any x K id g gm wr (Nat.lt_of_lt_of_le hg hbel.size) (Nat.lt_of_lt_of_le hgm hbel.size) ((hbel.cell (p := ⟨g, 0, none⟩) hg).trans h0) ((hbel.cell (p := ⟨gm, 0, none⟩) hgm).trans h1)
      have HC := hide hcall
      have HS := hide hcs
      have HX := hide hx
      clear hcall hcs hx
      cases hq : (fun y : LabV => ofItB K id y.1) x with
      | true =>
        have HR := hide (idx_found hall.out HX.out hq)
        have HC2 : Hid (Calls Try.prog 37 #[.agg (lvC x).toArray, .pointer (some ⟨g, 0, none⟩), .pointer (some ⟨gm, 0, none⟩)] wr fun e w' => e = .returned (.bool true) ∧ Below wr.heap.size wr w') := hide (HC.out.mono (fun e w' h => ⟨by rw [h.1, ← hq], h.2⟩))
        clear HC hq
        go_wp2_with (first | (refine wpList_load_at rfl 24 (.tmp 14) rfl (ad.add (k * 5)) rfl (lvC x) _ HS.out Try.underlying24 rfl lab_info ?_) | (go_at_call 37; refine HC2.out.mono ?_; rintro _ w1 ⟨rfl, hb1⟩))
        go_ret
        exact ⟨ret_of HR.out.symm, hbel.trans (hb1.mono hbel.size)⟩
      | false =>
        have HR := hide (hall.out.succ HX.out hq)
        have HC2 : Hid (Calls Try.prog 37 #[.agg (lvC x).toArray, .pointer (some ⟨g, 0, none⟩), .pointer (some ⟨gm, 0, none⟩)] wr fun e w' => e = .returned (.bool false) ∧ Below wr.heap.size wr w') := hide (HC.out.mono (fun e w' h => ⟨by rw [h.1, ← hq], h.2⟩))
        clear HC hq
        go_wp2_with (first | (refine wpList_load_at rfl 24 (.tmp 14) rfl (ad.add (k * 5)) rfl (lvC x) _ HS.out Try.underlying24 rfl lab_info ?_) | (go_at_call 37; refine HC2.out.mono ?_; rintro _ w1 ⟨rfl, hb1⟩))
        go_roundw
        case rel => exact ⟨k + 1, by omega, by go_num, HR, hbel.trans (hb1.mono hbel.size)⟩
        case measure => simp [intOf]; omega
    · obtain rfl : k = n := by omega
      have HR := hide (idx_none (p := (fun y : LabV => ofItB K id y.1)) (by rw [HL.out]; exact hall.out))
      go_wp2
      go_ret
      exact ⟨ret_of HR.out.symm, hbel⟩
theorem contains_ofIt (A : Option Addr) (n c : Nat) (L : List LabV) (K : Lab) (id : Int) (g gm : Nat) (B0 : Nat) (w : World) (hr : LbIn w B0 A n c L) (hB0 : B0 ≤ w.heap.size) (hg : g < w.heap.size) (hgm : gm < w.heap.size) (h0 : w.cell? ⟨g, 0, none⟩ = some (.int .i64 K.array)) (h1 : w.cell? ⟨gm, 0, none⟩ = some (.int .i64 id)) :
    Calls Try.prog 29 #[.slice A n c, .func (.func 37) #[] #[.pointer (some ⟨g, 0, none⟩), .pointer (some ⟨gm, 0, none⟩)]] w fun e w' => e = .returned (.bool (L.any (fun y : LabV => ofItB K id y.1))) ∧ Below w.heap.size w w' := by
  have HI := hide (index_ofIt A n c L K id g gm B0 w hr hB0 hg hgm h0 h1)
  rw [← idx_any]
  obtain ⟨r, hr⟩ : ∃ r, r = idxI (fun y : LabV => ofItB K id y.1) L := ⟨_, rfl⟩
  rw [← hr] at HI ⊢
  clear hr
  go_enter Try.func29, Try.ntmps29
  go_wp2_with (go_at_call 36; refine HI.out.mono ?_; rintro _ w' ⟨rfl, hb⟩)
  go_ret
  exact ⟨rfl, hb⟩
set_option maxHeartbeats 1000000 in
theorem index_id (A : Option Addr) (n c : Nat) (L : List Mb) (id : Int) (g : Nat) (B0 : Nat) (w : World) (hr : MbIn w B0 A n c L) (hB0 : B0 ≤ w.heap.size) (hg : g < w.heap.size) (h1 : w.cell? ⟨g, 0, none⟩ = some (.int .i64 id)) :
    Calls Try.prog 19 #[.slice A n c, .func (.func 20) #[] #[.pointer (some ⟨g, 0, none⟩)]] w fun e w' => e = .returned (.int .i64 (idxI (fun y : Mb => y.1 == id) L)) ∧ Below w.heap.size w w' := by
  have hn := hr.2
  have HL := hide hr.len
  go_enter Try.func19, Try.ntmps19
  go_wp2
  go_loopw [5, 8] (fun _ i wr => ∃ k : Nat, k ≤ n ∧ i = .int .i64 k ∧ Hid (NoneYet (fun y : Mb => y.1 == id) L k) ∧ Below w.heap.size w wr) (fun _ i _ => n - (intOf i).toNat)
  case atStart => exact ⟨0, Nat.zero_le _, rfl, hide NoneYet.zero, Below.refl _ _⟩
  case round =>
    obtain ⟨k, hk, rfl, hall, hbel⟩ := hrel
    by_cases hkn : k < n
    · obtain ⟨ad, x, rfl, hab, hx, hcs⟩ := (hr.below (hbel.mono hB0)).at_ hkn
      have hcall := idIs_any x id g wr (Nat.lt_of_lt_of_le hg hbel.size) ((hbel.cell (p := ⟨g, 0, none⟩) hg).trans h1)
      have HC := hide hcall
      have HS := hide hcs
      have HX := hide hx
      clear hcall hcs hx
      cases hq : (fun y : Mb => y.1 == id) x with
      | true =>
        have HR := hide (idx_found hall.out HX.out hq)
        have HC2 : Hid (Calls Try.prog 20 #[.agg (mbC x).toArray, .pointer (some ⟨g, 0, none⟩)] wr fun e w' => e = .returned (.bool true) ∧ Below wr.heap.size wr w') := hide (HC.out.mono (fun e w' h => ⟨by rw [h.1, ← hq], h.2⟩))
        clear HC hq
        go_wp2_with (first | (refine wpList_load_at rfl 28 (.tmp 14) rfl (ad.add (k * 3)) rfl (mbC x) _ HS.out Try.underlying28 rfl mb_info ?_) | (go_at_call 20; refine HC2.out.mono ?_; rintro _ w1 ⟨rfl, hb1⟩))
        go_ret
        exact ⟨ret_of HR.out.symm, hbel.trans (hb1.mono hbel.size)⟩
      | false =>
        have HR := hide (hall.out.succ HX.out hq)
        have HC2 : Hid (Calls Try.prog 20 #[.agg (mbC x).toArray, .pointer (some ⟨g, 0, none⟩)] wr fun e w' => e = .returned (.bool false) ∧ Below wr.heap.size wr w') := hide (HC.out.mono (fun e w' h => ⟨by rw [h.1, ← hq], h.2⟩))
        clear HC hq
        go_wp2_with (first | (refine wpList_load_at rfl 28 (.tmp 14) rfl (ad.add (k * 3)) rfl (mbC x) _ HS.out Try.underlying28 rfl mb_info ?_) | (go_at_call 20; refine HC2.out.mono ?_; rintro _ w1 ⟨rfl, hb1⟩))
        go_roundw
        case rel => exact ⟨k + 1, by omega, by go_num, HR, hbel.trans (hb1.mono hbel.size)⟩
        case measure => simp [intOf]; omega
    · obtain rfl : k = n := by omega
      have HR := hide (idx_none (p := (fun y : Mb => y.1 == id)) (by rw [HL.out]; exact hall.out))
      go_wp2
      go_ret
      exact ⟨ret_of HR.out.symm, hbel⟩
set_option maxHeartbeats 1000000 in
theorem index_failed (A : Option Addr) (n c : Nat) (L : List Mb)  (B0 : Nat) (w : World) (hr : MbIn w B0 A n c L) (hB0 : B0 ≤ w.heap.size)  :
    Calls Try.prog 19 #[.slice A n c, .func (.func 21) #[] #[]] w fun e w' => e = .returned (.int .i64 (idxI (fun y : Mb => y.2.2 == 1) L)) ∧ Below w.heap.size w w' := by
  have hn := hr.2
  have HL := hide hr.len
  go_enter Try.func19, Try.ntmps19
  go_wp2
  go_loopw [5, 8] (fun _ i wr => ∃ k : Nat, k ≤ n ∧ i = .int .i64 k ∧ Hid (NoneYet (fun y : Mb => y.2.2 == 1) L k) ∧ Below w.heap.size w wr) (fun _ i _ => n - (intOf i).toNat)
  case atStart => exact ⟨0, Nat.zero_le _, rfl, hide NoneYet.zero, Below.refl _ _⟩
  case round =>
    obtain ⟨k, hk, rfl, hall, hbel⟩ := hrel
    by_cases hkn : k < n
    · obtain ⟨ad, x, rfl, hab, hx, hcs⟩ := (hr.below (hbel.mono hB0)).at_ hkn
      have hcall := isFailed_any x wr
      have HC := hide hcall
      have HS := hide hcs
      have HX := hide hx
      clear hcall hcs hx
      cases hq : (fun y : Mb => y.2.2 == 1) x with
      | true =>
        have HR := hide (idx_found hall.out HX.out hq)
        have HC2 : Hid (Calls Try.prog 21 #[.agg (mbC x).toArray] wr fun e w' => e = .returned (.bool true) ∧ Below wr.heap.size wr w') := hide (HC.out.mono (fun e w' h => ⟨by rw [h.1, ← hq], h.2⟩))
        clear HC hq
        go_wp2_with (first | (refine wpList_load_at rfl 28 (.tmp 14) rfl (ad.add (k * 3)) rfl (mbC x) _ HS.out Try.underlying28 rfl mb_info ?_) | (go_at_call 21; refine HC2.out.mono ?_; rintro _ w1 ⟨rfl, hb1⟩))
        go_ret
        exact ⟨ret_of HR.out.symm, hbel.trans (hb1.mono hbel.size)⟩
      | false =>
        have HR := hide (hall.out.succ HX.out hq)
        have HC2 : Hid (Calls Try.prog 21 #[.agg (mbC x).toArray] wr fun e w' => e = .returned (.bool false) ∧ Below wr.heap.size wr w') := hide (HC.out.mono (fun e w' h => ⟨by rw [h.1, ← hq], h.2⟩))
        clear HC hq
        go_wp2_with (first | (refine wpList_load_at rfl 28 (.tmp 14) rfl (ad.add (k * 3)) rfl (mbC x) _ HS.out Try.underlying28 rfl mb_info ?_) | (go_at_call 21; refine HC2.out.mono ?_; rintro _ w1 ⟨rfl, hb1⟩))
        go_roundw
        case rel => exact ⟨k + 1, by omega, by go_num, HR, hbel.trans (hb1.mono hbel.size)⟩
        case measure => simp [intOf]; omega
    · obtain rfl : k = n := by omega
      have HR := hide (idx_none (p := (fun y : Mb => y.2.2 == 1)) (by rw [HL.out]; exact hall.out))
      go_wp2
      go_ret
      exact ⟨ret_of HR.out.symm, hbel⟩
theorem contains_failed (A : Option Addr) (n c : Nat) (L : List Mb)  (B0 : Nat) (w : World) (hr : MbIn w B0 A n c L) (hB0 : B0 ≤ w.heap.size)  :
    Calls Try.prog 17 #[.slice A n c, .func (.func 21) #[] #[]] w fun e w' => e = .returned (.bool (L.any (fun y : Mb => y.2.2 == 1))) ∧ Below w.heap.size w w' := by
  have HI := hide (index_failed A n c L B0 w hr hB0)
  rw [← idx_any]
  obtain ⟨r, hr⟩ : ∃ r, r = idxI (fun y : Mb => y.2.2 == 1) L := ⟨_, rfl⟩
  rw [← hr] at HI ⊢
  clear hr
  go_enter Try.func17, Try.ntmps17
  go_wp2_with (go_at_call 19; refine HI.out.mono ?_; rintro _ w' ⟨rfl, hb⟩)
  go_ret
  exact ⟨rfl, hb⟩
#print axioms contains_other
#print axioms contains_ofIt
#print axioms index_id
#print axioms contains_failed
end Go.Proofs.Ytjdfeidakmkchaa
