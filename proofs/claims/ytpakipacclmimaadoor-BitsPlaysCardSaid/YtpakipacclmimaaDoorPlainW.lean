/- What the reference's calls that write or make memory do; and Clone of the program's own map. -/
import Derived.Test.YtpakipacclmimaaDoorPlain
import Derived.Deep.RegionHeld3
namespace Go.Proofs.YtpakipacclmimaaDoor
open Go.RowKit

section
variable {B p c n : Nat} {A : Option Addr} {t : Nat → Bool} {w : World}
theorem rset {g : Nat} (hm : RefAt w B p (some ⟨g, 0, none⟩) c n t) (i : Nat) (v : Bool) : RefAt (w.setCell ⟨g, i, none⟩ (.bool v)) B p (some ⟨g, 0, none⟩) c n (put t i v) := by
  have hne := own_blk_ne hm.row hm.blk (by decide)
  have h2 := (hm.row.stored i (.bool v)).1
  rw [BL_set] at h2
  exact ⟨hm.blk.far (p := ⟨g, i, none⟩) (fun e => hne (by rw [e]; rfl)) _, h2, hm.le, hm.low⟩
theorem rtakeAt_any (i : Int) (hm : RefAt w B p A c n t) :
    Calls Tryd.prog 28 #[.pointer (some ⟨p, 0, none⟩), .int .i64 i] w fun e w' => e = .returned (.int .i64 (setCode n t i true)) ∧ RefAt w' B p A c n (setMap n t i true) ∧ w.grownBy w' (Value.slice A n c).ownBlock := by
  have h0 := hm.cell0
  have hl := hm.le
  rcases Int.lt_or_le i 0 with h | h
  · rw [setCode, setMap, inB_below h]
    have hd : decide (i < (0 : Int)) = true := by simpa using h
    go_enter Tryd.func28, Tryd.ntmps28
    go_wp2
    go_ret
    exact ⟨rfl, hm, grown_refl _ _⟩
  · obtain ⟨i, rfl⟩ := Int.eq_ofNat_of_zero_le h
    by_cases hi : i < n
    · have hd : decide (n ≤ i) = false := by simpa using hi
      have HI : Hid (inB n (i : Int) = true) := inB_nat hi
      obtain ⟨g, rfl⟩ := own_at hm.row (by omega)
      have hc := (hm.row.cellAt i (by omega)).trans (BL_at n t hi)
      have hf := hm.row.frozenAt i
      cases ht : t i
      · have HT := hide ht
        rw [ht] at hc
        clear ht
        go_enter Tryd.func28, Tryd.ntmps28
        go_wp2
        go_ret
        refine ⟨by rw [setCode, HI.out, Int.toNat_natCast, HT.out]; rfl, ?_, ?_⟩
        · rw [setMap, HI.out, Int.toNat_natCast]
          exact rset hm i true
        · exact grown_set (grown_refl _ _) _ rfl _
      · have HT := hide ht
        rw [ht] at hc
        clear ht
        go_enter Tryd.func28, Tryd.ntmps28
        go_wp2
        go_ret
        refine ⟨by rw [setCode, HI.out, Int.toNat_natCast, HT.out]; rfl, ?_, grown_refl _ _⟩
        rw [setMap, HI.out, Int.toNat_natCast, if_pos rfl, put_same HT.out]
        exact hm
    · rw [setCode, setMap, inB_above (by omega)]
      have hd : decide (n ≤ i) = true := by simpa using hi
      go_enter Tryd.func28, Tryd.ntmps28
      go_wp2
      go_ret
      exact ⟨rfl, hm, grown_refl _ _⟩
theorem rfree_any (i : Int) (hm : RefAt w B p A c n t) :
    Calls Tryd.prog 29 #[.pointer (some ⟨p, 0, none⟩), .int .i64 i] w fun e w' => e = .returned (.int .i64 (setCode n t i false)) ∧ RefAt w' B p A c n (setMap n t i false) ∧ w.grownBy w' (Value.slice A n c).ownBlock := by
  have h0 := hm.cell0
  have hl := hm.le
  rcases Int.lt_or_le i 0 with h | h
  · rw [setCode, setMap, inB_below h]
    have hd : decide (i < (0 : Int)) = true := by simpa using h
    go_enter Tryd.func29, Tryd.ntmps29
    go_wp2
    go_ret
    exact ⟨rfl, hm, grown_refl _ _⟩
  · obtain ⟨i, rfl⟩ := Int.eq_ofNat_of_zero_le h
    by_cases hi : i < n
    · have hd : decide (n ≤ i) = false := by simpa using hi
      have HI : Hid (inB n (i : Int) = true) := inB_nat hi
      obtain ⟨g, rfl⟩ := own_at hm.row (by omega)
      have hc := (hm.row.cellAt i (by omega)).trans (BL_at n t hi)
      have hf := hm.row.frozenAt i
      cases ht : t i
      · have HT := hide ht
        rw [ht] at hc
        clear ht
        go_enter Tryd.func29, Tryd.ntmps29
        go_wp2
        go_ret
        refine ⟨by rw [setCode, HI.out, Int.toNat_natCast, HT.out]; rfl, ?_, grown_refl _ _⟩
        rw [setMap, HI.out, Int.toNat_natCast, if_pos rfl, put_same HT.out]
        exact hm
      · have HT := hide ht
        rw [ht] at hc
        clear ht
        go_enter Tryd.func29, Tryd.ntmps29
        go_wp2
        go_ret
        refine ⟨by rw [setCode, HI.out, Int.toNat_natCast, HT.out]; rfl, ?_, ?_⟩
        · rw [setMap, HI.out, Int.toNat_natCast]
          exact rset hm i false
        · exact grown_set (grown_refl _ _) _ rfl _
    · rw [setCode, setMap, inB_above (by omega)]
      have hd : decide (n ≤ i) = true := by simpa using hi
      go_enter Tryd.func29, Tryd.ntmps29
      go_wp2
      go_ret
      exact ⟨rfl, hm, grown_refl _ _⟩

theorem rtake_any (hm : RefAt w B p A c n t) :
    Calls Tryd.prog 32 #[.pointer (some ⟨p, 0, none⟩)] w fun e w' =>
      ∃ (k : Nat) (ok : Bool), e = .returned (.tuple #[.int .i64 (k : Int), .bool ok]) ∧ NextIs t n 0 k ok ∧ RefAt w' B p A c n (if ok then put t k true else t) ∧ w.grownBy w' (Value.slice A n c).ownBlock := by
  have h0 := hm.cell0
  have hl := hm.le
  go_enter Tryd.func32, Tryd.ntmps32
  go_wp2_with fail
  refine (rnext_any 0 hm).mono ?_
  rintro e w1 ⟨⟨k, ok, rfl, hN⟩, rfl⟩
  have HN := hide hN
  clear hN
  cases ok
  · go_wp2_with fail
    go_ret2
    exact ⟨k, false, rfl, HN.out, hm, grown_refl _ _⟩
  · have hkn : k < n := by
      rcases HN.out with ⟨_, _, h, _⟩ | ⟨h, _⟩
      · exact h
      · cases h
    obtain ⟨g, rfl⟩ := own_at hm.row (by omega)
    have hc := (hm.row.cellAt k (by omega)).trans (BL_at n t hkn)
    have hf := hm.row.frozenAt k
    go_wp2_with fail
    go_ret2
    exact ⟨k, true, rfl, HN.out, rset hm k true, grown_set (grown_refl _ _) _ rfl _⟩
end

/-- What a call that makes a reference's map answers. -/
def RefAns (w : World) (n : Nat) (t : Nat → Bool) (e : Ending) (w' : World) : Prop :=
  ∃ p A c, e = .returned (.pointer (some ⟨p, 0, none⟩)) ∧ RefAt w' w.heap.size p A c n t ∧ Below w.heap.size w w'
section
variable {w : World}
theorem rnew_made (n : Nat) (hn : n ≤ 65536) : RefAt ((w.alloc (.cells (BL n (fun _ => false)).toArray 4)).alloc (.cells #[.slice (some ⟨w.heap.size, 0, none⟩) n n] 41)) w.heap.size (w.alloc (.cells (BL n (fun _ => false)).toArray 4)).heap.size (some ⟨w.heap.size, 0, none⟩) n n (fun _ => false) := by
  have hlit := World.ownsRow_lit (base := w.heap.size) (e := 4) (size := 1) w (BL n (fun _ => false)).toArray n (Nat.le_refl _) (by unfold maxLen; omega) (by simp [BL_length])
  exact ⟨Blk.new _ _ _, World.ownsRow.alloc (by simpa using hlit) _, hn, by rw [World.size_alloc]; omega⟩
theorem rnew_core (ni : Int) (n : Nat) (hn : clamp ni = n) (w : World) :
    Calls Tryd.prog 11 #[.int .i64 ni] w (RefAns w n (fun _ => false)) := by
  obtain ⟨i0, hi0, hz0, hz1, hz2⟩ := info_parts bool_info
  have hn6 : n ≤ 65536 := by unfold clamp at hn; omega
  have hmk : (Instr.makeSlice 39 (.int .i64 (n : Int)) (.int .i64 (n : Int))).run Tryd.prog w = .ok (.slice (some ⟨w.heap.size, 0, none⟩) n n) (w.alloc (.cells (BL n (fun _ => false)).toArray 4)) :=
    run_make_list w _ _ i0 _ Tryd.underlying39 hi0 hz0 hz1 rfl n _ (BL_none n) (by rw [hz2]; omega) (by omega)
  have FIN := hide (rnew_made (w := w) n hn6)
  have FB : Hid (Below w.heap.size w ((w.alloc (.cells (BL n (fun _ => false)).toArray 4)).alloc (.cells #[.slice (some ⟨w.heap.size, 0, none⟩) n n] 41))) :=
    ((Below.refl _ _).alloc (Nat.le_refl _) _).alloc (le_alloc (Nat.le_refl _) _) _
  obtain ⟨wm, hwm⟩ : ∃ wm, wm = w.alloc (.cells (BL n (fun _ => false)).toArray 4) := ⟨_, rfl⟩
  rw [← hwm] at hmk FIN FB
  clear hwm
  unfold clamp at hn
  rcases Int.lt_or_le ni 0 with h | h
  · have h0 : n = 0 := by omega
    subst h0
    have hmk0 : (Instr.makeSlice 39 (.int .i64 0) (.int .i64 0)).run Tryd.prog w = .ok (.slice (some ⟨w.heap.size, 0, none⟩) 0 0) wm := hmk
    have hd : decide (ni < (0 : Int)) = true := by simpa using h
    clear hn hmk
    go_enter Tryd.func11, Tryd.ntmps11
    go_wp2_with fail
    go_ret
    exact ⟨_, _, _, rfl, FIN.out, FB.out⟩
  have hd : decide (ni < (0 : Int)) = false := by simp; omega
  by_cases h2 : ni ≤ 65536
  · obtain ⟨k, rfl⟩ := Int.eq_ofNat_of_zero_le h
    have h0 : n = k := by omega
    subst h0
    have hd2 : decide ((65536 : Int) < (n : Int)) = false := by simp; omega
    clear hn
    go_enter Tryd.func11, Tryd.ntmps11
    go_wp2_with fail
    go_ret
    exact ⟨_, _, _, rfl, FIN.out, FB.out⟩
  · have h0 : n = 65536 := by omega
    subst h0
    have hmk0 : (Instr.makeSlice 39 (.int .i64 65536) (.int .i64 65536)).run Tryd.prog w = .ok (.slice (some ⟨w.heap.size, 0, none⟩) 65536 65536) wm := hmk
    have hd2 : decide ((65536 : Int) < ni) = true := by simp; omega
    clear hn hmk
    go_enter Tryd.func11, Tryd.ntmps11
    go_wp2_with fail
    go_ret
    exact ⟨_, _, _, rfl, FIN.out, FB.out⟩
theorem rnew_any (ni : Int) (w : World) : Calls Tryd.prog 11 #[.int .i64 ni] w (RefAns w (clamp ni) (fun _ => false)) := rnew_core ni _ rfl w
end
#print axioms rnew_any
#print axioms rtake_any
end Go.Proofs.YtpakipacclmimaaDoor
