/- What Disks of the reference's map answers. -/
import Derived.Test.YtmaiikmgpeafkabDoorRefOn
import Derived.Test.YtmaiikmgpeafkabDoorDiskP
import Derived.Test.YtmaiikmgpeafkabDoorTwoRows
namespace Go.Proofs.YtmaiikmgpeafkabDoor
open Go.RowKit

theorem refInt_parts : (Tryd.prog.info? 3).map (fun i => (i.zero, i.size, i.bytes)) = some (some (.int .i64 0), 1, 8) := by kernel_rfl
theorem I64_upto {l : List Int} {n : Nat} {x : Int} (h : l[n]? = some x) : I64 (l.take (n + 1)) = I64 (l.take n) ++ [.int .i64 x] := by
  rw [List.take_add_one, h]
  simp [I64]
section
variable {w : World} {r : Nat} {vm : Value} {vt : Nat → Value} {S : Ext}
set_option maxRecDepth 100000 in
set_option maxHeartbeats 4000000 in
theorem refDisks_any (h : RefE w r vm vt S) (hok : S.Ok) :
    Calls Tryd.prog 26 #[.pointer (some ⟨r, 0, none⟩)] w fun e w' => ∃ v, e = .returned v ∧ w'.ownsRow w.heap.size 3 1 v S.ks.length (I64 (disksE S)) ∧ Below w.heap.size w w' := by
  obtain ⟨i1, hj0, hj1, hj2, hj3⟩ := info_parts refInt_parts
  have HJ0 := hide hj0
  have HJ1 := hide hj1
  have HJ2 := hide hj2
  have HJ3 := hide hj3
  have HH := hide h
  have HOK := hide hok
  have hf := hok.few
  have hr0 := h.foot_lt r (.inl rfl)
  clear hj0 hj1 hj2 hj3 h hok
  obtain ⟨N, hN⟩ : ∃ N, N = S.ks.length := ⟨_, rfl⟩
  have HN := hide hN
  rw [← hN] at hf ⊢
  clear hN
  have hl0 : Below w.heap.size w (w.alloc (.cells #[] 3)) := (Below.refl _ w).alloc (Nat.le_refl _) _
  have HL0 := hide hl0
  have HR0 : Hid ((w.alloc (.cells #[] 3)).ownsRow w.heap.size 3 1 (.slice (some ⟨w.heap.size, 0, none⟩) 0 0) 0 (I64 ((disksE S).take 0))) := hide (World.ownsRow_made w #[] 0 (Nat.le_refl _) (Nat.zero_le _) rfl)
  clear hl0
  go_enter Tryd.func26, Tryd.ntmps26
  go_wp2_with fail
  go_loopw [3, 4, 5] (fun out la a wx => ∃ (n : Nat) (z : Int), n ≤ N ∧ a = .int .i64 (n : Int) ∧ la = .int .i64 z ∧ -1 ≤ z ∧ z < 9223372036854775808 ∧ Hid ((n = 0 ∧ z = -1) ∨ (∃ k, n = k + 1 ∧ (disksE S)[k]? = some z)) ∧ Hid (wx.ownsRow w.heap.size 3 1 out n (I64 ((disksE S).take n))) ∧ Hid (Below w.heap.size w wx)) (fun _ _ a _ => N - (intOf a).toNat)
  case atStart => exact ⟨0, -1, Nat.zero_le _, rfl, rfl, by omega, by omega, hide (.inl ⟨rfl, rfl⟩), HR0, HL0⟩
  case round =>
    obtain ⟨n, z, hn, rfl, rfl, hz1, hz2, HZ, HR, HL⟩ := hrel
    clear HR0 HL0
    have HE := hide (HH.out.later HL.out)
    have k0 := HE.out.c0
    obtain ⟨A, c, hvm, hlc, hcm⟩ := own_shape HE.out.row
    rw [hvm, ← HN.out] at k0
    obtain ⟨Ao, co, rfl, hlo, hco⟩ := own_shape HR.out
    by_cases hnN : n < N
    · have hnn : (n : Int) < (N : Int) := by omega
      obtain ⟨x, hx⟩ : ∃ x, (disksE S)[n]? = some x := ⟨_, List.getElem?_eq_getElem (by rw [disksE_length, ← HN.out]; exact hnN)⟩
      have HX := hide hx
      have HB := hide (disksE_best HOK.out HZ.out hx)
      clear hx
      go_wp2_with fail
      go_loop [6, 7] (fun b a => ∃ (i : Nat) (bz : Int), i ≤ N ∧ a = .int .i64 (i : Int) ∧ b = .int .i64 bz ∧ -1 ≤ bz ∧ bz < 9223372036854775808 ∧ Hid (IsBest z (S.ks.take i) bz)) (fun _ a => N - (intOf a).toNat)
      case atStart => exact ⟨0, -1, Nat.zero_le _, rfl, rfl, by omega, by omega, hide (IsBest.nil_ z)⟩
      case round =>
        obtain ⟨i, bz, hi, rfl, rfl, hb1, hb2, HI⟩ := hrel
        by_cases hiN : i < N
        · have hii : (i : Int) < (N : Int) := by omega
          obtain ⟨d, hd⟩ : ∃ d, S.ks[i]? = some d := ⟨_, List.getElem?_eq_getElem (by rw [← HN.out]; exact hiN)⟩
          have hdlt := HOK.out.lt d (List.mem_iff_getElem?.2 ⟨i, hd⟩)
          obtain ⟨ad, c', hv, _, _, hc0, _⟩ := HE.out.cell hd
          rw [hvm] at hv
          injection hv with hA _ hcc
          subst hA
          subst hcc
          have HI2 : Hid (IsBest z (S.ks.take (i + 1)) (stepE z bz d)) := hide (by
            have := HI.out.snoc d
            rw [List.take_add_one, hd]
            exact this)
          clear hd
          by_cases hzd : z < (d : Int)
          · by_cases hbn : bz < 0
            · have e1 : decide (z < (d : Int)) = true := by simpa using hzd
              have e2 : decide (bz < 0) = true := by simpa using hbn
              have HS : Hid (stepE z bz d = (d : Int)) := hide (by unfold stepE; rw [if_pos ⟨hzd, .inl hbn⟩])
              go_wp2_with fail
              go_round
              case rel => exact ⟨i + 1, (d : Int), by omega, by go_num, rfl, by omega, by omega, by rw [HS.out] at HI2; exact HI2⟩
              case measure => simp [intOf]; omega
            · have e1 : decide (z < (d : Int)) = true := by simpa using hzd
              have e2 : decide (bz < 0) = false := by simpa using hbn
              by_cases hdb : (d : Int) < bz
              · have e3 : decide ((d : Int) < bz) = true := by simpa using hdb
                have HS : Hid (stepE z bz d = (d : Int)) := hide (by unfold stepE; rw [if_pos ⟨hzd, .inr hdb⟩])
                go_wp2_with fail
                go_round
                case rel => exact ⟨i + 1, (d : Int), by omega, by go_num, rfl, by omega, by omega, by rw [HS.out] at HI2; exact HI2⟩
                case measure => simp [intOf]; omega
              · have e3 : decide ((d : Int) < bz) = false := by simpa using hdb
                have HS : Hid (stepE z bz d = bz) := hide (by unfold stepE; rw [if_neg (by rintro ⟨_, h | h⟩ <;> omega)])
                go_wp2_with fail
                go_round
                case rel => exact ⟨i + 1, bz, by omega, by go_num, rfl, by omega, by omega, by rw [HS.out] at HI2; exact HI2⟩
                case measure => simp [intOf]; omega
          · have e1 : decide (z < (d : Int)) = false := by simpa using hzd
            have HS : Hid (stepE z bz d = bz) := hide (by unfold stepE; rw [if_neg (by rintro ⟨h, _⟩; omega)])
            go_wp2_with fail
            go_round
            case rel => exact ⟨i + 1, bz, by omega, by go_num, rfl, by omega, by omega, by rw [HS.out] at HI2; exact HI2⟩
            case measure => simp [intOf]; omega
        · have hii : ¬ ((i : Int) < (N : Int)) := by omega
          have hbx : bz = x := by
            have h := HI.out
            have hiN2 : i = S.ks.length := by have := HN.out; omega
            rw [hiN2, List.take_length] at h
            exact h.uniq HB.out
          subst hbx
          have hzw := HL.out.size
          go_wp2_with (first
            | (at_builtin; refine wpList_append_two _ rfl (.tmp 62) (.tmp 64) _ rfl w.heap.size 3 i1 _ 1 8 Tryd.underlying55 HJ0.out HJ1.out HJ2.out HJ3.out rfl (by decide) _ n _ rfl (HR.out.alloc _) (wr.heap.size + 1) (some ⟨wr.heap.size, 0, none⟩) 1 1 [.int .i64 bz] rfl (Reads.lump wr [.int .i64 bz] 3 (wr.heap.size + 1) 1 (by omega) rfl) (by intro u hu; simp at hu; subst hu; rfl) (by unfold maxLen; omega) (by omega) (le_alloc hzw _) ?_; intro h7 w7 hown7 hg7 hb7))
          have hla : Below wr.heap.size wr (wr.alloc (.cells #[.int .i64 bz] 3)) := (Below.refl _ wr).alloc (Nat.le_refl _) _
          have hza : (wr.alloc (.cells #[.int .i64 bz] 3)).heap.size = wr.heap.size + 1 := World.size_alloc _ _
          have hL7 := (HL.out.trans (hla.mono HL.out.size)).grown hg7 (by omega) (fun g e => (World.ownsRow.lt HR.out g e).1)
          have HR7 : Hid (w7.ownsRow w.heap.size 3 1 h7 (n + 1) (I64 ((disksE S).take (n + 1)))) := hide (by rw [I64_upto HX.out]; exact hown7)
          have HL7 := hide hL7
          clear hla hza hL7 hown7 hg7 hb7
          go_wp2_with fail
          go_roundw
          case rel => exact ⟨n + 1, bz, by omega, by go_num, rfl, hb1, hb2, hide (.inr ⟨n, rfl, HX.out⟩), HR7, HL7⟩
          case measure => simp [intOf]; omega
    · have hnn : ¬ ((n : Int) < (N : Int)) := by omega
      have hR : wr.ownsRow w.heap.size 3 1 (.slice Ao n co) N (I64 (disksE S)) := by
        have h := HR.out
        have e1 : n = N := by omega
        rw [List.take_of_length_le (by rw [disksE_length, ← HN.out]; omega)] at h
        subst e1
        exact h
      have HRN := hide hR
      clear hR
      go_wp2_with fail
      go_ret
      exact ⟨_, rfl, HRN.out, HL.out⟩
end
#print axioms refDisks_any
end Go.Proofs.YtmaiikmgpeafkabDoor
