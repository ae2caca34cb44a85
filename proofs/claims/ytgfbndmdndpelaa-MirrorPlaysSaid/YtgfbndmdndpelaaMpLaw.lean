/- MirrorPlays' walk over the contracts. -/
import Derived.Test.YtgfbndmdndpelaaMirS
import Derived.Test.YtgfbndmdndpelaaMirO
import Derived.Test.YtgfbndmdndpelaaMirE
import Derived.Test.YtgfbndmdndpelaaArgOpM
import Derived.Deep.DeepCutAuto
namespace Go.Proofs.Ytgfbndmdndpelaa
open Go.RowKit
set_option linter.unusedVariables false
theorem opM_info : (Try.prog.info? 36).map (·.size) = some 7 := by kernel_rfl
theorem laidN_writes : ∀ n, (LaidN n).writes = 0
  | 0 => rfl
  | n + 1 => laidN_writes n
theorem bool_not (d : Bool) : ((!d) == d) = false := by cases d <;> rfl
set_option maxRecDepth 100000 in
set_option maxHeartbeats 8000000 in
theorem mirrorPlays_walk (K : MirK) (A : Option Addr) (n cp : Nat) (f : Nat → OpM) (w : World) (hst : OpsM w w.heap.size A n f) (hc : n ≤ cp) (hc2 : cp ≤ 9223372036854775807) :
    Calls Try.prog 3 #[.slice A n cp] w fun e w' => e = .returned (.bool true) ∧ Below w.heap.size w w' := by
  have HSH := hide (fun w => shown12_any K w)
  have HST := hide hst
  clear hst
  go_enter Try.func3, Try.ntmps3
  go_wp2_with (first
    | (go_at_call 9; refine (HSH.out w).mono ?_; rintro _ y1 ⟨rfl, hlq⟩; have HL1 := hide hlq; clear hlq)
    | (go_at_call 10; refine (laid_any y1 4 (by decide)).mono ?_; rintro _ y2 ⟨rfl, hB, hl⟩; have HB2 := hide hB; have HL2 := hide hl; clear hB hl)
    | (go_at_call 11; refine (rNew_any y2).mono ?_; rintro _ y3 ⟨rfl, hR, hl, hz⟩; have HS_y3 : Hid (Duo w y3 y1.heap.size y2.heap.size (LaidN 4) (LaidN 0) []) := hide (Duo.start HL1.out HB2.out HL2.out hR hl); clear hR hl hz))
  go_loopw [6] (fun s6 wr => ∃ i : Nat, s6 = .int .i64 (i : Int) ∧ i ≤ 4 ∧ Hid (Duo w wr y1.heap.size y2.heap.size (LaidN 4) (LaidN i) [])) (fun s6 _ => 4 - (intOf s6).toNat)
  case atStart => exact ⟨0, rfl, by decide, HS_y3⟩
  case round =>
    obtain ⟨i, rfl, hi4, HS_z3⟩ := hrel
    obtain ⟨z3, rfl⟩ : ∃ z3, z3 = wr := ⟨_, rfl⟩
    by_cases hiw : (i : Int) < 4
    · have HN := hide (show (LaidN i).n < 32 by rw [LaidN_n]; omega)
      go_wp2_with (go_at_call 12; refine (HS_z3.out.ref (R := fun e => ∃ v, e = .returned v) (fun G hB => rOn_add hB 12 (by decide) (by decide) HN.out)).mono ?_; rintro _ z4 ⟨⟨v, rfl⟩, hsq⟩; have HS_z4 : Hid (Duo w z4 y1.heap.size y2.heap.size (LaidN 4) (LaidN (i + 1)) []) := hide hsq; clear hsq)
      go_roundw
      case rel => exact ⟨i + 1, by simp, by omega, HS_z4⟩
      case measure => simp [intOf]; omega
    · obtain rfl : i = 4 := by omega
      go_wp2_with fail
      go_loopw [7] (fun s7 wr => ∃ (i : Nat) (S : Bank), s7 = .int .i64 (i : Int) ∧ i ≤ 150 ∧ Hid (S.writes ≤ 2 * i) ∧ Hid (Duo w wr y1.heap.size y2.heap.size S S [])) (fun s7 _ => 150 - (intOf s7).toNat)
      case atStart => exact ⟨0, LaidN 4, rfl, by decide, hide (by rw [laidN_writes]; decide), HS_z3⟩
      case round =>
        obtain ⟨i, S, rfl, hi150, HW, HS_z5⟩ := hrel
        obtain ⟨z5, rfl⟩ : ∃ z5, z5 = wr := ⟨_, rfl⟩
        by_cases h150 : (i : Int) < 150
        · by_cases hin : (i : Int) < (n : Int)
          · obtain ⟨ad, hA, hab, hcell⟩ := (HST.out.below HS_z5.out.low) (by omega)
            subst hA
            obtain ⟨hcl, hft⟩ := hcell i (by omega)
            have HCL := hide hcl
            have HFT := hide hft
            have HOI := hide (show (Try.prog.info? 36).map (·.size) = some (f i).cells.length from opM_info)
            clear hcell hcl hft
            go_upto_region 14 with (first
              | ((with_reducible refine at_slot 40 ?_); refine wpList_load_at rfl 36 (.tmp 39) rfl (ad.add (i * 7)) rfl (f i).cells _ HCL.out Try.underlying36 rfl HOI.out ?_)
              | (go_at_call 13; refine (does_any K HS_z5.out (by have := HW.out; omega) (f i).k (f i).n (f i).xd (f i).xk (f i).yd (f i).yk (f i).m HFT.out.1.1 HFT.out.1.2 HFT.out.2).mono ?_; rintro _ z6 ⟨rfl, S1, hsq, hfw⟩; have HS_z6 : Hid (Duo w z6 y1.heap.size y2.heap.size S1 S1 []) := hide hsq; have HW1 := hide (show S1.writes ≤ 2 * (i + 1) by have := HW.out; omega); clear hsq hfw))
            obtain ⟨la, lc, hc1, hc2', hc3⟩ := HS_z6.out.fields
            have HC1 := hide hc1
            have HC2 := hide hc2'
            have HC3 := hide hc3
            have HSd := hide (HS_z6.out.drew)
            clear hc1 hc2' hc3
            refine wp_region_held_drew (S := (fun W => W = z6.drew)) (by kernel_rfl) ?_ (fun hHeld => ?_)
            · exact rfl
            refine heldTake (i := 0) (v := ?_) rfl (by kernel_rfl) (by kernel_rfl) (by kernel_rfl) (fun _ _ _ h => h) (Or.inl ⟨by rfl, ?_⟩) (by assumption) ?_
            rotate_left
            · intro w hSw; (try dsimp only at hSw); go_simp <;> (with_reducible rfl)
            try simp only [Act.put, List.setIfInBounds_toArray, List.set_cons_zero, List.set_cons_succ]
            refine heldTake (i := 1) (v := ?_) rfl (by kernel_rfl) (by kernel_rfl) (by kernel_rfl) (fun _ _ _ h => h) (Or.inl ⟨by rfl, ?_⟩) (by assumption) ?_
            rotate_left
            · intro w hSw; (try dsimp only at hSw); go_simp <;> (with_reducible rfl)
            try simp only [Act.put, List.setIfInBounds_toArray, List.set_cons_zero, List.set_cons_succ]
            refine heldTake (i := 2) (v := ?_) rfl (by kernel_rfl) (by kernel_rfl) (by kernel_rfl) (fun _ _ _ h => h) (Or.inl ⟨by rfl, ?_⟩) (by assumption) ?_
            rotate_left
            · intro w hSw; (try dsimp only at hSw); go_simp <;> (with_reducible rfl)
            try simp only [Act.put, List.setIfInBounds_toArray, List.set_cons_zero, List.set_cons_succ]
            refine heldTake (i := 3) (v := ?_) rfl (by kernel_rfl) (by kernel_rfl) (by kernel_rfl) (fun _ _ _ h => h) (Or.inl ⟨by rfl, ?_⟩) (by assumption) ?_
            rotate_left
            · intro w hSw; (try dsimp only at hSw); go_simp <;> (with_reducible rfl)
            try simp only [Act.put, List.setIfInBounds_toArray, List.set_cons_zero, List.set_cons_succ]
            refine heldTake (i := 5) (v := ?_) rfl (by kernel_rfl) (by kernel_rfl) (by kernel_rfl) (fun _ _ _ h => h) (Or.inl ⟨by rfl, ?_⟩) (by assumption) ?_
            rotate_left
            · intro w hSw; (try dsimp only at hSw); go_simp <;> (with_reducible rfl)
            try simp only [Act.put, List.setIfInBounds_toArray, List.set_cons_zero, List.set_cons_succ]
            refine heldTake (i := 6) (v := ?_) rfl (by kernel_rfl) (by kernel_rfl) (by kernel_rfl) (fun _ _ _ h => h) (Or.inl ⟨by rfl, ?_⟩) (by assumption) ?_
            rotate_left
            · intro w hSw; (try dsimp only at hSw); go_simp <;> (with_reducible rfl)
            try simp only [Act.put, List.setIfInBounds_toArray, List.set_cons_zero, List.set_cons_succ]
            refine heldTake (i := 7) (v := ?_) rfl (by kernel_rfl) (by kernel_rfl) (by kernel_rfl) (fun _ _ _ h => h) (Or.inl ⟨by rfl, ?_⟩) (by assumption) ?_
            rotate_left
            · intro w hSw; (try dsimp only at hSw); go_simp <;> (with_reducible rfl)
            try simp only [Act.put, List.setIfInBounds_toArray, List.set_cons_zero, List.set_cons_succ]
            refine heldTake (i := 8) (v := .int .i64 (S1.writes : Int)) rfl (by kernel_rfl) (by kernel_rfl) (by kernel_rfl) (fun _ _ _ h => h) (Or.inl ⟨by rfl, fun W hW => ?_⟩) (by assumption) ?_
            · dsimp only at hW
              subst hW
              have hc : z6.drew.cell? ⟨y2.heap.size, 3, none⟩ = some (.int .i64 (S1.writes : Int)) := HC3.out
              go_simp <;> rfl
            try simp only [Act.put, List.setIfInBounds_toArray, List.set_cons_zero, List.set_cons_succ]
            refine wpAnyH_ready (rs := [4]) (by kernel_rfl) (by simp) ?_
            refine heldCons (i := 4) rfl (fun Kq hKq => ?_) AllReadyH.nil
            go_simp
            go_at_call 14
            refine (HSd.out.still (fun F hB => onI_writes hB)).mono ?_
            rintro _ _ ⟨rfl, rfl⟩
            first | (refine hKq.out _ _ rfl (fun hHeld => ?_)) | (go_wp2_with fail; refine hKq.out _ _ rfl (fun hHeld => ?_))
            clear hKq Kq
            try simp only [Act.put, List.setIfInBounds_toArray, List.set_cons_zero, List.set_cons_succ]
            refine heldTake (i := 9) (v := ?_) rfl (by kernel_rfl) (by kernel_rfl) (by kernel_rfl) (fun _ _ _ h => h) (Or.inl ⟨by rfl, ?_⟩) (by assumption) ?_
            rotate_left
            · intro w hSw; (try dsimp only at hSw); go_simp <;> (with_reducible rfl)
            try simp only [Act.put, List.setIfInBounds_toArray, List.set_cons_zero, List.set_cons_succ]
            refine heldTake (i := 10) (v := ?_) rfl (by kernel_rfl) (by kernel_rfl) (by kernel_rfl) (fun _ _ _ h => h) (Or.inl ⟨by rfl, ?_⟩) (by assumption) ?_
            rotate_left
            · intro w hSw; (try dsimp only at hSw); go_simp <;> (with_reducible rfl)
            try simp only [Act.put, List.setIfInBounds_toArray, List.set_cons_zero, List.set_cons_succ]
            refine heldTake (i := 11) (v := ?_) rfl (by kernel_rfl) (by kernel_rfl) (by kernel_rfl) (fun _ _ _ h => h) (Or.inl ⟨by rfl, ?_⟩) (by assumption) ?_
            rotate_left
            · intro w hSw; (try dsimp only at hSw); go_simp <;> (with_reducible rfl)
            try simp only [Act.put, List.setIfInBounds_toArray, List.set_cons_zero, List.set_cons_succ]
            refine heldTake (i := 12) (v := ?_) rfl (by kernel_rfl) (by kernel_rfl) (by kernel_rfl) (fun _ _ _ h => h) (Or.inl ⟨by rfl, ?_⟩) (by assumption) ?_
            rotate_left
            · intro w hSw; (try dsimp only at hSw); go_simp <;> (with_reducible rfl)
            try simp only [Act.put, List.setIfInBounds_toArray, List.set_cons_zero, List.set_cons_succ]
            refine heldTake (i := 14) (v := ?_) rfl (by kernel_rfl) (by kernel_rfl) (by kernel_rfl) (fun _ _ _ h => h) (Or.inl ⟨by rfl, ?_⟩) (by assumption) ?_
            rotate_left
            · intro w hSw; (try dsimp only at hSw); go_simp <;> (with_reducible rfl)
            try simp only [Act.put, List.setIfInBounds_toArray, List.set_cons_zero, List.set_cons_succ]
            refine heldTake (i := 15) (v := ?_) rfl (by kernel_rfl) (by kernel_rfl) (by kernel_rfl) (fun _ _ _ h => h) (Or.inl ⟨by rfl, ?_⟩) (by assumption) ?_
            rotate_left
            · intro w hSw; (try dsimp only at hSw); go_simp <;> (with_reducible rfl)
            try simp only [Act.put, List.setIfInBounds_toArray, List.set_cons_zero, List.set_cons_succ]
            refine heldTake (i := 16) (v := ?_) rfl (by kernel_rfl) (by kernel_rfl) (by kernel_rfl) (fun _ _ _ h => h) (Or.inl ⟨by rfl, ?_⟩) (by assumption) ?_
            rotate_left
            · intro w hSw; (try dsimp only at hSw); go_simp <;> (with_reducible rfl)
            try simp only [Act.put, List.setIfInBounds_toArray, List.set_cons_zero, List.set_cons_succ]
            refine heldTake (i := 17) (v := .bool S1.down) rfl (by kernel_rfl) (by kernel_rfl) (by kernel_rfl) (fun _ _ _ h => h) (Or.inl ⟨by rfl, fun W hW => ?_⟩) (by assumption) ?_
            · dsimp only at hW
              subst hW
              have hc : z6.drew.cell? ⟨y2.heap.size, 2, none⟩ = some (.bool S1.down) := HC2.out
              go_simp <;> rfl
            try simp only [Act.put, List.setIfInBounds_toArray, List.set_cons_zero, List.set_cons_succ]
            refine wpAnyH_ready (rs := [13]) (by kernel_rfl) (by simp) ?_
            refine heldCons (i := 13) rfl (fun Kq hKq => ?_) AllReadyH.nil
            go_simp
            go_at_call 15
            refine (HSd.out.still (fun F hB => on_up hB)).mono ?_
            rintro _ _ ⟨rfl, rfl⟩
            first | (refine hKq.out _ _ rfl (fun hHeld => ?_)) | (go_wp2_with fail; refine hKq.out _ _ rfl (fun hHeld => ?_))
            clear hKq Kq
            try simp only [Act.put, List.setIfInBounds_toArray, List.set_cons_zero, List.set_cons_succ]
            refine heldTake (i := 18) (v := .bool false) rfl (by kernel_rfl) (by kernel_rfl) (by kernel_rfl) (fun _ _ _ h => h) (Or.inl ⟨by rfl, fun W hW => ?_⟩) (by assumption) ?_
            · go_simp <;> (first | rfl | (cases S1.down <;> rfl))
            try simp only [Act.put, List.setIfInBounds_toArray, List.set_cons_zero, List.set_cons_succ]
            refine heldTake (i := 19) (v := ?_) rfl (by kernel_rfl) (by kernel_rfl) (by kernel_rfl) (fun _ _ _ h => h) (Or.inl ⟨by rfl, ?_⟩) (by assumption) ?_
            rotate_left
            · intro w hSw; (try dsimp only at hSw); go_simp <;> (with_reducible rfl)
            try simp only [Act.put, List.setIfInBounds_toArray, List.set_cons_zero, List.set_cons_succ]
            refine heldTake (i := 20) (v := ?_) rfl (by kernel_rfl) (by kernel_rfl) (by kernel_rfl) (fun _ _ _ h => h) (Or.inl ⟨by rfl, ?_⟩) (by assumption) ?_
            rotate_left
            · intro w hSw; (try dsimp only at hSw); go_simp <;> (with_reducible rfl)
            try simp only [Act.put, List.setIfInBounds_toArray, List.set_cons_zero, List.set_cons_succ]
            refine heldTake (i := 21) (v := ?_) rfl (by kernel_rfl) (by kernel_rfl) (by kernel_rfl) (fun _ _ _ h => h) (Or.inl ⟨by rfl, ?_⟩) (by assumption) ?_
            rotate_left
            · intro w hSw; (try dsimp only at hSw); go_simp <;> (with_reducible rfl)
            try simp only [Act.put, List.setIfInBounds_toArray, List.set_cons_zero, List.set_cons_succ]
            refine heldTake (i := 23) (v := ?_) rfl (by kernel_rfl) (by kernel_rfl) (by kernel_rfl) (fun _ _ _ h => h) (Or.inl ⟨by rfl, ?_⟩) (by assumption) ?_
            rotate_left
            · intro w hSw; (try dsimp only at hSw); go_simp <;> (with_reducible rfl)
            try simp only [Act.put, List.setIfInBounds_toArray, List.set_cons_zero, List.set_cons_succ]
            refine heldTake (i := 24) (v := ?_) rfl (by kernel_rfl) (by kernel_rfl) (by kernel_rfl) (fun _ _ _ h => h) (Or.inl ⟨by rfl, ?_⟩) (by assumption) ?_
            rotate_left
            · intro w hSw; (try dsimp only at hSw); go_simp <;> (with_reducible rfl)
            try simp only [Act.put, List.setIfInBounds_toArray, List.set_cons_zero, List.set_cons_succ]
            refine heldTake (i := 25) (v := ?_) rfl (by kernel_rfl) (by kernel_rfl) (by kernel_rfl) (fun _ _ _ h => h) (Or.inl ⟨by rfl, ?_⟩) (by assumption) ?_
            rotate_left
            · intro w hSw; (try dsimp only at hSw); go_simp <;> (with_reducible rfl)
            try simp only [Act.put, List.setIfInBounds_toArray, List.set_cons_zero, List.set_cons_succ]
            refine heldTake (i := 26) (v := .slice la S1.order.length lc) rfl (by kernel_rfl) (by kernel_rfl) (by kernel_rfl) (fun _ _ _ h => h) (Or.inl ⟨by rfl, fun W hW => ?_⟩) (by assumption) ?_
            · dsimp only at hW
              subst hW
              have hc : z6.drew.cell? ⟨y2.heap.size, 1, none⟩ = some (.slice la S1.order.length lc) := HC1.out
              go_simp <;> rfl
            try simp only [Act.put, List.setIfInBounds_toArray, List.set_cons_zero, List.set_cons_succ]
            refine heldTake (i := 27) (v := ?_) rfl (by kernel_rfl) (by kernel_rfl) (by kernel_rfl) (fun _ _ _ h => h) (Or.inl ⟨by rfl, ?_⟩) (by assumption) ?_
            rotate_left
            · intro w hSw; (try dsimp only at hSw); go_simp <;> (with_reducible rfl)
            try simp only [Act.put, List.setIfInBounds_toArray, List.set_cons_zero, List.set_cons_succ]
            refine wpAnyH_ready (rs := [22]) (by kernel_rfl) (by simp) ?_
            refine heldCons (i := 22) rfl (fun Kq hKq => ?_) AllReadyH.nil
            go_simp
            go_at_call 16
            refine (HSd.out.still (fun F hB => onI_loose hB)).mono ?_
            rintro _ _ ⟨rfl, rfl⟩
            first | (refine hKq.out _ _ rfl (fun hHeld => ?_)) | (go_wp2_with fail; refine hKq.out _ _ rfl (fun hHeld => ?_))
            clear hKq Kq
            try simp only [Act.put, List.setIfInBounds_toArray, List.set_cons_zero, List.set_cons_succ]
            refine heldTake (i := 28) (v := ?_) rfl (by kernel_rfl) (by kernel_rfl) (by kernel_rfl) (fun _ _ _ h => h) (Or.inl ⟨by rfl, ?_⟩) (by assumption) ?_
            rotate_left
            · intro w hSw; (try dsimp only at hSw); go_simp <;> (with_reducible rfl)
            try simp only [Act.put, List.setIfInBounds_toArray, List.set_cons_zero, List.set_cons_succ]
            refine heldTake (i := 29) (v := ?_) rfl (by kernel_rfl) (by kernel_rfl) (by kernel_rfl) (fun _ _ _ h => h) (Or.inl ⟨by rfl, ?_⟩) (by assumption) ?_
            rotate_left
            · intro w hSw; (try dsimp only at hSw); go_simp <;> (with_reducible rfl)
            try simp only [Act.put, List.setIfInBounds_toArray, List.set_cons_zero, List.set_cons_succ]
            refine wpAnyH_done (by kernel_rfl) ?_ _
            clear hHeld
            go_wp2_with fail
            go_loopw [9] (fun s9 wr => ∃ k : Nat, s9 = .int .i64 (k : Int) ∧ k ≤ 48 ∧ Hid (Duo w wr y1.heap.size y2.heap.size S1 S1 [])) (fun s9 _ => 48 - (intOf s9).toNat)
            case atStart => exact ⟨0, rfl, by decide, HSd⟩
            case round =>
              obtain ⟨k, rfl, hk48, HS_z7⟩ := hrel
              obtain ⟨z7, rfl⟩ : ∃ z7, z7 = wr := ⟨_, rfl⟩
              by_cases hkw : (k : Int) < 48
              · obtain ⟨s, hs⟩ : ∃ s, S1.readS (k / 12) (k % 12) = s := ⟨_, rfl⟩
                obtain ⟨e, he⟩ : ∃ e, S1.place (k / 12) (k % 12) = e := ⟨_, rfl⟩
                have HSE := hide (And.intro hs he)
                clear hs he
                go_wp2_with (first
                  | (go_at_call 17; (with_reducible refine (HS_z7.out.read (di := (k : Int) / 12) (ki := (k : Int) % 12) (d := k / 12) (k := k % 12) (div12 k) (mod12 k)).mono ?_); rintro _ y41 ⟨rfl, hsq⟩; rw [HSE.out.1, HSE.out.2]; have HS_y41 : Hid (Duo w y41 y1.heap.size y2.heap.size S1 S1 []) := hide (hsq); clear hsq)
                  | ((with_reducible refine at_slot 10 ?_); refine wpList_alloc_blk rfl 43 rfl _ (sec_zero _) ?_; intro y42 hbq hl1 hs1; clear hs1)
                  | ((with_reducible refine at_store 10 ?_); refine wpList_store_all rfl 43 (.tmp 10) (.tmp 84) rfl y41.heap.size 43 _ hbq rfl (secL s) rfl (msec_size _) (msec_len _ _) (secL_one _) ?_; intro y43 hbz hg hs; have HS_y43 : Hid (Duo w y43 y1.heap.size y2.heap.size S1 S1 [(y41.heap.size, 43, secL s)]) := hide (HS_y41.out.new hl1 hg hbz); clear hs hbq hl1 hg hbz)
                  | (go_at_call 18; (with_reducible refine (HS_y43.out.rread (di := (k : Int) / 12) (ki := (k : Int) % 12) (d := k / 12) (k := k % 12) (div12 k) (mod12 k)).mono ?_); rintro _ y44 ⟨rfl, hsq⟩; rw [HSE.out.1, HSE.out.2]; have HS_y44 : Hid (Duo w y44 y1.heap.size y2.heap.size S1 S1 [(y41.heap.size, 43, secL s)]) := hide (hsq); clear hsq)
                  | ((with_reducible refine at_slot 12 ?_); refine wpList_alloc_blk rfl 43 rfl _ (sec_zero _) ?_; intro y45 hbq hl1 hs1; clear hs1)
                  | ((with_reducible refine at_store 12 ?_); refine wpList_store_all rfl 43 (.tmp 12) (.tmp 94) rfl y44.heap.size 43 _ hbq rfl (secL s) rfl (msec_size _) (msec_len _ _) (secL_one _) ?_; intro y46 hbz hg hs; have HS_y46 : Hid (Duo w y46 y1.heap.size y2.heap.size S1 S1 [(y41.heap.size, 43, secL s), (y44.heap.size, 43, secL s)]) := hide (HS_y44.out.new hl1 hg hbz); clear hs hbq hl1 hg hbz)
                  | ((with_reducible refine at_slot 96 ?_); refine when_own rfl (.tmp 10) rfl HS_y46.out.own 0 rfl rfl Try.underlying43 rfl (msec_size _) ?_)
                  | ((with_reducible refine at_slot 97 ?_); refine when_own rfl (.tmp 12) rfl HS_y46.out.own 1 rfl rfl Try.underlying43 rfl (msec_size _) ?_)
                  | ((with_reducible refine at_slot 98 ?_); refine when_neS rfl (.tmp 96) (.tmp 97) _ rfl s s rfl rfl false (by simp) ?_))
                go_roundw
                case rel => exact ⟨k + 1, by simp, by omega, hide (HS_y46.out.cut 0)⟩
                case measure => simp [intOf]; omega
              · obtain rfl : k = 48 := by omega
                go_wp2_with fail
                go_roundw
                case rel => exact ⟨i + 1, S1, by simp, by omega, HW1, HS_z7⟩
                case measure => simp [intOf]; omega
          · go_wp2_with fail
            go_ret
            exact ⟨rfl, HS_z5.out.low⟩
        · by_cases hin : (i : Int) < (n : Int)
          · go_wp2_with fail
            go_ret
            exact ⟨rfl, HS_z5.out.low⟩
          · go_wp2_with fail
            go_ret
            exact ⟨rfl, HS_z5.out.low⟩
#print axioms mirrorPlays_walk
end Go.Proofs.Ytgfbndmdndpelaa
