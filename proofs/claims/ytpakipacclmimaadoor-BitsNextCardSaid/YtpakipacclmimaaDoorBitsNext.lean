/- BitsNext holds: for every number that a length is made of, every row of places to take and every place to begin at, what Next tells is the least free place from there on, or that there is none; no condition besides the card's own: math/bits.deBruijn64tab is as its initialiser lays it. -/
import Derived.Test.YtpakipacclmimaaDoorLaid
import Derived.Test.YtpakipacclmimaaDoorCards
import Derived.Test.YtpakipacclmimaaDoorTie
import Derived.Deep.DeepCutAuto
import Derived.Deep.CutBlock
namespace Go.Proofs.YtpakipacclmimaaDoor.BitsNext
open Go.ChangeShapes Go.WideShapes Go.ChangeAt Go.RowKit
set_option linter.unusedVariables false
set_option maxRecDepth 100000 in
set_option maxHeartbeats 4000000 in
theorem walk_neg (n fi : Int) (fr : Nat) (A : Option Addr) (nt c : Nat) (l : List Int) (w : World) (hT : Tab w) (hr : Reads w w.heap.size 1 A nt (I64 l)) (hnt : nt ≤ 9223372036854775807)
    (hfi : fi.toNat = fr) (hmx : fi ≤ 9223372036854775807) (hs : fi < 0) :
    Calls Tryd.prog 7 #[.int .i64 n, .slice A nt c, .int .i64 fi] w fun e w' => e = .returned (.bool true) ∧ Below w.heap.size w w' := by
  obtain ⟨M, N, hmask, hrem, hrem2, hN, hcl⟩ := mask_law n
  have HCL := hide hcl
  have HFI := hide hfi
  have hpos := hT.pos
  clear hcl hfi
  have hd : decide ((0 : Int) ≤ fi) = false := by simp; omega
  have h0 : fr = 0 := by have := HFI.out; omega
  go_enter Tryd.func7, Tryd.ntmps7
  go_wp2_with fail
  refine (shown_any w hT).mono ?_
  rintro e w1 ⟨rfl, hb1⟩
  have hT1 := hT.later hb1
  go_wp2_with fail
  refine (new_any N w1).mono ?_
  rintro e w2 ⟨rfl, hm2, hb2⟩
  rw [HCL.out] at hm2
  have hT2 := hT1.later hb2
  have hbel2 : Below w.heap.size w w2 := hb1.trans (hb2.mono hb1.size)
  obtain ⟨b, hbb⟩ : ∃ b, b = w1.heap.size := ⟨_, rfl⟩
  rw [← hbb] at hm2 ⊢
  have HB : Hid (w.heap.size ≤ b) := by show _ ≤ _; rw [hbb]; exact hb1.size
  have HB0 : Hid (some 0 ≠ some b) := by show _ ≠ _; intro h; injection h with h; have := HB.out; omega
  clear hbb hb1 hb2 hT1 hmask hrem hrem2
  go_upto_block 0 with fail
  go_cut [9] (fun _ wx => ∃ t : Nat → Bool, MapAt wx b N t ∧ Below w.heap.size w wx ∧ Tab wx)
  case first =>
    go_wp2_with fail
    go_loopw [9] (fun a wr => ∃ (k : Nat) (t : Nat → Bool), k ≤ nt ∧ k ≤ 500 ∧ a = .int .i64 (k : Int) ∧ MapAt wr b N t ∧ Below w.heap.size w wr ∧ Tab wr) (fun a _ => 500 - (intOf a).toNat)
    case atStart => exact ⟨0, _, by omega, by omega, rfl, hm2, hbel2, hT2⟩
    case round =>
      obtain ⟨k, t, hk, hk5, rfl, hm, hbel, hTr⟩ := hrel
      by_cases h1 : k < nt
      · by_cases h2 : k < 500
        · obtain ⟨ad, x, rfl, hab, hx, hc⟩ := (hr.below hbel).i64_at h1
          clear hx
          go_wp2_with fail
          refine (takeAt_any x hm).mono ?_
          rintro e w3 ⟨rfl, hm3, hg3⟩
          have hb3 := below_of hbel hg3 hbel.size (fun k hk => by cases hk; exact HB.out)
          have hT3 := hTr.grown hg3 HB0.out
          go_wp2_with fail
          go_roundw
          case rel => exact ⟨k + 1, _, by omega, by omega, by go_num, hm3, hb3, hT3⟩
          case measure => simp [intOf]; omega
        · have hd5 : decide ((k : Int) < 500) = false := by simp; omega
          go_wp2_with fail
          go_meet
          exact ⟨t, hm, hbel, hTr⟩
      · have hd5 : decide (k < nt) = false := by simpa using h1
        go_wp2_with fail
        go_meet
        exact ⟨t, hm, hbel, hTr⟩
  case rest =>
      obtain ⟨t, hm, hbel, hTr⟩ := hcut
      go_wp2_with fail
      refine (next_any fi hm hTr).mono ?_
      rintro e w3 ⟨⟨kn, ok, rfl, hNI⟩, rfl⟩
      rw [HFI.out] at hNI
      cases ok
      · have HALL : Hid (∀ i, fr ≤ i → i < N → t i = true) := by
          rcases hNI with ⟨h, _⟩ | ⟨_, _, h⟩
          · cases h
          · exact h
        clear hNI
        go_wp2_with fail
        go_loopw [12] (fun a wr => ∃ j : Nat, fr ≤ j ∧ a = .int .i64 (j : Int) ∧ MapAt wr b N t ∧ Below w.heap.size w wr) (fun a _ => N - (intOf a).toNat)
        case atStart => exact ⟨0, by omega, rfl, hm, hbel⟩
        case round =>
          obtain ⟨j, hj, rfl, hmj, hbj⟩ := hrel
          by_cases hlt : j < N
          · have HJ : Hid (t j = true) := HALL.out j hj hlt
            go_wp2_with fail
            refine (has_in j hmj (by omega)).mono ?_
            rintro e wj ⟨rfl, q, rfl⟩
            rw [HJ.out]
            go_wp2_with fail
            go_roundw
            case rel => exact ⟨j + 1, by omega, by go_num, hmj.drewN q, below_drewN hbj q⟩
            case measure => simp [intOf]; omega
          · go_wp2_with fail
            go_ret
            exact ⟨rfl, hbj⟩
      · have hkn1 : fr ≤ kn := by
          rcases hNI with ⟨_, h, _⟩ | ⟨h, _⟩
          · exact h
          · cases h
        have hkn2 : kn < N := by
          rcases hNI with ⟨_, _, h, _⟩ | ⟨h, _⟩
          · exact h
          · cases h
        have HKN : Hid (t kn = false) := by
          rcases hNI with ⟨_, _, _, h, _⟩ | ⟨h, _⟩
          · exact h
          · cases h
        have HALL : Hid (∀ i, fr ≤ i → i < kn → t i = true) := by
          rcases hNI with ⟨_, _, _, _, h⟩ | ⟨h, _⟩
          · exact h
          · cases h
        clear hNI
        have hd6 : decide (N ≤ kn) = false := by simpa using hkn2
        have hd7 : decide ((kn : Int) < fi) = false := by simp; omega
        go_wp2_with fail
        refine (has_in kn hm hkn2).mono ?_
        rintro e w4 ⟨rfl, q4, rfl⟩
        rw [HKN.out]
        go_wp2_with fail
        go_loopw [12] (fun a wr => ∃ j : Nat, fr ≤ j ∧ a = .int .i64 (j : Int) ∧ MapAt wr b N t ∧ Below w.heap.size w wr) (fun a _ => N - (intOf a).toNat)
        case atStart => exact ⟨0, by omega, rfl, hm.drewN q4, below_drewN hbel q4⟩
        case round =>
          obtain ⟨j, hj, rfl, hmj, hbj⟩ := hrel
          by_cases hlt : j < kn
          · have HJ : Hid (t j = true) := HALL.out j hj hlt
            go_wp2_with fail
            refine (has_in j hmj (by omega)).mono ?_
            rintro e wj ⟨rfl, q, rfl⟩
            rw [HJ.out]
            go_wp2_with fail
            go_roundw
            case rel => exact ⟨j + 1, by omega, by go_num, hmj.drewN q, below_drewN hbj q⟩
            case measure => simp [intOf]; omega
          · go_wp2_with fail
            go_ret
            exact ⟨rfl, hbj⟩
set_option maxRecDepth 100000 in
set_option maxHeartbeats 4000000 in
theorem walk_pos (n fi : Int) (fr : Nat) (A : Option Addr) (nt c : Nat) (l : List Int) (w : World) (hT : Tab w) (hr : Reads w w.heap.size 1 A nt (I64 l)) (hnt : nt ≤ 9223372036854775807)
    (hfi : fi.toNat = fr) (hmx : fi ≤ 9223372036854775807) (hs : 0 ≤ fi) :
    Calls Tryd.prog 7 #[.int .i64 n, .slice A nt c, .int .i64 fi] w fun e w' => e = .returned (.bool true) ∧ Below w.heap.size w w' := by
  obtain ⟨M, N, hmask, hrem, hrem2, hN, hcl⟩ := mask_law n
  have HCL := hide hcl
  have HFI := hide hfi
  have hpos := hT.pos
  clear hcl hfi
  obtain rfl : fi = (fr : Int) := by have := HFI.out; omega
  have HF0 : fr ≤ 9223372036854775807 := by omega
  go_enter Tryd.func7, Tryd.ntmps7
  go_wp2_with fail
  refine (shown_any w hT).mono ?_
  rintro e w1 ⟨rfl, hb1⟩
  have hT1 := hT.later hb1
  go_wp2_with fail
  refine (new_any N w1).mono ?_
  rintro e w2 ⟨rfl, hm2, hb2⟩
  rw [HCL.out] at hm2
  have hT2 := hT1.later hb2
  have hbel2 : Below w.heap.size w w2 := hb1.trans (hb2.mono hb1.size)
  obtain ⟨b, hbb⟩ : ∃ b, b = w1.heap.size := ⟨_, rfl⟩
  rw [← hbb] at hm2 ⊢
  have HB : Hid (w.heap.size ≤ b) := by show _ ≤ _; rw [hbb]; exact hb1.size
  have HB0 : Hid (some 0 ≠ some b) := by show _ ≠ _; intro h; injection h with h; have := HB.out; omega
  clear hbb hb1 hb2 hT1 hmask hrem hrem2
  go_upto_block 0 with fail
  go_cut [9] (fun _ wx => ∃ t : Nat → Bool, MapAt wx b N t ∧ Below w.heap.size w wx ∧ Tab wx)
  case first =>
    go_wp2_with fail
    go_loopw [9] (fun a wr => ∃ (k : Nat) (t : Nat → Bool), k ≤ nt ∧ k ≤ 500 ∧ a = .int .i64 (k : Int) ∧ MapAt wr b N t ∧ Below w.heap.size w wr ∧ Tab wr) (fun a _ => 500 - (intOf a).toNat)
    case atStart => exact ⟨0, _, by omega, by omega, rfl, hm2, hbel2, hT2⟩
    case round =>
      obtain ⟨k, t, hk, hk5, rfl, hm, hbel, hTr⟩ := hrel
      by_cases h1 : k < nt
      · by_cases h2 : k < 500
        · obtain ⟨ad, x, rfl, hab, hx, hc⟩ := (hr.below hbel).i64_at h1
          clear hx
          go_wp2_with fail
          refine (takeAt_any x hm).mono ?_
          rintro e w3 ⟨rfl, hm3, hg3⟩
          have hb3 := below_of hbel hg3 hbel.size (fun k hk => by cases hk; exact HB.out)
          have hT3 := hTr.grown hg3 HB0.out
          go_wp2_with fail
          go_roundw
          case rel => exact ⟨k + 1, _, by omega, by omega, by go_num, hm3, hb3, hT3⟩
          case measure => simp [intOf]; omega
        · have hd5 : decide ((k : Int) < 500) = false := by simp; omega
          go_wp2_with fail
          go_meet
          exact ⟨t, hm, hbel, hTr⟩
      · have hd5 : decide (k < nt) = false := by simpa using h1
        go_wp2_with fail
        go_meet
        exact ⟨t, hm, hbel, hTr⟩
  case rest =>
      obtain ⟨t, hm, hbel, hTr⟩ := hcut
      go_wp2_with fail
      refine (next_any (fr : Int) hm hTr).mono ?_
      rintro e w3 ⟨⟨kn, ok, rfl, hNI⟩, rfl⟩
      rw [HFI.out] at hNI
      cases ok
      · have HALL : Hid (∀ i, fr ≤ i → i < N → t i = true) := by
          rcases hNI with ⟨h, _⟩ | ⟨_, _, h⟩
          · cases h
          · exact h
        clear hNI
        go_wp2_with fail
        go_loopw [12] (fun a wr => ∃ j : Nat, fr ≤ j ∧ a = .int .i64 (j : Int) ∧ MapAt wr b N t ∧ Below w.heap.size w wr) (fun a _ => N - (intOf a).toNat)
        case atStart => exact ⟨fr, by omega, rfl, hm, hbel⟩
        case round =>
          obtain ⟨j, hj, rfl, hmj, hbj⟩ := hrel
          by_cases hlt : j < N
          · have HJ : Hid (t j = true) := HALL.out j hj hlt
            go_wp2_with fail
            refine (has_in j hmj (by omega)).mono ?_
            rintro e wj ⟨rfl, q, rfl⟩
            rw [HJ.out]
            go_wp2_with fail
            go_roundw
            case rel => exact ⟨j + 1, by omega, by go_num, hmj.drewN q, below_drewN hbj q⟩
            case measure => simp [intOf]; omega
          · go_wp2_with fail
            go_ret
            exact ⟨rfl, hbj⟩
      · have hkn1 : fr ≤ kn := by
          rcases hNI with ⟨_, h, _⟩ | ⟨h, _⟩
          · exact h
          · cases h
        have hkn2 : kn < N := by
          rcases hNI with ⟨_, _, h, _⟩ | ⟨h, _⟩
          · exact h
          · cases h
        have HKN : Hid (t kn = false) := by
          rcases hNI with ⟨_, _, _, h, _⟩ | ⟨h, _⟩
          · exact h
          · cases h
        have HALL : Hid (∀ i, fr ≤ i → i < kn → t i = true) := by
          rcases hNI with ⟨_, _, _, _, h⟩ | ⟨h, _⟩
          · exact h
          · cases h
        clear hNI
        have hd6 : decide (N ≤ kn) = false := by simpa using hkn2
        have hd7 : decide (kn < fr) = false := by simpa using hkn1
        go_wp2_with fail
        refine (has_in kn hm hkn2).mono ?_
        rintro e w4 ⟨rfl, q4, rfl⟩
        rw [HKN.out]
        go_wp2_with fail
        go_loopw [12] (fun a wr => ∃ j : Nat, fr ≤ j ∧ a = .int .i64 (j : Int) ∧ MapAt wr b N t ∧ Below w.heap.size w wr) (fun a _ => N - (intOf a).toNat)
        case atStart => exact ⟨fr, by omega, rfl, hm.drewN q4, below_drewN hbel q4⟩
        case round =>
          obtain ⟨j, hj, rfl, hmj, hbj⟩ := hrel
          by_cases hlt : j < kn
          · have HJ : Hid (t j = true) := HALL.out j hj hlt
            go_wp2_with fail
            refine (has_in j hmj (by omega)).mono ?_
            rintro e wj ⟨rfl, q, rfl⟩
            rw [HJ.out]
            go_wp2_with fail
            go_roundw
            case rel => exact ⟨j + 1, by omega, by go_num, hmj.drewN q, below_drewN hbj q⟩
            case measure => simp [intOf]; omega
          · go_wp2_with fail
            go_ret
            exact ⟨rfl, hbj⟩
theorem walk (n : Int) (A : Option Addr) (nt c : Nat) (l : List Int) (fi : Int) (w : World) (hT : Tab w) (_ : -9223372036854775808 ≤ n) (_ : n ≤ 9223372036854775807)
    (hr : Reads w w.heap.size 1 A nt (I64 l)) (_ : ∀ z ∈ l, -9223372036854775808 ≤ z ∧ z ≤ 9223372036854775807) (hc : nt ≤ c) (hc2 : c ≤ 9223372036854775807) (_ : -9223372036854775808 ≤ fi) (hmx : fi ≤ 9223372036854775807) :
    Calls Tryd.prog 7 #[.int .i64 n, .slice A nt c, .int .i64 fi] w fun e w' => e = .returned (.bool true) ∧ Below w.heap.size w w' := by
  rcases Int.lt_or_le fi 0 with h | h
  · exact walk_neg n fi _ A nt c l w hT hr (by omega) rfl hmx h
  · exact walk_pos n fi _ A nt c l w hT hr (by omega) rfl hmx h

/-! The row's frame, by program: how the walk above proves the statement. -/
set_option maxRecDepth 100000 in
theorem lifted (os : Os) (started : os.Started) (H : Type) (enc : TypeId × Value → H) :
    ReturnsInHanded {} Tryd.checked os 7 .any (fun w args => (Rows.bitsNextSpec.pre enc Tryd.prog Tryd.f7 Rows.bitsNextRow.domain false w args ∧ laidMetH Tryd.prog tabL w) ∧ sizedMet enc Tryd.prog Tryd.f7 (OpenSpec.ofChange Rows.bitsNextSpec) false w args) (Rows.bitsNextSpec.post enc Tryd.prog Tryd.f7 false true false false) := by
  refine returnsInHanded_of_change_and (C := Tryd.checked) (X := fun w _ => laidMetH Tryd.prog tabL w) (fun _ _ _ hh h => h.of_heap hh) own started (by kernel_rfl) Tryd.func7
    (ChangeSpec.witness_shaped (enc := enc) (C := Tryd.checked) (os := os) (X := fun w _ => laidMetH Tryd.prog tabL w) false (World.doorLaid Tryd.prog 400 os) #[.int .i64 0, .slice none 0 0, .int .i64 0] 8 rfl (World.shaped_of_RefB (by kernel_rfl) (by kernel_rfl)) (by kernel_rfl) (by kernel_rfl) (by kernel_rfl) (door_met os _)) ?_
  intro W base args ds gs before hval0 hW _ _ hL _
  have hval : ∀ (j : Nat) t v, Tryd.f7.params[j]? = some t → args[j]? = some v → Value.okWide Tryd.prog W .any base t v := hval0
  have hW' := hW
  obtain ⟨p, q, hA0, hV, rfl, hfz, hnd⟩ := hW
  have hA : DataW.TrodAll enc Tryd.prog W 0 (fun _ => true) true Tryd.f7.params.toList args.toList ds p := hA0
  rw [Tryd.params7] at hA hval
  obtain ⟨v0, vs0, d0, ds0, p0, q0, hargs, rfl, rfl, h0, r0⟩ := trodAll_cons hA
  obtain ⟨v1, vs1, d1, ds1, p1, q1, rfl, rfl, rfl, h1, r1⟩ := trodAll_cons r0
  obtain ⟨v2, vs2, d2, ds2, p2, q2, rfl, rfl, rfl, h2, r2⟩ := trodAll_cons r1
  obtain ⟨rfl, rfl, rfl⟩ := trodAll_nil r2
  obtain rfl : args = #[v0, v1, v2] := by cases args; simp_all
  obtain ⟨rfl, rfl⟩ := trodVars_none hV
  obtain ⟨a0, rfl, rfl, rfl, w0⟩ := open_int Tryd.underlying3 (hval 0 3 v0 rfl rfl) h0
  have b0 := bounds_i64 w0
  obtain ⟨A1, n1, c1, rfl⟩ := okWide_slice Tryd.underlying46 (hval 1 46 v1 rfl rfl)
  have k1 := h1
  have lt1 : ∀ x ∈ p1, x.block < W.heap.size := by obtain ⟨m, hm⟩ := k1; exact DataW.trod_lt m _ _ _ hm
  obtain ⟨l1, x1, y1, g1, z1⟩ := arg_ints h1
  obtain ⟨a2, rfl, rfl, rfl, w2⟩ := open_int Tryd.underlying3 (hval 2 3 v2 rfl rfl) h2
  have b2 := bounds_i64 w2
  clear hA0 hval0
  refine (walk a0 A1 n1 c1 l1 a2 W (of_laid hL) b0.1 b0.2 x1 y1 g1 z1 b2.1 b2.2).mono fun e W' ⟨he, bel⟩ => ?_
  subst he
  exact ⟨_, rfl, _, _, _, [], _, [], hW', trodAll_mk1 (shut_bool Tryd.underlying4 _), (trodAll_cons_mk (shut_int Tryd.underlying3 w0) (trodAll_cons_mk (Below.trod laidOut (by kernel_rfl) (of_decide_eq_true (by kernel_rfl)) k1 bel lt1) (trodAll_cons_mk (shut_int Tryd.underlying3 w2) trodAll_mk0))), rfl, bel.frame _, fun h => by cases h⟩

theorem over : Rows.bitsNextRow.holds Tryd.pinned (OpenSpec.ofChange Rows.bitsNextSpec) :=
  OpenClaim.holds_of_wide 7 Tryd.f7 rfl rfl rfl rfl rfl rfl rfl ⟨rfl, rfl, rfl, rfl, rfl⟩ rfl rfl rfl rfl rfl (by kernel_rfl) Tryd.func7 (by kernel_rfl)
    (of_decide_eq_true (by kernel_rfl)) (by unfold Func.isWrapper; first | (rw [if_pos (by decide +kernel)]; kernel_rfl) | (rw [if_neg (by decide +kernel)]; exact ⟨rfl, rfl⟩))
    (fun os started H enc _ => lifted os started H enc)

/-- The statement: the tied card. -/
theorem proved : Rows.BitsNextCardSaid :=
  Claim7.holds_tied_plain_at .later [] [.data] true Rows.bitsNextCard.stood.harness Rows.bitsNextCard.stood.looks
    over (fun _ h => by cases h) (by kernel_rfl) (fun _ h => by cases h) bitsNext_row_tie rfl ⟨rfl, rfl⟩ (by kernel_rfl) rfl
    (fun f fn hf hfn => by
      obtain rfl : f = 7 := Option.some.inj ((show Tryd.prog.funcNamed "braidwork/braidworklaw02.BitsNext" = some 7 by kernel_rfl).symm.trans hf) |>.symm
      obtain rfl : fn = Tryd.f7 := (Option.some.inj (Tryd.func7.symm.trans hfn)).symm
      exact ⟨by kernel_rfl, fun j t ht => by
        rw [Tryd.params7] at ht
        have hm : t ∈ [3, 46, 3] := by simpa using Array.mem_of_getElem? ht
        have hall : ([3, 46, 3].all fun u => !Tryd.prog.wantsStandIn u) = true := by kernel_rfl
        exact (show Tryd.prog.wantsStandIn t = false by simpa using List.all_eq_true.1 hall t hm)⟩)
    (by kernel_rfl)
#print axioms proved
end Go.Proofs.YtpakipacclmimaaDoor.BitsNext
