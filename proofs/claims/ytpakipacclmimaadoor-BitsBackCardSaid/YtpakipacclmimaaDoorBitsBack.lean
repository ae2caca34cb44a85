/- BitsBack holds: for every number that a length is made of and every row of places to take, a map's bytes are as many as it takes and are read as that map, and one byte more or less is none's; no condition besides the card's own: math/bits.deBruijn64tab is as its initialiser lays it. -/
import Derived.Test.YtpakipacclmimaaDoorLaid
import Derived.Test.YtpakipacclmimaaDoorCards
import Derived.Test.YtpakipacclmimaaDoorTie
import Derived.Deep.DeepCutAuto
import Derived.Deep.CutBlock
import Derived.WalkSpells
namespace Go.Proofs.YtpakipacclmimaaDoor.BitsBack
open Go.ChangeShapes Go.WideShapes Go.ChangeAt Go.RowKit
set_option linter.unusedVariables false

theorem more_code {n : Nat} {t : Nat → Bool} (hn : n ≤ 65536) : ofCode n (bytesOf n t ++ [0]) = 2 :=
  code_2 (by omega) (by rw [List.length_append, bytesOf_length]; simp)
theorem less_code {n k : Nat} {t : Nat → Bool} (hn : n ≤ 65536) (hk : k < (n + 7) / 8) : ofCode n ((bytesOf n t).take k) = 2 :=
  code_2 (by omega) (by rw [List.length_take, bytesOf_length]; simp; omega)

set_option maxRecDepth 100000 in
set_option maxHeartbeats 4000000 in
theorem walk (n : Int) (A : Option Addr) (nt c : Nat) (l : List Int) (w : World) (hT : Tab w) (_ : -9223372036854775808 ≤ n) (_ : n ≤ 9223372036854775807)
    (hr : Reads w w.heap.size 1 A nt (I64 l)) (_ : ∀ z ∈ l, -9223372036854775808 ≤ z ∧ z ≤ 9223372036854775807) (hc : nt ≤ c) (hc2 : c ≤ 9223372036854775807) :
    Calls Tryd.prog 6 #[.int .i64 n, .slice A nt c] w fun e w' => e = .returned (.bool true) ∧ Below w.heap.size w w' := by
  obtain ⟨i0, hi0, hz0, hz1, hz2⟩ := info_parts u8_info
  obtain ⟨M, N, hmask, hrem, hrem2, hN, hcl⟩ := mask_law n
  have HCL := hide hcl
  have hpos := hT.pos
  clear hcl
  go_enter Tryd.func6, Tryd.ntmps6
  go_wp2_with fail
  refine (shown_any w hT).mono ?_
  rintro e w1 ⟨rfl, hb1⟩
  have hT1 := hT.later hb1
  go_wp2_with fail
  refine (new_any N w1).mono ?_
  rintro e w2 ⟨rfl, hm2, hb2⟩
  rw [HCL.out] at hm2
  have hT2 := hT1.later hb2
  have hbel2 : Below w.heap.size w w2 := hb1.trans (hb2.mono hb1.size)
  obtain ⟨b, hbb⟩ : ∃ b, b = w1.heap.size := ⟨_, rfl⟩
  rw [← hbb] at hm2 ⊢
  have HB : Hid (w.heap.size ≤ b) := by show _ ≤ _; rw [hbb]; exact hb1.size
  have HB0 : Hid (some 0 ≠ some b) := by show _ ≠ _; intro h; injection h with h; have := HB.out; omega
  clear hbb hb1 hb2 hT1 hmask hrem hrem2
  go_upto_block 0 with fail
  go_cut [7] (fun _ wx => ∃ t : Nat → Bool, MapAt wx b N t ∧ Below w.heap.size w wx ∧ Tab wx)
  case first =>
    go_wp2_with fail
    go_loopw [7] (fun a wr => ∃ (k : Nat) (t : Nat → Bool), k ≤ nt ∧ k ≤ 300 ∧ a = .int .i64 (k : Int) ∧ MapAt wr b N t ∧ Below w.heap.size w wr ∧ Tab wr) (fun a _ => 300 - (intOf a).toNat)
    case atStart => exact ⟨0, _, by omega, by omega, rfl, hm2, hbel2, hT2⟩
    case round =>
      obtain ⟨k, t, hk, hk5, rfl, hm, hbel, hTr⟩ := hrel
      by_cases h1 : k < nt
      · by_cases h2 : k < 300
        · obtain ⟨ad, x, rfl, hab, hx, hc⟩ := (hr.below hbel).i64_at h1
          clear hx
          go_wp2_with fail
          refine (takeAt_any x hm).mono ?_
          rintro e w3 ⟨rfl, hm3, hg3⟩
          have hb3 := below_of hbel hg3 hbel.size (fun k hk => by cases hk; exact HB.out)
          have hT3 := hTr.grown hg3 HB0.out
          go_wp2_with fail
          go_roundw
          case rel => exact ⟨k + 1, _, by omega, by omega, by go_num, hm3, hb3, hT3⟩
          case measure => simp [intOf]; omega
        · have hd5 : decide ((k : Int) < 300) = false := by simp; omega
          go_wp2_with fail
          go_meet
          exact ⟨t, hm, hbel, hTr⟩
      · have hd5 : decide (k < nt) = false := by simpa using h1
        go_wp2_with fail
        go_meet
        exact ⟨t, hm, hbel, hTr⟩
  case rest =>
    obtain ⟨t, hm, hbel, hTr⟩ := hcut
    go_wp2_with fail
    refine (bytes_any hm).mono ?_
    rintro e w8 ⟨A8, n8, c8, rfl, hnc8, hc8, hown8, hb8⟩
    have hn8 : n8 = (N + 7) / 8 := (own_len8 hown8).trans (bytesOf_length N t)
    have hm8 := hm.later hb8
    have hbel8 : Below w.heap.size w w8 := hbel.trans (hb8.mono hbel.size)
    have hr8 := Reads.of_own hown8
    unfold maxLen at hc8
    have hz : ofCode N (bytesOf N t) = 0 := of_bytesOf hm.le hm.out
    have hbit : bitAt (bytesOf N t) = t := funext (bitAt_bytesOf hm.out)
    have HZ := hide hz
    have HBIT := hide hbit
    have HMORE : Hid (ofCode N (bytesOf N t ++ [0]) = 2) := more_code hm.le
    have HLESS : Hid (∀ k, k < n8 → ofCode N ((bytesOf N t).take k) = 2) := fun k hk => less_code hm.le (by omega)
    have HN8 := hide hn8
    have hn8b : n8 ≤ 251 := by omega
    have hlen : ((n8 : Int) != ((N : Int) + 7) / 8) = false := by rw [bne_eq_false_iff_eq]; omega
    have hlen2 : ((n8 : Int) == ((N : Int) + 7) / 8) = true := by rw [beq_iff_eq]; omega
    have hpos8 : 0 < N → 1 ≤ n8 := by omega
    have HP8 := hide hpos8
    clear hz hbit hn8 hpos8 hown8 hb8 hm hbel hTr
    go_wp2_with fail
    refine (of_any (w := w8) N _ _ _ (bytesOf N t) hr8).mono ?_
    rintro e w9 ⟨hb9, hcode⟩
    rcases hcode with ⟨h0, _⟩ | ⟨_, rfl, hm9⟩
    · exact absurd HZ.out h0
    rw [Int.toNat_natCast, HBIT.out] at hm9
    have hmo9 := hm8.later hb9
    have hbel9 : Below w.heap.size w w9 := hbel8.trans (hb9.mono hbel8.size)
    have hr9 := hr8.later hb9
    obtain ⟨b9, hb9e⟩ : ∃ b9, b9 = w8.heap.size := ⟨_, rfl⟩
    rw [← hb9e] at hm9 ⊢
    clear hb9e hb9 hm8 hbel8 hr8
    go_wp2_with fail
    refine (count_any hm9).mono ?_
    rintro e w10 ⟨rfl, rfl⟩
    go_wp2_with fail
    refine (count_any hmo9).mono ?_
    rintro e w10 ⟨rfl, rfl⟩
    go_wp2_with fail
    go_loopw [11] (fun a wr => ∃ j q : Nat, j ≤ N ∧ a = .int .i64 (j : Int) ∧ wr = w9.drewN q) (fun a _ => N - (intOf a).toNat)
    case atStart => exact ⟨0, 0, by omega, rfl, rfl⟩
    case round =>
      obtain ⟨j, q, hj, rfl, rfl⟩ := hrel
      by_cases hlt : j < N
      · go_wp2_with fail
        refine (has_in j (hm9.drewN q) hlt).mono ?_
        rintro e wj ⟨rfl, q1, rfl⟩
        go_wp2_with fail
        refine (has_in j (hmo9.drewN _) hlt).mono ?_
        rintro e wj ⟨rfl, q2, rfl⟩
        go_wp2_with fail
        go_roundw
        case rel => exact ⟨j + 1, _, by omega, by go_num, rfl⟩
        case measure => simp [intOf]; omega
      · obtain ⟨w11, hw11⟩ : ∃ w11, w11 = w9.drewN q := ⟨_, rfl⟩
        have hr11 : Reads w11 w11.heap.size 1 A8 n8 (B8 (bytesOf N t)) := by rw [hw11]; exact hr9
        have hbel11 : Below w.heap.size w w11 := by rw [hw11]; exact below_drewN hbel9 q
        rw [← hw11]
        clear hw11 hr9 hbel9 hm9 hmo9
        have hown11 : (w11.alloc (.cells #[] 5)).ownsRow w11.heap.size 5 1 (.slice (some ⟨w11.heap.size, 0, none⟩) 0 0) 0 [] :=
          World.ownsRow_lit (base := w11.heap.size) (e := 5) (size := 1) w11 #[] 0 (Nat.le_refl _) (Nat.zero_le _) rfl
        have hbig : (0 : Nat) + n8 ≤ maxLen := by unfold maxLen; omega
        have hbig2 : (0 + n8) * 1 ≤ 140737488355328 := by omega
        have HBIG := hide hbig
        clear hbig
        have hbig3 : n8 + 1 ≤ maxLen := by unfold maxLen; omega
        have hbig4 : (n8 + 1) * 1 ≤ 140737488355328 := by omega
        have HBIG3 := hide hbig3
        have HBIG4 := hide hbig4
        clear hbig3 hbig4
        go_wp2_with (first | (at_builtin; refine wpList_append_any _ rfl (.tmp 80) (.tmp 81) _ rfl w11.heap.size 5 i0 _ 1 1 Tryd.underlying36 hi0 hz0 hz1 hz2 rfl (by decide) _ _ _ rfl hown11 _ A8 n8 c8 (B8 (bytesOf N t)) rfl (hr11.alloc (Nat.le_refl _) _) (B8_one _) HBIG.out hbig2 (le_alloc (Nat.le_refl _) _) ?_; intro v12 w12 hown12 hb12; simp only [Nat.zero_add, List.nil_append] at hown12; obtain ⟨A12, c12, rfl, hk12, hm12⟩ := own_shape hown12) | (at_builtin; refine wpList_append_any _ rfl (.tmp 85) (.tmp 86) _ rfl w11.heap.size 5 i0 _ 1 1 Tryd.underlying36 hi0 hz0 hz1 hz2 rfl (by decide) _ _ _ rfl (hown12.alloc _) (w12.heap.size + 1) (some ⟨w12.heap.size, 0, none⟩) 1 1 [.int .u8 0] rfl (Reads.one _ _ _ _ (by omega)) (one_u8 _) HBIG3.out HBIG4.out (le_alloc (Nat.le_trans (le_alloc (Nat.le_refl _) _) hb12.size) _) ?_; intro v13 w13 hown13 hb13; obtain ⟨A13, c13, rfl, hk13, hm13⟩ := own_shape hown13))
        have hl13 : w13.ownsRow w11.heap.size 5 1 (.slice A13 (n8 + 1) c13) (n8 + 1) (B8 (bytesOf N t ++ [0])) := by rw [B8_append]; exact hown13
        have hbel13 : Below w.heap.size w w13 := ((hbel11.alloc hbel11.size _).trans (hb12.mono hbel11.size)).trans (((Below.refl _ _).alloc (Nat.le_refl _) _).mono (Nat.le_trans (le_alloc hbel11.size _) hb12.size) |>.trans (hb13.mono hbel11.size))
        have hr13 : Reads w13 w13.heap.size 1 A8 n8 (B8 (bytesOf N t)) := (hr11.below (((Below.refl _ _).alloc (Nat.le_refl _) _).trans (hb12.trans (((Below.refl _ w12).alloc (Nat.le_trans (le_alloc (Nat.le_refl _) _) hb12.size) _).trans hb13)))).more (Nat.le_trans (le_alloc (Nat.le_refl _) _) (Nat.le_trans hb12.size (Nat.le_trans (le_alloc (Nat.le_refl _) _) hb13.size)))
        have hr13x := Reads.of_own hl13
        clear hown11 hown12 hown13 hl13 hb12 hb13 hr11 hbel11 hbig2 hk12 hm12 hk13 hm13
        refine (of_any (w := w13) N _ _ _ (bytesOf N t ++ [0]) hr13x).mono ?_
        rintro e w14 ⟨hb14, hcode⟩
        rcases hcode with ⟨_, rfl⟩ | ⟨h0, _⟩
        case inr => exact absurd (HMORE.out.symm.trans h0) (by decide)
        rw [HMORE.out]
        have hbel14 : Below w.heap.size w w14 := hbel13.trans (hb14.mono hbel13.size)
        have hr14 := hr13.later hb14
        clear hr13x hbel13 hr13 hb14
        by_cases h0 : 0 < N
        · have hd0 : decide (0 < N) = true := by simpa using h0
          have hn1 := HP8.out h0
          have hk15 := hr14.head (k := n8 - 1) (by omega)
          have HL15 : Hid (ofCode N ((bytesOf N t).take (n8 - 1)) = 2) := HLESS.out (n8 - 1) (by omega)
          have hcast : (n8 : Int) - 1 = ((n8 - 1 : Nat) : Int) := by omega
          obtain ⟨m, hm⟩ : ∃ m, m = n8 - 1 := ⟨_, rfl⟩
          rw [← hm] at hcast HL15 hk15
          have hmc : m ≤ c8 := by omega
          rw [Nat.mul_one, B8_take] at hk15
          clear hm hr14
          go_wp2_with fail
          refine (of_any (w := w14) N _ _ _ ((bytesOf N t).take m) hk15).mono ?_
          rintro e w16 ⟨hb16, hcode⟩
          rcases hcode with ⟨_, rfl⟩ | ⟨h0, _⟩
          case inr => exact absurd (HL15.out.symm.trans h0) (by decide)
          rw [HL15.out]
          go_wp2_with fail
          go_ret
          exact ⟨rfl, hbel14.trans (hb16.mono hbel14.size)⟩
        · have hd0 : decide (0 < N) = false := by simpa using h0
          go_wp2_with fail
          go_ret
          exact ⟨rfl, hbel14⟩

/-! The row's frame, by program: how the walk above proves the statement. -/
set_option maxRecDepth 100000 in
theorem lifted (os : Os) (started : os.Started) (H : Type) (enc : TypeId × Value → H) :
    ReturnsInHanded {} Tryd.checked os 6 .any (fun w args => (Rows.bitsBackSpec.pre enc Tryd.prog Tryd.f6 Rows.bitsBackRow.domain false w args ∧ laidMetH Tryd.prog tabL w) ∧ sizedMet enc Tryd.prog Tryd.f6 (OpenSpec.ofChange Rows.bitsBackSpec) false w args) (Rows.bitsBackSpec.post enc Tryd.prog Tryd.f6 false true false false) := by
  refine returnsInHanded_of_change_and (C := Tryd.checked) (X := fun w _ => laidMetH Tryd.prog tabL w) (fun _ _ _ hh h => h.of_heap hh) own started (by kernel_rfl) Tryd.func6
    (ChangeSpec.witness_shaped (enc := enc) (C := Tryd.checked) (os := os) (X := fun w _ => laidMetH Tryd.prog tabL w) false (World.doorLaid Tryd.prog 400 os) #[.int .i64 0, .slice none 0 0] 8 rfl (World.shaped_of_RefB (by kernel_rfl) (by kernel_rfl)) (by kernel_rfl) (by kernel_rfl) (by kernel_rfl) (door_met os _)) ?_
  intro W base args ds gs before hval0 hW _ _ hL _
  have hval : ∀ (j : Nat) t v, Tryd.f6.params[j]? = some t → args[j]? = some v → Value.okWide Tryd.prog W .any base t v := hval0
  have hW' := hW
  obtain ⟨p, q, hA0, hV, rfl, hfz, hnd⟩ := hW
  have hA : DataW.TrodAll enc Tryd.prog W 0 (fun _ => true) true Tryd.f6.params.toList args.toList ds p := hA0
  rw [Tryd.params6] at hA hval
  obtain ⟨v0, vs0, d0, ds0, p0, q0, hargs, rfl, rfl, h0, r0⟩ := trodAll_cons hA
  obtain ⟨v1, vs1, d1, ds1, p1, q1, rfl, rfl, rfl, h1, r1⟩ := trodAll_cons r0
  obtain ⟨rfl, rfl, rfl⟩ := trodAll_nil r1
  obtain rfl : args = #[v0, v1] := by cases args; simp_all
  obtain ⟨rfl, rfl⟩ := trodVars_none hV
  obtain ⟨a0, rfl, rfl, rfl, w0⟩ := open_int Tryd.underlying3 (hval 0 3 v0 rfl rfl) h0
  have b0 := bounds_i64 w0
  obtain ⟨A1, n1, c1, rfl⟩ := okWide_slice Tryd.underlying46 (hval 1 46 v1 rfl rfl)
  have k1 := h1
  have lt1 : ∀ x ∈ p1, x.block < W.heap.size := by obtain ⟨m, hm⟩ := k1; exact DataW.trod_lt m _ _ _ hm
  obtain ⟨l1, x1, y1, g1, z1⟩ := arg_ints h1
  clear hA0 hval0
  refine (walk a0 A1 n1 c1 l1 W (of_laid hL) b0.1 b0.2 x1 y1 g1 z1).mono fun e W' ⟨he, bel⟩ => ?_
  subst he
  exact ⟨_, rfl, _, _, _, [], _, [], hW', trodAll_mk1 (shut_bool Tryd.underlying4 _), (trodAll_cons_mk (shut_int Tryd.underlying3 w0) (trodAll_cons_mk (Below.trod laidOut (by kernel_rfl) (of_decide_eq_true (by kernel_rfl)) k1 bel lt1) trodAll_mk0)), rfl, bel.frame _, fun h => by cases h⟩

theorem over : Rows.bitsBackRow.holds Tryd.pinned (OpenSpec.ofChange Rows.bitsBackSpec) :=
  OpenClaim.holds_of_wide 6 Tryd.f6 rfl rfl rfl rfl rfl rfl rfl ⟨rfl, rfl, rfl, rfl, rfl⟩ rfl rfl rfl rfl rfl (by kernel_rfl) Tryd.func6 (by kernel_rfl)
    (of_decide_eq_true (by kernel_rfl)) (by unfold Func.isWrapper; first | (rw [if_pos (by decide +kernel)]; kernel_rfl) | (rw [if_neg (by decide +kernel)]; exact ⟨rfl, rfl⟩))
    (fun os started H enc _ => lifted os started H enc)

/-- The statement: the tied card. -/
theorem proved : Rows.BitsBackCardSaid :=
  Claim7.holds_tied_plain_at .later [] [.data] true Rows.bitsBackCard.stood.harness Rows.bitsBackCard.stood.looks
    over (fun _ h => by cases h) (by kernel_rfl) (fun _ h => by cases h) bitsBack_row_tie rfl ⟨rfl, rfl⟩ (by kernel_rfl) rfl
    (fun f fn hf hfn => by
      obtain rfl : f = 6 := Option.some.inj ((show Tryd.prog.funcNamed "braidwork/braidworklaw02.BitsBack" = some 6 by kernel_rfl).symm.trans hf) |>.symm
      obtain rfl : fn = Tryd.f6 := (Option.some.inj (Tryd.func6.symm.trans hfn)).symm
      exact ⟨by kernel_rfl, fun j t ht => by
        rw [Tryd.params6] at ht
        have hm : t ∈ [3, 46] := by simpa using Array.mem_of_getElem? ht
        have hall : ([3, 46].all fun u => !Tryd.prog.wantsStandIn u) = true := by kernel_rfl
        exact (show Tryd.prog.wantsStandIn t = false by simpa using List.all_eq_true.1 hall t hm)⟩)
    (by kernel_rfl)
#print axioms proved
end Go.Proofs.YtpakipacclmimaaDoor.BitsBack
