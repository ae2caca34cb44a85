/- BitsCounts holds: for every number that a length is made of and every row of places to take, what Count tells and what Next goes through are all places there are, and freed one by one none is taken; no condition besides the card's own: math/bits.deBruijn64tab is as its initialiser lays it. -/
import Derived.Test.YtpakipacclmimaaDoorLaid
import Derived.Test.YtpakipacclmimaaDoorCards
import Derived.Test.YtpakipacclmimaaDoorTie
import Derived.Deep.DeepCutAuto
import Derived.Deep.CutBlock
namespace Go.Proofs.YtpakipacclmimaaDoor.BitsCounts
open Go.ChangeShapes Go.WideShapes Go.ChangeAt Go.RowKit
set_option linter.unusedVariables false

theorem cnt_run {t : Nat → Bool} {a b : Nat} (h : a ≤ b) (ha : ∀ i, a ≤ i → i < b → t i = true) : cnt t b = cnt t a + (b - a) := by
  have e : b = a + (b - a) := by omega
  conv => lhs; rw [e]
  rw [cnt_add, cnt_all (f := fun k => t (a + k)) (fun k hk => ha _ (Nat.le_add_right _ _) (by omega))]
theorem next_all_free {t : Nat → Bool} {n k : Nat} {ok : Bool} (h : NextIs t n 0 k ok) (hf : ∀ i, i < n → t i = false) : k = 0 ∧ ok = decide (0 < n) := by
  by_cases h0 : 0 < n
  · have g : NextIs t n 0 0 true := .inl ⟨rfl, Nat.le_refl _, h0, hf 0 h0, fun i _ hi => by omega⟩
    have e := h.same g
    exact ⟨e.1, by rw [e.2]; simpa using h0⟩
  · have g : NextIs t n 0 0 false := .inr ⟨rfl, rfl, fun i _ hi => by omega⟩
    have e := h.same g
    exact ⟨e.1, by rw [e.2]; simpa using h0⟩

set_option maxRecDepth 100000 in
set_option maxHeartbeats 4000000 in
theorem walk (n : Int) (A : Option Addr) (nt c : Nat) (l : List Int) (w : World) (hT : Tab w) (_ : -9223372036854775808 ≤ n) (_ : n ≤ 9223372036854775807)
    (hr : Reads w w.heap.size 1 A nt (I64 l)) (_ : ∀ z ∈ l, -9223372036854775808 ≤ z ∧ z ≤ 9223372036854775807) (hc : nt ≤ c) (hc2 : c ≤ 9223372036854775807) :
    Calls Tryd.prog 8 #[.int .i64 n, .slice A nt c] w fun e w' => e = .returned (.bool true) ∧ Below w.heap.size w w' := by
  obtain ⟨M, N, hmask, hrem, hrem2, hN, hcl⟩ := mask_law n
  have HCL := hide hcl
  have hpos := hT.pos
  clear hcl
  go_enter Tryd.func8, Tryd.ntmps8
  go_wp2_with fail
  refine (shown_any w hT).mono ?_
  rintro e w1 ⟨rfl, hb1⟩
  have hT1 := hT.later hb1
  go_wp2_with fail
  refine (new_any N w1).mono ?_
  rintro e w2 ⟨rfl, hm2, hb2⟩
  rw [HCL.out] at hm2
  have hT2 := hT1.later hb2
  have hbel2 : Below w.heap.size w w2 := hb1.trans (hb2.mono hb1.size)
  obtain ⟨b, hbb⟩ : ∃ b, b = w1.heap.size := ⟨_, rfl⟩
  rw [← hbb] at hm2 ⊢
  have HB : Hid (w.heap.size ≤ b) := by show _ ≤ _; rw [hbb]; exact hb1.size
  have HB0 : Hid (some 0 ≠ some b) := by show _ ≠ _; intro h; injection h with h; have := HB.out; omega
  clear hbb hb1 hb2 hT1 hmask hrem hrem2
  go_upto_block 0 with fail
  go_cut [7] (fun _ wx => ∃ t : Nat → Bool, MapAt wx b N t ∧ Below w.heap.size w wx ∧ Tab wx)
  case first =>
    go_wp2_with fail
    go_loopw [7] (fun a wr => ∃ (k : Nat) (t : Nat → Bool), k ≤ nt ∧ k ≤ 500 ∧ a = .int .i64 (k : Int) ∧ MapAt wr b N t ∧ Below w.heap.size w wr ∧ Tab wr) (fun a _ => 500 - (intOf a).toNat)
    case atStart => exact ⟨0, _, by omega, by omega, rfl, hm2, hbel2, hT2⟩
    case round =>
      obtain ⟨k, t, hk, hk5, rfl, hm, hbel, hTr⟩ := hrel
      by_cases h1 : k < nt
      · by_cases h2 : k < 500
        · obtain ⟨ad, x, rfl, hab, hx, hc⟩ := (hr.below hbel).i64_at h1
          clear hx
          go_wp2_with fail
          refine (takeAt_any x hm).mono ?_
          rintro e w3 ⟨rfl, hm3, hg3⟩
          have hb3 := below_of hbel hg3 hbel.size (fun k hk => by cases hk; exact HB.out)
          have hT3 := hTr.grown hg3 HB0.out
          go_wp2_with fail
          go_roundw
          case rel => exact ⟨k + 1, _, by omega, by omega, by go_num, hm3, hb3, hT3⟩
          case measure => simp [intOf]; omega
        · have hd5 : decide ((k : Int) < 500) = false := by simp; omega
          go_wp2_with fail
          go_meet
          exact ⟨t, hm, hbel, hTr⟩
      · have hd5 : decide (k < nt) = false := by simpa using h1
        go_wp2_with fail
        go_meet
        exact ⟨t, hm, hbel, hTr⟩
  case rest =>
    obtain ⟨t, hm, hbel, hTr⟩ := hcut
    go_wp2_with fail
    go_loop [8, 9] (fun f a => ∃ fr at_ : Nat, at_ ≤ N ∧ fr ≤ at_ ∧ f = .int .i64 (fr : Int) ∧ a = .int .i64 (at_ : Int) ∧ Hid (fr + cnt t at_ = at_)) (fun _ a => N - (intOf a).toNat)
    case atStart => exact ⟨0, 0, by omega, by omega, rfl, rfl, hide rfl⟩
    case round =>
      obtain ⟨fr, at_, hat, hfr, rfl, rfl, HF⟩ := hrel
      go_wp2_with fail
      refine (next_any at_ hm hTr).mono ?_
      rintro e w3 ⟨⟨kn, ok, rfl, hNI⟩, rfl⟩
      rw [Int.toNat_natCast] at hNI
      cases ok
      · have HE : Hid (fr + cnt t N = N) := by
          show _ = _
          rcases hNI with ⟨h, _⟩ | ⟨_, _, h⟩
          · cases h
          · have := cnt_run hat h
            have := HF.out
            omega
        have hle := cnt_le t N
        clear hNI
        obtain ⟨C, hC⟩ : ∃ C, C = cnt t N := ⟨_, rfl⟩
        rw [← hC] at HE hle
        have HC := hide hC
        clear hC
        have hne : ((fr : Int) != (N : Int) - (C : Int)) = false := by
          have := HE.out
          rw [bne_eq_false_iff_eq]
          omega
        have hne2 : ((fr : Int) == (N : Int) - (C : Int)) = true := by
          have := HE.out
          rw [beq_iff_eq]
          omega
        go_wp2_with fail
        refine (count_any hm).mono ?_
        rintro e w3 ⟨rfl, rfl⟩
        rw [← HC.out]
        go_wp2_with fail
        go_loopw [12] (fun a wr => ∃ (j : Nat) (tj : Nat → Bool), j ≤ N ∧ a = .int .i64 (j : Int) ∧ MapAt wr b N tj ∧ Below w.heap.size w wr ∧ Tab wr ∧ Hid (∀ i, i < j → tj i = false)) (fun a _ => N - (intOf a).toNat)
        case atStart => exact ⟨0, t, by omega, rfl, hm, hbel, hTr, hide (fun i h => by omega)⟩
        case round =>
          obtain ⟨j, tj, hj, rfl, hmj, hbj, hTj, HJ⟩ := hrel
          by_cases hlt : j < N
          · go_wp2_with fail
            refine (has_in j hmj hlt).mono ?_
            rintro e wj ⟨rfl, q, rfl⟩
            have hmq := hmj.drewN q
            have hbq := below_drewN hbj q
            have hTq : Tab (wr.drewN q) := hTj
            cases htj : tj j
            · have HJ2 : Hid (∀ i, i < j + 1 → tj i = false) := by
                intro i hi
                by_cases e : i = j
                · subst e; exact htj
                · exact HJ.out i (by omega)
              have HTJ := hide htj
              clear htj
              go_wp2_with fail
              refine (free_no j hmq hlt HTJ.out).mono ?_
              rintro e wj ⟨rfl, q2, rfl⟩
              go_wp2_with fail
              go_roundw
              case rel => exact ⟨j + 1, tj, by omega, by go_num, hmj.drewN _, below_drewN hbj _, hTj, HJ2⟩
              case measure => simp [intOf]; omega
            · have HJ2 : Hid (∀ i, i < j + 1 → put tj j false i = false) := by
                intro i hi
                by_cases e : i = j
                · subst e; exact put_self _ _ _
                · rw [put_ne _ _ e]; exact HJ.out i (by omega)
              have HTJ := hide htj
              clear htj
              go_wp2_with fail
              refine (free_yes j hmq hlt HTJ.out).mono ?_
              rintro e wj ⟨rfl, hm4, hg4⟩
              have hb4 := below_of hbq hg4 hbq.size (fun k hk => by cases hk; exact HB.out)
              have hT4 := hTq.grown hg4 HB0.out
              go_wp2_with fail
              go_roundw
              case rel => exact ⟨j + 1, _, by omega, by go_num, hm4, hb4, hT4, HJ2⟩
              case measure => simp [intOf]; omega
          · have hjn : j = N := by omega
            have HALL : Hid (∀ i, i < N → tj i = false) := by
              intro i hi
              exact HJ.out i (by omega)
            have HCN : Hid (cnt tj N = 0) := cnt_zero HALL.out
            clear hjn
            go_wp2_with fail
            refine (next_any 0 hmj hTj).mono ?_
            rintro e w4 ⟨⟨k4, ok4, rfl, hN4⟩, rfl⟩
            obtain ⟨rfl, h4⟩ := next_all_free hN4 HALL.out
            clear hN4
            by_cases h0 : 0 < N
            · have hd0 : decide (0 < N) = true := by simpa using h0
              rw [hd0] at h4
              subst h4
              go_wp2_with fail
              refine (count_any hmj).mono ?_
              rintro e w5 ⟨rfl, rfl⟩
              rw [HCN.out]
              go_wp2_with fail
              go_ret
              exact ⟨rfl, hbj⟩
            · have hd0 : decide (0 < N) = false := by simpa using h0
              rw [hd0] at h4
              subst h4
              go_wp2_with fail
              refine (count_any hmj).mono ?_
              rintro e w5 ⟨rfl, rfl⟩
              rw [HCN.out]
              go_wp2_with fail
              go_ret
              exact ⟨rfl, hbj⟩
      · have hk1 : at_ ≤ kn := by
          rcases hNI with ⟨_, h, _⟩ | ⟨h, _⟩
          · exact h
          · cases h
        have hk2 : kn < N := by
          rcases hNI with ⟨_, _, h, _⟩ | ⟨h, _⟩
          · exact h
          · cases h
        have HF2 : Hid (fr + 1 + cnt t (kn + 1) = kn + 1) := by
          show _ = _
          rcases hNI with ⟨_, _, _, h3, h⟩ | ⟨h, _⟩
          · have h5 := cnt_run hk1 h
            have h6 := HF.out
            rw [cnt, h3, h5]
            simp
            omega
          · cases h
        clear hNI
        have hd7 : decide (kn < at_) = false := by simpa using hk1
        go_wp2_with fail
        go_round
        case rel => exact ⟨fr + 1, kn + 1, by omega, by omega, by go_num, by go_num, HF2⟩
        case measure => simp [intOf]; omega

/-! The row's frame, by program: how the walk above proves the statement. -/
set_option maxRecDepth 100000 in
theorem lifted (os : Os) (started : os.Started) (H : Type) (enc : TypeId × Value → H) :
    ReturnsInHanded {} Tryd.checked os 8 .any (fun w args => (Rows.bitsCountsSpec.pre enc Tryd.prog Tryd.f8 Rows.bitsCountsRow.domain false w args ∧ laidMetH Tryd.prog tabL w) ∧ sizedMet enc Tryd.prog Tryd.f8 (OpenSpec.ofChange Rows.bitsCountsSpec) false w args) (Rows.bitsCountsSpec.post enc Tryd.prog Tryd.f8 false true false false) := by
  refine returnsInHanded_of_change_and (C := Tryd.checked) (X := fun w _ => laidMetH Tryd.prog tabL w) (fun _ _ _ hh h => h.of_heap hh) own started (by kernel_rfl) Tryd.func8
    (ChangeSpec.witness_shaped (enc := enc) (C := Tryd.checked) (os := os) (X := fun w _ => laidMetH Tryd.prog tabL w) false (World.doorLaid Tryd.prog 400 os) #[.int .i64 0, .slice none 0 0] 8 rfl (World.shaped_of_RefB (by kernel_rfl) (by kernel_rfl)) (by kernel_rfl) (by kernel_rfl) (by kernel_rfl) (door_met os _)) ?_
  intro W base args ds gs before hval0 hW _ _ hL _
  have hval : ∀ (j : Nat) t v, Tryd.f8.params[j]? = some t → args[j]? = some v → Value.okWide Tryd.prog W .any base t v := hval0
  have hW' := hW
  obtain ⟨p, q, hA0, hV, rfl, hfz, hnd⟩ := hW
  have hA : DataW.TrodAll enc Tryd.prog W 0 (fun _ => true) true Tryd.f8.params.toList args.toList ds p := hA0
  rw [Tryd.params8] at hA hval
  obtain ⟨v0, vs0, d0, ds0, p0, q0, hargs, rfl, rfl, h0, r0⟩ := trodAll_cons hA
  obtain ⟨v1, vs1, d1, ds1, p1, q1, rfl, rfl, rfl, h1, r1⟩ := trodAll_cons r0
  obtain ⟨rfl, rfl, rfl⟩ := trodAll_nil r1
  obtain rfl : args = #[v0, v1] := by cases args; simp_all
  obtain ⟨rfl, rfl⟩ := trodVars_none hV
  obtain ⟨a0, rfl, rfl, rfl, w0⟩ := open_int Tryd.underlying3 (hval 0 3 v0 rfl rfl) h0
  have b0 := bounds_i64 w0
  obtain ⟨A1, n1, c1, rfl⟩ := okWide_slice Tryd.underlying46 (hval 1 46 v1 rfl rfl)
  have k1 := h1
  have lt1 : ∀ x ∈ p1, x.block < W.heap.size := by obtain ⟨m, hm⟩ := k1; exact DataW.trod_lt m _ _ _ hm
  obtain ⟨l1, x1, y1, g1, z1⟩ := arg_ints h1
  clear hA0 hval0
  refine (walk a0 A1 n1 c1 l1 W (of_laid hL) b0.1 b0.2 x1 y1 g1 z1).mono fun e W' ⟨he, bel⟩ => ?_
  subst he
  exact ⟨_, rfl, _, _, _, [], _, [], hW', trodAll_mk1 (shut_bool Tryd.underlying4 _), (trodAll_cons_mk (shut_int Tryd.underlying3 w0) (trodAll_cons_mk (Below.trod laidOut (by kernel_rfl) (of_decide_eq_true (by kernel_rfl)) k1 bel lt1) trodAll_mk0)), rfl, bel.frame _, fun h => by cases h⟩

theorem over : Rows.bitsCountsRow.holds Tryd.pinned (OpenSpec.ofChange Rows.bitsCountsSpec) :=
  OpenClaim.holds_of_wide 8 Tryd.f8 rfl rfl rfl rfl rfl rfl rfl ⟨rfl, rfl, rfl, rfl, rfl⟩ rfl rfl rfl rfl rfl (by kernel_rfl) Tryd.func8 (by kernel_rfl)
    (of_decide_eq_true (by kernel_rfl)) (by unfold Func.isWrapper; first | (rw [if_pos (by decide +kernel)]; kernel_rfl) | (rw [if_neg (by decide +kernel)]; exact ⟨rfl, rfl⟩))
    (fun os started H enc _ => lifted os started H enc)

/-- The statement: the tied card. -/
theorem proved : Rows.BitsCountsCardSaid :=
  Claim7.holds_tied_plain_at .later [] [.data] true Rows.bitsCountsCard.stood.harness Rows.bitsCountsCard.stood.looks
    over (fun _ h => by cases h) (by kernel_rfl) (fun _ h => by cases h) bitsCounts_row_tie rfl ⟨rfl, rfl⟩ (by kernel_rfl) rfl
    (fun f fn hf hfn => by
      obtain rfl : f = 8 := Option.some.inj ((show Tryd.prog.funcNamed "braidwork/braidworklaw02.BitsCounts" = some 8 by kernel_rfl).symm.trans hf) |>.symm
      obtain rfl : fn = Tryd.f8 := (Option.some.inj (Tryd.func8.symm.trans hfn)).symm
      exact ⟨by kernel_rfl, fun j t ht => by
        rw [Tryd.params8] at ht
        have hm : t ∈ [3, 46] := by simpa using Array.mem_of_getElem? ht
        have hall : ([3, 46].all fun u => !Tryd.prog.wantsStandIn u) = true := by kernel_rfl
        exact (show Tryd.prog.wantsStandIn t = false by simpa using List.all_eq_true.1 hall t hm)⟩)
    (by kernel_rfl)
#print axioms proved
end Go.Proofs.YtpakipacclmimaaDoor.BitsCounts
