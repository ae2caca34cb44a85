/- MetalogFull holds: a journal takes each record that has room, answers ErrFull for each that has not and is not changed by it, and Scan tells those that were taken; no condition. -/
import Derived.Test.YtmjdndhpnckeeaaMetL
import Derived.Test.YtmjdndhpnckeeaaArgI
import Derived.Test.YtmjdndhpnckeeaaMjK
import Derived.Test.YtmjdndhpnckeeaaRows
namespace Go.Proofs.Ytmjdndhpnckeeaa
open Go.ChangeShapes Go.WideShapes Go.ChangeAt Go.RowKit
set_option linter.unusedVariables false

theorem u8_all : ∃ i, Try.prog.info? 5 = some i ∧ i.zero = some (.int .u8 0) ∧ i.size = 1 ∧ i.bytes = 1 := ⟨(Try.prog.info? 5).get!, by kernel_rfl, by kernel_rfl, by kernel_rfl, by kernel_rfl⟩
theorem mask511 (v : Int) : ∃ N : Nat, bits .and .i64 v 511 = (N : Int) ∧ N < 512 := by
  have h := i64_mask v 9 (by decide)
  have h2 : bits .and .i64 v 511 = v % 512 := h
  exact ⟨(v % 512).toNat, by rw [h2]; omega, by omega⟩
set_option maxRecDepth 100000 in
set_option maxHeartbeats 4000000 in
theorem metalogFull_walk (K : LogK) (A : Option Addr) (nl c : Nat) (l : List Int) (w : World) (hx : Reads w w.heap.size 1 A nl (I64 l)) (hb : ∀ v ∈ l, -9223372036854775808 ≤ v ∧ v ≤ 9223372036854775807) (hnc : nl ≤ c) (hc63 : c ≤ 9223372036854775807) :
    Calls Try.prog 4 #[.slice A nl c] w fun e w' => e = .returned (.bool true) ∧ Below w.heap.size w w' := by
  have HX := hide hx
  have HBD := hide hb
  have hln : l.length = nl := by have := hx.1; simpa [I64] using this
  obtain ⟨ui, hui, huz, hus, hub⟩ := u8_all
  have HUI := hide hui
  have HUZ := hide huz
  have HUS := hide hus
  have HUB := hide hub
  clear hx hb hui huz hus hub
  go_enter Try.func4, Try.ntmps4
  go_wp2_with (first
    | (go_at_call 13; refine (shown9_any K w).mono ?_; rintro _ w1 ⟨rfl, hl1⟩)
    | (go_at_call 14; refine (disks_any w1 1 (by decide)).mono ?_; rintro _ w2 ⟨⟨b, F, rfl, hB2, hlo2⟩, hl2⟩))
  have hs1 := hl1.size
  have HL2 := hide (hl1.trans (hl2.mono hs1))
  have HB2 := hide hB2
  have HLO : Hid (∀ x, F x → w.heap.size ≤ x) := hide fun x hx => Nat.le_trans hs1 (hlo2 x hx)
  clear hB2 hlo2 hl1 hl2
  have hN := newRow w2 (I64 [0]) 3 (0, 0)
  show Calls _ _ _ (w2.alloc (.cells (I64 [0]).toArray 3 (0, 0))) _
  generalize w2.alloc (.cells (I64 [0]).toArray 3 (0, 0)) = w3 at hN ⊢
  obtain ⟨hl3, hz3, hr3⟩ := hN
  rw [← hz3] at hr3
  refine (K.new_any w3 b (some ⟨w2.heap.size, 0, none⟩) 1 1 [0] 1 hr3 (by omega) (by omega) (by omega)).mono ?_
  rintro _ w4 ⟨p, G, rfl, hO4, hp4, hG4, hl4⟩
  have HL4 := hide ((HL2.out.trans (hl3.mono HL2.out.size)).trans (hl4.mono (by have := HL2.out.size; omega)))
  have HB4 := hide ((HB2.out.later hl3).later hl4)
  have HG : Hid (∀ x, G x → w2.heap.size ≤ x) := hide fun x hg => by
    rcases hG4 x hg with h | ⟨ad, h, e⟩
    · omega
    · injection h with h
      rw [← h] at e
      have e2 : x = w2.heap.size := e
      omega
  have HD : Hid (∀ x, F x → ¬ G x) := hide fun x hx hg => by
    have h1 := HB2.out.1 x hx
    have h2 := HG.out x hg
    omega
  have HO4 := hide hO4
  have hpw : w.heap.size ≤ p := by have := HL2.out.size; omega
  have hs4 := hl4.size
  clear hr3 hl3 hO4 hG4 hl4 hp4 HB2 HL2
  have HJ := hide (Disks_JI 1 [0] 1 (by decide) (by decide) (by decide))
  go_wp2_with fail
  go_loopw [6, 7, 8] (fun s6 s7 s8 wr => ∃ (i : Nat) (S : Bank) (V : LogV) (R : List (List UInt8)) (rm nr : Nat), s6 = .int .i64 (rm : Int) ∧ s7 = .int .i64 (nr : Int) ∧ s8 = .int .i64 (i : Int) ∧ i ≤ 60 ∧ i ≤ nl ∧ rm = 48 - usedL R ∧ nr = R.length ∧ Hid (BankOn wr b F S) ∧ Hid (K.On wr p G b V) ∧ Hid (JI S V noughts R) ∧ Hid (S.armed = 0 ∧ S.writes ≤ i * 48 ∧ V.live = [0] ∧ V.gen = 1 ∧ S.dead 0 = false) ∧ Hid (Below w.heap.size w wr)) (fun _ _ s8 _ => nl - (intOf s8).toNat)
  case atStart => exact ⟨0, _, _, [], 48, 0, rfl, rfl, rfl, by decide, Nat.zero_le _, rfl, rfl, HB4, HO4, HJ, hide ⟨(Disks_std 1).2.2, by rw [(Disks_std 1).2.1]; omega, rfl, rfl, Disks_live 1 0⟩, HL4⟩
  case round =>
    obtain ⟨i, S, V, R, rm, nr, rfl, rfl, rfl, hi60, hin, hrm, hnr, hB, hO, hJ, hS, hl⟩ := hrel
    obtain ⟨wo, rfl⟩ : ∃ wo, wo = wr := ⟨_, rfl⟩
    have hrm48 : rm ≤ 48 := by omega
    have hnr48 : nr ≤ 48 := by have := hJ.out.few; omega
    have HRM := hide hrm
    have HNR := hide hnr
    clear hrm hnr
    by_cases hlt : i < nl ∧ i < 60
    · have hg1 : (i : Int) < (nl : Int) := by omega
      have hg2 : (i : Int) < 60 := by omega
      obtain ⟨ad, rfl, hadb, hcells⟩ := (HX.out.below hl.out).2 (by omega)
      have hcell := hcells i (.int .i64 (l.getD i 0)) (by rw [I64, List.getElem?_map, List.getElem?_eq_getElem (by omega)]; simp [List.getD, show i < l.length by omega])
      have HC := hide hcells
      clear hcells
      obtain ⟨N, hN, hN512⟩ := mask511 (l.getD i 0)
      generalize l.getD i 0 = v at hcell hN
      have hpi := partsI_nat N
      obtain ⟨pn, hpn⟩ : ∃ pn, pn = partsN N := ⟨_, rfl⟩
      rw [← hpn] at hpi
      have hmk : ∀ w : World, (Instr.makeSlice 32 (.int .i64 (N : Int)) (.int .i64 (N : Int))).run Try.prog w = .ok (.slice (some ⟨w.heap.size, 0, none⟩) N N) (w.alloc (.cells (B8 (List.replicate N 0)).toArray 5)) :=
        fun w => run_make_list w _ _ ui _ Try.underlying32 HUI.out HUZ.out HUS.out rfl N _ (by rw [B8, List.map_replicate]; rfl) (by rw [HUB.out]; omega) (by omega)
      have HPN := hide hpn
      clear hpn
      go_wp2_with (first
        | (go_at_call 23; refine (recParts_any _ _).mono ?_; rintro _ _ ⟨rfl, rfl⟩; rw [hpi]))
      have hN5 := newRow wo (B8 (List.replicate N 0)) 5 (0, 0)
      rw [B8_length, List.length_replicate] at hN5
      show Calls _ _ _ (wo.alloc (.cells (B8 (List.replicate N 0)).toArray 5 (0, 0))) _
      generalize wo.alloc (.cells (B8 (List.replicate N 0)).toArray 5 (0, 0)) = w5 at hN5 ⊢
      obtain ⟨hl5, hz5, hr5⟩ := hN5
      rw [← hz5] at hr5
      obtain ⟨hS1, hS2, hS3, hS4, hS5⟩ := hS.out
      have hat := hJ.out.at_
      have hnu := hJ.out.num
      have hus := hJ.out.used
      have hfew := hJ.out.few
      refine (K.append_any w5 p b F G S V (some ⟨wo.heap.size, 0, none⟩) N N (List.replicate N 0) (hB.out.later hl5) (K.later hO.out hl5) HD.out hr5 (by omega) (by omega) (by omega) (by rw [hS3]; decide) (by omega) (by omega)).mono ?_
      rintro _ w6 ⟨rfl, hB6, hO6, hT6⟩
      have hw5 := hl.out.size
      have HL6 : Hid (Below w.heap.size w w6) := hide ((hl.out.trans (hl5.mono hw5)).trans ⟨hT6.os, hT6.tape, hT6.output, hT6.size, fun y hy => hT6.block y (by omega) (fun hf => by
        rcases hf with hf | hf
        · have := HLO.out y hf; omega
        · omega)⟩)
      have hc := hJ.out.append (r := List.replicate N (0 : UInt8)) (by rw [List.length_replicate]; omega)
      rw [List.length_replicate, ← HPN.out] at hc
      rcases hc with ⟨h1, h2⟩ | ⟨h1, _, h2, h3, h4, h5, h6, h7⟩ | ⟨_, h1, _⟩ | ⟨_, h1, _⟩
      · rw [h2] at hB6 hO6 ⊢
        have HB6 := hide hB6
        have HO6 := hide hO6
        have hle : ¬ ((pn : Int) ≤ (rm : Int)) := by have := HRM.out; omega
        have hroom := HRM.out
        have hnext := HNR.out
        have hav : 48 - V.at_ = rm := by omega
        have hnv : V.num = nr := by omega
        have ha48 : V.at_ ≤ 48 := by omega
        have hn48 : V.num ≤ 48 := by omega
        clear hB6 hO6 h1 h2 hT6 hl5 hr5 hroom hnext hS1 hS2 hS3 hS4 hS5 hat hnu hus
        go_wp2_with (first
          | (go_at_call 24; refine (K.room_any _ p b G V HO6.out ha48).mono ?_; rintro _ _ ⟨rfl, rfl⟩; rw [hav])
          | (go_at_call 25; refine (K.next_any _ p b G V HO6.out hn48).mono ?_; rintro _ _ ⟨rfl, rfl⟩; rw [hnv]))
        go_roundw
        case rel => exact ⟨i + 1, S, V, R, rm, nr, rfl, rfl, by simp, by omega, by omega, HRM.out, HNR.out, HB6, HO6, hJ, hide ⟨hS.out.1, by have := hS.out.2.1; omega, hS.out.2.2⟩, HL6⟩
        case measure => simp [intOf]; omega
      · rw [h2]
        rw [h3] at hO6
        have HB6 := hide hB6
        have HO6 := hide hO6
        rw [h3] at h4
        generalize (appendJ V S (List.replicate N 0)).2.2 = T at HB6 h4 h5 h6 h7
        have hle : (pn : Int) ≤ (rm : Int) := by have := HRM.out; omega
        have hroom := HRM.out
        have hnext := HNR.out
        obtain ⟨rm2, hrm2⟩ : ∃ rm2, rm2 = rm - pn := ⟨_, rfl⟩
        have hsub : (rm : Int) - (pn : Int) = (rm2 : Int) := by omega
        have hav : 48 - (V.at_ + pn) = rm2 := by omega
        have hnv : V.num + 1 = nr + 1 := by omega
        have ha48 : V.at_ + pn ≤ 48 := by omega
        have hn48 : V.num + 1 ≤ 48 := by have := h4.few; rw [List.length_append] at this; simp at this; omega
        have HJ6 := hide h4
        have H5 := hide h5
        have H6 := hide h6
        have hpnv := HPN.out
        have HRM2 : Hid (rm2 = 48 - usedL (R ++ [List.replicate N 0])) := hide (by rw [usedL_append, usedL_cons, usedL_nil, List.length_replicate]; omega)
        have HNR2 : Hid (nr + 1 = (R ++ [List.replicate N (0 : UInt8)]).length) := hide (by rw [List.length_append]; simp; omega)
        have HS2 : Hid (T.armed = 0 ∧ T.writes ≤ (i + 1) * 48 ∧ V.live = [0] ∧ V.gen = 1 ∧ T.dead 0 = false) := hide ⟨h6 hS1, by rw [hS3] at h7; simp at h7; omega, hS3, hS4, by rw [h5.dead]; exact hS5⟩
        have hnr49 : nr + 1 ≤ 49 := by omega
        clear hB6 hO6 h1 h2 h3 h4 h5 h6 h7 hT6 hl5 hr5 hroom hnext hS1 hS2 hS3 hS4 hS5 hat hnu hus hfew hpnv hrm2
        go_wp2_with (first
          | (go_at_call 24; refine (K.room_any _ p b G _ HO6.out ha48).mono ?_; rintro _ _ ⟨rfl, rfl⟩; rw [show 48 - ({ V with at_ := V.at_ + pn, num := V.num + 1 } : LogV).at_ = rm2 from hav])
          | (go_at_call 25; refine (K.next_any _ p b G _ HO6.out hn48).mono ?_; rintro _ _ ⟨rfl, rfl⟩; rw [show ({ V with at_ := V.at_ + pn, num := V.num + 1 } : LogV).num = nr + 1 from hnv]))
        go_roundw
        case rel => exact ⟨i + 1, T, _, R ++ [List.replicate N 0], rm2, nr + 1, rfl, by simp, by simp, by omega, by omega, HRM2.out, HNR2.out, HB6, HO6, HJ6, HS2, HL6⟩
        case measure => simp [intOf]; omega
      · exact absurd (h1 0 (by rw [hS3]; decide)) (by rw [hS5]; decide)
      · exact absurd hS1 h1
    · by_cases hin2 : i < nl
      · obtain rfl : i = 60 := by omega
        have hg1 : (60 : Int) < (nl : Int) := by omega
        go_wp2_with fail
        have hN5 := newRow wo (I64 [0]) 3 (0, 0)
        show Calls _ _ _ (wo.alloc (.cells (I64 [0]).toArray 3 (0, 0))) _
        generalize wo.alloc (.cells (I64 [0]).toArray 3 (0, 0)) = w5 at hN5 ⊢
        obtain ⟨hl5, hz5, hr5⟩ := hN5
        rw [← hz5] at hr5
        obtain ⟨hS1, hS2, hS3, hS4, hS5⟩ := hS.out
        have hlv := hJ.out.live 0 (by rw [hS3]; decide)
        refine (K.scan_any w5 b F S (some ⟨wo.heap.size, 0, none⟩) 1 1 [0] 1 (hB.out.later hl5) hJ.out.std.up hr5 (by omega) (by omega) (by omega) (fun d hd => by
          obtain rfl : d = 0 := by simpa using hd
          exact hlv)).mono ?_
        rintro _ w6 ⟨B1, m1, k1, f1, rfl, hR6, hM6, hl6⟩
        have hvn := views_ne (S := S) (live := [0]) (d := 0) (by decide) hS5
        have hsc := hJ.out.scan (T := S) (live := [0]) (d := 0) (hJ.out.holds.some (by rw [hS3]; decide)) (by decide) hS5
        rw [hS4] at hsc
        rw [if_neg hvn, hsc] at hM6
        rw [if_neg hvn, if_neg hvn, hsc]
        have hm1 : m1 = nr := by have := congrArg List.length hM6; have h2 := HNR.out; simp at this; omega
        subst hm1
        have hus : usedL R = 48 - rm := by have := HRM.out; have := hJ.out.used; omega
        obtain ⟨us, hue⟩ : ∃ us, us = usedL R := ⟨_, rfl⟩
        have hsb : (48 : Int) - (rm : Int) = (us : Int) := by omega
        have HL6 := hide ((hl.out.trans (hl5.mono hl.out.size)).trans (hl6.mono (by have := hl.out.size; omega)))
        rw [show (R, usedL R).2 = us from hue.symm]
        clear hR6 hM6 hl6 hl5 hr5 hsc hvn hlv hue hus hS1 hS2 hS3 hS4 hS5
        go_wp2_with fail
        go_ret
        exact ⟨rfl, HL6.out⟩
      · have hg1 : ¬ ((i : Int) < (nl : Int)) := by omega
        go_wp2_with fail
        have hN5 := newRow wo (I64 [0]) 3 (0, 0)
        show Calls _ _ _ (wo.alloc (.cells (I64 [0]).toArray 3 (0, 0))) _
        generalize wo.alloc (.cells (I64 [0]).toArray 3 (0, 0)) = w5 at hN5 ⊢
        obtain ⟨hl5, hz5, hr5⟩ := hN5
        rw [← hz5] at hr5
        obtain ⟨hS1, hS2, hS3, hS4, hS5⟩ := hS.out
        have hlv := hJ.out.live 0 (by rw [hS3]; decide)
        refine (K.scan_any w5 b F S (some ⟨wo.heap.size, 0, none⟩) 1 1 [0] 1 (hB.out.later hl5) hJ.out.std.up hr5 (by omega) (by omega) (by omega) (fun d hd => by
          obtain rfl : d = 0 := by simpa using hd
          exact hlv)).mono ?_
        rintro _ w6 ⟨B1, m1, k1, f1, rfl, hR6, hM6, hl6⟩
        have hvn := views_ne (S := S) (live := [0]) (d := 0) (by decide) hS5
        have hsc := hJ.out.scan (T := S) (live := [0]) (d := 0) (hJ.out.holds.some (by rw [hS3]; decide)) (by decide) hS5
        rw [hS4] at hsc
        rw [if_neg hvn, hsc] at hM6
        rw [if_neg hvn, if_neg hvn, hsc]
        have hm1 : m1 = nr := by have := congrArg List.length hM6; have h2 := HNR.out; simp at this; omega
        subst hm1
        have hus : usedL R = 48 - rm := by have := HRM.out; have := hJ.out.used; omega
        obtain ⟨us, hue⟩ : ∃ us, us = usedL R := ⟨_, rfl⟩
        have hsb : (48 : Int) - (rm : Int) = (us : Int) := by omega
        have HL6 := hide ((hl.out.trans (hl5.mono hl.out.size)).trans (hl6.mono (by have := hl.out.size; omega)))
        rw [show (R, usedL R).2 = us from hue.symm]
        clear hR6 hM6 hl6 hl5 hr5 hsc hvn hlv hue hus hS1 hS2 hS3 hS4 hS5
        go_wp2_with fail
        go_ret
        exact ⟨rfl, HL6.out⟩
#print axioms metalogFull_walk
namespace MetalogFull
theorem walk (A0 : Option Addr) (n0 c0 : Nat) (l0 : List Int) (w : World) (x0 : Reads w w.heap.size 1 A0 n0 (I64 l0)) (y0 : ∀ v ∈ l0, -9223372036854775808 ≤ v ∧ v ≤ 9223372036854775807) (g0 : n0 ≤ c0) (z0 : c0 ≤ 9223372036854775807) :
    Calls Try.prog 4 #[.slice A0 n0 c0] w fun e w' => e = .returned (.bool true) ∧ Below w.heap.size w w' :=
  metalogFull_walk logK A0 n0 c0 l0 w x0 y0 g0 z0
/-! The row's frame, by program: how the walk above proves the statement. -/
set_option maxRecDepth 100000 in
theorem lifted (os : Os) (started : os.Started) (H : Type) (enc : TypeId × Value → H) :
    ReturnsInHanded {} Try.checked os 4 .any (Rows.metalogFullSpec.pre6 enc Try.prog Try.f4 Rows.metalogFullRow.domain false) (Rows.metalogFullSpec.post enc Try.prog Try.f4 false true false false) := by
  refine returnsInHanded_of_change (C := Try.checked) own started (by kernel_rfl) Try.func4
    (ChangeSpec.witness6 (enc := enc) (C := Try.checked) false ⟨#[], #[.slice none 0 0], []⟩ 8 (by kernel_rfl) (by kernel_rfl) (by kernel_rfl) (by kernel_rfl)) ?_
  intro W base args ds gs before hval0 hW hcnd _
  have hval : ∀ (j : Nat) t v, Try.f4.params[j]? = some t → args[j]? = some v → Value.okWide Try.prog W .any base t v := hval0
  have hW' := hW
  obtain ⟨p, q, hA0, hV, rfl, hfz, hnd⟩ := hW
  have hA : DataW.TrodAll enc Try.prog W 0 (fun _ => true) true Try.f4.params.toList args.toList ds p := hA0
  rw [Try.params4] at hA hval
  obtain ⟨v0, vs0, d0, ds0, p0, q0, hargs, rfl, rfl, h0, r0⟩ := trodAll_cons hA
  obtain ⟨rfl, rfl, rfl⟩ := trodAll_nil r0
  obtain rfl : args = #[v0] := by cases args; simp_all
  obtain ⟨rfl, rfl⟩ := trodVars_none hV
  obtain ⟨A0, n0, c0, rfl⟩ := okWide_slice Try.underlying27 (hval 0 27 v0 rfl rfl)
  have k0 := h0
  have lt0 : ∀ x ∈ p0, x.block < W.heap.size := by obtain ⟨m, hm⟩ := k0; exact DataW.trod_lt m _ _ _ hm
  obtain ⟨l0, x0, y0, g0, z0⟩ := arg_ints h0
  clear hA0 hval0
  refine (walk A0 n0 c0 l0 W x0 y0 g0 z0).mono fun e W' ⟨he, bel⟩ => ?_
  subst he
  exact ⟨_, rfl, _, _, _, [], _, [], hW', trodAll_mk1 (shut_bool Try.underlying4 _), (trodAll_cons_mk (Below.trod laidOut (by kernel_rfl) (of_decide_eq_true (by kernel_rfl)) k0 bel lt0) trodAll_mk0), rfl, bel.frame _, fun h => by cases h⟩

theorem over : Rows.metalogFullRow.holds Try.pinned (OpenSpec.ofChange Rows.metalogFullSpec) :=
  OpenClaim.holds_of_wide 4 Try.f4 rfl rfl rfl rfl rfl rfl rfl ⟨rfl, rfl, rfl, rfl, rfl⟩ rfl rfl rfl rfl rfl (by kernel_rfl) Try.func4 (by kernel_rfl)
    (of_decide_eq_true (by kernel_rfl)) (by unfold Func.isWrapper; first | (rw [if_pos (by decide +kernel)]; kernel_rfl) | (rw [if_neg (by decide +kernel)]; exact ⟨rfl, rfl⟩))
    (fun os started H enc _ => lifted os started H enc)

/-- The statement. -/
theorem proved : Rows.MetalogFullSaid := over
#print axioms proved
end MetalogFull
end Go.Proofs.Ytmjdndhpnckeeaa
