/- RecordNone holds: a sector of noughts is no part, and a part of at most fifty-three bytes with any one of the bytes that it does not hold other than 0 is none any more; no condition. -/
import Derived.Test.YtdchdmbkojnmcaaRecH
import Derived.Test.YtdchdmbkojnmcaaArg
import Derived.Test.YtdchdmbkojnmcaaPoke
import Derived.Test.YtdchdmbkojnmcaaRows
import Derived.Deep.DeepCutAuto
import Derived.Deep.CutBlock
import Derived.Deep.CutRange
import Derived.Deep.RegionWith
import Derived.Deep.QuietTactic
namespace Go.Proofs.Ytdchdmbkojnmcaa.RecordNone
open Go.ChangeShapes Go.WideShapes Go.ChangeAt Go.RowKit Go.Proofs.Ytdchdmbkojnmcaa

theorem no_nought : partB (List.replicate 64 0) = false := by decide +kernel
theorem built_sec0 : Try.prog.built 35 [] = some (B8 (List.replicate 64 0)).toArray := by kernel_rfl
theorem mask32 (v : Int) : bits .and .i64 v 4294967295 = v % 4294967296 := i64_mask v 32 (by omega)
theorem mask8 (v : Int) : bits .and .i64 v 255 = v % 256 := i64_mask v 8 (by omega)
theorem parts_one {n : Nat} (h : n ≤ 53) : partsN n = 1 := by
  unfold partsN partsI
  rw [if_neg (by omega)]
  split <;> omega
theorem num_mod (v : Int) : numB (v % 4294967296) = true := by simp [numB]; omega
theorem byteAt_set (s : List UInt8) (j k : Nat) (x : UInt8) (h : k < j) : byteAt (s.set j x) k = byteAt s k := by
  unfold byteAt
  simp only [List.getD]
  rw [List.getElem?_set_ne (by omega)]
theorem take_set_lt {α : Type} (s : List α) (j k : Nat) (x : α) (h : k ≤ j) : (s.set j x).take k = s.take k := by
  rw [List.take_set, List.set_eq_of_length_le (by rw [List.length_take]; omega)]
theorem readT_set (s : List UInt8) (j : Nat) (x : UInt8) (h : 11 ≤ j) : readT (s.set j x) = readT s := by
  unfold readT
  rw [take_set_lt _ _ _ _ (by omega), byteAt_set _ _ _ _ (by omega), byteAt_set _ _ _ _ (by omega), byteAt_set _ _ _ _ (by omega), List.drop_set, if_neg (by omega), take_set_lt _ _ _ _ (by omega)]
theorem poked_none {s : List UInt8} {j : Nat} {x : UInt8} (hs : s.length = 64) (h0 : 11 + (readT s).len.toNat ≤ j) (h1 : j < 64) (hx : x ≠ 0) : partB (s.set j x) = false := by
  rw [Bool.eq_false_iff]
  intro hp
  have hr := part_right hp
  have hlen : (s.set j x).length = 64 := by rw [List.length_set, hs]
  have he := partB_eq hr
  rw [hp] at he
  have h2 := (part_iff _ hlen ((right_iff _).1 hr).2.2.2).1 (of_decide_eq_true he.symm)
  rw [readT_set _ _ _ (by omega)] at h2
  have h3 : (s.set j x)[j]? = some x := by rw [List.getElem?_set_self (by omega)]
  have h4 : ((s.set j x).drop (11 + (readT s).len.toNat))[j - (11 + (readT s).len.toNat)]? = some x := by
    rw [List.getElem?_drop, show 11 + (readT s).len.toNat + (j - (11 + (readT s).len.toNat)) = j by omega, h3]
  rw [h2, List.getElem?_replicate] at h4
  split at h4
  · injection h4 with h4; exact hx h4.symm
  · cases h4
set_option maxRecDepth 100000 in
set_option maxHeartbeats 4000000 in
theorem walk (gen : Int) (A : Option Addr) (n c : Nat) (l : List UInt8) (at_ : Int) (cc : Int) (w : World) (_g1 : -9223372036854775808 ≤ gen) (_g2 : gen ≤ 9223372036854775807) (hr : Reads w w.heap.size 1 A n (B8 l)) (hc : n ≤ c) (hc2 : c ≤ 9223372036854775807)
    (_a1 : -9223372036854775808 ≤ at_) (_a2 : at_ ≤ 9223372036854775807) (c0 : 0 ≤ cc) (c1 : cc ≤ 255) :
    Calls Try.prog 7 #[.int .i64 gen, .slice A n c, .int .i64 at_, .int .u8 cc] w fun e w' => e = .returned (.bool true) ∧ Below w.heap.size w w' := by
  have HS := hide (shown_any w)
  have HR := hide hr
  have hm1 := mask32 gen
  have hm2 := mask8 at_
  clear hr
  go_enter Try.func7, Try.ntmps7
  go_upto_region 2 with (go_at_call 10; refine HS.out.mono ?_; rintro _ w1 ⟨rfl, hl1⟩)
  go_cut [1] (fun v1 wx => w1 = wx ∧ ∃ m : Nat, m ≤ n ∧ m ≤ 53 ∧ v1 = .slice A m c)
  case first =>
    by_cases hmn : (n : Int) ≤ 53
    · go_wp2_with fail
      go_meet
      case rel => exact ⟨rfl, n, Nat.le_refl _, by omega, rfl⟩
    · go_wp2_with fail
      go_meet
      case rel => exact ⟨rfl, 53, by omega, by omega, rfl⟩
  case rest =>
    obtain ⟨rfl, m, hmn, hm53, rfl⟩ := hcut
    have HL1 := hide hl1
    have hh := HR.out.head (k := m) hmn
    rw [Nat.mul_one, B8_take] at hh
    obtain ⟨b, hb⟩ : ∃ b, b = l.take m := ⟨_, rfl⟩
    rw [← hb] at hh
    have hbl : b.length = m := by have := hh.1; rw [B8_length] at this; omega
    have HRB := hide hh
    have hp1 : partsN b.length = 1 := parts_one (by omega)
    have HZ := hide (tagOf_any (List.replicate 64 0) (by simp))
    rw [tagT_no no_nought, no_nought] at HZ
    clear hh hb hl1
    go_wp2_with (first
      | ((with_reducible refine at_slot 23 ?_); refine wpList_build_is rfl 35 #[] rfl [] (by simp) (B8 (List.replicate 64 0)).toArray built_sec0 ?_))
    refine (HZ.out w1).mono ?_
    rintro _ w2 ⟨rfl, hl2⟩
    have HL2 := hide (HL1.out.trans (hl2.mono HL1.out.size))
    clear hl2
    go_wp2_with (first
      | ((with_reducible refine at_slot 10 ?_); refine wpList_alloc_blk rfl 31 rfl _ (tag_nought _) ?_; intro w3 hb3q hl3 hs3; clear hs3; have hb3 : Blk w3 w2.heap.size 31 (tagC Tg.zero).toArray := hb3q; clear hb3q)
      | ((with_reducible refine at_store 10 ?_); refine wpList_store_all rfl 31 (.tmp 10) (.tmp 25) rfl w2.heap.size 31 _ hb3 rfl (tagC Tg.zero) rfl tag_info rfl (tagC_one _) ?_; intro w4 hb4 hg4 hs4; clear hs4))
    have hl24 : Below w2.heap.size w2 w4 := hl3.grown hg4 hl3.size (fun g e => by injection e with e; omega)
    have HL4 := hide (HL2.out.trans (hl24.mono HL2.out.size))
    clear hb3 hl3 hb4 hg4 hl24
    refine (recSplit_any (gen % 4294967296) 3 A m c b w.heap.size w4 (HRB.out.below HL4.out) HL4.out.size (by omega) hc2 (num_mod gen) (by decide)).mono ?_
    rintro _ w5 ⟨g, rfl, hg, hb5, hl5⟩
    rw [hp1]
    have HL5 := hide (HL4.out.trans (hl5.mono HL4.out.size))
    have HG := hide (show w.heap.size ≤ g from Nat.le_trans HL4.out.size hg)
    have HB5 := hide hb5
    have hsp : splitT (gen % 4294967296) 3 b = pieceS (gen % 4294967296) 3 b 0 := by rw [splitT, hp1, cat_succ, cat_zero, List.nil_append]
    have hrd : readT (pieceS (gen % 4294967296) 3 b 0) = pieceT (gen % 4294967296) 3 b 0 := piece_read (num_mod gen) (by decide) (by omega)
    have hln : (pieceT (gen % 4294967296) 3 b 0).len.toNat = m := by
      show ((heldT b 0).length : Int).toNat = m
      rw [Int.toNat_natCast, heldT_length]
      omega
    obtain ⟨S, hS⟩ : ∃ S, S = pieceS (gen % 4294967296) 3 b 0 := ⟨_, rfl⟩
    have hSl : S.length = 64 := by rw [hS]; exact secT_length _ _
    rw [hsp, ← hS] at HB5
    rw [← hS] at hrd
    have HSL := hide hSl
    have HPK := hide (fun (j : Nat) (x : UInt8) (h0 : 11 + m ≤ j) (h1 : j < 64) (hx : x ≠ 0) => poked_none (s := S) (j := j) (x := x) hSl (by rw [hrd, hln]; exact h0) h1 hx)
    clear hg hb5 hl5 hsp hrd hln hS hSl hp1 hbl
    by_cases hf : m = 53
    · subst hf
      go_wp2
      go_ret
      exact ⟨rfl, HL5.out⟩
    · have hf1 : ((53 : Int) - (m : Int) == 0) = false := by simp; omega
      by_cases hc0 : cc = 0
      · subst hc0
        go_wp2
        go_ret
        exact ⟨rfl, HL5.out⟩
      · have hc3 : (cc == 0) = false := by simpa using hc0
        obtain ⟨r, hr1, hr2⟩ : ∃ r : Nat, (at_ % 256) % (53 - (m : Int)) = (r : Int) ∧ r < 53 - m := by
          have h0 : 0 ≤ (at_ % 256) % (53 - (m : Int)) := Int.emod_nonneg _ (by omega)
          have h1 : (at_ % 256) % (53 - (m : Int)) < 53 - (m : Int) := Int.emod_lt_of_pos _ (by omega)
          exact ⟨((at_ % 256) % (53 - (m : Int))).toNat, by omega, by omega⟩
        have hr3 : (at_ % 256).tmod (53 - (m : Int)) = (r : Int) := by rw [Int.tmod_eq_emod_of_nonneg (by omega)]; exact hr1
        obtain ⟨x, hx⟩ : ∃ x : UInt8, cc = ((x.toNat : Nat) : Int) := ⟨UInt8.ofNat cc.toNat, by simp; omega⟩
        have hx0 : x ≠ 0 := fun h => by rw [h] at hx; exact hc0 (by simpa using hx)
        obtain ⟨old, hold⟩ : ∃ old, (B8 S)[11 + m + r]? = some old := ⟨_, List.getElem?_eq_getElem (by rw [B8_length, HSL.out]; omega)⟩
        have hcl : w5.cell? ⟨g, 11 + m + r, none⟩ = some old := by rw [HB5.out.cell, List.getElem?_toArray, hold]
        have hfz := HB5.out.frozen (11 + m + r)
        have hst := HB5.out.set_ (11 + m + r) (.int .u8 cc)
        have hq1 : (11 : Int) + (m : Int) + (r : Int) < 64 := by omega
        have hq2 : ((11 : Int) + (m : Int) + (r : Int)).toNat = 11 + m + r := by omega
        have hq3 : (0 : Int) ≤ 11 + (m : Int) + (r : Int) := by omega
        have hsx : Blk (w5.setCell ⟨g, 11 + m + r, none⟩ (.int .u8 cc)).drew g 35 (B8 (S.set (11 + m + r) x)).toArray := by
          have e : (B8 S).toArray.setIfInBounds (11 + m + r) (.int .u8 cc) = (B8 (S.set (11 + m + r) x)).toArray := by
            rw [List.setIfInBounds_toArray, hx]
            simp [B8, List.map_set]
          rw [e] at hst
          exact hst
        have hbw : Below w.heap.size w (w5.setCell ⟨g, 11 + m + r, none⟩ (.int .u8 cc)).drew := (HL5.out.setCell (p := ⟨g, 11 + m + r, none⟩) HG.out _).drew
        have HPK2 := hide (HPK.out (11 + m + r) x (by omega) (by omega) hx0)
        obtain ⟨X, hX⟩ : ∃ X, X = S.set (11 + m + r) x := ⟨_, rfl⟩
        have hXl : X.length = 64 := by rw [hX, List.length_set]; exact HSL.out
        rw [← hX] at hsx HPK2
        obtain ⟨U, hU⟩ : ∃ U, U = B8 X := ⟨_, rfl⟩
        have HIU := hide (show (Try.prog.info? 35).map (·.size) = some U.length by rw [hU, B8_length, hXl]; kernel_rfl)
        have HT := hide (tagOf_any X hXl)
        rw [tagT_no HPK2.out, HPK2.out, ← hU] at HT
        rw [← hU] at hsx
        have HSX := hide hsx
        have HBW := hide hbw
        clear hold hst hr1 hx hx0 hsx hbw hX hXl hU
        go_wp2_with fail
        go_region
        clear hcl hfz
        generalize (w5.setCell ⟨g, 11 + m + r, none⟩ (.int .u8 cc)).drew = w6 at *
        go_wp2_with (first
          | ((with_reducible refine at_slot 63 ?_); refine wpList_load_blk rfl 35 (.tmp 62) rfl g 0 35 _ HSX.out rfl U _ (fun j v hj => by rw [Nat.zero_add]; simpa using hj) Try.underlying35 rfl HIU.out ?_))
        refine (HT.out w6).mono ?_
        rintro _ w7 ⟨rfl, hl7⟩
        have HL7 := hide (HBW.out.trans (hl7.mono HBW.out.size))
        clear hl7
        go_wp2_with (first
          | ((with_reducible refine at_slot 14 ?_); refine wpList_alloc_blk rfl 31 rfl _ (tag_nought _) ?_; intro w8 hb8q hl8 hs8; clear hs8; have hb8 : Blk w8 w7.heap.size 31 (tagC Tg.zero).toArray := hb8q; clear hb8q)
          | ((with_reducible refine at_store 14 ?_); refine wpList_store_all rfl 31 (.tmp 14) (.tmp 65) rfl w7.heap.size 31 _ hb8 rfl (tagC Tg.zero) rfl tag_info rfl (tagC_one _) ?_; intro w9 hb9 hg9 hs9; clear hs9))
        have hl79 : Below w7.heap.size w7 w9 := hl8.grown hg9 hl8.size (fun g e => by injection e with e; omega)
        have HL9 := hide (HL7.out.trans (hl79.mono HL7.out.size))
        clear hb8 hl8 hb9 hg9 hl79
        go_ret
        exact ⟨rfl, HL9.out⟩

/-! The row's frame, by program: how the walk above proves the statement. -/
set_option maxRecDepth 100000 in
theorem lifted (os : Os) (started : os.Started) (H : Type) (enc : TypeId × Value → H) :
    ReturnsInHanded {} Try.checked os 7 .any (Rows.recordNoneSpec.pre6 enc Try.prog Try.f7 Rows.recordNoneRow.domain false) (Rows.recordNoneSpec.post enc Try.prog Try.f7 false true false false) := by
  refine returnsInHanded_of_change (C := Try.checked) own started (by kernel_rfl) Try.func7
    (ChangeSpec.witness6 (enc := enc) (C := Try.checked) false ⟨#[], #[.int .i64 0, .slice none 0 0, .int .i64 0, .int .u8 0], []⟩ 8 (by kernel_rfl) (by kernel_rfl) (by kernel_rfl) (by kernel_rfl)) ?_
  intro W base args ds gs before hval0 hW hcnd _
  have hval : ∀ (j : Nat) t v, Try.f7.params[j]? = some t → args[j]? = some v → Value.okWide Try.prog W .any base t v := hval0
  have hW' := hW
  obtain ⟨p, q, hA0, hV, rfl, hfz, hnd⟩ := hW
  have hA : DataW.TrodAll enc Try.prog W 0 (fun _ => true) true Try.f7.params.toList args.toList ds p := hA0
  rw [Try.params7] at hA hval
  obtain ⟨v0, vs0, d0, ds0, p0, q0, hargs, rfl, rfl, h0, r0⟩ := trodAll_cons hA
  obtain ⟨v1, vs1, d1, ds1, p1, q1, rfl, rfl, rfl, h1, r1⟩ := trodAll_cons r0
  obtain ⟨v2, vs2, d2, ds2, p2, q2, rfl, rfl, rfl, h2, r2⟩ := trodAll_cons r1
  obtain ⟨v3, vs3, d3, ds3, p3, q3, rfl, rfl, rfl, h3, r3⟩ := trodAll_cons r2
  obtain ⟨rfl, rfl, rfl⟩ := trodAll_nil r3
  obtain rfl : args = #[v0, v1, v2, v3] := by cases args; simp_all
  obtain ⟨rfl, rfl⟩ := trodVars_none hV
  obtain ⟨a0, rfl, rfl, rfl, w0⟩ := open_int Try.underlying3 (hval 0 3 v0 rfl rfl) h0
  have b0 := bounds_i64 w0
  obtain ⟨A1, n1, c1, rfl⟩ := okWide_slice Try.underlying22 (hval 1 22 v1 rfl rfl)
  have k1 := h1
  have lt1 : ∀ x ∈ p1, x.block < W.heap.size := by obtain ⟨m, hm⟩ := k1; exact DataW.trod_lt m _ _ _ hm
  obtain ⟨l1, x1, g1, z1⟩ := arg_bytes h1
  obtain ⟨a2, rfl, rfl, rfl, w2⟩ := open_int Try.underlying3 (hval 2 3 v2 rfl rfl) h2
  have b2 := bounds_i64 w2
  obtain ⟨a3, rfl, rfl, rfl, w3⟩ := open_int Try.underlying5 (hval 3 5 v3 rfl rfl) h3
  have b3 := bounds_u8 w3
  clear hA0 hval0
  refine (walk a0 A1 n1 c1 l1 a2 a3 W b0.1 b0.2 x1 g1 z1 b2.1 b2.2 b3.1 b3.2).mono fun e W' ⟨he, bel⟩ => ?_
  subst he
  exact ⟨_, rfl, _, _, _, [], _, [], hW', trodAll_mk1 (shut_bool Try.underlying4 _), (trodAll_cons_mk (shut_int Try.underlying3 w0) (trodAll_cons_mk (Below.trod laidOut (by kernel_rfl) (of_decide_eq_true (by kernel_rfl)) k1 bel lt1) (trodAll_cons_mk (shut_int Try.underlying3 w2) (trodAll_cons_mk (shut_int Try.underlying5 w3) trodAll_mk0)))), rfl, bel.frame _, fun h => by cases h⟩

theorem over : Rows.recordNoneRow.holds Try.pinned (OpenSpec.ofChange Rows.recordNoneSpec) :=
  OpenClaim.holds_of_wide 7 Try.f7 rfl rfl rfl rfl rfl rfl rfl ⟨rfl, rfl, rfl, rfl, rfl⟩ rfl rfl rfl rfl rfl (by kernel_rfl) Try.func7 (by kernel_rfl)
    (of_decide_eq_true (by kernel_rfl)) (by unfold Func.isWrapper; first | (rw [if_pos (by decide +kernel)]; kernel_rfl) | (rw [if_neg (by decide +kernel)]; exact ⟨rfl, rfl⟩))
    (fun os started H enc _ => lifted os started H enc)

/-- The statement. -/
theorem proved : Rows.RecordNoneSaid := over
#print axioms proved
end Go.Proofs.Ytdchdmbkojnmcaa.RecordNone
