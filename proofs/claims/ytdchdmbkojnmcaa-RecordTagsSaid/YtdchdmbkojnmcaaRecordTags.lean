/- RecordTags holds: for all sectors (the first fifty), generations and numbers, TagOf of each of them and Join of all of them answer what the document's answer is; no condition. -/
import Derived.Test.YtdchdmbkojnmcaaRecL
import Derived.Test.YtdchdmbkojnmcaaRecW
import Derived.Test.YtdchdmbkojnmcaaArgSec
import Derived.Test.YtdchdmbkojnmcaaRows
import Derived.Deep.DeepCutAuto
import Derived.Deep.CutBlock
import Derived.Deep.CutRange
namespace Go.Proofs.Ytdchdmbkojnmcaa.RecordTags
open Go.ChangeShapes Go.WideShapes Go.ChangeAt Go.RowKit Go.Proofs.Ytdchdmbkojnmcaa

set_option maxRecDepth 100000 in
set_option maxHeartbeats 4000000 in
theorem walk (gen nr : Int) (A : Option Addr) (n c : Nat) (l : List UInt8) (w : World) (_g1 : -9223372036854775808 ≤ gen) (_g2 : gen ≤ 9223372036854775807) (_n1 : -9223372036854775808 ≤ nr) (_n2 : nr ≤ 9223372036854775807) (hr : Reads w w.heap.size 64 A n (B8 l)) (hc : n ≤ c) (hc2 : c ≤ 9223372036854775807) :
    Calls Try.prog 4 #[.int .i64 gen, .int .i64 nr, .slice A n c] w fun e w' => e = .returned (.bool true) ∧ Below w.heap.size w w' := by
  have HS := hide (shown_any w)
  have HR := hide hr
  clear hr
  go_enter Try.func4, Try.ntmps4
  go_upto_region 2 with (go_at_call 10; refine HS.out.mono ?_; rintro _ w1 ⟨rfl, hl1⟩)
  go_cut [2] (fun v2 wx => w1 = wx ∧ ∃ m : Nat, m ≤ n ∧ m ≤ 50 ∧ v2 = .slice A m c)
  case first =>
    by_cases hmn : (n : Int) ≤ 50
    · go_wp2_with fail
      go_meet
      case rel => exact ⟨rfl, n, Nat.le_refl _, by omega, rfl⟩
    · go_wp2_with fail
      go_meet
      case rel => exact ⟨rfl, 50, by omega, by omega, rfl⟩
  case rest =>
    obtain ⟨rfl, m, hmn, hm50, rfl⟩ := hcut
    have HL1 := hide hl1
    have hh := HR.out.head (k := m) hmn
    rw [B8_take] at hh
    obtain ⟨b, hb⟩ : ∃ b, b = l.take (m * 64) := ⟨_, rfl⟩
    rw [← hb] at hh
    have hbl : b.length = m * 64 := by have := hh.1; rwa [B8_length] at this
    have HRB := hide hh
    have HBL := hide hbl
    clear hh hb hl1 hbl
    go_wp2_with fail
    go_loopw [8] (fun i wr => ∃ k : Nat, k ≤ m ∧ i = .int .i64 k ∧ Hid (Below w.heap.size w wr)) (fun i _ => m - (intOf i).toNat)
    case atStart => exact ⟨0, Nat.zero_le _, rfl, HL1⟩
    case round =>
      obtain ⟨k, hk, rfl, HL⟩ := hrel
      by_cases hkn : k < m
      · obtain ⟨ad, rfl, hab, hca⟩ := HRB.out.sec_at hkn
        have hsa := secAt_length HBL.out hkn
        obtain ⟨X, hX⟩ : ∃ X, X = secAt b k := ⟨_, rfl⟩
        rw [← hX] at hca hsa
        obtain ⟨U, hU⟩ : ∃ U, U = B8 X := ⟨_, rfl⟩
        have HT1 := hide (tagOf_any X hsa)
        have HT2 := hide (refTagOf_any X hsa)
        rw [← hU] at hca HT1 HT2
        have HC := hide (fun (W : World) (hW : Below w.heap.size w W) => (fun j v hj => (hW.cell (by rw [block_of_add, block_of_add]; exact hab)).trans (hca j v hj) : ∀ (j : Nat) v, U[j]? = some v → W.cell? ((ad.add (k * 64)).add j) = some v))
        have HIU := hide (show (Try.prog.info? 35).map (·.size) = some U.length by rw [hU, B8_length, hsa]; kernel_rfl)
        clear hX hca hsa hU
        generalize tagT X = t at *
        generalize partB X = pb at *
        go_wp2_with (first
          | ((with_reducible refine at_slot 33 ?_); refine wpList_load_at rfl 35 (.tmp 32) rfl _ rfl U _ (HC.out _ HL.out) Try.underlying35 rfl HIU.out ?_))
        refine (HT1.out wr).mono ?_
        rintro _ w3 ⟨rfl, hl3⟩
        have hx3 := hl3.size
        have HL3 := hide (HL.out.trans (hl3.mono HL.out.size))
        clear hl3
        go_wp2_with (first
          | ((with_reducible refine at_slot 9 ?_); refine wpList_alloc_blk rfl 31 rfl _ (tag_nought _) ?_; intro w4 hb4q hl4 hs4; clear hs4; have hb4 : Blk w4 w3.heap.size 31 (tagC Tg.zero).toArray := hb4q; clear hb4q)
          | ((with_reducible refine at_store 9 ?_); refine wpList_store_all rfl 31 (.tmp 9) (.tmp 35) rfl w3.heap.size 31 _ hb4 rfl (tagC t) rfl tag_info rfl (tagC_one _) ?_; intro w5 hb5 hg5 hs5; clear hs5; have hl35 : Below w3.heap.size w3 w5 := hl4.grown hg5 hl4.size (fun g e => by injection e with e; omega); have HL5 := hide (HL3.out.trans (hl35.mono HL3.out.size)); have HB5 := hide hb5; clear hb4 hl4 hb5 hg5 hl35)
          | ((with_reducible refine at_slot 41 ?_); refine wpList_load_at rfl 35 (.tmp 40) rfl _ rfl U _ (HC.out _ HL5.out) Try.underlying35 rfl HIU.out ?_))
        have hx5 := HB5.out.lt
        refine (HT2.out w5).mono ?_
        rintro _ w6 ⟨rfl, hl6⟩
        have hx6 := hl6.size
        have HB6 := hide (HB5.out.below hl6 hx5)
        have HL6 := hide (HL5.out.trans (hl6.mono HL5.out.size))
        clear hl6 HB5
        go_wp2_with (first
          | ((with_reducible refine at_slot 11 ?_); refine wpList_alloc_blk rfl 36 rfl _ (rtag_nought _) ?_; intro w7 hb7q hl7 hs7; clear hs7; have hb7 : Blk w7 w6.heap.size 36 (tagC Tg.zero).toArray := hb7q; clear hb7q)
          | ((with_reducible refine at_store 11 ?_); refine wpList_store_all rfl 36 (.tmp 11) (.tmp 43) rfl w6.heap.size 36 _ hb7 rfl (tagC t) rfl rtag_info rfl (tagC_one _) ?_; intro w8 hb8 hg8 hs8; clear hs8; have hl68 : Below w6.heap.size w6 w8 := hl7.grown hg8 hl7.size (fun g e => by injection e with e; omega); have HL8 := hide (HL6.out.trans (hl68.mono HL6.out.size)); have hb68 := HB6.out.below hl68 HB6.out.lt; have x0 := tag_c0 hb8; have x1 := tag_c1 hb8; have x2 := tag_c2 hb8; have x3 := tag_c3 hb8; have x4 := tag_c4 hb8; have y0 := tag_c0 hb68; have y1 := tag_c1 hb68; have y2 := tag_c2 hb68; have y3 := tag_c3 hb68; have y4 := tag_c4 hb68; clear hb7 hl7 hb8 hg8 hl68 hb68))
        go_roundw
        case rel => exact ⟨k + 1, by omega, by go_num, HL8⟩
        case measure => simp [intOf]; omega
      · obtain rfl : k = m := by omega
        have HJ1 := hide (recJoin_any gen nr A k c b w.heap.size wr (HRB.out.below HL.out) HL.out.size (by omega))
        unfold Joined at HJ1
        have HJ2 := hide (fun (W : World) (hW : Below w.heap.size w W) => refJoin_any gen nr A k c b w.heap.size W (HRB.out.below hW) hW.size (by omega))
        generalize joinL gen nr k b = J at *
        generalize joinB gen nr k b = jb at *
        go_wp2_with fail
        refine HJ1.out.mono ?_
        rintro _ w2 ⟨R2, k2, d2, rfl, _, _, ho2, hl2⟩
        have HO2 := hide ho2
        have HL2 := hide (HL.out.trans (hl2.mono HL.out.size))
        clear ho2 hl2
        go_wp2_with fail
        refine (HJ2.out w2 HL2.out).mono ?_
        rintro _ w3 ⟨rfl, hl3⟩
        have hk3 : (convert 22 9 (.slice R2 k2 d2)).run Try.prog w3 = .ok (.string (strOf J)) w3 := own_conv8 22 5 9 Try.underlying22 Try.underlying5 Try.underlying9 (own_later HO2.out hl3)
        have HL3 := hide (HL2.out.trans (hl3.mono HL2.out.size))
        clear hl3
        go_wp2
        go_ret
        exact ⟨rfl, HL3.out⟩

/-! The row's frame, by program: how the walk above proves the statement. -/
set_option maxRecDepth 100000 in
theorem lifted (os : Os) (started : os.Started) (H : Type) (enc : TypeId × Value → H) :
    ReturnsInHanded {} Try.checked os 4 .any (Rows.recordTagsSpec.pre6 enc Try.prog Try.f4 Rows.recordTagsRow.domain false) (Rows.recordTagsSpec.post enc Try.prog Try.f4 false true false false) := by
  refine returnsInHanded_of_change (C := Try.checked) own started (by kernel_rfl) Try.func4
    (ChangeSpec.witness6 (enc := enc) (C := Try.checked) false ⟨#[], #[.int .i64 0, .int .i64 0, .slice none 0 0], []⟩ 8 (by kernel_rfl) (by kernel_rfl) (by kernel_rfl) (by kernel_rfl)) ?_
  intro W base args ds gs before hval0 hW hcnd _
  have hval : ∀ (j : Nat) t v, Try.f4.params[j]? = some t → args[j]? = some v → Value.okWide Try.prog W .any base t v := hval0
  have hW' := hW
  obtain ⟨p, q, hA0, hV, rfl, hfz, hnd⟩ := hW
  have hA : DataW.TrodAll enc Try.prog W 0 (fun _ => true) true Try.f4.params.toList args.toList ds p := hA0
  rw [Try.params4] at hA hval
  obtain ⟨v0, vs0, d0, ds0, p0, q0, hargs, rfl, rfl, h0, r0⟩ := trodAll_cons hA
  obtain ⟨v1, vs1, d1, ds1, p1, q1, rfl, rfl, rfl, h1, r1⟩ := trodAll_cons r0
  obtain ⟨v2, vs2, d2, ds2, p2, q2, rfl, rfl, rfl, h2, r2⟩ := trodAll_cons r1
  obtain ⟨rfl, rfl, rfl⟩ := trodAll_nil r2
  obtain rfl : args = #[v0, v1, v2] := by cases args; simp_all
  obtain ⟨rfl, rfl⟩ := trodVars_none hV
  obtain ⟨a0, rfl, rfl, rfl, w0⟩ := open_int Try.underlying3 (hval 0 3 v0 rfl rfl) h0
  have b0 := bounds_i64 w0
  obtain ⟨a1, rfl, rfl, rfl, w1⟩ := open_int Try.underlying3 (hval 1 3 v1 rfl rfl) h1
  have b1 := bounds_i64 w1
  obtain ⟨A2, n2, c2, rfl⟩ := okWide_slice Try.underlying24 (hval 2 24 v2 rfl rfl)
  have k2 := h2
  have lt2 : ∀ x ∈ p2, x.block < W.heap.size := by obtain ⟨m, hm⟩ := k2; exact DataW.trod_lt m _ _ _ hm
  obtain ⟨l2, x2, g2, z2⟩ := arg_secs h2
  clear hA0 hval0
  refine (walk a0 a1 A2 n2 c2 l2 W b0.1 b0.2 b1.1 b1.2 x2 g2 z2).mono fun e W' ⟨he, bel⟩ => ?_
  subst he
  exact ⟨_, rfl, _, _, _, [], _, [], hW', trodAll_mk1 (shut_bool Try.underlying4 _), (trodAll_cons_mk (shut_int Try.underlying3 w0) (trodAll_cons_mk (shut_int Try.underlying3 w1) (trodAll_cons_mk (Below.trod laidOut (by kernel_rfl) (of_decide_eq_true (by kernel_rfl)) k2 bel lt2) trodAll_mk0))), rfl, bel.frame _, fun h => by cases h⟩

theorem over : Rows.recordTagsRow.holds Try.pinned (OpenSpec.ofChange Rows.recordTagsSpec) :=
  OpenClaim.holds_of_wide 4 Try.f4 rfl rfl rfl rfl rfl rfl rfl ⟨rfl, rfl, rfl, rfl, rfl⟩ rfl rfl rfl rfl rfl (by kernel_rfl) Try.func4 (by kernel_rfl)
    (of_decide_eq_true (by kernel_rfl)) (by unfold Func.isWrapper; first | (rw [if_pos (by decide +kernel)]; kernel_rfl) | (rw [if_neg (by decide +kernel)]; exact ⟨rfl, rfl⟩))
    (fun os started H enc _ => lifted os started H enc)

/-- The statement. -/
theorem proved : Rows.RecordTagsSaid := over
#print axioms proved
end Go.Proofs.Ytdchdmbkojnmcaa.RecordTags
