/- GroupPicks. -/
import Derived.Test.YtmaiikmgpeafkaaLawS
import Derived.Test.YtmaiikmgpeafkaaLawN
import Derived.Test.YtmaiikmgpeafkaaRefGP
import Derived.Test.YtmaiikmgpeafkaaTwoRows
import Derived.Test.YtmaiikmgpeafkaaPoke
import Derived.SizedLaws
import Derived.Test.YtmaiikmgpeafkaaArgZ
import Derived.Test.YtmaiikmgpeafkaaRows
namespace Go.Proofs.Ytmaiikmgpeafkaa.GroupPicks
open Go.ChangeShapes Go.WideShapes Go.ChangeAt Go.RowKit Go.Proofs.Ytmaiikmgpeafkaa

theorem reads_take {w : World} {B n R : Nat} {A : Option Addr} {l : List Int} (h : Reads w B 1 A n (I64 l)) (hR : R ≤ n) : Reads w B 1 A R (I64 (l.take R)) := by
  have hl : l.length = n := by have := h.1; rw [I64_length] at this; omega
  refine ⟨by rw [I64_length, List.length_take]; omega, fun hn => ?_⟩
  obtain ⟨ad, hA, hb, hc⟩ := h.2 (by omega)
  refine ⟨ad, hA, hb, fun j u hu => hc j u ?_⟩
  have e : I64 (l.take R) = (I64 l).take R := by simp [I64, List.map_take]
  rw [e, List.getElem?_take] at hu
  split at hu
  · exact hu
  · cases hu
theorem pickL_le (rm : List Int) (width : Int) (ban : List Int) : (pickL rm width ban).length ≤ rm.length := by
  unfold pickL
  have h := orderL_le rm ban
  split
  · rw [List.length_take]; omega
  · simp
set_option maxRecDepth 100000 in
set_option maxHeartbeats 16000000 in
theorem walk (A0 : Option Addr) (n0 c0 : Nat) (l0 : List Int) (width : Int) (A2 : Option Addr) (n2 c2 : Nat) (l2 : List Int) (w : World) (x0 : Reads w w.heap.size 1 A0 n0 (I64 l0)) (_y0 : ∀ v ∈ l0, -9223372036854775808 ≤ v ∧ v ≤ 9223372036854775807) (g0 : n0 ≤ c0) (z0 : c0 ≤ 9223372036854775807) (_b1 : -9223372036854775808 ≤ width) (_b2 : width ≤ 9223372036854775807) (x2 : Reads w w.heap.size 1 A2 n2 (I64 l2)) (_y2 : ∀ v ∈ l2, -9223372036854775808 ≤ v ∧ v ≤ 9223372036854775807) (g2 : n2 ≤ c2) (_z2 : c2 ≤ 9223372036854775807) (s2 : c2 * 8 ≤ 140737488351232) :
    Calls Try.prog 3 #[.slice A0 n0 c0, .int .i64 width, .slice A2 n2 c2] w fun e w' => e = .returned (.bool true) ∧ Below w.heap.size w w' := by
  obtain ⟨i0, hi0, hz0, hz1, hz2⟩ := info_parts int_parts
  have HI := hide (And.intro hi0 (And.intro hz0 (And.intro hz1 hz2)))
  have HShown := hide shown_any
  obtain ⟨R, hR⟩ : ∃ R, R = min n0 60 := ⟨_, rfl⟩
  have hRn : R ≤ n0 := by omega
  have hR60 : R ≤ 60 := by omega
  have hmin : min (n0 : Int) 60 = (R : Int) := by omega
  have hRc : (R : Int) ≤ (c0 : Int) := by omega
  obtain ⟨rm, hrm⟩ : ∃ rm, rm = l0.take R := ⟨_, rfl⟩
  have hl0 : l0.length = n0 := by have := x0.1; rw [I64_length] at this; omega
  have hlen : rm.length = R := by rw [hrm, List.length_take]; omega
  have x1 : Reads w w.heap.size 1 A0 R (I64 rm) := by rw [hrm]; exact reads_take x0 hRn
  have X1 := hide x1
  have X2 := hide x2
  have HLEN := hide hlen
  clear x0 x1 x2 hi0 hz0 hz1 hz2 hR hrm hl0 hlen
  have hple := pickL_le rm width l2
  rw [HLEN.out] at hple
  obtain ⟨PL, hPL⟩ : ∃ PL, PL = pickL rm width l2 := ⟨_, rfl⟩
  obtain ⟨PB, hPB⟩ : ∃ PB, PB = pickB rm width l2 := ⟨_, rfl⟩
  obtain ⟨m, hm⟩ : ∃ m, m = PL.length := ⟨_, rfl⟩
  rw [← hPL, ← hm] at hple
  have HPL := hide hPL
  have HPB := hide hPB
  have HPM := hide hm
  clear hPL hPB hm
  go_enter Try.func3, Try.ntmps3
  go_wp2_with (first
    | (go_at_call 10; refine (HShown.out w).mono ?_; rintro _ w1 ⟨rfl, hl1⟩; have HL1 := hide hl1; have X11 := hide ((X1.out.below hl1).alloc hl1.size (.cells #[] 3)); have HONE := hide (I64_one rm))
    | ((with_reducible refine at_slot 23 ?_); refine wpList_append_any _ rfl (.tmp 21) (.tmp 22) _ rfl w1.heap.size 3 i0 _ 1 8 Try.underlying22 HI.out.1 HI.out.2.1 HI.out.2.2.1 HI.out.2.2.2 rfl (by decide) _ 0 [] rfl (World.ownsRow_made w1 #[] 0 (Nat.le_refl _) (Nat.zero_le _) rfl) w.heap.size A0 R c0 (I64 rm) rfl X11.out HONE.out (by simp only [maxLen]; omega) (by omega) (le_alloc (Nat.le_refl _) _) ?_; intro v2 w2 hown2 hbel2; rw [Nat.zero_add, List.nil_append] at hown2; obtain ⟨A2', c2', hv2, _, _⟩ := own_shape hown2; subst hv2; have hl12 : Below w1.heap.size w1 w2 := ((Below.refl _ _).alloc (Nat.le_refl _) _).trans hbel2; have HOWN2 := hide hown2; have HL2 := hide (HL1.out.trans (hl12.mono HL1.out.size)); have hz2 := HL2.out.size; have hz12 := hl12.size; have hpk := pick_any A2' c2' rm width A2 n2 c2 l2 w2.heap.size w2 (Reads.of_own (by rw [HLEN.out]; exact hown2)) ((X2.out.below HL2.out).more hz2) (Nat.le_refl _) (by rw [HLEN.out]; omega) (by simp only [maxLen]; omega) (by omega); rw [HLEN.out, ← HPL.out, ← HPB.out, ← HPM.out] at hpk; have HPK := hide hpk; clear hown2 hbel2 hl12 hpk)
    | (go_at_call 11; refine HPK.out.mono ?_; rintro _ w3 ⟨A3, c3, rfl, hown3, hl3⟩; have HOWN3 := hide hown3; have HL3 := hide (HL2.out.trans (hl3.mono HL2.out.size)); have HOWN23 := hide (own_later HOWN2.out hl3); have hz3 := hl3.size; have hrp := refPick_any A0 c0 rm width A2 n2 c2 l2 w3.heap.size w3 (by rw [HLEN.out]; exact (X1.out.below HL3.out).more HL3.out.size) ((X2.out.below HL3.out).more HL3.out.size) (Nat.le_refl _) (by rw [HLEN.out]; omega) (by rw [HLEN.out]; simp only [maxLen]; omega) (by rw [HLEN.out]; omega); rw [HLEN.out, ← HPL.out, ← HPB.out, ← HPM.out] at hrp; have HRP := hide hrp; clear hown3 hl3 hrp)
    | (go_at_call 12; refine HRP.out.mono ?_; rintro _ w4 ⟨A4, c4, rfl, hown4, hl4⟩; have HOWN4 := hide hown4; have HL4 := hide (HL3.out.trans (hl4.mono HL3.out.size)); have HOWN24 := hide (own_later HOWN23.out hl4); have HOWN34 := hide (own_later HOWN3.out hl4); have hz4 := hl4.size; have hnm := numbers_any A3 A4 m m c3 c4 (toI PL) (toI PL) w4.heap.size w4 (Reads.of_own HOWN34.out) (Reads.of_own HOWN4.out) (by simp only [maxLen]; omega) (by simp only [maxLen]; omega); rw [decide_eq_true rfl] at hnm; have HNM := hide hnm; clear hown4 hl4 hnm)
    | (go_at_call 13; refine HNM.out.mono ?_; rintro _ w5 ⟨rfl, z5, hw5⟩; have hl5 : Below w4.heap.size w4 w5 := (by rw [hw5]; exact ⟨rfl, rfl, rfl, Nat.le_refl _, fun _ _ => rfl⟩); have HL5 := hide (HL4.out.trans (hl5.mono HL4.out.size)); have HOWN25 := hide (own_later HOWN24.out hl5); have HOWN35 := hide (own_later HOWN34.out hl5); have hz5 := hl5.size; clear hw5 hl5 HNM)
    | ((with_reducible refine at_slot 50 ?_); refine wpList_append_two _ rfl (.tmp 48) (.tmp 49) _ rfl w2.heap.size 3 i0 _ 1 8 Try.underlying22 HI.out.1 HI.out.2.1 HI.out.2.2.1 HI.out.2.2.2 rfl (by decide) _ m _ rfl (HOWN35.out.alloc _) (w5.heap.size + 1) (some ⟨w5.heap.size, 0, none⟩) 1 1 [.int .i64 7] rfl (Reads.one _ _ _ _ (by omega)) (one_i64 _) (by simp only [maxLen]; omega) (by omega) (le_alloc (by omega) _) ?_; intro v6 w6 hown6 hg6 hb6; obtain ⟨g6, c6, hv6, hgb6, hgl6⟩ := hown6.form (by omega); subst hv6; have HOWN6 := hide hown6; have HG6 := hide hg6; clear hown6 hg6))
  have hz6 : w5.heap.size ≤ w6.heap.size := by have := HG6.out.size; rw [World.size_alloc] at this; omega
  have HL6 : Hid (Below w.heap.size w w6) := hide ((HL5.out.alloc HL5.out.size _).grown HG6.out (by rw [World.size_alloc]; omega) (fun y e => by have := (HOWN35.out.lt y e).1; omega))
  have HOWN26 : Hid (w6.ownsRow w1.heap.size 3 1 (.slice A2' R c2') R (I64 rm)) := hide (own_other (HOWN25.out.alloc (.cells #[.int .i64 7] 3)) HG6.out (fun y e1 e2 => by have k1 := (HOWN35.out.lt y e1).1; have k2 := (HOWN2.out.lt y e2).2; omega))
  obtain ⟨cur, hcur, hcs, _⟩ := own_blk HOWN6.out
  have HCUR := hide hcur
  have HCS := hide (show m + 1 ≤ cur.size from hcs)
  have hz26 : w2.heap.size ≤ w6.heap.size := by omega
  clear hcur hcs hb6
  go_loopw [14] (fun i wr => ∃ k : Nat, k ≤ m + 1 ∧ i = .int .i64 k ∧ Hid (∃ cur, Blk wr g6 3 cur ∧ m + 1 ≤ cur.size) ∧ Hid (w6.grownBy wr (some g6)) ∧ wr.heap.size = w6.heap.size) (fun i _ => m + 1 - (intOf i).toNat)
  case atStart => exact ⟨0, Nat.zero_le _, rfl, hide ⟨cur, HCUR.out, HCS.out⟩, hide (grown_refl _ _), rfl⟩
  case round =>
    clear HCUR HCS
    obtain ⟨k, hk, rfl, HC, HG, hzr⟩ := hrel
    by_cases hkn : k < m + 1
    · obtain ⟨cur, hcur, hcs⟩ := HC.out
      have HCUR := hide hcur
      have HKS := hide (show k < cur.size by omega)
      have HCS := hide hcs
      clear hcur hcs
      go_wp2_with (first
        | ((with_reducible refine at_store 59 ?_); refine wpList_poke rfl 3 (.tmp 59) (.const (.int .i64 77)) rfl g6 k 3 cur HCUR.out rfl (.int .i64 77) rfl rfl (by kernel_rfl) HKS.out ?_; intro w7 hb7 hg7 hs7; have HB7 := hide hb7; have HG7 := hide hg7; have hz7 : w7.heap.size = w6.heap.size := (by omega); clear hb7 hg7 hs7))
      have HC7 : Hid (∃ cur, Blk w7 g6 3 cur ∧ m + 1 ≤ cur.size) := hide ⟨_, HB7.out, by have := HCS.out; simpa using this⟩
      have HG67 := hide (grown_trans HG.out HG7.out)
      go_roundw
      case rel => exact ⟨k + 1, by omega, by go_num, HC7, HG67, hz7⟩
      case measure => simp [intOf]; omega
    · obtain rfl : k = m + 1 := by omega
      have hlr : Below w.heap.size w wr := HL6.out.grown HG.out (Nat.le_trans HL2.out.size hz26) (fun y e => by injection e with e; omega)
      have h2r : wr.ownsRow w1.heap.size 3 1 (.slice A2' R c2') R (I64 rm) := HOWN26.out.kept HG.out (by
        cases hob : (Value.slice A2' R c2').ownBlock with
        | none => exact .inl rfl
        | some y => exact .inr (fun e => by
            injection e with e
            have := (HOWN2.out.lt y hob).2
            omega))
      have hnm := numbers_any A2' A0 R R c2' c0 rm rm wr.heap.size wr (Reads.of_own h2r) ((X1.out.below hlr).more hlr.size) (by simp only [maxLen]; omega) (by simp only [maxLen]; omega)
      rw [decide_eq_true rfl] at hnm
      have HNM := hide hnm
      have HLR := hide hlr
      clear hlr h2r hnm
      go_wp2_with (first
        | (go_at_call 13; refine HNM.out.mono ?_; rintro _ w8 ⟨rfl, z8, hw8⟩; have hl8 : Below w.heap.size w w8 := (by rw [hw8]; exact HLR.out.trans ⟨rfl, rfl, rfl, Nat.le_refl _, fun _ _ => rfl⟩); clear hw8))
      go_ret
      exact ⟨rfl, hl8⟩
/-! The row's frame, by program: how the walk above proves the statement. -/
set_option maxRecDepth 100000 in
theorem lifted (os : Os) (started : os.Started) (H : Type) (enc : TypeId × Value → H) :
    ReturnsInHanded {} Try.checked os 3 .any (Rows.groupPicksSpec.pre6 enc Try.prog Try.f3 Rows.groupPicksRow.domain false) (Rows.groupPicksSpec.post enc Try.prog Try.f3 false true false false) := by
  refine returnsInHanded_of_change_sized (C := Try.checked) own started (by kernel_rfl) Try.func3
    (ChangeSpec.witness6 (enc := enc) (C := Try.checked) false ⟨#[], #[.slice none 0 0, .int .i64 0, .slice none 0 0], []⟩ 8 (by kernel_rfl) (by kernel_rfl) (by kernel_rfl) (by kernel_rfl)) ?_
  intro W base args ds gs before hval0 hW hcnd hsz0 _
  have hval : ∀ (j : Nat) t v, Try.f3.params[j]? = some t → args[j]? = some v → Value.okWide Try.prog W .any base t v := hval0
  have hW' := hW
  obtain ⟨p, q, hA0, hV, rfl, hfz, hnd⟩ := hW
  have hA : DataW.TrodAll enc Try.prog W 0 (fun _ => true) true Try.f3.params.toList args.toList ds p := hA0
  have hsz : ((DataW.weightsEach Try.prog (Try.f3.params.toList ++ DataSpec.varTypes Try.prog Rows.groupPicksSpec.plain) (ds ++ gs)).all fun x => decide (x ≤ reachBytes)) = true := hsz0
  rw [Try.params3] at hA hval hsz
  obtain ⟨v0, vs0, d0, ds0, p0, q0, hargs, rfl, rfl, h0, r0⟩ := trodAll_cons hA
  obtain ⟨v1, vs1, d1, ds1, p1, q1, rfl, rfl, rfl, h1, r1⟩ := trodAll_cons r0
  obtain ⟨v2, vs2, d2, ds2, p2, q2, rfl, rfl, rfl, h2, r2⟩ := trodAll_cons r1
  obtain ⟨rfl, rfl, rfl⟩ := trodAll_nil r2
  obtain rfl : args = #[v0, v1, v2] := by cases args; simp_all
  obtain ⟨rfl, rfl⟩ := trodVars_none hV
  obtain ⟨A0, n0, c0, rfl⟩ := okWide_slice Try.underlying22 (hval 0 22 v0 rfl rfl)
  have k0 := h0
  have lt0 : ∀ x ∈ p0, x.block < W.heap.size := by obtain ⟨m, hm⟩ := k0; exact DataW.trod_lt m _ _ _ hm
  obtain ⟨l0, x0, y0, g0, z0⟩ := arg_ints h0
  obtain ⟨a1, rfl, rfl, rfl, w1⟩ := open_int Try.underlying3 (hval 1 3 v1 rfl rfl) h1
  have b1 := bounds_i64 w1
  obtain ⟨A2, n2, c2, rfl⟩ := okWide_slice Try.underlying22 (hval 2 22 v2 rfl rfl)
  have k2 := h2
  have lt2 : ∀ x ∈ p2, x.block < W.heap.size := by obtain ⟨m, hm⟩ := k2; exact DataW.trod_lt m _ _ _ hm
  obtain ⟨l2, x2, y2, g2, z2⟩ := arg_ints h2
  have s2 := arg_ints_sized hsz (j := 2) rfl rfl h2
  clear hA0 hval0
  refine (walk A0 n0 c0 l0 a1 A2 n2 c2 l2 W x0 y0 g0 z0 b1.1 b1.2 x2 y2 g2 z2 s2).mono fun e W' ⟨he, bel⟩ => ?_
  subst he
  exact ⟨_, rfl, _, _, _, [], _, [], hW', trodAll_mk1 (shut_bool Try.underlying4 _), (trodAll_cons_mk (Below.trod laidOut (by kernel_rfl) (of_decide_eq_true (by kernel_rfl)) k0 bel lt0) (trodAll_cons_mk (shut_int Try.underlying3 w1) (trodAll_cons_mk (Below.trod laidOut (by kernel_rfl) (of_decide_eq_true (by kernel_rfl)) k2 bel lt2) trodAll_mk0))), rfl, bel.frame _, fun h => by cases h⟩

theorem over : Rows.groupPicksRow.holds Try.pinned (OpenSpec.ofChange Rows.groupPicksSpec) :=
  OpenClaim.holds_of_wide 3 Try.f3 rfl rfl rfl rfl rfl rfl rfl ⟨rfl, rfl, rfl, rfl, rfl⟩ rfl rfl rfl rfl rfl (by kernel_rfl) Try.func3 (by kernel_rfl)
    (of_decide_eq_true (by kernel_rfl)) (by unfold Func.isWrapper; first | (rw [if_pos (by decide +kernel)]; kernel_rfl) | (rw [if_neg (by decide +kernel)]; exact ⟨rfl, rfl⟩))
    (fun os started H enc _ => lifted os started H enc)

/-- The statement. -/
theorem proved : Rows.GroupPicksSaid := over
#print axioms proved
end Go.Proofs.Ytmaiikmgpeafkaa.GroupPicks
