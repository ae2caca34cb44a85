/- StripeLost, part P: the plugs. -/
import Derived.Test.YtjafhlljigaibaaSlR
import Derived.Deep.DeepCutAuto
import Derived.Deep.CutBlock

namespace Go.Proofs.Ytjafhlljigaibaa
open Go.RowKit
set_option linter.unusedVariables false
set_option maxRecDepth 100000 in
set_option maxHeartbeats 8000000 in
theorem slP (K : StrK) (KC : CheckK) {w wr : World} {b hi Q x c M u : Nat} {S : Bank} {A : Option Addr} (hQ2 : 2 ≤ Q) (hQ6 : Q ≤ 6) (HQU : Hid (Q = u + 1)) (HM : Hid (slotsN Q = M)) (HM8 : Hid (M = 8 * u))
    {AI : Option Addr} {cI : Nat} {LI : List Int} (hLI : LI.length = M) (HX : Hid (Sux w wr b hi S [] A Q c (rowX idN Q) AI M cI LI none 0 0 [])) (HL : Hid (LivN Q 20 S x (gridG Q (lostD u LI) 8)))
    {AP : Option Addr} {np cp : Nat} {lp : List Int} (hRP : Hid (Reads w w.heap.size 1 AP np (I64 lp))) (HWR : Hid (S.writes ≤ 96))
    {u1 u2 u4 u5 u6 u7 u8 u14 u15 u16 u17 u18 u19 u20 u21 u22 u23 u24 u25 u26 u27 u28 u29 u30 u31 u32 u33 u34 u35 u36 u37 u38 u39 u40 u41 u42 u43 u44 u45 u46 u47 u48 u49 u50 u51 u52 u53 u54 u55 u56 u57 u58 u59 u60 u61 u62 u63 u64 u65 u66 u67 u68 u69 u70 u71 u72 u73 u74 u75 u76 u77 u78 u79 u80 u81 u82 u83 u84 u85 u86 u87 u88 u89 u90 u91 u92 u93 u94 u95 u96 u97 u98 u99 u100 u101 u102 u103 u104 u105 u106 u107 u108 u109 u110 u111 u112 u113 u114 u115 u116 u117 u118 u119 u120 u121 u122 u123 u124 u125 u126 u127 u128 u129 u130 u131 u132 u133 u134 u135 u136 u137 u138 u139 u140 u141 u142 u143 u144 u145 u146 u147 u148 u149 u150 u151 u152 u153 u154 u155 u156 u157 u158 u159 u160 u161 u162 u163 u164 u165 u166 u167 u168 u169 u170 u171 u172 u173 u174 u175 u176 u177 u178 u179 u180 u181 u182 u183 u184 u185 u186 u187 u188 u189 u190 u191 u192 u193 u194 u195 u196 u197 u198 u199 u200 u201 u202 u203 u204 u205 u206 u207 u208 u209 u210 u211 u212 u213 u214 u215 u216 u217 u218 u219 u220 u221 u222 u223 u224 u225 u226 u227 u228 u229 u230 u231 u232 u233 u234 u235 u236 u237 u238 u239 u240 u241 u242 u243 u244 u245 u246 u247 u248 u249 : Value} :
    SlTail 14 w { tmps := #[.int .i64 (Q : Int), u1, u2, .slice AP np cp, u4, u5, u6, u7, u8, .bool true, .pointer (some ⟨b, 0, none⟩), .slice A Q c, .int .i64 (M : Int), .slice AI M cI, u14, u15, u16, u17, u18, u19, u20, u21, u22, u23, u24, u25, u26, u27, u28, u29, u30, u31, u32, u33, u34, u35, u36, u37, u38, u39, u40, u41, u42, u43, u44, u45, u46, u47, u48, u49, u50, u51, u52, u53, u54, u55, u56, u57, u58, u59, u60, u61, u62, u63, u64, u65, u66, u67, u68, u69, u70, u71, u72, u73, u74, u75, u76, u77, u78, u79, u80, u81, u82, u83, u84, u85, u86, u87, u88, u89, u90, u91, u92, u93, u94, u95, u96, u97, u98, u99, u100, u101, u102, u103, u104, u105, u106, u107, u108, u109, u110, u111, u112, u113, u114, u115, u116, u117, u118, u119, u120, u121, u122, u123, u124, u125, u126, u127, u128, u129, u130, u131, u132, u133, u134, u135, u136, u137, u138, u139, u140, u141, u142, u143, u144, u145, u146, u147, u148, u149, u150, u151, u152, u153, u154, u155, u156, u157, u158, u159, u160, u161, u162, u163, u164, u165, u166, u167, u168, u169, u170, u171, u172, u173, u174, u175, u176, u177, u178, u179, u180, u181, u182, u183, u184, u185, u186, u187, u188, u189, u190, u191, u192, u193, u194, u195, u196, u197, u198, u199, u200, u201, u202, u203, u204, u205, u206, u207, u208, u209, u210, u211, u212, u213, u214, u215, u216, u217, u218, u219, u220, u221, u222, u223, u224, u225, u226, u227, u228, u229, u230, u231, u232, u233, u234, u235, u236, u237, u238, u239, u240, u241, u242, u243, u244, u245, u246, u247, u248, u249], defers := [] } wr := by
  have hMb : M ≤ 40 := by have := HM8.out; have := HQU.out; omega
  have hu1 : 1 ≤ u := by have := HQU.out; omega
  have hM1 : 1 ≤ M := by have := HM8.out; omega
  have hu5 : u ≤ 5 := by have := HQU.out; omega
  have hqu : (Q : Int) - 1 = (u : Int) := by have := HQU.out; omega
  unfold SlTail
  conv => arg 2; whnf
  go_wp2_with fail
  go_loopw [19] (fun s19 wr => ∃ (i : Nat) (S : Bank) (L : List Int), s19 = .int .i64 (i : Int) ∧ i ≤ 30 ∧ L.length = M ∧ Hid (Sux w wr b hi S [] A Q c (rowX idN Q) AI M cI L none 0 0 []) ∧ Hid (LivN Q 20 S x (gridG Q (lostD u L) 8)) ∧ Hid (S.writes ≤ 96 + 2 * i)) (fun s19 _ => 30 - (intOf s19).toNat)
  case atStart => exact ⟨0, S, LI, rfl, by decide, hLI, HX, HL, HWR⟩
  case round => as_aux_lemma =>
    obtain ⟨i, S, L, rfl, hi3, hL, HS_v, HL, HW⟩ := hrel
    obtain ⟨v1, hv1⟩ : ∃ v1, v1 = wr := ⟨_, rfl⟩
    rw [← hv1] at HS_v ⊢
    clear hv1 HX HWR hLI
    by_cases hin : i < np
    · have hini : (i : Int) < (np : Int) := by omega
      by_cases hi30 : i < 30
      · have hii : (i : Int) < 30 := by omega
        obtain ⟨ad, y, rfl, hab, hy, hcy⟩ := hRP.out.i64_at hin
        have hcw : v1.cell? (ad.add i) = some (.int .i64 y) := (HS_v.out.low.cell (p := ad.add i) (by rw [block_of_add]; exact hab)).trans hcy
        obtain ⟨N, hN, hN2⟩ := mask16 y
        obtain ⟨slot, hslot⟩ : ∃ q, N % M = q := ⟨_, rfl⟩
        have hsM : slot < M := by rw [← hslot]; exact Nat.mod_lt _ (by omega)
        have hsm : (N : Int).tmod (M : Int) = (slot : Int) := by rw [Int.tmod_eq_emod_of_nonneg (by omega), ← hslot]; rfl
        clear hcy hy hslot
        go_upto_region 32 with fail
        go_cut [20] (fun v0 wx => v1 = wx ∧ v0 = .int .i64 (slot : Int))
        case first =>
          have h4 : ¬ (M : Int) = 0 := by omega
          go_wp2_with fail
          go_meet
          case rel => exact ⟨rfl, rfl⟩
        obtain ⟨rfl, rfl⟩ := hcut
        clear hN hN2 hsm hcw hab
        have hsMi : (slot : Int) < (M : Int) := by omega
        obtain ⟨v, hv⟩ : ∃ v : Int, 1000 + (i : Int) = v := ⟨_, rfl⟩
        obtain ⟨a1, b1, a2, b2, p, f1, f2, f3, f4, f5, f6, f7, f8⟩ := HL.out.plug2 hQ2 (by omega) HQU.out (by rw [HM.out]; exact hsM) (by rw [hL]; exact hsM) v
        obtain ⟨t, ht⟩ : ∃ t, slot / u = t := ⟨_, rfl⟩
        have htb : t ≤ 40 := by rw [← ht]; exact Nat.le_trans (Nat.div_le_self _ _) (by omega)
        have hdiv : (slot : Int).tdiv (u : Int) = (t : Int) := by rw [Int.tdiv_eq_ediv_of_nonneg (by omega), ← ht]; rfl
        rw [ht] at f3 f4
        obtain ⟨e, he⟩ : ∃ e, secOf v = e := ⟨_, rfl⟩
        rw [he] at f5 f6 f7 f8
        obtain ⟨S1, hS1⟩ : ∃ S1, (S.write (nI a1) (nI b1) e).2 = S1 := ⟨_, rfl⟩
        rw [hS1] at f6 f7 f8
        obtain ⟨S2, hS2⟩ : ∃ S2, (S1.write (nI a2) (nI b2) p).2 = S2 := ⟨_, rfl⟩
        rw [hS2] at f7 f8
        have HE := hide (show secOf (1000 + (i : Int)) = e by rw [hv, he])
        have HH := hide (And.intro f1 f2)
        have HP := hide (And.intro f3 f4)
        have HPL := hide f5
        have HW1 := hide (show S1.writes ≤ 4000 by have := HW.out; omega)
        have HW2 := hide (show S2.writes ≤ 96 + 2 * (i + 1) by have := HW.out; omega)
        have HW0 := hide (show S.writes ≤ 4000 by have := HW.out; omega)
        have HL2 := hide f7
        have HS1 := hide hS1
        have HS2 := hide hS2
        have HVV := hide hv
        have HVE := hide he
        have hu0 : ¬ (u : Int) = 0 := by omega
        clear f1 f2 f3 f4 f5 f6 f7 f8 hS1 hS2 hv he ht HL HW
        go_upto_region 34 with (first
          | (go_at_call 26; (refine (sector_any (1000 + (i : Int)) _).mono ?_); rintro _ y101 ⟨rfl, hlq⟩; rw [HE.out]; have HS_y101 : Hid (Sux w y101 b hi S [] A Q c (rowX idN Q) AI M cI L none 0 0 ([])) := hide (HS_v.out.later hlq); clear hlq)
          | (go_at_call 28; refine (HS_y101.out.splug K (slot : Int) ⟨by omega, by omega⟩ e).mono ?_; rintro _ y102 ⟨rfl, hsq⟩; rw [HPL.out]; have HS_y102 : Hid (Sux w y102 b hi S [] A Q c (rowX idN Q) AI M cI L none 0 0 ([])) := hide (hsq); clear hsq)
          | ((with_reducible refine at_slot 21 ?_); refine wpList_alloc_blk rfl 49 rfl _ (sec_zero _) ?_; intro y103 hbq hl1 hs1; clear hs1)
          | ((with_reducible refine at_store 21 ?_); refine wpList_store_all rfl 49 (.tmp 21) (.tmp 136) rfl y102.heap.size 49 _ hbq rfl (secL p) rfl (msec_size _) (msec_len _ _) (secL_one _) ?_; intro y104 hbz hg hs; have HS_y104 : Hid (Sux w y104 b hi S [(y102.heap.size, 49, secL p)] A Q c (rowX idN Q) AI M cI L none 0 0 ([])) := hide (HS_y102.out.new hl1 hg hbz); clear hs hbq hl1 hg hbz))
        go_upto_region 35 with (first
          | (go_at_call 11; refine (HS_y104.out.home K (slot : Int) ⟨by omega, by omega⟩).mono ?_; rintro _ y105 ⟨rfl, hsq⟩; rw [HH.out.1, HH.out.2]; have HS_y105 : Hid (Sux w y105 b hi S [(y102.heap.size, 49, secL p)] A Q c (rowX idN Q) AI M cI L none 0 0 ([])) := hide (hsq); clear hsq)
          | ((with_reducible refine at_slot 23 ?_); refine wpList_alloc_blk rfl 26 rfl _ (mplace_zero _) ?_; intro y106 hbq hl1 hs1; clear hs1)
          | ((with_reducible refine at_store 23 ?_); refine wpList_store_all rfl 26 (.tmp 23) (.tmp 142) rfl y105.heap.size 26 _ hbq rfl (plC (a1, b1)) rfl mplace_info rfl (plC_one _) ?_; intro y107 hbz hg hs; have HS_y107 : Hid (Sux w y107 b hi S [(y102.heap.size, 49, secL p), (y105.heap.size, 26, plC (a1, b1))] A Q c (rowX idN Q) AI M cI L none 0 0 ([])) := hide (HS_y105.out.new hl1 hg hbz); clear hs hbq hl1 hg hbz))
        go_upto_region 36 with (first
          | (go_at_call 13; refine (HS_y107.out.par K (t : Int) ⟨by omega, by omega⟩).mono ?_; rintro _ y108 ⟨rfl, hsq⟩; rw [HP.out.1, HP.out.2]; have HS_y108 : Hid (Sux w y108 b hi S [(y102.heap.size, 49, secL p), (y105.heap.size, 26, plC (a1, b1))] A Q c (rowX idN Q) AI M cI L none 0 0 ([])) := hide (hsq); clear hsq)
          | ((with_reducible refine at_slot 25 ?_); refine wpList_alloc_blk rfl 26 rfl _ (mplace_zero _) ?_; intro y109 hbq hl1 hs1; clear hs1)
          | ((with_reducible refine at_store 25 ?_); refine wpList_store_all rfl 26 (.tmp 25) (.tmp 151) rfl y108.heap.size 26 _ hbq rfl (plC (a2, b2)) rfl mplace_info rfl (plC_one _) ?_; intro y110 hbz hg hs; have HS_y110 : Hid (Sux w y110 b hi S [(y102.heap.size, 49, secL p), (y105.heap.size, 26, plC (a1, b1)), (y108.heap.size, 26, plC (a2, b2))] A Q c (rowX idN Q) AI M cI L none 0 0 ([])) := hide (HS_y108.out.new hl1 hg hbz); clear hs hbq hl1 hg hbz))
        go_upto_region 38 with fail
        have hws : IntKind.i64.wrap (1000 + (i : Int)) = 1000 + (i : Int) := IntWalk.i64_in _ (by omega)
        refine wp_region_held_drew (S := (fun W => OwnV W hi [(y102.heap.size, 49, secL p), (y105.heap.size, 26, plC (a1, b1)), (y108.heap.size, 26, plC (a2, b2))])) (by kernel_rfl) ?_ (fun hHeld => ?_)
        · exact HS_y110.out.drew.own
        have HS_dy110 := hide (HS_y110.out.drew)
        refine heldTake (i := 0) (v := ?_) rfl (by kernel_rfl) (by kernel_rfl) (by kernel_rfl) (fun _ _ _ h => h) (Or.inl ⟨by rfl, ?_⟩) (by assumption) ?_
        rotate_left
        · intro w hSw; (try dsimp only at hSw); go_simp <;> (with_reducible rfl)
        try simp only [Act.put, List.setIfInBounds_toArray, List.set_cons_zero, List.set_cons_succ]
        refine heldTake (i := 1) (v := .agg (plC (a1, b1)).toArray) rfl (by kernel_rfl) (by kernel_rfl) (by kernel_rfl) (fun _ _ _ h => h) (yieldsIf_load_mid (by rfl) _ _ rfl _ _ rfl (plC (a1, b1)) _ (fun W hW => hW.range 1 rfl) Try.underlying26 rfl mplace_info) (by assumption) ?_
        try simp only [Act.put, List.setIfInBounds_toArray, List.set_cons_zero, List.set_cons_succ]
        refine heldTake (i := 2) (v := ?_) rfl (by kernel_rfl) (by kernel_rfl) (by kernel_rfl) (fun _ _ _ h => h) (Or.inl ⟨by rfl, ?_⟩) (by assumption) ?_
        rotate_left
        · intro w hSw; (try dsimp only at hSw); go_simp <;> (with_reducible rfl)
        try simp only [Act.put, List.setIfInBounds_toArray, List.set_cons_zero, List.set_cons_succ]
        refine heldTake (i := 3) (v := ?_) rfl (by kernel_rfl) (by kernel_rfl) (by kernel_rfl) (fun _ _ _ h => h) (Or.inl ⟨by rfl, ?_⟩) (by assumption) ?_
        rotate_left
        · intro w hSw; (try dsimp only at hSw); go_simp <;> (with_reducible rfl)
        try simp only [Act.put, List.setIfInBounds_toArray, List.set_cons_zero, List.set_cons_succ]
        refine wpAnyH_ready (rs := [4]) (by kernel_rfl) (by simp) ?_
        refine heldCons (i := 4) rfl (fun Kq hKq => ?_) AllReadyH.nil
        go_simp
        go_at_call 26
        (with_reducible refine (sector_any (1000 + (i : Int)) _).mono ?_)
        rintro _ y111 ⟨rfl, hlq⟩
        rw [HE.out]
        have HS_y111 : Hid (Sux w y111 b hi S [(y102.heap.size, 49, secL p), (y105.heap.size, 26, plC (a1, b1)), (y108.heap.size, 26, plC (a2, b2))] A Q c (rowX idN Q) AI M cI L none 0 0 ([])) := hide (HS_dy110.out.later hlq)
        clear hlq
        first | (refine hKq.out _ _ HS_y111.out.own (fun hHeld => ?_)) | (go_wp2_with fail; refine hKq.out _ _ HS_y111.out.own (fun hHeld => ?_))
        clear hKq Kq
        try simp only [Act.put, List.setIfInBounds_toArray, List.set_cons_zero, List.set_cons_succ]
        refine wpAnyH_ready (rs := [5]) (by kernel_rfl) (by simp) ?_
        refine heldCons (i := 5) rfl (fun Kq hKq => ?_) AllReadyH.nil
        go_simp
        go_at_call 29
        (refine (HS_y111.out.write (by have := HW0.out; omega) (di := a1) (ki := b1) rfl rfl e).mono ?_)
        rintro _ y112 ⟨rfl, hsq⟩
        rw [HS1.out] at hsq
        have HS_y112 : Hid (Sux w y112 b hi S1 [(y102.heap.size, 49, secL p), (y105.heap.size, 26, plC (a1, b1)), (y108.heap.size, 26, plC (a2, b2))] A Q c (rowX idN Q) AI M cI L none 0 0 ([])) := hide (hsq)
        clear hsq
        first | (refine hKq.out _ _ HS_y112.out.own (fun hHeld => ?_)) | (go_wp2_with fail; refine hKq.out _ _ HS_y112.out.own (fun hHeld => ?_))
        clear hKq Kq
        try simp only [Act.put, List.setIfInBounds_toArray, List.set_cons_zero, List.set_cons_succ]
        refine wpAnyH_done (by kernel_rfl) ?_ _
        clear hws
        go_upto_region 40 with (first
          | ((with_reducible refine at_slot 170 ?_); refine when_own rfl (.tmp 25) rfl HS_y112.out.own 2 rfl rfl Try.underlying26 rfl mplace_info ?_)
          | ((with_reducible refine at_slot 171 ?_); refine when_own rfl (.tmp 21) rfl HS_y112.out.own 0 rfl rfl Try.underlying49 rfl (msec_size _) ?_)
          | (go_at_call 29; refine (HS_y112.out.write (by have := HW1.out; omega) (di := a2) (ki := b2) rfl rfl p).mono ?_; rintro _ y113 ⟨rfl, hsq⟩; rw [HS2.out] at hsq; have HS_y113 : Hid (Sux w y113 b hi S2 [(y102.heap.size, 49, secL p), (y105.heap.size, 26, plC (a1, b1)), (y108.heap.size, 26, plC (a2, b2))] A Q c (rowX idN Q) AI M cI L none 0 0 ([])) := hide (hsq); clear hsq))
        obtain ⟨gi, cur, rfl, hbk, hcs, hset⟩ := HS_y113.out.setI (q := slot) (by rw [hL]; exact hsM) (1000 + (i : Int))
        go_wp2_with (first
          | ((with_reducible refine at_store 177 ?_); go_loud (refine wpList_poke rfl 3 (.tmp 177) (.tmp 176) rfl gi slot 3 _ hbk rfl (.int .i64 (1000 + (i : Int))) rfl rfl sl_int1 hcs ?_; intro z9 hbz hg hs; have hset2 := hset z9 hbz hg; rw [HVV.out] at hset2; have HZ9 : Hid (Sux w z9 b hi S2 [(y102.heap.size, 49, secL p), (y105.heap.size, 26, plC (a1, b1)), (y108.heap.size, 26, plC (a2, b2))] A Q c (rowX idN Q) (some ⟨gi, 0, none⟩) M cI (L.set slot v) none 0 0 ([])) := hide hset2; clear hset2 hs hg hbz)))
        go_roundw
        case rel => exact ⟨i + 1, S2, L.set slot v, by simp, by omega, by rw [List.length_set]; exact hL, hide (HZ9.out.cut 0), HL2, HW2⟩
        case measure => simp [intOf]; omega
      · have hii : ¬ (i : Int) < 30 := by omega
        rename ∀ (a : Act) (w : World), Code.wp _ _ _ a w → (_ : Act → World → Prop) a w => hKK
        have HKK := hide hKK
        clear hKK
        go_wp2_with fail
        refine HKK.out _ _ ?_
        exact slR K KC hQ2 hQ6 HQU HM HM8 hL HS_v HL
    · have hini : ¬ (i : Int) < (np : Int) := by omega
      rename ∀ (a : Act) (w : World), Code.wp _ _ _ a w → (_ : Act → World → Prop) a w => hKK
      have HKK := hide hKK
      clear hKK
      go_wp2_with fail
      refine HKK.out _ _ ?_
      exact slR K KC hQ2 hQ6 HQU HM HM8 hL HS_v HL
#print axioms slP
end Go.Proofs.Ytjafhlljigaibaa
