/- StripeLost, part E: the last loops. -/
import Derived.Test.YtjafhlljigaibaaSlA
import Derived.Deep.DeepCutAuto
import Derived.Deep.CutBlock

namespace Go.Proofs.Ytjafhlljigaibaa
open Go.RowKit
set_option linter.unusedVariables false
set_option maxRecDepth 100000 in
set_option maxHeartbeats 8000000 in
theorem slE (K : StrK) (KC : CheckK) {w wr : World} {b hi Q x c M u : Nat} {S : Bank} {A : Option Addr} (hQ2 : 2 ≤ Q) (hQ6 : Q ≤ 6) (HQU : Hid (Q = u + 1)) (HM : Hid (slotsN Q = M)) (HM8 : Hid (M = 8 * u))
    {AI : Option Addr} {cI : Nat} {LI : List Int} (hLI : LI.length = M) (HX : Hid (Sux w wr b hi S [] A Q c (rowX idN Q) AI M cI LI none 0 0 [])) (HL : Hid (LivN Q 20 S x (gridG Q (lostD u LI) 8)))
    {u1 u2 u3 u4 u5 u6 u7 u8 u12 u13 u14 u15 u16 u17 u18 u19 u20 u21 u22 u23 u24 u25 u26 u27 u28 u29 u30 u31 u32 u33 u34 u35 u36 u37 u38 u39 u40 u41 u42 u43 u44 u45 u46 u47 u48 u49 u50 u51 u52 u53 u54 u55 u56 u57 u58 u59 u60 u61 u62 u63 u64 u65 u66 u67 u68 u69 u70 u71 u72 u73 u74 u75 u76 u77 u78 u79 u80 u81 u82 u83 u84 u85 u86 u87 u88 u89 u90 u91 u92 u93 u94 u95 u96 u97 u98 u99 u100 u101 u102 u103 u104 u105 u106 u107 u108 u109 u110 u111 u112 u113 u114 u115 u116 u117 u118 u119 u120 u121 u122 u123 u124 u125 u126 u127 u128 u129 u130 u131 u132 u133 u134 u135 u136 u137 u138 u139 u140 u141 u142 u143 u144 u145 u146 u147 u148 u149 u150 u151 u152 u153 u154 u155 u156 u157 u158 u159 u160 u161 u162 u163 u164 u165 u166 u167 u168 u169 u170 u171 u172 u173 u174 u175 u176 u177 u178 u179 u180 u181 u182 u183 u184 u185 u186 u187 u188 u189 u190 u191 u192 u193 u194 u195 u196 u197 u198 u199 u200 u201 u202 u203 u204 u205 u206 u207 u208 u209 u210 u211 u212 u213 u214 u215 u216 u217 u218 u219 u220 u221 u222 u223 u224 u225 u226 u227 u228 u229 u230 u231 u232 u233 u234 u235 u236 u237 u238 u239 u240 u241 u242 u243 u244 u245 u246 u247 u248 u249 : Value} :
    SlTail 16 w { tmps := #[.int .i64 (Q : Int), u1, u2, u3, u4, u5, u6, u7, u8, .bool true, .pointer (some ⟨b, 0, none⟩), .slice A Q c, u12, u13, u14, u15, u16, u17, u18, u19, u20, u21, u22, u23, u24, u25, u26, u27, u28, u29, u30, u31, u32, u33, u34, u35, u36, u37, u38, u39, u40, u41, u42, u43, u44, u45, u46, u47, u48, u49, u50, u51, u52, u53, u54, u55, u56, u57, u58, u59, u60, u61, u62, u63, u64, u65, u66, u67, u68, u69, u70, u71, u72, u73, u74, u75, u76, u77, u78, u79, u80, u81, u82, u83, u84, u85, u86, u87, u88, u89, u90, u91, u92, u93, u94, u95, u96, u97, u98, u99, u100, u101, u102, u103, u104, u105, u106, u107, u108, u109, u110, u111, u112, u113, u114, u115, u116, u117, u118, u119, u120, u121, u122, u123, u124, u125, u126, u127, u128, u129, u130, u131, u132, u133, u134, u135, u136, u137, u138, u139, u140, u141, u142, u143, u144, u145, u146, u147, u148, u149, u150, u151, u152, u153, u154, u155, u156, u157, u158, u159, u160, u161, u162, u163, u164, u165, u166, u167, u168, u169, u170, u171, u172, u173, u174, u175, u176, u177, u178, u179, u180, u181, u182, u183, u184, u185, u186, u187, u188, u189, u190, u191, u192, u193, u194, u195, u196, u197, u198, u199, u200, u201, u202, u203, u204, u205, u206, u207, u208, u209, u210, u211, u212, u213, u214, u215, u216, u217, u218, u219, u220, u221, u222, u223, u224, u225, u226, u227, u228, u229, u230, u231, u232, u233, u234, u235, u236, u237, u238, u239, u240, u241, u242, u243, u244, u245, u246, u247, u248, u249], defers := [] } wr := by
  obtain ⟨G, hG, hdead⟩ := HL.out.gone
  have HLD := hide (fun t => lostD_length u LI t)
  unfold SlTail
  conv => arg 2; whnf
  go_wp2_with fail
  go_loopw [30] (fun s30 wr => ∃ T : Nat, s30 = .int .i64 (T : Int) ∧ T ≤ 8 ∧ Hid (Sux w wr b hi S [] A Q c (rowX idN Q) AI M cI LI none 0 0 [])) (fun s30 _ => 8 - (intOf s30).toNat)
  case atStart => exact ⟨0, rfl, by decide, HX⟩
  case round => as_aux_lemma =>
    obtain ⟨T, rfl, hT, HY⟩ := hrel
    clear HX
    by_cases hT8 : T < 8
    · have hTi : (T : Int) < 8 := by omega
      have hlc : (lostD u LI T).length = Q - 1 := by have := HQU.out; rw [HLD.out]; omega
      obtain ⟨C, hC⟩ : ∃ C, colL Q T (lostD u LI T) = C := ⟨_, rfl⟩
      have hCl : C.length = Q := by rw [← hC]; exact colL_length _ _ _
      have HC := hide hC
      have HCL := hide hCl
      have HDT := hide hlc
      have HDE := hide hdead
      clear hC hCl hlc hdead
      go_wp2_with fail
      go_loopw [31, 32, 33] (fun s31 s32 s33 wr => ∃ (k m : Nat) (A3 : Option Addr) (c3 : Nat) (g : Int), s31 = .slice A3 m c3 ∧ s32 = .int .i64 g ∧ s33 = .int .i64 (k : Int) ∧ k ≤ Q ∧ m ≤ k ∧ Hid (g = goneI G k) ∧ Hid (Sux w wr b hi S [] A Q c (rowX idN Q) AI M cI LI A3 m c3 (liveL C G k))) (fun _ _ s33 _ => Q - (intOf s33).toNat)
      case atStart => exact ⟨0, 0, none, 0, -1, rfl, rfl, rfl, Nat.zero_le _, Nat.le_refl _, hide rfl, HY⟩
      case round => as_aux_lemma =>
        obtain ⟨k, m, A3, c3, g, rfl, rfl, rfl, hk, hmk, Hg, HZ⟩ := hrel
        clear HY
        obtain ⟨v1, hv1⟩ : ∃ v1, v1 = wr := ⟨_, rfl⟩
        rw [← hv1] at HZ ⊢
        clear hv1
        by_cases hkQ : k < Q
        · have hki : (k : Int) < (Q : Int) := by omega
          have HDK := hide (HDE.out k hkQ)
          by_cases hkG : k = G
          · subst hkG
            have HDK2 := hide (show S.dead k = true by rw [HDK.out]; simp)
            clear HDK
            go_wp2_with (first
              | (go_at_call 31; refine (HZ.out.sox.sit.dead k rfl (by rw [HL.out.n]; exact hkQ)).mono ?_; rintro _ z1 ⟨rfl, rfl⟩; rw [HDK2.out]))
            go_roundw
            case rel => exact ⟨k + 1, m, A3, c3, (k : Int), rfl, rfl, by simp, by omega, by omega, hide (goneI_gone k).symm, hide (by rw [liveL_gone C (by rw [HCL.out]; exact hkQ)]; exact HZ.out)⟩
            case measure => simp [intOf]; omega
          · have HDK2 := hide (show S.dead k = false by rw [HDK.out]; simp [hkG])
            clear HDK
            obtain ⟨e, he⟩ : ∃ e, dataAt Q T k (lostD u LI T) = e := ⟨_, rfl⟩
            have HCK := hide (show C[k]? = some e by rw [← HC.out, colL_at _ _ _ hkQ, he])
            have HRE := hide (show S.readS k (k + T) = e ∧ S.place k (k + T) = 0 from ⟨by rw [HL.out.read hkQ (by omega) HDK2.out, grid_at _ hT8, he], by rw [HL.out.place hkQ (by omega), HDK2.out]; rfl⟩)
            clear he
            go_wp2_with (first
              | (go_at_call 31; refine (HZ.out.sox.sit.dead k rfl (by rw [HL.out.n]; exact hkQ)).mono ?_; rintro _ z1 ⟨rfl, rfl⟩; rw [HDK2.out])
              | ((with_reducible refine at_slot 220 ?_); refine wpList_build_is rfl 26 #[(0, .tmp 216), (1, .tmp 219)] rfl [(0, .int .i64 (k : Int)), (1, .int .i64 ((k : Int) + (T : Int)))] (by simp only [List.map_toArray, List.map_cons, List.map_nil]; rfl) _ (slpl_two _ _) ?_)
              | (go_at_call 32; refine (HZ.out.read (di := (k : Int)) (ki := (k : Int) + (T : Int)) (d := k) (k := k + T) (nI_nat k) (nI_nat (k + T))).mono ?_; rintro _ y101 ⟨rfl, hsq⟩; rw [HRE.out.1, HRE.out.2]; have HS_y101 : Hid (Sux w y101 b hi S [] A Q c (rowX idN Q) AI M cI LI A3 m c3 (liveL C G k)) := hide (hsq); clear hsq)
              | ((with_reducible refine at_slot 34 ?_); refine wpList_alloc_blk rfl 49 rfl _ (sec_zero _) ?_; intro y102 hbq hl1 hs1; clear hs1)
              | ((with_reducible refine at_store 34 ?_); refine wpList_store_all rfl 49 (.tmp 34) (.tmp 222) rfl y101.heap.size 49 _ hbq rfl (secL e) rfl (msec_size _) (msec_len _ _) (secL_one _) ?_; intro y103 hbz hg hs; have HS_y103 : Hid (Sux w y103 b hi S [(y101.heap.size, 49, secL e)] A Q c (rowX idN Q) AI M cI LI A3 m c3 (liveL C G k)) := hide (HS_y101.out.new hl1 hg hbz); clear hs hbq hl1 hg hbz)
              | ((with_reducible refine at_slot 227 ?_); refine when_own rfl (.tmp 34) rfl HS_y103.out.own 0 rfl rfl Try.underlying49 rfl (msec_size _) ?_)
              | ((with_reducible refine at_slot 228 ?_); refine wpList_oneD rfl (.tmp 227) rfl e rfl ?_)
              | ((with_reducible refine at_slot 229 ?_); refine wpList_pushD rfl (.tmp 226) (.tmp 228) rfl e HS_y103.out rfl rfl rfl (by omega) ?_; intro A4 c4 z4 hsq; have HZ4 := hide (liveL_next C hkG HCK.out ▸ hsq); clear hsq))
            go_roundw
            case rel => exact ⟨k + 1, m + 1, A4, c4, g, rfl, rfl, by simp, by omega, by omega, hide (Hg.out.trans (goneI_next hkG)), hide (HZ4.out.cut 0)⟩
            case measure => simp [intOf]; omega
        · have hki : ¬ (k : Int) < (Q : Int) := by omega
          obtain rfl : Q = k := by omega
          by_cases hGQ : G < Q
          · have hg0 : g = (G : Int) := Hg.out.trans (if_pos hGQ)
            subst hg0
            have hgi : (G : Int) ≥ 0 := by omega
            have HDK2 := hide (show S.dead G = true by rw [HDE.out G hGQ]; simp)
            obtain ⟨e, he⟩ : ∃ e, dataAt Q T G (lostD u LI T) = e := ⟨_, rfl⟩
            have HRB := hide (show S.srebuilt (rowX idN Q) (G : Int) (T : Int) = (e, 0) by rw [HL.out.srebuilt hQ2 (by omega) hT8 HDT.out hGQ HDK2.out, he])
            have HPZ := hide (show parOf (rawS (liveL C G Q ++ [e])) = zeroL by rw [liveL_all C HCL.out, ← HC.out, ← he]; exact col_check Q T hQ2 HDT.out hGQ)
            clear he
            go_wp2_with (first
              | (go_at_call 33; refine (HZ.out.srebuilt K (G : Int) (T : Int) ⟨by omega, by omega⟩ ⟨by omega, by omega⟩).mono ?_; rintro _ y151 ⟨rfl, hsq⟩; rw [HRB.out]; have HS_y151 : Hid (Sux w y151 b hi S [] A Q c (rowX idN Q) AI M cI LI A3 m c3 (liveL C G Q)) := hide (hsq); clear hsq)
              | ((with_reducible refine at_slot 36 ?_); refine wpList_alloc_blk rfl 49 rfl _ (sec_zero _) ?_; intro y152 hbq hl1 hs1; clear hs1)
              | ((with_reducible refine at_store 36 ?_); refine wpList_store_all rfl 49 (.tmp 36) (.tmp 238) rfl y151.heap.size 49 _ hbq rfl (secL e) rfl (msec_size _) (msec_len _ _) (secL_one _) ?_; intro y153 hbz hg hs; have HS_y153 : Hid (Sux w y153 b hi S [(y151.heap.size, 49, secL e)] A Q c (rowX idN Q) AI M cI LI A3 m c3 (liveL C G Q)) := hide (HS_y151.out.new hl1 hg hbz); clear hs hbq hl1 hg hbz)
              | ((with_reducible refine at_slot 243 ?_); refine when_own rfl (.tmp 36) rfl HS_y153.out.own 0 rfl rfl Try.underlying49 rfl (msec_size _) ?_)
              | ((with_reducible refine at_slot 244 ?_); refine wpList_oneD rfl (.tmp 243) rfl e rfl ?_)
              | ((with_reducible refine at_slot 245 ?_); refine wpList_pushD rfl (.tmp 242) (.tmp 244) rfl e HS_y153.out rfl rfl rfl (by omega) ?_; intro A4 c4 z4 hsq; have HZ4 := hide hsq; clear hsq)
              | (go_at_call 34; refine (HZ4.out.check KC (by omega) HPZ.out).mono ?_; rintro _ z5 ⟨rfl, hsq⟩; have HZ5 := hide hsq; clear hsq))
            go_roundw
            case rel => exact ⟨T + 1, by simp, by omega, hide (HZ5.out.cut 0).secs0⟩
            case measure => simp [intOf]; omega
          · have hg0 : g = -1 := Hg.out.trans (if_neg hGQ)
            subst hg0
            have HPZ := hide (show parOf (rawS (liveL C G Q)) = zeroL by
              rw [liveL_all C HCL.out, List.eraseIdx_of_length_le (by rw [HCL.out]; omega), ← HC.out]
              exact colL_zero Q T hQ2 HDT.out)
            go_wp2_with (first
              | (go_at_call 34; refine (HZ.out.check KC (by omega) HPZ.out).mono ?_; rintro _ z1 ⟨rfl, hsq⟩; have HZ5 := hide hsq; clear hsq))
            go_roundw
            case rel => exact ⟨T + 1, by simp, by omega, hide (HZ5.out.cut 0).secs0⟩
            case measure => simp [intOf]; omega
    · have hTi : ¬ (T : Int) < 8 := by omega
      go_wp2_with fail
      go_ret
      exact ⟨rfl, HY.out.low⟩
#print axioms slE
end Go.Proofs.Ytjafhlljigaibaa
