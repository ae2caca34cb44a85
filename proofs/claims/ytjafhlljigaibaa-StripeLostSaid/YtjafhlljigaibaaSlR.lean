/- StripeLost, part R: each slot is read. -/
import Derived.Test.YtjafhlljigaibaaSlE
import Derived.Deep.DeepCutAuto
import Derived.Deep.CutBlock

namespace Go.Proofs.Ytjafhlljigaibaa
open Go.RowKit
set_option linter.unusedVariables false
set_option maxRecDepth 100000 in
set_option maxHeartbeats 8000000 in
theorem slR (K : StrK) (KC : CheckK) {w wr : World} {b hi Q x c M u : Nat} {S : Bank} {A : Option Addr} (hQ2 : 2 ≤ Q) (hQ6 : Q ≤ 6) (HQU : Hid (Q = u + 1)) (HM : Hid (slotsN Q = M)) (HM8 : Hid (M = 8 * u))
    {AI : Option Addr} {cI : Nat} {LI : List Int} (hLI : LI.length = M) (HX : Hid (Sux w wr b hi S [] A Q c (rowX idN Q) AI M cI LI none 0 0 [])) (HL : Hid (LivN Q 20 S x (gridG Q (lostD u LI) 8)))
    {u1 u2 u3 u4 u5 u6 u7 u8 u14 u15 u16 u17 u18 u19 u20 u21 u22 u23 u24 u25 u26 u27 u28 u29 u30 u31 u32 u33 u34 u35 u36 u37 u38 u39 u40 u41 u42 u43 u44 u45 u46 u47 u48 u49 u50 u51 u52 u53 u54 u55 u56 u57 u58 u59 u60 u61 u62 u63 u64 u65 u66 u67 u68 u69 u70 u71 u72 u73 u74 u75 u76 u77 u78 u79 u80 u81 u82 u83 u84 u85 u86 u87 u88 u89 u90 u91 u92 u93 u94 u95 u96 u97 u98 u99 u100 u101 u102 u103 u104 u105 u106 u107 u108 u109 u110 u111 u112 u113 u114 u115 u116 u117 u118 u119 u120 u121 u122 u123 u124 u125 u126 u127 u128 u129 u130 u131 u132 u133 u134 u135 u136 u137 u138 u139 u140 u141 u142 u143 u144 u145 u146 u147 u148 u149 u150 u151 u152 u153 u154 u155 u156 u157 u158 u159 u160 u161 u162 u163 u164 u165 u166 u167 u168 u169 u170 u171 u172 u173 u174 u175 u176 u177 u178 u179 u180 u181 u182 u183 u184 u185 u186 u187 u188 u189 u190 u191 u192 u193 u194 u195 u196 u197 u198 u199 u200 u201 u202 u203 u204 u205 u206 u207 u208 u209 u210 u211 u212 u213 u214 u215 u216 u217 u218 u219 u220 u221 u222 u223 u224 u225 u226 u227 u228 u229 u230 u231 u232 u233 u234 u235 u236 u237 u238 u239 u240 u241 u242 u243 u244 u245 u246 u247 u248 u249 : Value} :
    SlTail 15 w { tmps := #[.int .i64 (Q : Int), u1, u2, u3, u4, u5, u6, u7, u8, .bool true, .pointer (some ⟨b, 0, none⟩), .slice A Q c, .int .i64 (M : Int), .slice AI M cI, u14, u15, u16, u17, u18, u19, u20, u21, u22, u23, u24, u25, u26, u27, u28, u29, u30, u31, u32, u33, u34, u35, u36, u37, u38, u39, u40, u41, u42, u43, u44, u45, u46, u47, u48, u49, u50, u51, u52, u53, u54, u55, u56, u57, u58, u59, u60, u61, u62, u63, u64, u65, u66, u67, u68, u69, u70, u71, u72, u73, u74, u75, u76, u77, u78, u79, u80, u81, u82, u83, u84, u85, u86, u87, u88, u89, u90, u91, u92, u93, u94, u95, u96, u97, u98, u99, u100, u101, u102, u103, u104, u105, u106, u107, u108, u109, u110, u111, u112, u113, u114, u115, u116, u117, u118, u119, u120, u121, u122, u123, u124, u125, u126, u127, u128, u129, u130, u131, u132, u133, u134, u135, u136, u137, u138, u139, u140, u141, u142, u143, u144, u145, u146, u147, u148, u149, u150, u151, u152, u153, u154, u155, u156, u157, u158, u159, u160, u161, u162, u163, u164, u165, u166, u167, u168, u169, u170, u171, u172, u173, u174, u175, u176, u177, u178, u179, u180, u181, u182, u183, u184, u185, u186, u187, u188, u189, u190, u191, u192, u193, u194, u195, u196, u197, u198, u199, u200, u201, u202, u203, u204, u205, u206, u207, u208, u209, u210, u211, u212, u213, u214, u215, u216, u217, u218, u219, u220, u221, u222, u223, u224, u225, u226, u227, u228, u229, u230, u231, u232, u233, u234, u235, u236, u237, u238, u239, u240, u241, u242, u243, u244, u245, u246, u247, u248, u249], defers := [] } wr := by
  have hMb : M ≤ 40 := by have := HM8.out; have := HQU.out; omega
  unfold SlTail
  conv => arg 2; whnf
  go_wp2_with fail
  go_loopw [27] (fun s27 wr => ∃ s : Nat, s27 = .int .i64 (s : Int) ∧ s ≤ M ∧ Hid (Sux w wr b hi S [] A Q c (rowX idN Q) AI M cI LI none 0 0 [])) (fun s27 _ => M - (intOf s27).toNat)
  case atStart => exact ⟨0, rfl, Nat.zero_le _, HX⟩
  case round => as_aux_lemma =>
    obtain ⟨s, rfl, hs, HZ⟩ := hrel
    clear HX
    obtain ⟨v1, hv1⟩ : ∃ v1, v1 = wr := ⟨_, rfl⟩
    rw [← hv1] at HZ ⊢
    clear hv1
    by_cases hsM : s < M
    · have hsi : (s : Int) < (M : Int) := by omega
      obtain ⟨v, hv⟩ : ∃ v, LI[s]? = some v := ⟨_, List.getElem?_eq_getElem (by rw [hLI]; exact hsM)⟩
      obtain ⟨e, he⟩ : ∃ e, secOf v = e := ⟨_, rfl⟩
      have HE := hide he
      have HRD := hide (show S.sread (rowX idN Q) (s : Int) = (e, 0) from (by
        have hu : Q - 1 = u := by have := HQU.out; omega
        have h := HL.out.sread (slot := s) (s := secOf v) hQ2 (by omega) (fun t _ => by rw [lostD_length, hu]) (by rw [HM.out]; exact hsM) (by rw [hu]; exact lostD_slot (by omega) hv)
        rw [h, he]))
      obtain ⟨gi, rfl, hcell⟩ := HZ.out.cellI hv
      have hv2 := hv
      clear he hv hcell
      go_upto_region 45 with (first
        | (go_at_call 30; refine (HZ.out.sread K (s : Int) ⟨by omega, by omega⟩).mono ?_; rintro _ y101 ⟨rfl, hsq⟩; rw [HRD.out]; have HS_y101 : Hid (Sux w y101 b hi S [] A Q c (rowX idN Q) (some ⟨gi, 0, none⟩) M cI LI none 0 0 ([])) := hide (hsq); clear hsq)
        | ((with_reducible refine at_slot 28 ?_); refine wpList_alloc_blk rfl 49 rfl _ (sec_zero _) ?_; intro y102 hbq hl1 hs1; clear hs1)
        | ((with_reducible refine at_store 28 ?_); refine wpList_store_all rfl 49 (.tmp 28) (.tmp 188) rfl y101.heap.size 49 _ hbq rfl (secL e) rfl (msec_size _) (msec_len _ _) (secL_one _) ?_; intro y103 hbz hg hs; have HS_y103 : Hid (Sux w y103 b hi S [(y101.heap.size, 49, secL e)] A Q c (rowX idN Q) (some ⟨gi, 0, none⟩) M cI LI none 0 0 ([])) := hide (HS_y101.out.new hl1 hg hbz); clear hs hbq hl1 hg hbz))
      obtain ⟨gj, hgj, hcell2⟩ := HS_y103.out.cellI hv2
      have hgj2 : gj = gi := by injection hgj with h1; injection h1 with h1; exact h1.symm
      subst hgj2
      clear hgj
      have hlt : gj < y103.heap.size := (HS_y103.out.ints.lt gj rfl).2
      refine wp_region_held_drew (S := (fun W => OwnV W hi [(y101.heap.size, 49, secL e)] ∧ W.cell? ⟨gj, s, none⟩ = some (.int .i64 v))) (by kernel_rfl) ?_ (fun hHeld => ?_)
      · exact ⟨HS_y103.out.drew.own, hcell2⟩
      have HS_d := hide (HS_y103.out.drew)
      refine heldTake (i := 0) (v := .agg (secL e).toArray) rfl (by kernel_rfl) (by kernel_rfl) (by kernel_rfl) (fun _ _ _ h => h) (yieldsIf_load_mid (by rfl) _ _ rfl _ _ rfl (secL e) _ (fun W hW => hW.1.range 0 rfl) Try.underlying49 rfl (msec_size _)) (by assumption) ?_
      try simp only [Act.put, List.setIfInBounds_toArray, List.set_cons_zero, List.set_cons_succ]
      refine heldTake (i := 1) (v := ?_) rfl (by kernel_rfl) (by kernel_rfl) (by kernel_rfl) (fun _ _ _ h => h) (Or.inl ⟨by rfl, ?_⟩) (by assumption) ?_
      rotate_left
      · intro w hSw; (try dsimp only at hSw); go_simp <;> (with_reducible rfl)
      try simp only [Act.put, List.setIfInBounds_toArray, List.set_cons_zero, List.set_cons_succ]
      refine heldTake (i := 2) (v := ?_) rfl (by kernel_rfl) (by kernel_rfl) (by kernel_rfl) (fun _ _ _ h => h) (Or.inl ⟨by rfl, ?_⟩) (by assumption) ?_
      rotate_left
      · intro w hSw; (try dsimp only at hSw); go_simp <;> (with_reducible rfl)
      try simp only [Act.put, List.setIfInBounds_toArray, List.set_cons_zero, List.set_cons_succ]
      refine heldTake (i := 3) (v := ?_) rfl (by kernel_rfl) (by kernel_rfl) (by kernel_rfl) (fun _ _ _ h => h) (Or.inl ⟨by rfl, ?_⟩) (by assumption) ?_
      rotate_left
      · intro w hSw; (try dsimp only at hSw); go_simp <;> (with_reducible rfl)
      try simp only [Act.put, List.setIfInBounds_toArray, List.set_cons_zero, List.set_cons_succ]
      refine heldTake (i := 4) (v := .int .i64 v) rfl (by kernel_rfl) (by kernel_rfl) (by kernel_rfl) (fun _ _ _ h => h) (Or.inl ⟨by rfl, fun W hW => ?_⟩) (by assumption) ?_
      · have hc := hW.2
        go_simp <;> rfl
      try simp only [Act.put, List.setIfInBounds_toArray, List.set_cons_zero, List.set_cons_succ]
      refine wpAnyH_ready (rs := [5]) (by kernel_rfl) (by simp) ?_
      refine heldCons (i := 5) rfl (fun Kq hKq => ?_) AllReadyH.nil
      go_simp
      go_at_call 26
      (with_reducible refine (sector_any v _).mono ?_)
      rintro _ z1 ⟨rfl, hlq⟩
      rw [HE.out]
      have HEND := hide (HS_d.out.later hlq)
      have hc2 := (hlq.cell (p := ⟨gj, s, none⟩) hlt).trans hcell2
      clear hlq
      first | (refine hKq.out _ _ ⟨HEND.out.own, hc2⟩ (fun hHeld => ?_)) | (go_wp2_with fail; refine hKq.out _ _ ⟨HEND.out.own, hc2⟩ (fun hHeld => ?_))
      clear hKq Kq
      try simp only [Act.put, List.setIfInBounds_toArray, List.set_cons_zero, List.set_cons_succ]
      refine heldTake (i := 6) (v := .bool false) rfl (by kernel_rfl) (by kernel_rfl) (by kernel_rfl) (fun _ _ _ h => h) (Or.inl ⟨by rfl, fun W hW => run_neS W _ (.tmp 190) (.tmp 195) _ rfl e e rfl rfl false (by simp)⟩) (by assumption) ?_
      try simp only [Act.put, List.setIfInBounds_toArray, List.set_cons_zero, List.set_cons_succ]
      refine heldTake (i := 7) (v := ?_) rfl (by kernel_rfl) (by kernel_rfl) (by kernel_rfl) (fun _ _ _ h => h) (Or.inl ⟨by rfl, ?_⟩) (by assumption) ?_
      rotate_left
      · intro w hSw; (try dsimp only at hSw); go_simp <;> (with_reducible rfl)
      try simp only [Act.put, List.setIfInBounds_toArray, List.set_cons_zero, List.set_cons_succ]
      refine heldTake (i := 8) (v := ?_) rfl (by kernel_rfl) (by kernel_rfl) (by kernel_rfl) (fun _ _ _ h => h) (Or.inl ⟨by rfl, ?_⟩) (by assumption) ?_
      rotate_left
      · intro w hSw; (try dsimp only at hSw); go_simp <;> (with_reducible rfl)
      try simp only [Act.put, List.setIfInBounds_toArray, List.set_cons_zero, List.set_cons_succ]
      refine heldTake (i := 9) (v := ?_) rfl (by kernel_rfl) (by kernel_rfl) (by kernel_rfl) (fun _ _ _ h => h) (Or.inl ⟨by rfl, ?_⟩) (by assumption) ?_
      rotate_left
      · intro w hSw; (try dsimp only at hSw); go_simp <;> (with_reducible rfl)
      try simp only [Act.put, List.setIfInBounds_toArray, List.set_cons_zero, List.set_cons_succ]
      refine heldTake (i := 10) (v := ?_) rfl (by kernel_rfl) (by kernel_rfl) (by kernel_rfl) (fun _ _ _ h => h) (Or.inl ⟨by rfl, ?_⟩) (by assumption) ?_
      rotate_left
      · intro w hSw; (try dsimp only at hSw); go_simp <;> (with_reducible rfl)
      try simp only [Act.put, List.setIfInBounds_toArray, List.set_cons_zero, List.set_cons_succ]
      refine wpAnyH_done (by kernel_rfl) ?_ _
      go_wp2_with fail
      go_roundw
      case rel => exact ⟨s + 1, by simp, by omega, hide (HEND.out.cut 0)⟩
      case measure => simp [intOf]; omega
    · have hsi : ¬ (s : Int) < (M : Int) := by omega
      rename ∀ (a : Act) (w : World), Code.wp _ _ _ a w → (_ : Act → World → Prop) a w => hKK
      have HKK := hide hKK
      clear hKK
      go_wp2_with fail
      refine HKK.out _ _ ?_
      exact slE K KC hQ2 hQ6 HQU HM HM8 hLI HZ HL
#print axioms slR
end Go.Proofs.Ytjafhlljigaibaa
