/- Texts of the proof laid one behind the other: RFull RReb. -/
import Derived.Test.YtmjjnbabfldbcaaGreatLump10
import Derived.Test.YtmjjnbabfldbcaaGreatLump7
namespace Go.Proofs.YtmjjnbabfldbcaaGreat
open Go.RowKit
set_option linter.unusedVariables false
theorem reads_turn {w w' : World} {B size n : Nat} {A : Option Addr} {xs : List Value} {G : Nat → Prop} (h : Reads w B size A n xs) (hB : B ≤ w.heap.size) (ho : Off G A n) (ht : Turn G w w') : Reads w' B size A n xs := by
  refine ⟨h.1, fun hn => ?_⟩
  obtain ⟨ad, e, hb, hc⟩ := h.2 hn
  exact ⟨ad, e, hb, fun j u hj => (ht.cell (p := ad.add j) (by rw [block_of_add]; omega) (by rw [block_of_add]; exact ho ad e hn)).trans (hc j u hj)⟩
theorem load_at_run {P : Program} {o : Oper} {a : Act} {w : World} (ty : TypeId) (x : Operand) (ho : o.op = .load ty x) (ad : Addr) (hx : a.eval x = .pointer (some ad)) (cs : List Value) (d : TypeDesc) (hc : ∀ j v, cs[j]? = some v → w.cell? (ad.add j) = some v)
    (hu : P.underlying ty = some d) (hd : (match d with | .struct _ | .array _ _ => true | _ => false) = true) (hi : (P.info? ty).map (·.size) = some cs.length) : (execOp a.eval o).run P w = .ok (.value (.agg cs.toArray)) w := by
  unfold execOp
  simp only [ho, hx, Instr.loadAt, Instr.sureAddr, Sem.run_bind, Sem.run_pure, Result.andThen_ok, run_loadVar_at w ad ty cs d hc hu hd hi]
section
variable {w W : World} {r : Nat} {S T : Bank} {G : Nat → Prop} {A A2 : Option Addr} {n c m c2 : Nat} {X : List PlI} {L : List Sec}
/-- A row of places of the call's own stands among Rit's variables. -/
theorem Rit.row {w0 W' : World} {V : List (Nat × TypeId × List Value)} (h : Rit w0 W r G S V) (hb : Below W.heap.size W W') {base k : Nat} {D : List PlI} (ho : PlOwn W' base A k c D) (hk : 0 < k) (hB : W.heap.size ≤ base) :
    ∃ g cur, A = some ⟨g, 0, none⟩ ∧ cur.take (k * 2) = plsL D ∧ Rit w0 W' r G S (V ++ [(g, 47, cur)]) := by
  rcases ho.2 with ⟨_, h0⟩ | ⟨g, cap, cur, hv, hg, hh, _, _, _, ht⟩
  · omega
  · injection hv with e1
    refine ⟨g, cur.toList, e1, ht, h.var hb (by omega) ?_⟩
    show W'.heap[g]? = _
    rw [hh, Array.toArray_toList]
/-- .. and is read there. -/
theorem Rit.places {w0 : World} {V : List (Nat × TypeId × List Value)} (h : Rit w0 W r G S V) {i g : Nat} {cur : List Value} (e : V[i]? = some (g, 47, cur)) {k : Nat} {D : List PlI} (ht : cur.take (k * 2) = plsL D) (hk : D.length = k) : Reads W W.heap.size 2 (some ⟨g, 0, none⟩) k (plsL D) := by
  have hb : Blk W g 47 cur.toArray := (h.own i _ e).2
  refine ⟨by rw [plsL_length, hk], fun _ => ⟨_, rfl, hb.lt, fun j u hj => ?_⟩⟩
  have hlt : j < (plsL D).length := (List.getElem?_eq_some_iff.1 hj).1
  rw [plsL_length, hk] at hlt
  rw [← ht, List.getElem?_take, if_pos hlt] at hj
  have : (⟨g, 0, none⟩ : Addr).add j = ⟨g, j, none⟩ := by unfold Addr.add; split <;> simp_all
  rw [this, hb.cell j]
  simpa using hj
set_option maxRecDepth 100000 in
set_option maxHeartbeats 4000000 in
theorem rsfull_yes (h : RefOn w r G S) (hw : S.writes < 4611686018427387000) (hx : Rox w w [] A n c X) (t : Nat) (ht8 : t < 8) (hmn : m + 1 = n) (h1m : 0 < m) (hd : Reads w w.heap.size 64 A2 m (gD L)) (hLm : L.length = m) (hoff : Off G A2 m) :
    Calls Tryz.prog 26 #[.pointer (some ⟨r, 0, none⟩), .slice A n c, .int .i64 (t : Int), .slice A2 m c2] w fun e w' => e = .returned (.int .i64 ((S.sfull X (t : Int) L).1 : Int)) ∧ RefOn w' r (More G w w') (S.sfull X (t : Int) L).2 ∧ Turn G w w' := by
  have hlen : X.length = n := reads_len hx.in_.reads
  have hn12 : n ≤ 12 := hx.few
  have hmn1 : ((m : Int) != (n : Int) - 1) = false := by simp; omega
  have hn2 : decide ((n : Int) < 2) = false := by simp; omega
  have hT : strE n (t : Int) = 0 := by unfold strE; rw [if_neg (by omega), if_neg (by omega)]
  have hDl : (strD X t).length = L.length := by rw [strD_length (by omega), hlen, hLm]; omega
  have hdt := refData_yes (c := c) (t := t) hx.in_.reads hx.small (by omega) (by omega) ht8
  rw [show n - 1 = m by omega] at hdt
  have HDT := hide hdt
  have hsf : S.sfull X (t : Int) L = (if (S.wallP (fullL X t L)).1 = 0 then (if 1 < (S.wallP (fullL X t L)).2.1 then 5 else 0) else (S.wallP (fullL X t L)).1, (S.wallP (fullL X t L)).2.2) := by
    unfold Bank.sfull
    rw [show fullE X.length L.length (t : Int) = 0 by unfold fullE; rw [if_neg (by omega), if_neg (by omega)]]
    rfl
  have HSF := hide hsf
  have HFA := hide (fun (i : Nat) (p : PlI) (s : Sec) => full_at (X := X) (t := t) (i := i) (L := L) (p := p) (s := s) hDl)
  have HFL := hide (show (fullL X t L).length = n by rw [zfull_length hDl, hLm]; omega)
  have HX := hide hx
  have HP := hide (show parR X n (t : Int) = strP X t ∧ strE n (t : Int) = 0 from ⟨by unfold parR; rw [if_pos hT, Int.toNat_natCast], hT⟩)
  obtain ⟨D, hDD⟩ : ∃ D, D = strD X t := ⟨_, rfl⟩
  obtain ⟨P, hPP⟩ : ∃ P, P = strP X t := ⟨_, rfl⟩
  obtain ⟨W, hWW⟩ : ∃ W, W = fullL X t L := ⟨_, rfl⟩
  rw [← hDD] at HDT hDl HFA
  rw [← hPP] at HFA HP
  rw [← hWW] at HSF HFA HFL
  have HDL := hide (show D.length = m by rw [hDl, hLm])
  have HLM := hide hLm
  have HB0 := hide h
  have HB := hide (Rit.begin h)
  have HFIN := hide (show ∀ x, G x → x < w.heap.size from fun x hx => h.1 x hx)
  have HDA := hide (fun (V : World) (hT : Turn G w V) => reads_turn hd (Nat.le_refl _) hoff hT)
  have HSW := hide hw
  clear h hw hx ht8 hd hoff hlen hT hDl hdt hsf hDD hPP hWW hLm
  go_enter Tryz.func26, Tryz.ntmps26
  go_upto_block 0 with (first
    | (go_at_call 64; refine HDT.out.mono ?_; rintro _ z1 ⟨A', c', rfl, hpl, hl1⟩; have hmc := (own_shape hpl); obtain ⟨g, cur, rfl, hct, hrit⟩ := Rit.row HB.out hl1 hpl h1m (Nat.le_refl _); have HR1 := hide hrit; have HX1 := hide (HX.out.later hl1); have HCT := hide hct; clear hrit hct hpl hl1 hmc)
    | (go_at_call 33; refine (refParR HX1.out.in_ (t : Int)).mono ?_; rintro _ z2 ⟨rfl, hl2⟩; rw [HP.out.1, HP.out.2]; have HR2 := hide (HR1.out.later hl2); clear hl2)
    | ((with_reducible refine at_slot 11 ?_); refine wpList_alloc_blk rfl 47 rfl _ (mplace_zero _) ?_; intro z3 hb3 hl3 hs3; clear hs3)
    | ((with_reducible refine at_store 11 ?_); refine wpList_store_all rfl 47 (.tmp 11) (.tmp 41) rfl z2.heap.size 47 _ hb3 rfl (plC P) rfl mplace_info rfl (plC_one P) ?_; intro z4 hb4 hg4 hs4; have HR4 := hide (HR2.out.new hl3 hg4 hb4); clear hb3 hl3 hb4 hg4 hs4))
  obtain ⟨pb, hpb⟩ : ∃ pb, pb = z2.heap.size := ⟨_, rfl⟩
  rw [← hpb] at HR4 ⊢
  have HR5 : Hid (Rit w z4 r G S [(g, 47, cur), (pb, 47, plC P)]) := HR4
  obtain ⟨pa, hpa⟩ : ∃ pa : Addr, pa = ⟨g, 0, none⟩ := ⟨_, rfl⟩
  rw [← hpa]
  have HPA := hide hpa
  clear hpb hpa HR4 HR2 HR1 HX HX1 HDT HP HB
  go_wp2_with fail
  go_loopw [13, 14, 15, 16] (fun s13 s14 _ _ wr => ∃ (i q : Nat) (T : Bank), s13 = .int .i64 (q : Int) ∧ s14 = .int .i64 (i : Int) ∧ i ≤ n ∧ q ≤ 12 ∧ Hid (WallTo S W i q T) ∧ Hid (Rit w wr r G T [(g, 47, cur), (pb, 47, plC P)])) (fun _ s14 _ _ _ => n - (intOf s14).toNat)
  case atStart => exact ⟨0, 0, S, rfl, rfl, Nat.zero_le _, Nat.zero_le _, hide (WallTo.none S W), HR5⟩
  case round =>
    obtain ⟨i, q, T, rfl, rfl, hi, hq, HWT, HRX⟩ := hrel
    obtain ⟨wz, rfl⟩ : ∃ wz, wz = wr := ⟨_, rfl⟩
    by_cases him : i < m
    · have hii : decide ((i : Int) ≤ (m : Int)) = true := by simp; omega
      have hij : decide ((i : Int) < (m : Int)) = true := by simp; omega
      obtain ⟨p, hp⟩ : ∃ p, D[i]? = some p := ⟨D[i]'(by rw [HDL.out]; exact him), List.getElem?_eq_getElem _⟩
      obtain ⟨s, hs⟩ : ∃ s, L[i]? = some s := ⟨L[i]'(by rw [HLM.out]; exact him), List.getElem?_eq_getElem _⟩
      have HWI := hide (HFA.out i p s (by rw [List.getElem?_append_left (by rw [HDL.out]; exact him)]; exact hp) (by rw [List.getElem?_append_left (by rw [HLM.out]; exact him)]; exact hs))
      obtain ⟨sa, hsa, _, _⟩ := (HDA.out wz HRX.out.turn).2 h1m
      subst hsa
      have HSS := hide (fun (V : World) (T' : Bank) (hR : Rit w V r G T' [(g, 47, cur), (pb, 47, plC P)]) => show V.cell? (pa.add (i * 2)) = some (.int .i64 p.1) ∧ V.cell? ⟨(pa.add (i * 2)).block, (pa.add (i * 2)).off + 1, none⟩ = some (.int .i64 p.2) ∧ ∀ j v, (secL s)[j]? = some v → V.cell? ((sa.add (i * 64)).add j) = some v by
        obtain ⟨pa2, hpa2, _, d0, d1⟩ := (hR.places (i := 0) rfl HCT.out HDL.out).pl_at hp
        have e := HPA.out
        injection hpa2 with hpa2
        subst hpa2
        subst e
        refine ⟨d0, d1, fun j v hj => ?_⟩
        obtain ⟨sa2, e2, _, hc⟩ := (HDA.out V hR.turn).2 h1m
        injection e2 with e2
        subst e2
        rw [add_of_add]
        exact hc _ _ (flat_at hs j v hj))
      clear hp hs
      obtain ⟨E, hE⟩ : ∃ E, E = (T.writeP p s).1 := ⟨_, rfl⟩
      obtain ⟨T2, hT2⟩ : ∃ T2, T2 = (T.writeP p s).2 := ⟨_, rfl⟩
      have HWR := hide (fun (V : World) (hR : Rit w V r G T [(g, 47, cur), (pb, 47, plC P)]) => show Calls Tryz.prog 35 #[.pointer (some ⟨r, 0, none⟩), .agg (plC p).toArray, .agg (secL s).toArray] V fun e w' => e = .returned (.int .i64 (E : Int)) ∧ Rit w w' r G T2 [(g, 47, cur), (pb, 47, plC P)] by rw [hE, hT2]; exact hR.write (by have := HWT.out.low; have := HSW.out; omega) rfl rfl s)
      have HLO := hide (fun w => rlost_any E w)
      have HEE := hide hE
      have HTT := hide hT2
      clear hE hT2
      by_cases hle : lostB E = true
      · have hE0 : E ≠ 0 := by intro h; rw [h] at hle; exact absurd hle (by decide)
        have HN := hide (show WallTo S W (i + 1) (q + 1) T2 by have := HWT.out.next HWI.out (by rw [← HEE.out]; exact .inr hle); rwa [← HEE.out, if_neg hE0, ← HTT.out] at this)
        have hq1 : q + 1 ≤ 12 := by have := HN.out.few; omega
        obtain ⟨na, nb, nc⟩ := rne hE0
        rw [hle] at HLO
        clear hle hE0
        go_upto_region 13 with fail
        refine wp_region_held_drew (S := (fun V => V.cell? (pa.add (i * 2)) = some (.int .i64 p.1) ∧ V.cell? ⟨(pa.add (i * 2)).block, (pa.add (i * 2)).off + 1, none⟩ = some (.int .i64 p.2) ∧ ∀ j v, (secL s)[j]? = some v → V.cell? ((sa.add (i * 64)).add j) = some v)) (by kernel_rfl) ?_ (fun hHeld => ?_)
        · exact HSS.out _ _ HRX.out.drew
        refine heldTake (i := 0) (v := ?_) rfl (by kernel_rfl) (by kernel_rfl) (by kernel_rfl) (fun _ _ _ h => h) (Or.inl ⟨by rfl, ?_⟩) (by assumption) ?_
        rotate_left
        · intro w hSw; (try dsimp only at hSw); go_simp <;> (with_reducible rfl)
        try simp only [Act.put, List.setIfInBounds_toArray, List.set_cons_zero, List.set_cons_succ]
        refine heldTake (i := 1) (v := ?_) rfl (by kernel_rfl) (by kernel_rfl) (by kernel_rfl) (fun _ _ _ h => h) (Or.inl ⟨by rfl, ?_⟩) (by assumption) ?_
        rotate_left
        · intro w hSw; (try dsimp only at hSw); go_simp <;> (with_reducible rfl)
        try simp only [Act.put, List.setIfInBounds_toArray, List.set_cons_zero, List.set_cons_succ]
        refine heldTake (i := 2) (v := ?_) rfl (by kernel_rfl) (by kernel_rfl) (by kernel_rfl) (fun _ _ _ h => h) (Or.inl ⟨by rfl, ?_⟩) (by assumption) ?_
        rotate_left
        · intro w hSw; (try dsimp only at hSw); go_simp <;> (with_reducible rfl)
        try simp only [Act.put, List.setIfInBounds_toArray, List.set_cons_zero, List.set_cons_succ]
        refine heldTake (i := 3) (v := ?_) rfl (by kernel_rfl) (by kernel_rfl) (by kernel_rfl) (fun _ _ _ h => h) (Or.inl ⟨by rfl, ?_⟩) (by assumption) ?_
        rotate_left
        · intro w hSw; (try dsimp only at hSw); go_simp <;> (with_reducible rfl)
        try simp only [Act.put, List.setIfInBounds_toArray, List.set_cons_zero, List.set_cons_succ]
        refine heldTake (i := 4) (v := .agg (plC p).toArray) rfl (by kernel_rfl) (by kernel_rfl) (by kernel_rfl) (fun _ _ _ h => h) (Or.inl ⟨by rfl, fun V hV => ?_⟩) (by assumption) ?_
        · obtain ⟨e0, e1, _⟩ := hV
          go_simp
          try rfl
        try simp only [Act.put, List.setIfInBounds_toArray, List.set_cons_zero, List.set_cons_succ]
        refine heldTake (i := 5) (v := ?_) rfl (by kernel_rfl) (by kernel_rfl) (by kernel_rfl) (fun _ _ _ h => h) (Or.inl ⟨by rfl, ?_⟩) (by assumption) ?_
        rotate_left
        · intro w hSw; (try dsimp only at hSw); go_simp <;> (with_reducible rfl)
        try simp only [Act.put, List.setIfInBounds_toArray, List.set_cons_zero, List.set_cons_succ]
        refine heldTake (i := 6) (v := ?_) rfl (by kernel_rfl) (by kernel_rfl) (by kernel_rfl) (fun _ _ _ h => h) (Or.inl ⟨by rfl, ?_⟩) (by assumption) ?_
        rotate_left
        · intro w hSw; (try dsimp only at hSw); go_simp <;> (with_reducible rfl)
        try simp only [Act.put, List.setIfInBounds_toArray, List.set_cons_zero, List.set_cons_succ]
        refine heldTake (i := 7) (v := ?_) rfl (by kernel_rfl) (by kernel_rfl) (by kernel_rfl) (fun _ _ _ h => h) (Or.inl ⟨by rfl, ?_⟩) (by assumption) ?_
        rotate_left
        · intro w hSw; (try dsimp only at hSw); go_simp <;> (with_reducible rfl)
        try simp only [Act.put, List.setIfInBounds_toArray, List.set_cons_zero, List.set_cons_succ]
        refine heldTake (i := 8) (v := .agg (secL s).toArray) rfl (by kernel_rfl) (by kernel_rfl) (by kernel_rfl) (fun _ _ _ h => h) (Or.inl ⟨by rfl, fun V hV => load_at_run 43 _ rfl (sa.add (i * 64)) rfl (secL s) _ hV.2.2 Tryz.underlying43 rfl (msec_size _)⟩) (by assumption) ?_
        try simp only [Act.put, List.setIfInBounds_toArray, List.set_cons_zero, List.set_cons_succ]
        refine wpAnyH_ready (rs := [9]) (by kernel_rfl) (by simp) ?_
        refine heldCons (i := 9) rfl (fun Kq hKq => ?_) AllReadyH.nil
        go_simp
        go_at_call 35
        refine (HWR.out _ HRX.out.drew).mono ?_
        rintro _ x3 ⟨rfl, hR3⟩
        have HR3 := hide hR3
        clear hR3
        first | (refine hKq.out _ _ (HSS.out _ _ HR3.out) (fun hHeld => ?_)) | (go_wp2_with fail; refine hKq.out _ _ (HSS.out _ _ HR3.out) (fun hHeld => ?_))
        clear hKq Kq
        try simp only [Act.put, List.setIfInBounds_toArray, List.set_cons_zero, List.set_cons_succ]
        refine heldTake (i := 10) (v := ?_) rfl (by kernel_rfl) (by kernel_rfl) (by kernel_rfl) (fun _ _ _ h => h) (Or.inl ⟨by rfl, ?_⟩) (by assumption) ?_
        rotate_left
        · intro w hSw; (try dsimp only at hSw); go_simp <;> (with_reducible rfl)
        try simp only [Act.put, List.setIfInBounds_toArray, List.set_cons_zero, List.set_cons_succ]
        refine wpAnyH_done (by kernel_rfl) ?_ _
        clear hHeld
        go_wp2_with (first
          | (go_at_call 66; refine (HLO.out _).mono ?_; rintro _ _ ⟨rfl, rfl⟩))
        go_roundw
        case rel => exact ⟨i + 1, q + 1, T2, by simp, by simp, by omega, hq1, HN, HR3⟩
        case measure => simp [intOf]; omega
      · rw [Bool.not_eq_true] at hle
        rw [hle] at HLO
        by_cases hE0 : E = 0
        · have HN := hide (show WallTo S W (i + 1) q T2 by have := HWT.out.next HWI.out (by rw [← HEE.out]; exact .inl hE0); rwa [← HEE.out, if_pos hE0, Nat.add_zero, ← HTT.out] at this)
          subst hE0
          clear hle
          go_upto_region 13 with fail
          refine wp_region_held_drew (S := (fun V => V.cell? (pa.add (i * 2)) = some (.int .i64 p.1) ∧ V.cell? ⟨(pa.add (i * 2)).block, (pa.add (i * 2)).off + 1, none⟩ = some (.int .i64 p.2) ∧ ∀ j v, (secL s)[j]? = some v → V.cell? ((sa.add (i * 64)).add j) = some v)) (by kernel_rfl) ?_ (fun hHeld => ?_)
          · exact HSS.out _ _ HRX.out.drew
          refine heldTake (i := 0) (v := ?_) rfl (by kernel_rfl) (by kernel_rfl) (by kernel_rfl) (fun _ _ _ h => h) (Or.inl ⟨by rfl, ?_⟩) (by assumption) ?_
          rotate_left
          · intro w hSw; (try dsimp only at hSw); go_simp <;> (with_reducible rfl)
          try simp only [Act.put, List.setIfInBounds_toArray, List.set_cons_zero, List.set_cons_succ]
          refine heldTake (i := 1) (v := ?_) rfl (by kernel_rfl) (by kernel_rfl) (by kernel_rfl) (fun _ _ _ h => h) (Or.inl ⟨by rfl, ?_⟩) (by assumption) ?_
          rotate_left
          · intro w hSw; (try dsimp only at hSw); go_simp <;> (with_reducible rfl)
          try simp only [Act.put, List.setIfInBounds_toArray, List.set_cons_zero, List.set_cons_succ]
          refine heldTake (i := 2) (v := ?_) rfl (by kernel_rfl) (by kernel_rfl) (by kernel_rfl) (fun _ _ _ h => h) (Or.inl ⟨by rfl, ?_⟩) (by assumption) ?_
          rotate_left
          · intro w hSw; (try dsimp only at hSw); go_simp <;> (with_reducible rfl)
          try simp only [Act.put, List.setIfInBounds_toArray, List.set_cons_zero, List.set_cons_succ]
          refine heldTake (i := 3) (v := ?_) rfl (by kernel_rfl) (by kernel_rfl) (by kernel_rfl) (fun _ _ _ h => h) (Or.inl ⟨by rfl, ?_⟩) (by assumption) ?_
          rotate_left
          · intro w hSw; (try dsimp only at hSw); go_simp <;> (with_reducible rfl)
          try simp only [Act.put, List.setIfInBounds_toArray, List.set_cons_zero, List.set_cons_succ]
          refine heldTake (i := 4) (v := .agg (plC p).toArray) rfl (by kernel_rfl) (by kernel_rfl) (by kernel_rfl) (fun _ _ _ h => h) (Or.inl ⟨by rfl, fun V hV => ?_⟩) (by assumption) ?_
          · obtain ⟨e0, e1, _⟩ := hV
            go_simp
            try rfl
          try simp only [Act.put, List.setIfInBounds_toArray, List.set_cons_zero, List.set_cons_succ]
          refine heldTake (i := 5) (v := ?_) rfl (by kernel_rfl) (by kernel_rfl) (by kernel_rfl) (fun _ _ _ h => h) (Or.inl ⟨by rfl, ?_⟩) (by assumption) ?_
          rotate_left
          · intro w hSw; (try dsimp only at hSw); go_simp <;> (with_reducible rfl)
          try simp only [Act.put, List.setIfInBounds_toArray, List.set_cons_zero, List.set_cons_succ]
          refine heldTake (i := 6) (v := ?_) rfl (by kernel_rfl) (by kernel_rfl) (by kernel_rfl) (fun _ _ _ h => h) (Or.inl ⟨by rfl, ?_⟩) (by assumption) ?_
          rotate_left
          · intro w hSw; (try dsimp only at hSw); go_simp <;> (with_reducible rfl)
          try simp only [Act.put, List.setIfInBounds_toArray, List.set_cons_zero, List.set_cons_succ]
          refine heldTake (i := 7) (v := ?_) rfl (by kernel_rfl) (by kernel_rfl) (by kernel_rfl) (fun _ _ _ h => h) (Or.inl ⟨by rfl, ?_⟩) (by assumption) ?_
          rotate_left
          · intro w hSw; (try dsimp only at hSw); go_simp <;> (with_reducible rfl)
          try simp only [Act.put, List.setIfInBounds_toArray, List.set_cons_zero, List.set_cons_succ]
          refine heldTake (i := 8) (v := .agg (secL s).toArray) rfl (by kernel_rfl) (by kernel_rfl) (by kernel_rfl) (fun _ _ _ h => h) (Or.inl ⟨by rfl, fun V hV => load_at_run 43 _ rfl (sa.add (i * 64)) rfl (secL s) _ hV.2.2 Tryz.underlying43 rfl (msec_size _)⟩) (by assumption) ?_
          try simp only [Act.put, List.setIfInBounds_toArray, List.set_cons_zero, List.set_cons_succ]
          refine wpAnyH_ready (rs := [9]) (by kernel_rfl) (by simp) ?_
          refine heldCons (i := 9) rfl (fun Kq hKq => ?_) AllReadyH.nil
          go_simp
          go_at_call 35
          refine (HWR.out _ HRX.out.drew).mono ?_
          rintro _ x3 ⟨rfl, hR3⟩
          have HR3 := hide hR3
          clear hR3
          first | (refine hKq.out _ _ (HSS.out _ _ HR3.out) (fun hHeld => ?_)) | (go_wp2_with fail; refine hKq.out _ _ (HSS.out _ _ HR3.out) (fun hHeld => ?_))
          clear hKq Kq
          try simp only [Act.put, List.setIfInBounds_toArray, List.set_cons_zero, List.set_cons_succ]
          refine heldTake (i := 10) (v := ?_) rfl (by kernel_rfl) (by kernel_rfl) (by kernel_rfl) (fun _ _ _ h => h) (Or.inl ⟨by rfl, ?_⟩) (by assumption) ?_
          rotate_left
          · intro w hSw; (try dsimp only at hSw); go_simp <;> (with_reducible rfl)
          try simp only [Act.put, List.setIfInBounds_toArray, List.set_cons_zero, List.set_cons_succ]
          refine wpAnyH_done (by kernel_rfl) ?_ _
          clear hHeld
          go_wp2_with fail
          go_roundw
          case rel => exact ⟨i + 1, q, T2, by simp, by simp, by omega, hq, HN, HR3⟩
          case measure => simp [intOf]; omega
        · have HN := hide (show S.wallP W = (E, q, T2) by have := HWT.out.ends HWI.out (by rw [← HEE.out]; rintro (h | h); exact hE0 h; rw [hle] at h; cases h); rwa [← HEE.out, ← HTT.out] at this)
          have HRE := hide (show S.sfull X (t : Int) L = (E, T2) by have := full_end HSF.out HN.out; rwa [if_neg hE0] at this)
          obtain ⟨na, nb, nc⟩ := rne hE0
          clear hE0 hle
          go_upto_region 13 with fail
          refine wp_region_held_drew (S := (fun V => V.cell? (pa.add (i * 2)) = some (.int .i64 p.1) ∧ V.cell? ⟨(pa.add (i * 2)).block, (pa.add (i * 2)).off + 1, none⟩ = some (.int .i64 p.2) ∧ ∀ j v, (secL s)[j]? = some v → V.cell? ((sa.add (i * 64)).add j) = some v)) (by kernel_rfl) ?_ (fun hHeld => ?_)
          · exact HSS.out _ _ HRX.out.drew
          refine heldTake (i := 0) (v := ?_) rfl (by kernel_rfl) (by kernel_rfl) (by kernel_rfl) (fun _ _ _ h => h) (Or.inl ⟨by rfl, ?_⟩) (by assumption) ?_
          rotate_left
          · intro w hSw; (try dsimp only at hSw); go_simp <;> (with_reducible rfl)
          try simp only [Act.put, List.setIfInBounds_toArray, List.set_cons_zero, List.set_cons_succ]
          refine heldTake (i := 1) (v := ?_) rfl (by kernel_rfl) (by kernel_rfl) (by kernel_rfl) (fun _ _ _ h => h) (Or.inl ⟨by rfl, ?_⟩) (by assumption) ?_
          rotate_left
          · intro w hSw; (try dsimp only at hSw); go_simp <;> (with_reducible rfl)
          try simp only [Act.put, List.setIfInBounds_toArray, List.set_cons_zero, List.set_cons_succ]
          refine heldTake (i := 2) (v := ?_) rfl (by kernel_rfl) (by kernel_rfl) (by kernel_rfl) (fun _ _ _ h => h) (Or.inl ⟨by rfl, ?_⟩) (by assumption) ?_
          rotate_left
          · intro w hSw; (try dsimp only at hSw); go_simp <;> (with_reducible rfl)
          try simp only [Act.put, List.setIfInBounds_toArray, List.set_cons_zero, List.set_cons_succ]
          refine heldTake (i := 3) (v := ?_) rfl (by kernel_rfl) (by kernel_rfl) (by kernel_rfl) (fun _ _ _ h => h) (Or.inl ⟨by rfl, ?_⟩) (by assumption) ?_
          rotate_left
          · intro w hSw; (try dsimp only at hSw); go_simp <;> (with_reducible rfl)
          try simp only [Act.put, List.setIfInBounds_toArray, List.set_cons_zero, List.set_cons_succ]
          refine heldTake (i := 4) (v := .agg (plC p).toArray) rfl (by kernel_rfl) (by kernel_rfl) (by kernel_rfl) (fun _ _ _ h => h) (Or.inl ⟨by rfl, fun V hV => ?_⟩) (by assumption) ?_
          · obtain ⟨e0, e1, _⟩ := hV
            go_simp
            try rfl
          try simp only [Act.put, List.setIfInBounds_toArray, List.set_cons_zero, List.set_cons_succ]
          refine heldTake (i := 5) (v := ?_) rfl (by kernel_rfl) (by kernel_rfl) (by kernel_rfl) (fun _ _ _ h => h) (Or.inl ⟨by rfl, ?_⟩) (by assumption) ?_
          rotate_left
          · intro w hSw; (try dsimp only at hSw); go_simp <;> (with_reducible rfl)
          try simp only [Act.put, List.setIfInBounds_toArray, List.set_cons_zero, List.set_cons_succ]
          refine heldTake (i := 6) (v := ?_) rfl (by kernel_rfl) (by kernel_rfl) (by kernel_rfl) (fun _ _ _ h => h) (Or.inl ⟨by rfl, ?_⟩) (by assumption) ?_
          rotate_left
          · intro w hSw; (try dsimp only at hSw); go_simp <;> (with_reducible rfl)
          try simp only [Act.put, List.setIfInBounds_toArray, List.set_cons_zero, List.set_cons_succ]
          refine heldTake (i := 7) (v := ?_) rfl (by kernel_rfl) (by kernel_rfl) (by kernel_rfl) (fun _ _ _ h => h) (Or.inl ⟨by rfl, ?_⟩) (by assumption) ?_
          rotate_left
          · intro w hSw; (try dsimp only at hSw); go_simp <;> (with_reducible rfl)
          try simp only [Act.put, List.setIfInBounds_toArray, List.set_cons_zero, List.set_cons_succ]
          refine heldTake (i := 8) (v := .agg (secL s).toArray) rfl (by kernel_rfl) (by kernel_rfl) (by kernel_rfl) (fun _ _ _ h => h) (Or.inl ⟨by rfl, fun V hV => load_at_run 43 _ rfl (sa.add (i * 64)) rfl (secL s) _ hV.2.2 Tryz.underlying43 rfl (msec_size _)⟩) (by assumption) ?_
          try simp only [Act.put, List.setIfInBounds_toArray, List.set_cons_zero, List.set_cons_succ]
          refine wpAnyH_ready (rs := [9]) (by kernel_rfl) (by simp) ?_
          refine heldCons (i := 9) rfl (fun Kq hKq => ?_) AllReadyH.nil
          go_simp
          go_at_call 35
          refine (HWR.out _ HRX.out.drew).mono ?_
          rintro _ x3 ⟨rfl, hR3⟩
          have HR3 := hide hR3
          clear hR3
          first | (refine hKq.out _ _ (HSS.out _ _ HR3.out) (fun hHeld => ?_)) | (go_wp2_with fail; refine hKq.out _ _ (HSS.out _ _ HR3.out) (fun hHeld => ?_))
          clear hKq Kq
          try simp only [Act.put, List.setIfInBounds_toArray, List.set_cons_zero, List.set_cons_succ]
          refine heldTake (i := 10) (v := ?_) rfl (by kernel_rfl) (by kernel_rfl) (by kernel_rfl) (fun _ _ _ h => h) (Or.inl ⟨by rfl, ?_⟩) (by assumption) ?_
          rotate_left
          · intro w hSw; (try dsimp only at hSw); go_simp <;> (with_reducible rfl)
          try simp only [Act.put, List.setIfInBounds_toArray, List.set_cons_zero, List.set_cons_succ]
          refine wpAnyH_done (by kernel_rfl) ?_ _
          clear hHeld
          go_wp2_with (first
            | (go_at_call 66; refine (HLO.out _).mono ?_; rintro _ _ ⟨rfl, rfl⟩))
          go_ret
          exact ⟨by rw [HRE.out]; rfl, by rw [HRE.out]; exact HR3.out.fin HFIN.out⟩

    · by_cases hie : i = m
      · subst hie
        have hii : decide ((i : Int) ≤ (i : Int)) = true := by simp
        have hij : decide ((i : Int) < (i : Int)) = false := by simp
        have HWI := hide (HFA.out i P (parS L) (by rw [List.getElem?_append_right (by rw [HDL.out]; exact Nat.le_refl _), HDL.out, Nat.sub_self]; rfl) (by rw [List.getElem?_append_right (by rw [HLM.out]; exact Nat.le_refl _), HLM.out, Nat.sub_self]; rfl))
        obtain ⟨s, hsd⟩ : ∃ s, s = parS L := ⟨_, rfl⟩
        rw [← hsd] at HWI
        have HBU := hide (fun (V : World) (hT : Turn G w V) => show Calls Tryz.prog 65 #[.slice A2 i c2] V fun e w' => e = .returned (.agg (secL s).toArray) ∧ Below V.heap.size V w' by
          rw [hsd]
          exact rbuild_any V A2 i c2 L ((HDA.out V hT).more hT.size) HLM.out (by omega))
        have HSS := hide (fun (V : World) (T' : Bank) (hR : Rit w V r G T' [(g, 47, cur), (pb, 47, plC P)]) => show V.cell? ⟨pb, 0, none⟩ = some (.int .i64 P.1) ∧ V.cell? ⟨pb, 1, none⟩ = some (.int .i64 P.2) from
          have hb : Blk V pb 47 (plC P).toArray := (hR.own 1 _ rfl).2
          ⟨hb.cell 0, hb.cell 1⟩)
        clear hsd
        obtain ⟨E, hE⟩ : ∃ E, E = (T.writeP P s).1 := ⟨_, rfl⟩
        obtain ⟨T2, hT2⟩ : ∃ T2, T2 = (T.writeP P s).2 := ⟨_, rfl⟩
        have HWR := hide (fun (V : World) (hR : Rit w V r G T [(g, 47, cur), (pb, 47, plC P)]) => show Calls Tryz.prog 35 #[.pointer (some ⟨r, 0, none⟩), .agg (plC P).toArray, .agg (secL s).toArray] V fun e w' => e = .returned (.int .i64 (E : Int)) ∧ Rit w w' r G T2 [(g, 47, cur), (pb, 47, plC P)] by rw [hE, hT2]; exact hR.write (by have := HWT.out.low; have := HSW.out; omega) rfl rfl s)
        have HLO := hide (fun w => rlost_any E w)
        have HEE := hide hE
        have HTT := hide hT2
        clear hE hT2
        by_cases hle : lostB E = true
        · have hE0 : E ≠ 0 := by intro h; rw [h] at hle; exact absurd hle (by decide)
          have HN := hide (show WallTo S W (i + 1) (q + 1) T2 by have := HWT.out.next HWI.out (by rw [← HEE.out]; exact .inr hle); rwa [← HEE.out, if_neg hE0, ← HTT.out] at this)
          have hq1 : q + 1 ≤ 12 := by have := HN.out.few; omega
          obtain ⟨na, nb, nc⟩ := rne hE0
          rw [hle] at HLO
          clear hle hE0
          go_upto_region 14 with fail
          refine wp_region_held_drew (S := (fun V => V.cell? ⟨pb, 0, none⟩ = some (.int .i64 P.1) ∧ V.cell? ⟨pb, 1, none⟩ = some (.int .i64 P.2))) (by kernel_rfl) ?_ (fun hHeld => ?_)
          · exact HSS.out _ _ HRX.out.drew
          refine heldTake (i := 0) (v := ?_) rfl (by kernel_rfl) (by kernel_rfl) (by kernel_rfl) (fun _ _ _ h => h) (Or.inl ⟨by rfl, ?_⟩) (by assumption) ?_
          rotate_left
          · intro w hSw; (try dsimp only at hSw); go_simp <;> (with_reducible rfl)
          try simp only [Act.put, List.setIfInBounds_toArray, List.set_cons_zero, List.set_cons_succ]
          refine heldTake (i := 1) (v := .agg (plC P).toArray) rfl (by kernel_rfl) (by kernel_rfl) (by kernel_rfl) (fun _ _ _ h => h) (Or.inl ⟨by rfl, fun V hV => ?_⟩) (by assumption) ?_
          · obtain ⟨e0, e1⟩ := hV
            go_simp
            try rfl
          try simp only [Act.put, List.setIfInBounds_toArray, List.set_cons_zero, List.set_cons_succ]
          refine heldTake (i := 2) (v := ?_) rfl (by kernel_rfl) (by kernel_rfl) (by kernel_rfl) (fun _ _ _ h => h) (Or.inl ⟨by rfl, ?_⟩) (by assumption) ?_
          rotate_left
          · intro w hSw; (try dsimp only at hSw); go_simp <;> (with_reducible rfl)
          try simp only [Act.put, List.setIfInBounds_toArray, List.set_cons_zero, List.set_cons_succ]
          refine wpAnyH_ready (rs := [3]) (by kernel_rfl) (by simp) ?_
          refine heldCons (i := 3) rfl (fun Kq hKq => ?_) AllReadyH.nil
          go_simp
          go_at_call 65
          refine (HBU.out _ HRX.out.drew.turn).mono ?_
          rintro _ x2 ⟨rfl, hlq⟩
          have HR2 := hide (HRX.out.drew.later hlq)
          clear hlq
          first | (refine hKq.out _ _ (HSS.out _ _ HR2.out) (fun hHeld => ?_)) | (go_wp2_with fail; refine hKq.out _ _ (HSS.out _ _ HR2.out) (fun hHeld => ?_))
          clear hKq Kq
          try simp only [Act.put, List.setIfInBounds_toArray, List.set_cons_zero, List.set_cons_succ]
          refine wpAnyH_ready (rs := [4]) (by kernel_rfl) (by simp) ?_
          refine heldCons (i := 4) rfl (fun Kq hKq => ?_) AllReadyH.nil
          go_simp
          go_at_call 35
          refine (HWR.out _ HR2.out).mono ?_
          rintro _ x3 ⟨rfl, hR3⟩
          have HR3 := hide hR3
          clear hR3
          first | (refine hKq.out _ _ (HSS.out _ _ HR3.out) (fun hHeld => ?_)) | (go_wp2_with fail; refine hKq.out _ _ (HSS.out _ _ HR3.out) (fun hHeld => ?_))
          clear hKq Kq
          try simp only [Act.put, List.setIfInBounds_toArray, List.set_cons_zero, List.set_cons_succ]
          refine heldTake (i := 5) (v := ?_) rfl (by kernel_rfl) (by kernel_rfl) (by kernel_rfl) (fun _ _ _ h => h) (Or.inl ⟨by rfl, ?_⟩) (by assumption) ?_
          rotate_left
          · intro w hSw; (try dsimp only at hSw); go_simp <;> (with_reducible rfl)
          try simp only [Act.put, List.setIfInBounds_toArray, List.set_cons_zero, List.set_cons_succ]
          refine wpAnyH_done (by kernel_rfl) ?_ _
          clear hHeld
          go_wp2_with (first
            | (go_at_call 66; refine (HLO.out _).mono ?_; rintro _ _ ⟨rfl, rfl⟩))
          go_roundw
          case rel => exact ⟨i + 1, q + 1, T2, by simp, by simp, by omega, hq1, HN, HR3⟩
          case measure => simp [intOf]; omega
        · rw [Bool.not_eq_true] at hle
          rw [hle] at HLO
          by_cases hE0 : E = 0
          · have HN := hide (show WallTo S W (i + 1) q T2 by have := HWT.out.next HWI.out (by rw [← HEE.out]; exact .inl hE0); rwa [← HEE.out, if_pos hE0, Nat.add_zero, ← HTT.out] at this)
            subst hE0
            clear hle
            go_upto_region 14 with fail
            refine wp_region_held_drew (S := (fun V => V.cell? ⟨pb, 0, none⟩ = some (.int .i64 P.1) ∧ V.cell? ⟨pb, 1, none⟩ = some (.int .i64 P.2))) (by kernel_rfl) ?_ (fun hHeld => ?_)
            · exact HSS.out _ _ HRX.out.drew
            refine heldTake (i := 0) (v := ?_) rfl (by kernel_rfl) (by kernel_rfl) (by kernel_rfl) (fun _ _ _ h => h) (Or.inl ⟨by rfl, ?_⟩) (by assumption) ?_
            rotate_left
            · intro w hSw; (try dsimp only at hSw); go_simp <;> (with_reducible rfl)
            try simp only [Act.put, List.setIfInBounds_toArray, List.set_cons_zero, List.set_cons_succ]
            refine heldTake (i := 1) (v := .agg (plC P).toArray) rfl (by kernel_rfl) (by kernel_rfl) (by kernel_rfl) (fun _ _ _ h => h) (Or.inl ⟨by rfl, fun V hV => ?_⟩) (by assumption) ?_
            · obtain ⟨e0, e1⟩ := hV
              go_simp
              try rfl
            try simp only [Act.put, List.setIfInBounds_toArray, List.set_cons_zero, List.set_cons_succ]
            refine heldTake (i := 2) (v := ?_) rfl (by kernel_rfl) (by kernel_rfl) (by kernel_rfl) (fun _ _ _ h => h) (Or.inl ⟨by rfl, ?_⟩) (by assumption) ?_
            rotate_left
            · intro w hSw; (try dsimp only at hSw); go_simp <;> (with_reducible rfl)
            try simp only [Act.put, List.setIfInBounds_toArray, List.set_cons_zero, List.set_cons_succ]
            refine wpAnyH_ready (rs := [3]) (by kernel_rfl) (by simp) ?_
            refine heldCons (i := 3) rfl (fun Kq hKq => ?_) AllReadyH.nil
            go_simp
            go_at_call 65
            refine (HBU.out _ HRX.out.drew.turn).mono ?_
            rintro _ x2 ⟨rfl, hlq⟩
            have HR2 := hide (HRX.out.drew.later hlq)
            clear hlq
            first | (refine hKq.out _ _ (HSS.out _ _ HR2.out) (fun hHeld => ?_)) | (go_wp2_with fail; refine hKq.out _ _ (HSS.out _ _ HR2.out) (fun hHeld => ?_))
            clear hKq Kq
            try simp only [Act.put, List.setIfInBounds_toArray, List.set_cons_zero, List.set_cons_succ]
            refine wpAnyH_ready (rs := [4]) (by kernel_rfl) (by simp) ?_
            refine heldCons (i := 4) rfl (fun Kq hKq => ?_) AllReadyH.nil
            go_simp
            go_at_call 35
            refine (HWR.out _ HR2.out).mono ?_
            rintro _ x3 ⟨rfl, hR3⟩
            have HR3 := hide hR3
            clear hR3
            first | (refine hKq.out _ _ (HSS.out _ _ HR3.out) (fun hHeld => ?_)) | (go_wp2_with fail; refine hKq.out _ _ (HSS.out _ _ HR3.out) (fun hHeld => ?_))
            clear hKq Kq
            try simp only [Act.put, List.setIfInBounds_toArray, List.set_cons_zero, List.set_cons_succ]
            refine heldTake (i := 5) (v := ?_) rfl (by kernel_rfl) (by kernel_rfl) (by kernel_rfl) (fun _ _ _ h => h) (Or.inl ⟨by rfl, ?_⟩) (by assumption) ?_
            rotate_left
            · intro w hSw; (try dsimp only at hSw); go_simp <;> (with_reducible rfl)
            try simp only [Act.put, List.setIfInBounds_toArray, List.set_cons_zero, List.set_cons_succ]
            refine wpAnyH_done (by kernel_rfl) ?_ _
            clear hHeld
            go_wp2_with fail
            go_roundw
            case rel => exact ⟨i + 1, q, T2, by simp, by simp, by omega, hq, HN, HR3⟩
            case measure => simp [intOf]; omega
          · have HN := hide (show S.wallP W = (E, q, T2) by have := HWT.out.ends HWI.out (by rw [← HEE.out]; rintro (h | h); exact hE0 h; rw [hle] at h; cases h); rwa [← HEE.out, ← HTT.out] at this)
            have HRE := hide (show S.sfull X (t : Int) L = (E, T2) by have := full_end HSF.out HN.out; rwa [if_neg hE0] at this)
            obtain ⟨na, nb, nc⟩ := rne hE0
            clear hE0 hle
            go_upto_region 14 with fail
            refine wp_region_held_drew (S := (fun V => V.cell? ⟨pb, 0, none⟩ = some (.int .i64 P.1) ∧ V.cell? ⟨pb, 1, none⟩ = some (.int .i64 P.2))) (by kernel_rfl) ?_ (fun hHeld => ?_)
            · exact HSS.out _ _ HRX.out.drew
            refine heldTake (i := 0) (v := ?_) rfl (by kernel_rfl) (by kernel_rfl) (by kernel_rfl) (fun _ _ _ h => h) (Or.inl ⟨by rfl, ?_⟩) (by assumption) ?_
            rotate_left
            · intro w hSw; (try dsimp only at hSw); go_simp <;> (with_reducible rfl)
            try simp only [Act.put, List.setIfInBounds_toArray, List.set_cons_zero, List.set_cons_succ]
            refine heldTake (i := 1) (v := .agg (plC P).toArray) rfl (by kernel_rfl) (by kernel_rfl) (by kernel_rfl) (fun _ _ _ h => h) (Or.inl ⟨by rfl, fun V hV => ?_⟩) (by assumption) ?_
            · obtain ⟨e0, e1⟩ := hV
              go_simp
              try rfl
            try simp only [Act.put, List.setIfInBounds_toArray, List.set_cons_zero, List.set_cons_succ]
            refine heldTake (i := 2) (v := ?_) rfl (by kernel_rfl) (by kernel_rfl) (by kernel_rfl) (fun _ _ _ h => h) (Or.inl ⟨by rfl, ?_⟩) (by assumption) ?_
            rotate_left
            · intro w hSw; (try dsimp only at hSw); go_simp <;> (with_reducible rfl)
            try simp only [Act.put, List.setIfInBounds_toArray, List.set_cons_zero, List.set_cons_succ]
            refine wpAnyH_ready (rs := [3]) (by kernel_rfl) (by simp) ?_
            refine heldCons (i := 3) rfl (fun Kq hKq => ?_) AllReadyH.nil
            go_simp
            go_at_call 65
            refine (HBU.out _ HRX.out.drew.turn).mono ?_
            rintro _ x2 ⟨rfl, hlq⟩
            have HR2 := hide (HRX.out.drew.later hlq)
            clear hlq
            first | (refine hKq.out _ _ (HSS.out _ _ HR2.out) (fun hHeld => ?_)) | (go_wp2_with fail; refine hKq.out _ _ (HSS.out _ _ HR2.out) (fun hHeld => ?_))
            clear hKq Kq
            try simp only [Act.put, List.setIfInBounds_toArray, List.set_cons_zero, List.set_cons_succ]
            refine wpAnyH_ready (rs := [4]) (by kernel_rfl) (by simp) ?_
            refine heldCons (i := 4) rfl (fun Kq hKq => ?_) AllReadyH.nil
            go_simp
            go_at_call 35
            refine (HWR.out _ HR2.out).mono ?_
            rintro _ x3 ⟨rfl, hR3⟩
            have HR3 := hide hR3
            clear hR3
            first | (refine hKq.out _ _ (HSS.out _ _ HR3.out) (fun hHeld => ?_)) | (go_wp2_with fail; refine hKq.out _ _ (HSS.out _ _ HR3.out) (fun hHeld => ?_))
            clear hKq Kq
            try simp only [Act.put, List.setIfInBounds_toArray, List.set_cons_zero, List.set_cons_succ]
            refine heldTake (i := 5) (v := ?_) rfl (by kernel_rfl) (by kernel_rfl) (by kernel_rfl) (fun _ _ _ h => h) (Or.inl ⟨by rfl, ?_⟩) (by assumption) ?_
            rotate_left
            · intro w hSw; (try dsimp only at hSw); go_simp <;> (with_reducible rfl)
            try simp only [Act.put, List.setIfInBounds_toArray, List.set_cons_zero, List.set_cons_succ]
            refine wpAnyH_done (by kernel_rfl) ?_ _
            clear hHeld
            go_wp2_with (first
              | (go_at_call 66; refine (HLO.out _).mono ?_; rintro _ _ ⟨rfl, rfl⟩))
            go_ret
            exact ⟨by rw [HRE.out]; rfl, by rw [HRE.out]; exact HR3.out.fin HFIN.out⟩

      · obtain rfl : i = n := by omega
        have HN := hide (HWT.out.whole (Nat.le_of_eq HFL.out))
        have hii : decide ((i : Int) ≤ (m : Int)) = false := by simp; omega
        by_cases hq1 : 1 < q
        · have HRE := hide (show S.sfull X (t : Int) L = (5, T) by have := full_end HSF.out HN.out; rwa [if_pos rfl, if_pos hq1] at this)
          have hqj : decide (1 < (q : Int)) = true := by simp; omega
          go_wp2_with fail
          go_ret
          exact ⟨by rw [HRE.out]; rfl, by rw [HRE.out]; exact HRX.out.fin HFIN.out⟩
        · have HRE := hide (show S.sfull X (t : Int) L = (0, T) by have := full_end HSF.out HN.out; rwa [if_pos rfl, if_neg hq1] at this)
          have hqj : decide (1 < (q : Int)) = false := by simp; omega
          go_wp2_with fail
          go_ret
          exact ⟨by rw [HRE.out]; rfl, by rw [HRE.out]; exact HRX.out.fin HFIN.out⟩
theorem rsfull_res (hlen : X.length = n) (hLm : L.length = m) {t : Int} {e : Nat} (he : fullE n m t = e) (h0 : e ≠ 0) : S.sfull X t L = (e, S) := by
  unfold Bank.sfull
  rw [hlen, hLm, he, if_neg h0]
set_option maxRecDepth 100000 in
theorem rsfull_bad (h : RefOn w r G S) (hn : n ≤ 12) (hm : m ≤ 1000) (hlen : X.length = n) (hLm : L.length = m) (t : Int) (hb : n < 2 ∨ m ≠ n - 1) :
    Calls Tryz.prog 26 #[.pointer (some ⟨r, 0, none⟩), .slice A n c, .int .i64 t, .slice A2 m c2] w fun e w' => e = .returned (.int .i64 ((S.sfull X t L).1 : Int)) ∧ RefOn w' r (More G w w') (S.sfull X t L).2 ∧ Turn G w w' := by
  have HRE := hide (rsfull_res (S := S) hlen hLm (t := t) (e := 1) (by unfold fullE; rw [if_pos hb]) (by decide))
  have HF := hide ((Rit.begin h).fin h.1)
  clear h hlen hLm
  go_enter Tryz.func26, Tryz.ntmps26
  by_cases h2 : n < 2
  · have hd2 : decide ((n : Int) < 2) = true := by simp; omega
    go_wp2_with fail
    go_ret
    exact ⟨by rw [HRE.out]; rfl, by rw [HRE.out]; exact HF.out⟩
  · have hd2 : decide ((n : Int) < 2) = false := by simp; omega
    have hd3 : ((m : Int) != (n : Int) - 1) = true := by simp; omega
    clear hb
    go_wp2_with fail
    go_ret
    exact ⟨by rw [HRE.out]; rfl, by rw [HRE.out]; exact HF.out⟩
set_option maxRecDepth 100000 in
theorem rsfull_err (h : RefOn w r G S) (hn : n ≤ 12) (h2 : 2 ≤ n) (hmn : m + 1 = n) (hlen : X.length = n) (hLm : L.length = m) (t : Int) (he : strE n t ≠ 0) :
    Calls Tryz.prog 26 #[.pointer (some ⟨r, 0, none⟩), .slice A n c, .int .i64 t, .slice A2 m c2] w fun e w' => e = .returned (.int .i64 ((S.sfull X t L).1 : Int)) ∧ RefOn w' r (More G w w') (S.sfull X t L).2 ∧ Turn G w w' := by
  have hf : fullE n m t = strE n t := by unfold fullE strE; rw [if_neg (c := n < 2 ∨ m ≠ n - 1) (by omega), if_neg (c := n < 2) (by omega)]
  have HRE := hide (rsfull_res (S := S) hlen hLm hf he)
  have HF := hide ((Rit.begin h).fin h.1)
  have HD := hide (refData_no (A := A) (c := c) t (by omega) he w)
  obtain ⟨E, hE⟩ : ∃ E, strE n t = E := ⟨_, rfl⟩
  rw [hE] at HRE HD he
  obtain ⟨na, nb, nc⟩ := rne he
  have hd2 : decide ((n : Int) < 2) = false := by simp; omega
  have hd3 : ((m : Int) != (n : Int) - 1) = false := by simp; omega
  clear h hlen hLm hf hE he
  go_enter Tryz.func26, Tryz.ntmps26
  go_wp2_with (first
    | (go_at_call 64; refine HD.out.mono ?_; rintro _ _ ⟨rfl, rfl⟩))
  go_ret
  exact ⟨by rw [HRE.out]; rfl, by rw [HRE.out]; exact HF.out⟩
/-- The document's WriteFull. -/
theorem rsfull_any (h : RefOn w r G S) (hw : S.writes < 4611686018427387000) (hx : Rox w w [] A n c X) (t : Int) (hd : Reads w w.heap.size 64 A2 m (gD L)) (hLm : L.length = m) (hm : m ≤ 1000) (hoff : Off G A2 m) :
    Calls Tryz.prog 26 #[.pointer (some ⟨r, 0, none⟩), .slice A n c, .int .i64 t, .slice A2 m c2] w fun e w' => e = .returned (.int .i64 ((S.sfull X t L).1 : Int)) ∧ RefOn w' r (More G w w') (S.sfull X t L).2 ∧ Turn G w w' := by
  have hlen : X.length = n := reads_len hx.in_.reads
  have hn : n ≤ 12 := hx.few
  by_cases hb : n < 2 ∨ m ≠ n - 1
  · exact rsfull_bad h hn hm hlen hLm t hb
  · by_cases he : strE n t = 0
    · obtain ⟨k, rfl, hk, _⟩ := strE_at he
      exact rsfull_yes h hw hx k hk (by omega) (by omega) hd hLm hoff
    · exact rsfull_err h hn (by omega) (by omega) hlen hLm t he
/-- The document's Plug. -/
theorem rsplug_any (h : RefOn w r G S) (hx : Rox w w [] A n c X) (slot : Int) (s : Sec) :
    Calls Tryz.prog 31 #[.pointer (some ⟨r, 0, none⟩), .slice A n c, .int .i64 slot, secV s] w fun e w' => e = .returned (.tuple #[secV (S.splug X slot s).1, .int .i64 ((S.splug X slot s).2 : Int)]) ∧ Below w.heap.size w w' := by
  have hlen : X.length = n := reads_len hx.in_.reads
  by_cases hE : homeE n slot = 0
  · obtain ⟨k, rfl, hk, hn2⟩ := homeE_at hE
    exact rsplug_yes h hx k s hn2 hk
  · have hr : S.splug X slot s = (zeroSec, homeE n slot) := by unfold Bank.splug; rw [hlen, if_neg hE]
    rw [hr]
    exact rsplug_no h hx slot s hE
end
end Go.Proofs.YtmjjnbabfldbcaaGreat
namespace Go.Proofs.YtmjjnbabfldbcaaGreat
open Go.RowKit
set_option linter.unusedVariables false
section
variable {w : World} {r : Nat} {S : Bank} {G : Nat → Prop} {A : Option Addr} {n c : Nat} {X : List PlI}
set_option maxRecDepth 100000 in
set_option maxHeartbeats 8000000 in
theorem rsreb_yes (h : RefOn w r G S) (hx : Rox w w [] A n c X) (k t : Nat) (hn2 : 2 ≤ n) (hk : k < n) (ht : t < 8) :
    Calls Tryz.prog 29 #[.pointer (some ⟨r, 0, none⟩), .slice A n c, .int .i64 (k : Int), .int .i64 (t : Int)] w fun e w' => e = .returned (.tuple #[secV (if S.gatherE (strO X k t) = 0 then parS ((strO X k t).map S.readP) else zeroSec), .int .i64 (S.gatherE (strO X k t) : Int)]) ∧ Below w.heap.size w w' := by
  have hlen : X.length = n := reads_len hx.in_.reads
  have hn := hx.few
  have HGA := hide (fun (W : World) (hb : Below w.heap.size w W) (A : Option Addr) (n c : Nat) (L : List PlI) (hr : Reads W W.heap.size 2 A n (plsL L)) (hn : n ≤ 1000) => rgather_any (c := c) (h.later hb) hr hn)
  have HAT := hide (fun (W : World) (hb : Below w.heap.size w W) (i : Nat) (p : PlI) (hi : X[i]? = some p) => refAt_any (c := c) (hx.in_.reads.later hb) hi hx.small (by have := hx.few; omega) ht)
  have HBZ := hide (show Tryz.prog.built 43 [] = some (secL zeroSec).toArray from sec_none)
  have HS_w : Hid (Rox w w [] A n c X) := hide hx
  obtain ⟨M, hM⟩ : ∃ M, strO X k t = M := ⟨_, rfl⟩
  have hMT : strT X k t n = M := by rw [← hM, ← hlen, strT_all]
  have hMl : M.length = n - 1 := by rw [← hM, strO_length (by omega), hlen]
  rw [hM]
  obtain ⟨g, hg⟩ : ∃ g, S.gatherE M = g := ⟨_, rfl⟩
  rw [hg]
  have HG := hide hg
  have HMT := hide hMT
  have HML := hide hMl
  have HX := hide hlen
  have hki : (k : Int) < (n : Int) := by omega
  clear h hx hM hMT hMl hg hlen
  by_cases hg0 : g = 0
  · subst hg0
    go_enter Tryz.func29, Tryz.ntmps29
    go_wp2_with (first
      | ((with_reducible refine at_slot 8 ?_); refine wpList_alloc_blk rfl 43 rfl _ (sec_zero _) ?_; intro y1 hbq hl1 hs1; have HS_y1 : Hid (Rox w y1 [(w.heap.size, 43, secL zeroSec)] A n c X) := hide (HS_w.out.var hl1 (Nat.le_refl _) hbq); clear hbq hl1 hs1)
      | ((with_reducible refine at_slot 35 ?_); refine wpList_none2 rfl rfl ?_))
    go_loopw [10, 11] (fun s10 s11 wr => ∃ (i q : Nat) (A1 : Option Addr) (c1 : Nat), i ≤ n ∧ s11 = .int .i64 (i : Int) ∧ s10 = .slice A1 q c1 ∧ Hid ((strT X k t i).length = q) ∧ Hid (PlOwn wr y1.heap.size A1 q c1 (strT X k t i)) ∧ Hid (Below y1.heap.size y1 wr)) (fun _ s11 _ => n - (intOf s11).toNat)
    case atStart =>
      refine ⟨0, 0, _, _, Nat.zero_le _, rfl, rfl, hide (by unfold strT strM; simp), hide ?_, hide ((Below.refl _ _).alloc (Nat.le_refl _) _)⟩
      have e : strT X k t 0 = [] := by unfold strT strM; simp
      rw [e]
      exact World.ownsRow_made y1 #[] 0 (Nat.le_refl _) (Nat.zero_le _) rfl
    case round =>
      obtain ⟨i, q, A1, c1, hi, rfl, rfl, HM, HO, HL⟩ := hrel
      by_cases hin : i < n
      · have hii : (i : Int) < (n : Int) := by omega
        obtain ⟨p, hp⟩ : ∃ p, X[i]? = some p := ⟨_, List.getElem?_eq_getElem (by rw [HX.out]; exact hin)⟩
        have HT := hide (strT_succ (h := k) (t := t) hp)
        have HP := hide hp
        have hmle := strT_le X k t i
        rw [HM.out] at hmle
        clear hp
        by_cases hik : i = k
        · have hik2 : (i : Int) = (k : Int) := by omega
          have HT2 := hide (HT.out.trans (if_pos hik))
          clear HT
          go_wp2
          go_roundw
          case rel => exact ⟨i + 1, q, A1, c1, by omega, by simp; omega, rfl, hide (by rw [HT2.out]; exact HM.out), hide (by rw [HT2.out]; exact HO.out), HL⟩
          case measure => simp [intOf]; omega
        · have hik2 : ¬ (i : Int) = (k : Int) := by omega
          have HT2 := hide (HT.out.trans (if_neg hik))
          clear HT
          go_wp2_with (first
            | (go_at_call 69; refine (HAT.out _ (HS_y1.out.low.trans (HL.out.mono HS_y1.out.low.size)) _ _ HP.out).mono ?_; rintro _ w2 ⟨rfl, hl2⟩; have HL2 := hide (HL.out.trans (hl2.mono HL.out.size)); have HO2 := hide (own_later HO.out hl2); clear hl2)
            | ((with_reducible refine at_slot 50 ?_); refine wpList_one2 rfl (.tmp 49) rfl (p.1, p.2 + (t : Int)) rfl ?_)
            | ((with_reducible refine at_slot 51 ?_); refine wpList_push2 rfl (.tmp 45) (.tmp 50) rfl y1.heap.size A1 q c1 (strT X k t i) (p.1, p.2 + (t : Int)) rfl HO2.out rfl rfl (by omega) HL2.out.size ?_; intro A3 c3 w3 ho3 hl3; have HO3 := hide ho3; have HL3 := hide (HL2.out.trans hl3); clear ho3 hl3))
          go_roundw
          case rel => exact ⟨i + 1, q + 1, A3, c3, by omega, by simp, rfl, hide (by rw [HT2.out, List.length_append, HM.out]; rfl), hide (by rw [HT2.out]; exact HO3.out), HL3⟩
          case measure => simp [intOf]; omega
      · obtain rfl : i = n := by omega
        have hii : ¬ (i : Int) < (i : Int) := by omega
        rw [HMT.out] at HM HO
        have hq2 : q ≤ 1000 := by have := HML.out; have := HM.out; omega
        obtain ⟨v1, hv1⟩ : ∃ v1, v1 = wr := ⟨_, rfl⟩
        rw [← hv1] at HO HL ⊢
        clear hv1
        have HS_v : Hid (Rox w v1 [(w.heap.size, 43, secL zeroSec)] A i c X) := hide (HS_y1.out.later HL.out)
        go_upto_region 12 with (first
          | (go_at_call 68; refine (HGA.out _ HS_v.out.low A1 q c1 M (Reads.of_own HO.out) hq2).mono ?_; rintro _ y51 ⟨A2, m2, c2, rfl, hgg, hlq⟩; rw [HG.out] at hgg ⊢; have HGG := hide hgg; have HS_y51 : Hid (Rox w y51 [(w.heap.size, 43, secL zeroSec)] A i c X) := hide (HS_v.out.later hlq); clear hgg hlq))
        obtain ⟨hm2, ho2⟩ := HGG.out (by trivial)
        subst hm2
        have HBU := hide (rbuild_any y51 A2 m2 c2 (M.map S.readP) (Reads.of_own ho2) (by rw [List.length_map]; exact HM.out) hq2)
        clear ho2
        go_wp2_with (first
          | (go_at_call 65; refine HBU.out.mono ?_; rintro _ y52 ⟨rfl, hlq⟩; have HS_y52 : Hid (Rox w y52 [(w.heap.size, 43, secL zeroSec)] A i c X) := hide (HS_y51.out.later hlq); clear hlq)
          | ((with_reducible refine at_store 8 ?_); refine wpList_store_all rfl 43 (.tmp 8) (.tmp 63) rfl w.heap.size 43 _ (HS_y52.out.own.blk 0 rfl) rfl (secL (parS (M.map S.readP))) rfl (msec_size _) (msec_len _ zeroSec) (secL_one _) ?_; intro y53 hbz hg hs; have HS_y53 : Hid (Rox w y53 [(w.heap.size, 43, secL (parS (M.map S.readP)))] A i c X) := hide (HS_y52.out.poke 0 rfl (by decide) hbz hg); clear hs hg hbz))
        refine ret_cell_tmp rfl _ 43 (secL (parS (M.map S.readP))) _ (HS_y53.out.own.blk 0 rfl) rfl Tryz.underlying43 rfl (msec_size _) (.int .i64 0) rfl rfl ⟨by rfl, HS_y53.out.low⟩
  · have HGN := hide hg0
    obtain ⟨na, nb, nc⟩ := rne hg0
    clear hg0
    go_enter Tryz.func29, Tryz.ntmps29
    go_wp2_with (first
      | ((with_reducible refine at_slot 8 ?_); refine wpList_alloc_blk rfl 43 rfl _ (sec_zero _) ?_; intro y1 hbq hl1 hs1; have HS_y1 : Hid (Rox w y1 [(w.heap.size, 43, secL zeroSec)] A n c X) := hide (HS_w.out.var hl1 (Nat.le_refl _) hbq); clear hbq hl1 hs1)
      | ((with_reducible refine at_slot 35 ?_); refine wpList_none2 rfl rfl ?_))
    go_loopw [10, 11] (fun s10 s11 wr => ∃ (i q : Nat) (A1 : Option Addr) (c1 : Nat), i ≤ n ∧ s11 = .int .i64 (i : Int) ∧ s10 = .slice A1 q c1 ∧ Hid ((strT X k t i).length = q) ∧ Hid (PlOwn wr y1.heap.size A1 q c1 (strT X k t i)) ∧ Hid (Below y1.heap.size y1 wr)) (fun _ s11 _ => n - (intOf s11).toNat)
    case atStart =>
      refine ⟨0, 0, _, _, Nat.zero_le _, rfl, rfl, hide (by unfold strT strM; simp), hide ?_, hide ((Below.refl _ _).alloc (Nat.le_refl _) _)⟩
      have e : strT X k t 0 = [] := by unfold strT strM; simp
      rw [e]
      exact World.ownsRow_made y1 #[] 0 (Nat.le_refl _) (Nat.zero_le _) rfl
    case round =>
      obtain ⟨i, q, A1, c1, hi, rfl, rfl, HM, HO, HL⟩ := hrel
      by_cases hin : i < n
      · have hii : (i : Int) < (n : Int) := by omega
        obtain ⟨p, hp⟩ : ∃ p, X[i]? = some p := ⟨_, List.getElem?_eq_getElem (by rw [HX.out]; exact hin)⟩
        have HT := hide (strT_succ (h := k) (t := t) hp)
        have HP := hide hp
        have hmle := strT_le X k t i
        rw [HM.out] at hmle
        clear hp
        by_cases hik : i = k
        · have hik2 : (i : Int) = (k : Int) := by omega
          have HT2 := hide (HT.out.trans (if_pos hik))
          clear HT
          go_wp2
          go_roundw
          case rel => exact ⟨i + 1, q, A1, c1, by omega, by simp; omega, rfl, hide (by rw [HT2.out]; exact HM.out), hide (by rw [HT2.out]; exact HO.out), HL⟩
          case measure => simp [intOf]; omega
        · have hik2 : ¬ (i : Int) = (k : Int) := by omega
          have HT2 := hide (HT.out.trans (if_neg hik))
          clear HT
          go_wp2_with (first
            | (go_at_call 69; refine (HAT.out _ (HS_y1.out.low.trans (HL.out.mono HS_y1.out.low.size)) _ _ HP.out).mono ?_; rintro _ w2 ⟨rfl, hl2⟩; have HL2 := hide (HL.out.trans (hl2.mono HL.out.size)); have HO2 := hide (own_later HO.out hl2); clear hl2)
            | ((with_reducible refine at_slot 50 ?_); refine wpList_one2 rfl (.tmp 49) rfl (p.1, p.2 + (t : Int)) rfl ?_)
            | ((with_reducible refine at_slot 51 ?_); refine wpList_push2 rfl (.tmp 45) (.tmp 50) rfl y1.heap.size A1 q c1 (strT X k t i) (p.1, p.2 + (t : Int)) rfl HO2.out rfl rfl (by omega) HL2.out.size ?_; intro A3 c3 w3 ho3 hl3; have HO3 := hide ho3; have HL3 := hide (HL2.out.trans hl3); clear ho3 hl3))
          go_roundw
          case rel => exact ⟨i + 1, q + 1, A3, c3, by omega, by simp, rfl, hide (by rw [HT2.out, List.length_append, HM.out]; rfl), hide (by rw [HT2.out]; exact HO3.out), HL3⟩
          case measure => simp [intOf]; omega
      · obtain rfl : i = n := by omega
        have hii : ¬ (i : Int) < (i : Int) := by omega
        rw [HMT.out] at HM HO
        have hq2 : q ≤ 1000 := by have := HML.out; have := HM.out; omega
        obtain ⟨v1, hv1⟩ : ∃ v1, v1 = wr := ⟨_, rfl⟩
        rw [← hv1] at HO HL ⊢
        clear hv1
        have HS_v : Hid (Rox w v1 [(w.heap.size, 43, secL zeroSec)] A i c X) := hide (HS_y1.out.later HL.out)
        go_upto_region 12 with (first
          | (go_at_call 68; refine (HGA.out _ HS_v.out.low A1 q c1 M (Reads.of_own HO.out) hq2).mono ?_; rintro _ y51 ⟨A2, m2, c2, rfl, hgg, hlq⟩; rw [HG.out] at hgg ⊢; have HGG := hide hgg; have HS_y51 : Hid (Rox w y51 [(w.heap.size, 43, secL zeroSec)] A i c X) := hide (HS_v.out.later hlq); clear hgg hlq))
        go_wp2_with (first
          | ((with_reducible refine at_slot 60 ?_); refine wpList_build_is rfl 43 #[] rfl [] (by simp) _ HBZ.out ?_)
          | ((with_reducible refine at_store 8 ?_); refine wpList_store_all rfl 43 (.tmp 8) (.tmp 60) rfl w.heap.size 43 _ (HS_y51.out.own.blk 0 rfl) rfl (secL zeroSec) rfl (msec_size _) (msec_len _ zeroSec) (secL_one _) ?_; intro y52 hbz hg hs; have HS_y52 : Hid (Rox w y52 [(w.heap.size, 43, secL zeroSec)] A i c X) := hide (HS_y51.out.poke 0 rfl (by decide) hbz hg); clear hs hg hbz))
        refine ret_cell_tmp rfl _ 43 (secL zeroSec) _ (HS_y52.out.own.blk 0 rfl) rfl Tryz.underlying43 rfl (msec_size _) (.int .i64 (g : Int)) rfl rfl ⟨by rfl, HS_y52.out.low⟩
set_option maxRecDepth 100000 in
set_option maxHeartbeats 8000000 in
theorem rsreb_any (h : RefOn w r G S) (hx : Rox w w [] A n c X) (k t : Int) :
    Calls Tryz.prog 29 #[.pointer (some ⟨r, 0, none⟩), .slice A n c, .int .i64 k, .int .i64 t] w fun e w' => e = .returned (.tuple #[secV (S.srebuilt X k t).1, .int .i64 ((S.srebuilt X k t).2 : Int)]) ∧ Below w.heap.size w w' := by
  have hlen : X.length = n := reads_len hx.in_.reads
  have hfew := hx.few
  have HBZ := hide (show Tryz.prog.built 43 [] = some (secL zeroSec).toArray from sec_none)
  have HS_w : Hid (Rox w w [] A n c X) := hide hx
  unfold Bank.srebuilt
  rw [hlen]
  by_cases h1 : n < 2
  · rw [show rebuiltE n k t = 1 from if_pos (.inl h1), if_neg (by decide)]
    have i1 : (n : Int) < 2 := by omega
    clear h hx hlen h1
    go_enter Tryz.func29, Tryz.ntmps29
    go_wp2_with (first
      | ((with_reducible refine at_slot 8 ?_); refine wpList_alloc_blk rfl 43 rfl _ (sec_zero _) ?_; intro y1 hbq hl1 hs1; have HS_y1 : Hid (Rox w y1 [(w.heap.size, 43, secL zeroSec)] A n c X) := hide (HS_w.out.var hl1 (Nat.le_refl _) hbq); clear hbq hl1 hs1)
      | ((with_reducible refine at_slot 27 ?_); refine wpList_build_is rfl 43 #[] rfl [] (by simp) _ HBZ.out ?_)
      | ((with_reducible refine at_store 8 ?_); refine wpList_store_all rfl 43 (.tmp 8) (.tmp 27) rfl w.heap.size 43 _ (HS_y1.out.own.blk 0 rfl) rfl (secL zeroSec) rfl (msec_size _) (msec_len _ zeroSec) (secL_one _) ?_; intro y2 hbz hg hs; have HS_y2 : Hid (Rox w y2 [(w.heap.size, 43, secL zeroSec)] A n c X) := hide (HS_y1.out.poke 0 rfl (by decide) hbz hg); clear hs hg hbz))
    refine ret_cell_tmp rfl _ 43 (secL zeroSec) _ (HS_y2.out.own.blk 0 rfl) rfl Tryz.underlying43 rfl (msec_size _) (.int .i64 1) rfl rfl ⟨rfl, HS_y2.out.low⟩
  · have i1 : ¬ (n : Int) < 2 := by omega
    by_cases h2 : k < 0
    · rw [show rebuiltE n k t = 1 from if_pos (.inr (.inl h2)), if_neg (by decide)]
      clear h hx hlen h1
      go_enter Tryz.func29, Tryz.ntmps29
      go_wp2_with (first
        | ((with_reducible refine at_slot 8 ?_); refine wpList_alloc_blk rfl 43 rfl _ (sec_zero _) ?_; intro y1 hbq hl1 hs1; have HS_y1 : Hid (Rox w y1 [(w.heap.size, 43, secL zeroSec)] A n c X) := hide (HS_w.out.var hl1 (Nat.le_refl _) hbq); clear hbq hl1 hs1)
        | ((with_reducible refine at_slot 27 ?_); refine wpList_build_is rfl 43 #[] rfl [] (by simp) _ HBZ.out ?_)
        | ((with_reducible refine at_store 8 ?_); refine wpList_store_all rfl 43 (.tmp 8) (.tmp 27) rfl w.heap.size 43 _ (HS_y1.out.own.blk 0 rfl) rfl (secL zeroSec) rfl (msec_size _) (msec_len _ zeroSec) (secL_one _) ?_; intro y2 hbz hg hs; have HS_y2 : Hid (Rox w y2 [(w.heap.size, 43, secL zeroSec)] A n c X) := hide (HS_y1.out.poke 0 rfl (by decide) hbz hg); clear hs hg hbz))
      refine ret_cell_tmp rfl _ 43 (secL zeroSec) _ (HS_y2.out.own.blk 0 rfl) rfl Tryz.underlying43 rfl (msec_size _) (.int .i64 1) rfl rfl ⟨rfl, HS_y2.out.low⟩
    · by_cases h3 : (n : Int) ≤ k
      · rw [show rebuiltE n k t = 1 from if_pos (.inr (.inr h3)), if_neg (by decide)]
        have i3 : k ≥ (n : Int) := h3
        clear h hx hlen h1 h3
        go_enter Tryz.func29, Tryz.ntmps29
        go_wp2_with (first
          | ((with_reducible refine at_slot 8 ?_); refine wpList_alloc_blk rfl 43 rfl _ (sec_zero _) ?_; intro y1 hbq hl1 hs1; have HS_y1 : Hid (Rox w y1 [(w.heap.size, 43, secL zeroSec)] A n c X) := hide (HS_w.out.var hl1 (Nat.le_refl _) hbq); clear hbq hl1 hs1)
          | ((with_reducible refine at_slot 27 ?_); refine wpList_build_is rfl 43 #[] rfl [] (by simp) _ HBZ.out ?_)
          | ((with_reducible refine at_store 8 ?_); refine wpList_store_all rfl 43 (.tmp 8) (.tmp 27) rfl w.heap.size 43 _ (HS_y1.out.own.blk 0 rfl) rfl (secL zeroSec) rfl (msec_size _) (msec_len _ zeroSec) (secL_one _) ?_; intro y2 hbz hg hs; have HS_y2 : Hid (Rox w y2 [(w.heap.size, 43, secL zeroSec)] A n c X) := hide (HS_y1.out.poke 0 rfl (by decide) hbz hg); clear hs hg hbz))
        refine ret_cell_tmp rfl _ 43 (secL zeroSec) _ (HS_y2.out.own.blk 0 rfl) rfl Tryz.underlying43 rfl (msec_size _) (.int .i64 1) rfl rfl ⟨rfl, HS_y2.out.low⟩
      · have i3 : ¬ k ≥ (n : Int) := h3
        have hno : ¬ (n < 2 ∨ k < 0 ∨ (n : Int) ≤ k) := fun q => q.elim h1 (fun q => q.elim h2 h3)
        by_cases h4 : t < 0
        · rw [show rebuiltE n k t = 3 from (if_neg hno).trans (if_pos (.inl h4)), if_neg (by decide)]
          clear h hx hlen h1 h3 hno
          go_enter Tryz.func29, Tryz.ntmps29
          go_wp2_with (first
            | ((with_reducible refine at_slot 8 ?_); refine wpList_alloc_blk rfl 43 rfl _ (sec_zero _) ?_; intro y1 hbq hl1 hs1; have HS_y1 : Hid (Rox w y1 [(w.heap.size, 43, secL zeroSec)] A n c X) := hide (HS_w.out.var hl1 (Nat.le_refl _) hbq); clear hbq hl1 hs1)
            | ((with_reducible refine at_slot 34 ?_); refine wpList_build_is rfl 43 #[] rfl [] (by simp) _ HBZ.out ?_)
            | ((with_reducible refine at_store 8 ?_); refine wpList_store_all rfl 43 (.tmp 8) (.tmp 34) rfl w.heap.size 43 _ (HS_y1.out.own.blk 0 rfl) rfl (secL zeroSec) rfl (msec_size _) (msec_len _ zeroSec) (secL_one _) ?_; intro y2 hbz hg hs; have HS_y2 : Hid (Rox w y2 [(w.heap.size, 43, secL zeroSec)] A n c X) := hide (HS_y1.out.poke 0 rfl (by decide) hbz hg); clear hs hg hbz))
          refine ret_cell_tmp rfl _ 43 (secL zeroSec) _ (HS_y2.out.own.blk 0 rfl) rfl Tryz.underlying43 rfl (msec_size _) (.int .i64 3) rfl rfl ⟨rfl, HS_y2.out.low⟩
        · by_cases h5 : 8 ≤ t
          · rw [show rebuiltE n k t = 3 from (if_neg hno).trans (if_pos (.inr h5)), if_neg (by decide)]
            have i5 : t ≥ 8 := h5
            clear h hx hlen h1 h3 h5 hno
            go_enter Tryz.func29, Tryz.ntmps29
            go_wp2_with (first
              | ((with_reducible refine at_slot 8 ?_); refine wpList_alloc_blk rfl 43 rfl _ (sec_zero _) ?_; intro y1 hbq hl1 hs1; have HS_y1 : Hid (Rox w y1 [(w.heap.size, 43, secL zeroSec)] A n c X) := hide (HS_w.out.var hl1 (Nat.le_refl _) hbq); clear hbq hl1 hs1)
              | ((with_reducible refine at_slot 34 ?_); refine wpList_build_is rfl 43 #[] rfl [] (by simp) _ HBZ.out ?_)
              | ((with_reducible refine at_store 8 ?_); refine wpList_store_all rfl 43 (.tmp 8) (.tmp 34) rfl w.heap.size 43 _ (HS_y1.out.own.blk 0 rfl) rfl (secL zeroSec) rfl (msec_size _) (msec_len _ zeroSec) (secL_one _) ?_; intro y2 hbz hg hs; have HS_y2 : Hid (Rox w y2 [(w.heap.size, 43, secL zeroSec)] A n c X) := hide (HS_y1.out.poke 0 rfl (by decide) hbz hg); clear hs hg hbz))
            refine ret_cell_tmp rfl _ 43 (secL zeroSec) _ (HS_y2.out.own.blk 0 rfl) rfl Tryz.underlying43 rfl (msec_size _) (.int .i64 3) rfl rfl ⟨rfl, HS_y2.out.low⟩
          · rw [show rebuiltE n k t = 0 from (if_neg hno).trans (if_neg (fun q => q.elim h4 h5)), if_pos rfl]
            obtain ⟨k', rfl⟩ := Int.eq_ofNat_of_zero_le (show 0 ≤ k by omega)
            obtain ⟨t', rfl⟩ := Int.eq_ofNat_of_zero_le (show 0 ≤ t by omega)
            have hy := rsreb_yes h hx k' t' (by omega) (by omega) (by omega)
            dsimp only
            rw [Int.toNat_natCast, Int.toNat_natCast]
            by_cases hg : S.gatherE (strO X k' t') = 0
            · rw [if_pos hg]
              rw [if_pos hg, hg] at hy
              exact hy
            · rw [if_neg hg]
              rw [if_neg hg] at hy
              exact hy
end
end Go.Proofs.YtmjjnbabfldbcaaGreat
