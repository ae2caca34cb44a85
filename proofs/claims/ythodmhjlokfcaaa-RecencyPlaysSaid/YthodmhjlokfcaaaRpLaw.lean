/- RecencyPlays' walk over the contracts. -/
import Derived.Test.YthodmhjlokfcaaaRcL
import Derived.Test.YthodmhjlokfcaaaArgI
import Derived.Test.YthodmhjlokfcaaaArgR2
import Derived.Deep.DeepCutAuto
import Derived.Deep.CutBlock
import Derived.Deep.LoopGhost
namespace Go.Proofs.Ythodmhjlokfcaaa
open Go.RowKit Go.Maps
set_option linter.unusedVariables false
/-- The pair that was put aside. -/
def OldP (s6 s7 : Value) (T : List Thing) : Prop := (s6 = .pointer none ∧ s7 = .pointer none ∧ T = []) ∨ ∃ (o wa : Nat) (O : List Int), s6 = .pointer (some ⟨o, 0, none⟩) ∧ s7 = .pointer (some ⟨wa, 0, none⟩) ∧ O.length ≤ 200 ∧ T = [rcT o O, rfT wa O]
section
variable {w0 W W' : World} {Hs : List Thing} {U : VarsT} {X Y Z H : Thing} {T : List Thing}
/-- The last thing comes first. -/
theorem Sta.front (h : Sta w0 W (Hs ++ [X]) U) : Sta w0 W (X :: Hs) U := by
  refine h.pick _ (fun i => if i = 0 then Hs.length else i - 1) (fun i K e => ?_) (fun i j hi hj e => ?_)
  · cases i with
    | zero =>
      have e2 : K = X := by simpa using e.symm
      rw [if_pos rfl, List.getElem?_append_right (Nat.le_refl _), Nat.sub_self, e2]
      rfl
    | succ i =>
      rw [List.getElem?_cons_succ] at e
      rw [if_neg (by omega), Nat.add_sub_cancel, List.getElem?_append_left (at_lt e)]
      exact e
  · rw [List.length_cons] at hi hj
    split at e <;> split at e <;> omega
theorem Sta.tail (h : Sta w0 W (X :: Hs) U) : Sta w0 W Hs U :=
  h.pick _ (fun i => i + 1) (fun i K e => by rw [List.getElem?_cons_succ]; exact e) fun i j _ _ e => by omega
/-- A row was cloned: the clone goes on, and what was put aside is this. -/
theorem Sta.turned (h : Sta w0 W (X :: Y :: Z :: H :: T) U) : Sta w0 W [X, H, Z, Y] U :=
  h.pick _ (fun i => if i = 0 then 0 else 4 - i) (fun i K e => by
    match i, e with
    | 0, e => exact e
    | 1, e => exact e
    | 2, e => exact e
    | 3, e => exact e
    | (i + 4), e => cases e) fun i j hi hj e => by
    have hi' : i < 4 := hi
    have hj' : j < 4 := hj
    split at e <;> split at e <;> omega
end
theorem Sta.allB {w0 W : World} {Hs : List Thing} {U : VarsT} {m : Nat} {L : List Int} (h : Sta w0 W Hs U) (i : Nat) (e : Hs[i]? = some (rcT m L)) (hL : L.length ≤ 1000000) : Calls Try.prog 23 #[.pointer (some ⟨m, 0, none⟩)] W fun e W' => ∃ A c, e = .returned (.slice A L.length c) ∧ L.length ≤ c ∧ c ≤ 9223372036854775807 ∧ Sta w0 W' (Hs ++ [ilT (.slice A L.length c) L]) U ∧ Below W.heap.size W W' := by
  obtain ⟨F, k, y, G, nx, pv, it, f, hI, hF⟩ := h.thing i e
  refine (all_any hI hL).mono fun _ W' ⟨v, he, ho, hb⟩ => ?_
  obtain ⟨A, c, rfl, h1, h2⟩ := own_shape ho
  exact ⟨A, c, he, h1, h2, h.row hb ho, hb⟩
theorem int_info16 : (Try.prog.info? 3).map (·.size) = some 1 := by kernel_rfl
theorem run_eql_rf (w : World) (g : Nat) : (binOp .eql 26 (.pointer (some ⟨g, 0, none⟩)) (.pointer none)).run Try.prog w = .ok (.bool false) w := by kernel_rfl
set_option maxRecDepth 100000 in
set_option maxHeartbeats 16000000 in
theorem recencyPlays_walk (A : Option Addr) (n c : Nat) (f : Nat → OpR) (w : World) (hx : OpsR w w.heap.size A n f) (hnc : n ≤ c) (hcm : c ≤ 9223372036854775807) :
    Calls Try.prog 3 #[.slice A n c] w fun e w' => e = .returned (.bool true) ∧ Below w.heap.size w w' := by
  have HS_w : Hid (Sta w w [] []) := hide (Sta.begin w)
  have HSH := hide (shown16_any)
  have HX := hide hx
  have heq := run_eql_rc
  have heqf := run_eql_rf
  obtain ⟨N, hN⟩ : ∃ N, N = min n 200 := ⟨_, rfl⟩
  have hN1 : N ≤ n := by omega
  have hN2 : N ≤ 200 := by omega
  have hN3 : n ≤ 200 → N = n := by omega
  have hN4 : 200 < n → N = 200 := by omega
  clear hx hN
  go_enter Try.func3, Try.ntmps3
  go_upto_block 0 with (first
    | (go_at_call 10; refine (HS_y2.out.rmk).mono ?_; rintro _ y3 ⟨r, rfl, hsq⟩; have HS_y3 : Hid (Sta w y3 [rcT m0 [], rfT r []] []) := hide hsq; clear hsq)
    | (go_at_call 9; refine (HS_y1.out.mk_).mono ?_; rintro _ y2 ⟨m0, rfl, hsq⟩; have HS_y2 : Hid (Sta w y2 [rcT m0 []] []) := hide hsq; clear hsq)
    | (go_at_call 8; refine (HSH.out _).mono ?_; rintro _ y1 ⟨rfl, hlq⟩; have HS_y1 : Hid (Sta w y1 [] []) := hide (HS_w.out.later hlq); clear hlq))
  go_cut [4, 6, 7, 8, 9, 10, 11, 12, 13, 14, 15] (fun s4 s6 s7 s8 _ _ _ _ _ _ _ wx => ∃ (m : Nat) (L : List Int) (T : List Thing), s4 = .pointer (some ⟨m, 0, none⟩) ∧ L.length ≤ 200 ∧ Hid (OldP s6 s7 T) ∧ Hid (Sta w wx (rcT m L :: rfT r L :: T) []))
  case first =>
    go_wp2_with fail
    go_loopw [4, 6, 7, 8, 9, 10, 11, 12, 13, 14, 15] (fun s4 s6 s7 s8 _ _ _ _ _ _ _ wr => ∃ (i m : Nat) (L : List Int) (T : List Thing), i ≤ N ∧ s8 = .int .i64 (i : Int) ∧ s4 = .pointer (some ⟨m, 0, none⟩) ∧ L.length ≤ i ∧ Hid (OldP s6 s7 T) ∧ Hid (Sta w wr (rcT m L :: rfT r L :: T) [])) (fun _ _ _ s8 _ _ _ _ _ _ _ _ => N - (intOf s8).toNat)
    case atStart => exact ⟨0, m0, [], [], Nat.zero_le _, rfl, rfl, Nat.le_refl _, hide (.inl ⟨rfl, rfl, rfl⟩), HS_y3⟩
    case round =>
      clear HS_y3
      obtain ⟨i, m, L, T, hi, rfl, rfl, hLi, HO, HS⟩ := hrel
      obtain ⟨z, rfl⟩ : ∃ z, z = wr := ⟨_, rfl⟩
      by_cases hiN : i < N
      · have hin : (i : Int) < (n : Int) := by omega
        have hil : (i : Int) < 200 := by omega
        obtain ⟨ad, rfl, _, hfit, hck, hcn⟩ := (HX.out.below HS.out.low).cell (show i < n by omega)
        obtain ⟨kk, hkk⟩ : ∃ x, (f i).k = x := ⟨_, rfl⟩
        obtain ⟨b, hb⟩ : ∃ x, (f i).n = x := ⟨_, rfl⟩
        rw [hkk] at hck
        rw [hb] at hcn
        have HB := hide (show okI64 b by rw [← hb]; exact hfit.2)
        have HLM := hide (show L.length ≤ 1000000 by omega)
        clear hfit hkk hb
        go_upto_block 2 with fail
        go_cut [4, 6, 7, 10, 11, 12] (fun s4 s6 s7 s10 _ _ wx => s10 = .bool true ∧ ∃ (m : Nat) (L : List Int) (T : List Thing), s4 = .pointer (some ⟨m, 0, none⟩) ∧ L.length ≤ i + 1 ∧ Hid (OldP s6 s7 T) ∧ Hid (Sta w wx (rcT m L :: rfT r L :: T) []))
        case first =>
          obtain ⟨t, ht⟩ : ∃ t, decide (b ∈ L) = t := ⟨_, rfl⟩
          have HT := hide ht
          clear ht
          by_cases h1 : kk = 1
          · subst h1
            go_wp2_with (first
              | (go_at_call 12; refine (HS3.out.rdrop 1 rfl HLM.out b).mono ?_; rintro _ w4 ⟨rfl, hsq⟩; rw [HT.out]; have HS4 : Hid (Sta w w4 (rcT m (wo b L) :: rfT r (wo b L) :: T) []) := hide hsq; clear hsq)
              | (go_at_call 11; refine (HS.out.drop_ 0 rfl b HB.out).mono ?_; rintro _ w3 ⟨rfl, hsq⟩; rw [HT.out]; have HS3 : Hid (Sta w w3 (rcT m (wo b L) :: rfT r L :: T) []) := hide hsq; clear hsq))
            go_meet
            exact ⟨rfl, m, wo b L, T, rfl, by have := wo_len b L; omega, HO, HS4⟩
          by_cases h2 : kk = 2
          · subst h2
            go_wp2_with (first
              | (go_at_call 14; refine (HS.out.rhas 1 rfl HLM.out b).mono ?_; rintro _ _ ⟨rfl, rfl⟩; rw [HT.out])
              | (go_at_call 13; refine (HS.out.has_ 0 rfl b HB.out).mono ?_; rintro _ _ ⟨rfl, rfl⟩; rw [HT.out]))
            go_meet
            exact ⟨rfl, m, L, T, rfl, by omega, HO, HS⟩
          by_cases h3 : kk = 3
          · subst h3
            obtain ⟨T3, hT3⟩ : ∃ x, L.take b.toNat = x := ⟨_, rfl⟩
            have HT3 := hide hT3
            have hTl : T3.length ≤ L.length := by rw [← hT3, List.length_take]; omega
            obtain ⟨TL, hTL⟩ : ∃ x, T3.length = x := ⟨_, rfl⟩
            have HTL := hide hTL
            rw [hTL] at hTl
            clear hT3 hTL
            go_wp2_with (first
              | (go_at_call 16; refine (HS4.out.numbers_ (HS4.out.rds 0 rfl).2 HR4.out (by omega) (by omega)).mono ?_; rintro _ w5 ⟨rfl, hsq, _⟩; rw [show decide (T3 = T3) = true from decide_eq_true rfl]; have HS5 : Hid (Sta w w5 (ilT (.slice A3 TL c3) T3 :: rcT m L :: rfT r L :: T) []) := hide hsq; clear hsq)
              | (go_at_call 17; refine (HS3.out.roldest 2 rfl HLM.out b T3 HT3.out).mono ?_; rintro _ w4 ⟨A4, c4, rfl, hr4, hsq, _⟩; rw [HTL.out] at hr4 ⊢; have HR4 := hide hr4; have HS4 : Hid (Sta w w4 (ilT (.slice A3 TL c3) T3 :: rcT m L :: rfT r L :: T) []) := hide hsq; clear hsq hr4)
              | (go_at_call 15; refine (HS.out.oldest_ 0 rfl HLM.out b T3 HT3.out).mono ?_; rintro _ w3 ⟨A3, c3, rfl, hn3, hc3, hsq⟩; rw [HTL.out] at hn3 hsq ⊢; have HS3 : Hid (Sta w w3 (ilT (.slice A3 TL c3) T3 :: rcT m L :: rfT r L :: T) []) := hide hsq.front; clear hsq))
            go_loopw [12] (fun sa wr => ∃ (a : Nat) (T3 : List Int), a ≤ TL ∧ sa = .int .i64 (a : Int) ∧ T3.length = TL ∧ Hid (Sta w wr (ilT (.slice A3 TL c3) T3 :: rcT m L :: rfT r L :: T) [])) (fun sa _ => TL - (intOf sa).toNat)
            case atStart => exact ⟨0, _, Nat.zero_le _, rfl, HTL.out, HS5⟩
            case round =>
              obtain ⟨a, T3, ha, rfl, hT3, HJ⟩ := hrel
              obtain ⟨y, rfl⟩ : ∃ z, z = wr := ⟨_, rfl⟩
              by_cases haT : a < TL
              · obtain ⟨x, hx3⟩ : ∃ x, T3[a]? = some x := ⟨_, List.getElem?_eq_getElem (by rw [hT3]; exact haT)⟩
                obtain ⟨g, rfl, _, _⟩ := HJ.out.num 0 rfl hx3
                obtain ⟨cur, hcur, hsz, hset⟩ := HJ.out.block_ 0 rfl (show 0 < TL by omega)
                have HCUR := hide hcur
                have HSET := hide hset
                have HSZ := hide (show a < cur.size by omega)
                have haa : (a : Int) < (TL : Int) := by omega
                clear hx3 hcur hset hsz
                go_wp2_with (first
                  | ((with_reducible refine at_store 83 ?_); refine wpList_poke rfl 3 (.tmp 83) (.const (.int .i64 77)) rfl g a 3 _ HCUR.out rfl (.int .i64 77) rfl rfl int_info16 HSZ.out ?_; intro w5 hb5 hg5 hs5; clear hs5; have HS5 : Hid (Sta w w5 (ilT (.slice (some ⟨g, 0, none⟩) TL c3) (T3.set a 77) :: rcT m L :: rfT r L :: T) []) := hide (HSET.out w5 a 77 haT hb5 hg5); clear hb5 hg5))
                go_roundw
                case rel => exact ⟨a + 1, _, by omega, by go_num, by rw [List.length_set]; exact hT3, HS5⟩
                case measure => simp [intOf]; omega
              · obtain rfl : a = TL := by omega
                have hdd : decide ((a : Int) < (a : Int)) = false := by simp
                go_wp2_with fail
                go_meet
                exact ⟨rfl, m, L, T, rfl, by omega, HO, hide HJ.out.tail⟩
          by_cases h4 : kk = 4
          · subst h4
            go_wp2_with (first
              | (go_at_call 19; refine (HS3.out.clone_ 1 rfl HLM.out).mono ?_; rintro _ w4 ⟨m2, rfl, hsq⟩; have HS4 : Hid (Sta w w4 [rcT m2 L, rfT r L, rcT m L, rfT wa L] []) := hide hsq.front.turned; clear hsq)
              | (go_at_call 18; refine (HS.out.rclone 1 rfl HLM.out).mono ?_; rintro _ w3 ⟨wa, rfl, hsq⟩; have HS3 : Hid (Sta w w3 (rfT wa L :: rcT m L :: rfT r L :: T) []) := hide hsq.front; clear hsq))
            go_meet
            exact ⟨rfl, m2, L, [rcT m L, rfT wa L], rfl, by omega, hide (.inr ⟨m, wa, L, rfl, rfl, by omega, rfl⟩), HS4⟩
          have h1' : (kk == 1) = false := by simpa using h1
          have h2' : (kk == 2) = false := by simpa using h2
          have h3' : (kk == 3) = false := by simpa using h3
          have h4' : (kk == 4) = false := by simpa using h4
          clear h1 h2 h3 h4
          go_wp2_with (first
            | (go_at_call 21; refine (HS3.out.rtouch 1 rfl HLM.out b).mono ?_; rintro _ w4 ⟨rfl, hsq⟩; have HS4 : Hid (Sta w w4 (rcT m (tch b L) :: rfT r (tch b L) :: T) []) := hide hsq; clear hsq)
            | (go_at_call 20; refine (HS.out.touch_ 0 rfl b HB.out HLM.out).mono ?_; rintro _ w3 ⟨rfl, hsq⟩; have HS3 : Hid (Sta w w3 (rcT m (tch b L) :: rfT r L :: T) []) := hide hsq; clear hsq))
          go_meet
          exact ⟨rfl, m, tch b L, T, rfl, by have := tch_len b L; omega, HO, HS4⟩
        clear HO HS HLM hck hcn hLi
        obtain ⟨rfl, m, L, T, rfl, hLi, HO, HS⟩ := hcut
        obtain ⟨y, rfl⟩ : ∃ z, z = wc := ⟨_, rfl⟩
        have HLM := hide (show L.length ≤ 1000000 by omega)
        obtain ⟨NL, hNL⟩ : ∃ x, L.length = x := ⟨_, rfl⟩
        have HNL := hide hNL
        rw [hNL] at hLi
        clear hNL
        obtain ⟨Aw, cw, hcw, hrw⟩ := HS.out.rcell 1 rfl
        rw [HNL.out] at hcw hrw
        have HCW := hide hcw
        clear hcw hrw
        have HS_d := hide HS.out.drew
        go_upto_region 31 with fail
        refine wp_region_held_drew (S := (fun W => W = y.drew)) (by kernel_rfl) ?_ (fun hHeld => ?_)
        · exact rfl
        refine heldTake (i := 0) (v := ?_) rfl (by kernel_rfl) (by kernel_rfl) (by kernel_rfl) (fun _ _ _ h => h) (Or.inl ⟨by rfl, ?_⟩) (by assumption) ?_
        rotate_left
        · intro w hSw; (try dsimp only at hSw); go_simp <;> (with_reducible rfl)
        try simp only [Act.put, List.setIfInBounds_toArray, List.set_cons_zero, List.set_cons_succ]
        refine heldTake (i := 1) (v := ?_) rfl (by kernel_rfl) (by kernel_rfl) (by kernel_rfl) (fun _ _ _ h => h) (Or.inl ⟨by rfl, ?_⟩) (by assumption) ?_
        rotate_left
        · intro w hSw; (try dsimp only at hSw); go_simp <;> (with_reducible rfl)
        try simp only [Act.put, List.setIfInBounds_toArray, List.set_cons_zero, List.set_cons_succ]
        refine heldTake (i := 2) (v := ?_) rfl (by kernel_rfl) (by kernel_rfl) (by kernel_rfl) (fun _ _ _ h => h) (Or.inl ⟨by rfl, ?_⟩) (by assumption) ?_
        rotate_left
        · intro w hSw; (try dsimp only at hSw); go_simp <;> (with_reducible rfl)
        try simp only [Act.put, List.setIfInBounds_toArray, List.set_cons_zero, List.set_cons_succ]
        refine heldTake (i := 3) (v := ?_) rfl (by kernel_rfl) (by kernel_rfl) (by kernel_rfl) (fun _ _ _ h => h) (Or.inl ⟨by rfl, ?_⟩) (by assumption) ?_
        rotate_left
        · intro w hSw; (try dsimp only at hSw); go_simp <;> (with_reducible rfl)
        try simp only [Act.put, List.setIfInBounds_toArray, List.set_cons_zero, List.set_cons_succ]
        refine heldTake (i := 4) (v := .bool false) rfl (by kernel_rfl) (by kernel_rfl) (by kernel_rfl) (fun _ _ _ h => h) (Or.inl ⟨by rfl, fun W hW => ?_⟩) (by assumption) ?_
        · dsimp only at hW
          subst hW
          go_simp <;> (first | rfl | simp)
        try simp only [Act.put, List.setIfInBounds_toArray, List.set_cons_zero, List.set_cons_succ]
        refine heldTake (i := 5) (v := ?_) rfl (by kernel_rfl) (by kernel_rfl) (by kernel_rfl) (fun _ _ _ h => h) (Or.inl ⟨by rfl, ?_⟩) (by assumption) ?_
        rotate_left
        · intro w hSw; (try dsimp only at hSw); go_simp <;> (with_reducible rfl)
        try simp only [Act.put, List.setIfInBounds_toArray, List.set_cons_zero, List.set_cons_succ]
        refine heldTake (i := 6) (v := ?_) rfl (by kernel_rfl) (by kernel_rfl) (by kernel_rfl) (fun _ _ _ h => h) (Or.inl ⟨by rfl, ?_⟩) (by assumption) ?_
        rotate_left
        · intro w hSw; (try dsimp only at hSw); go_simp <;> (with_reducible rfl)
        try simp only [Act.put, List.setIfInBounds_toArray, List.set_cons_zero, List.set_cons_succ]
        refine heldTake (i := 7) (v := ?_) rfl (by kernel_rfl) (by kernel_rfl) (by kernel_rfl) (fun _ _ _ h => h) (Or.inl ⟨by rfl, ?_⟩) (by assumption) ?_
        rotate_left
        · intro w hSw; (try dsimp only at hSw); go_simp <;> (with_reducible rfl)
        try simp only [Act.put, List.setIfInBounds_toArray, List.set_cons_zero, List.set_cons_succ]
        refine heldTake (i := 9) (v := ?_) rfl (by kernel_rfl) (by kernel_rfl) (by kernel_rfl) (fun _ _ _ h => h) (Or.inl ⟨by rfl, ?_⟩) (by assumption) ?_
        rotate_left
        · intro w hSw; (try dsimp only at hSw); go_simp <;> (with_reducible rfl)
        try simp only [Act.put, List.setIfInBounds_toArray, List.set_cons_zero, List.set_cons_succ]
        refine heldTake (i := 10) (v := ?_) rfl (by kernel_rfl) (by kernel_rfl) (by kernel_rfl) (fun _ _ _ h => h) (Or.inl ⟨by rfl, ?_⟩) (by assumption) ?_
        rotate_left
        · intro w hSw; (try dsimp only at hSw); go_simp <;> (with_reducible rfl)
        try simp only [Act.put, List.setIfInBounds_toArray, List.set_cons_zero, List.set_cons_succ]
        refine heldTake (i := 11) (v := ?_) rfl (by kernel_rfl) (by kernel_rfl) (by kernel_rfl) (fun _ _ _ h => h) (Or.inl ⟨by rfl, ?_⟩) (by assumption) ?_
        rotate_left
        · intro w hSw; (try dsimp only at hSw); go_simp <;> (with_reducible rfl)
        try simp only [Act.put, List.setIfInBounds_toArray, List.set_cons_zero, List.set_cons_succ]
        refine heldTake (i := 12) (v := .slice Aw NL cw) rfl (by kernel_rfl) (by kernel_rfl) (by kernel_rfl) (fun _ _ _ h => h) (Or.inl ⟨by rfl, fun W hW => ?_⟩) (by assumption) ?_
        · dsimp only at hW
          subst hW
          have hc2 : y.drew.cell? ⟨r, 0, none⟩ = some (.slice Aw NL cw) := HCW.out
          go_simp <;> rfl
        try simp only [Act.put, List.setIfInBounds_toArray, List.set_cons_zero, List.set_cons_succ]
        refine heldTake (i := 13) (v := ?_) rfl (by kernel_rfl) (by kernel_rfl) (by kernel_rfl) (fun _ _ _ h => h) (Or.inl ⟨by rfl, ?_⟩) (by assumption) ?_
        rotate_left
        · intro w hSw; (try dsimp only at hSw); go_simp <;> (with_reducible rfl)
        try simp only [Act.put, List.setIfInBounds_toArray, List.set_cons_zero, List.set_cons_succ]
        refine wpAnyH_ready (rs := [8]) (by kernel_rfl) (by simp) ?_
        refine heldCons (i := 8) rfl (fun Kq hKq => ?_) AllReadyH.nil
        go_simp
        go_at_call 22
        refine (HS_d.out.len_ 0 rfl).mono ?_
        rintro _ _ ⟨rfl, rfl⟩
        rw [HNL.out]
        first | (refine hKq.out _ _ rfl (fun hHeld => ?_)) | (go_wp2_with fail; refine hKq.out _ _ rfl (fun hHeld => ?_))
        clear hKq Kq
        try simp only [Act.put, List.setIfInBounds_toArray, List.set_cons_zero, List.set_cons_succ]
        refine heldTake (i := 14) (v := .bool false) rfl (by kernel_rfl) (by kernel_rfl) (by kernel_rfl) (fun _ _ _ h => h) (Or.inl ⟨by rfl, fun W hW => ?_⟩) (by assumption) ?_
        · dsimp only at hW
          subst hW
          go_simp <;> (first | rfl | simp)
        try simp only [Act.put, List.setIfInBounds_toArray, List.set_cons_zero, List.set_cons_succ]
        refine heldTake (i := 15) (v := ?_) rfl (by kernel_rfl) (by kernel_rfl) (by kernel_rfl) (fun _ _ _ h => h) (Or.inl ⟨by rfl, ?_⟩) (by assumption) ?_
        rotate_left
        · intro w hSw; (try dsimp only at hSw); go_simp <;> (with_reducible rfl)
        try simp only [Act.put, List.setIfInBounds_toArray, List.set_cons_zero, List.set_cons_succ]
        refine wpAnyH_done (by kernel_rfl) ?_ _
        obtain ⟨y1, hy1⟩ : ∃ z, z = y.drew := ⟨_, rfl⟩
        rw [← hy1] at HS_d ⊢
        clear hy1
        go_wp2_with (first
          | (go_at_call 16; refine (HS5.out.numbers_ (HS5.out.rds 0 rfl).2 HRB.out (by omega) (by omega)).mono ?_; rintro _ w6 ⟨rfl, hsq, _⟩; rw [show decide (L = L) = true from decide_eq_true rfl]; have HS6 : Hid (Sta w w6 (ilT (.slice A5 NL c5) L :: rcT m L :: rfT r L :: T) []) := hide hsq; clear hsq)
          | (go_at_call 23; refine (HS_d.out.all_ 0 rfl HLM.out).mono ?_; rintro _ w5 ⟨A5, c5, rfl, hn5, hc5, hsq⟩; rw [HNL.out] at hn5 hsq ⊢; have HS5 : Hid (Sta w w5 (ilT (.slice A5 NL c5) L :: rcT m L :: rfT r L :: T) []) := hide hsq.front; obtain ⟨Ab, cb, hcb, hrb⟩ := HS5.out.rcell 2 rfl; rw [HNL.out] at hcb hrb; have HRB := hide hrb; clear hsq hrb))
        go_loopw [15] (fun sa wr => ∃ (a : Nat) (T3 : List Int), a ≤ NL ∧ sa = .int .i64 (a : Int) ∧ T3.length = NL ∧ Hid (Sta w wr (ilT (.slice A5 NL c5) T3 :: rcT m L :: rfT r L :: T) [])) (fun sa _ => NL - (intOf sa).toNat)
        case atStart => exact ⟨0, _, Nat.zero_le _, rfl, HNL.out, HS6⟩
        case round =>
          obtain ⟨a, T3, ha, rfl, hT3, HJ⟩ := hrel
          obtain ⟨y, rfl⟩ : ∃ z, z = wr := ⟨_, rfl⟩
          by_cases haT : a < NL
          · obtain ⟨x, hx3⟩ : ∃ x, T3[a]? = some x := ⟨_, List.getElem?_eq_getElem (by rw [hT3]; exact haT)⟩
            obtain ⟨g, rfl, _, _⟩ := HJ.out.num 0 rfl hx3
            obtain ⟨cur, hcur, hsz, hset⟩ := HJ.out.block_ 0 rfl (show 0 < NL by omega)
            have HCUR := hide hcur
            have HSET := hide hset
            have HSZ := hide (show a < cur.size by omega)
            have haa : (a : Int) < (NL : Int) := by omega
            clear hx3 hcur hset hsz
            go_wp2_with (first
              | ((with_reducible refine at_store 125 ?_); refine wpList_poke rfl 3 (.tmp 125) (.const (.int .i64 77)) rfl g a 3 _ HCUR.out rfl (.int .i64 77) rfl rfl int_info16 HSZ.out ?_; intro w5 hb5 hg5 hs5; clear hs5; have HS5 : Hid (Sta w w5 (ilT (.slice (some ⟨g, 0, none⟩) NL c5) (T3.set a 77) :: rcT m L :: rfT r L :: T) []) := hide (HSET.out w5 a 77 haT hb5 hg5); clear hb5 hg5))
            go_roundw
            case rel => exact ⟨a + 1, _, by omega, by go_num, by rw [List.length_set]; exact hT3, HS5⟩
            case measure => simp [intOf]; omega
          · obtain rfl : a = NL := by omega
            have hdd : decide ((a : Int) < (a : Int)) = false := by simp
            go_wp2_with fail
            go_roundw
            case rel => exact ⟨i + 1, m, L, T, by omega, by go_num, rfl, by rw [HNL.out]; omega, HO, hide HJ.out.tail⟩
            case measure => simp [intOf]; omega
      · obtain rfl : i = N := by omega
        by_cases hnl : n ≤ 200
        · have hd : decide ((i : Int) < (n : Int)) = false := by simp; omega
          go_wp2_with fail
          go_meet
          exact ⟨m, L, T, rfl, by omega, HO, HS⟩
        · have hd0 : (i : Int) < (n : Int) := by omega
          have hd : decide ((i : Int) < 200) = false := by simp; omega
          go_wp2_with fail
          go_meet
          exact ⟨m, L, T, rfl, by omega, HO, HS⟩
  clear HS_y3
  obtain ⟨m, L, T, rfl, hL2, HO, HS⟩ := hcut
  obtain ⟨z2, hz2⟩ : ∃ z, z = wc := ⟨_, rfl⟩
  subst hz2
  rcases HO.out with ⟨h6, h7, _⟩ | ⟨oo, wa, O, h6, h7, hO, hTe⟩
  · subst h6
    subst h7
    go_wp2_with fail
    go_ret
    exact ⟨rfl, HS.out.low⟩
  · subst h6
    subst h7
    subst hTe
    have HLM := hide (show O.length ≤ 1000000 by omega)
    obtain ⟨NO, hNO⟩ : ∃ x, O.length = x := ⟨_, rfl⟩
    have HNO := hide hNO
    rw [hNO] at hO
    clear hNO
    obtain ⟨Aw, cw, hcw, hrw⟩ := HS.out.rcell 3 rfl
    rw [HNO.out] at hcw hrw
    have HCW := hide hcw
    have HRW := hide (show Reads z2.drew z2.drew.heap.size 1 Aw NO (I64 O) from hrw)
    have HWL := hide (World.block_lt_of_cell? z2 _ hcw)
    clear hcw hrw
    have HS_d := hide HS.out.drew
    go_upto_region 43 with fail
    refine wp_region_held_drew (S := (fun W => W.cell? ⟨wa, 0, none⟩ = some (.slice Aw NO cw))) (by kernel_rfl) ?_ (fun hHeld => ?_)
    · exact HCW.out
    refine heldTake (i := 0) (v := ?_) rfl (by kernel_rfl) (by kernel_rfl) (by kernel_rfl) (fun _ _ _ h => h) (Or.inl ⟨by rfl, ?_⟩) (by assumption) ?_
    rotate_left
    · intro w hSw; (try dsimp only at hSw); go_simp <;> (with_reducible rfl)
    try simp only [Act.put, List.setIfInBounds_toArray, List.set_cons_zero, List.set_cons_succ]
    refine heldTake (i := 1) (v := ?_) rfl (by kernel_rfl) (by kernel_rfl) (by kernel_rfl) (fun _ _ _ h => h) (Or.inl ⟨by rfl, ?_⟩) (by assumption) ?_
    rotate_left
    · intro w hSw; (try dsimp only at hSw); go_simp <;> (with_reducible rfl)
    try simp only [Act.put, List.setIfInBounds_toArray, List.set_cons_zero, List.set_cons_succ]
    refine heldTake (i := 2) (v := ?_) rfl (by kernel_rfl) (by kernel_rfl) (by kernel_rfl) (fun _ _ _ h => h) (Or.inl ⟨by rfl, ?_⟩) (by assumption) ?_
    rotate_left
    · intro w hSw; (try dsimp only at hSw); go_simp <;> (with_reducible rfl)
    try simp only [Act.put, List.setIfInBounds_toArray, List.set_cons_zero, List.set_cons_succ]
    refine heldTake (i := 4) (v := ?_) rfl (by kernel_rfl) (by kernel_rfl) (by kernel_rfl) (fun _ _ _ h => h) (Or.inl ⟨by rfl, ?_⟩) (by assumption) ?_
    rotate_left
    · intro w hSw; (try dsimp only at hSw); go_simp <;> (with_reducible rfl)
    try simp only [Act.put, List.setIfInBounds_toArray, List.set_cons_zero, List.set_cons_succ]
    refine heldTake (i := 5) (v := ?_) rfl (by kernel_rfl) (by kernel_rfl) (by kernel_rfl) (fun _ _ _ h => h) (Or.inl ⟨by rfl, ?_⟩) (by assumption) ?_
    rotate_left
    · intro w hSw; (try dsimp only at hSw); go_simp <;> (with_reducible rfl)
    try simp only [Act.put, List.setIfInBounds_toArray, List.set_cons_zero, List.set_cons_succ]
    refine heldTake (i := 6) (v := ?_) rfl (by kernel_rfl) (by kernel_rfl) (by kernel_rfl) (fun _ _ _ h => h) (Or.inl ⟨by rfl, ?_⟩) (by assumption) ?_
    rotate_left
    · intro w hSw; (try dsimp only at hSw); go_simp <;> (with_reducible rfl)
    try simp only [Act.put, List.setIfInBounds_toArray, List.set_cons_zero, List.set_cons_succ]
    refine heldTake (i := 7) (v := .slice Aw NO cw) rfl (by kernel_rfl) (by kernel_rfl) (by kernel_rfl) (fun _ _ _ h => h) (Or.inl ⟨by rfl, fun W hW => ?_⟩) (by assumption) ?_
    · dsimp only at hW
      have hc2 : W.cell? ⟨wa, 0, none⟩ = some (.slice Aw NO cw) := hW
      go_simp <;> rfl
    try simp only [Act.put, List.setIfInBounds_toArray, List.set_cons_zero, List.set_cons_succ]
    refine wpAnyH_ready (rs := [3]) (by kernel_rfl) (by simp) ?_
    refine heldCons (i := 3) rfl (fun Kq hKq => ?_) AllReadyH.nil
    go_simp
    go_at_call 23
    refine (HS_d.out.allB 2 rfl HLM.out).mono ?_
    rintro _ w5 ⟨A5, c5, rfl, hn5, hc5, hsq, hb5⟩
    rw [HNO.out] at hn5 hsq ⊢
    have HS5 : Hid (Sta w w5 [ilT (.slice A5 NO c5) O, rcT m L, rfT r L, rcT oo O, rfT wa O] []) := hide hsq.front
    have HCB := hide ((hb5.cell (p := ⟨wa, 0, none⟩) (show wa < z2.drew.heap.size from HWL.out)).trans HCW.out)
    have HR5 := hide ((HRW.out.below hb5).more hb5.size)
    clear hsq hb5
    first | (refine hKq.out _ _ HCB.out (fun hHeld => ?_)) | (go_wp2_with fail; refine hKq.out _ _ HCB.out (fun hHeld => ?_))
    clear hKq Kq
    try simp only [Act.put, List.setIfInBounds_toArray, List.set_cons_zero, List.set_cons_succ]
    refine wpAnyH_ready (rs := [8]) (by kernel_rfl) (by simp) ?_
    refine heldCons (i := 8) rfl (fun Kq hKq => ?_) AllReadyH.nil
    go_simp
    go_at_call 16
    refine (HS5.out.numbers_ (HS5.out.rds 0 rfl).2 HR5.out (by omega) (by omega)).mono ?_
    rintro _ w6 ⟨rfl, hsq, hb6⟩
    rw [show decide (O = O) = true from decide_eq_true rfl]
    have HS6 := hide hsq.low
    have HCB6 := hide ((hb6.cell (p := ⟨wa, 0, none⟩) (World.block_lt_of_cell? w5 _ HCB.out)).trans HCB.out)
    clear hsq hb6
    first | (refine hKq.out _ _ HCB6.out (fun hHeld => ?_)) | (go_wp2_with fail; refine hKq.out _ _ HCB6.out (fun hHeld => ?_))
    clear hKq Kq
    try simp only [Act.put, List.setIfInBounds_toArray, List.set_cons_zero, List.set_cons_succ]
    refine heldTake (i := 9) (v := ?_) rfl (by kernel_rfl) (by kernel_rfl) (by kernel_rfl) (fun _ _ _ h => h) (Or.inl ⟨by rfl, ?_⟩) (by assumption) ?_
    rotate_left
    · intro w hSw; (try dsimp only at hSw); go_simp <;> (with_reducible rfl)
    try simp only [Act.put, List.setIfInBounds_toArray, List.set_cons_zero, List.set_cons_succ]
    refine heldTake (i := 10) (v := ?_) rfl (by kernel_rfl) (by kernel_rfl) (by kernel_rfl) (fun _ _ _ h => h) (Or.inl ⟨by rfl, ?_⟩) (by assumption) ?_
    rotate_left
    · intro w hSw; (try dsimp only at hSw); go_simp <;> (with_reducible rfl)
    try simp only [Act.put, List.setIfInBounds_toArray, List.set_cons_zero, List.set_cons_succ]
    refine wpAnyH_done (by kernel_rfl) ?_ _
    go_wp2_with fail
    go_ret
    exact ⟨rfl, HS6.out⟩
#print axioms recencyPlays_walk
end Go.Proofs.Ythodmhjlokfcaaa
