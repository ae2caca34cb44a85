/- The document's bank at any disk and place, below zero too, and FailAt. -/
import Derived.Test.YtgfbndmdndpelaaRefKA
import Derived.Test.YtgfbndmdndpelaaNegP
namespace Go.Proofs.Ytgfbndmdndpelaa
open Go.RowKit
set_option linter.unusedVariables false
section
variable {w w' : World} {r : Nat} {R : RLay} {S : Bank} {G : Nat → Prop}
theorem rmay_minus (r : Nat) (w : World) {di : Int} (hd : di < 0) :
    Calls Try.prog 68 #[.pointer (some ⟨r, 0, none⟩), .int .i64 di] w fun e w' => e = .returned (.int .i64 8) ∧ w = w' := by
  have hg : decide (di < 0) = true := by simpa using hd
  go_enter Try.func68, Try.ntmps68
  go_wp2
  go_ret
  exact ⟨rfl, rfl⟩
theorem rplace_err (di ki : Int) (y : Nat) (hy : y ≠ 0) (hM : ∀ w1, Below w.heap.size w w1 → Calls Try.prog 68 #[.pointer (some ⟨r, 0, none⟩), .int .i64 di] w1 fun e w' => e = .returned (.int .i64 (y : Int)) ∧ w1 = w') :
    Calls Try.prog 49 #[.pointer (some ⟨r, 0, none⟩), .agg #[.int .i64 di, .int .i64 ki]] w fun e w' => e = .returned (.int .i64 (y : Int)) ∧ Below w.heap.size w w' := by
  have hne : ((y : Int) != 0) = true := by simp; omega
  have HM := hide hM
  clear hM
  go_enter Try.func49, Try.ntmps49
  go_wp2_with (first
    | (refine wpList_box_blk rfl 33 (.tmp 1) rfl (.agg #[.int .i64 di, .int .i64 ki]) rfl ?_; intro w1 hb1 hl1 hs1; clear hs1; have q0 : w1.cell? ⟨w.heap.size, 0, none⟩ = some (.int .i64 di) := hb1.cell 0)
    | (go_at_call 68; refine (HM.out _ hl1).mono ?_; rintro _ w2 ⟨rfl, rfl⟩))
  go_ret
  exact ⟨rfl, hl1⟩
theorem rplace_out (h : RefIn w r R S) (hok : S.Ok) {di ki : Int} {d k : Nat} (hd : Is di d) (hk : Is ki k) (hne : ¬ (di = (d : Int) ∧ ki = (k : Int))) :
    Calls Try.prog 49 #[.pointer (some ⟨r, 0, none⟩), .agg #[.int .i64 di, .int .i64 ki]] w fun e w' => e = .returned (.int .i64 (S.place d k : Int)) ∧ Below w.heap.size w w' := by
  rcases hd with rfl | ⟨hd, hd2⟩
  · have hk3 : ki < 0 ∧ 4096 ≤ k := hk.resolve_left (fun e => hne ⟨rfl, e⟩)
    by_cases hm : S.may d = 0
    · have hdn := may_zero hm
      have hz := (hok.size_le d hdn).2
      have hp3 : S.place d k = 3 := by unfold Bank.place; rw [if_pos hm, if_neg (by omega)]
      rw [hp3]
      have HM := hide (fun w1 (h1 : RefIn w1 r R S) => rmay_any h1 d)
      rw [hm] at HM
      have HB := hide h
      have hkg : decide (ki < 0) = true := by simpa using hk3.1
      clear hp3 hm h hz hne hk hk3
      go_enter Try.func49, Try.ntmps49
      go_wp2_with (first
        | (refine wpList_box_blk rfl 33 (.tmp 1) rfl (.agg #[.int .i64 (d : Int), .int .i64 ki]) rfl ?_; intro w1 hb1 hl1 hs1; clear hs1; have hB1 := HB.out.later hl1; have q0 : w1.cell? ⟨w.heap.size, 0, none⟩ = some (.int .i64 (d : Int)) := hb1.cell 0; have q1 : w1.cell? ⟨w.heap.size, 1, none⟩ = some (.int .i64 ki) := hb1.cell 1; have HB1 := hide hB1; clear hB1)
        | (go_at_call 68; refine (HM.out _ HB1.out).mono ?_; rintro _ w2 ⟨rfl, rfl⟩))
      go_quiet (fail)
      go_wp2
      go_ret
      exact ⟨rfl, below_drewN hl1 _⟩
    · have hp2 : S.place d k = S.may d := by unfold Bank.place; rw [if_neg hm]
      rw [hp2]
      exact rplace_err d ki _ hm (fun w1 hl => rmay_any (h.later hl) d)
  · have h8 := may_out hok hd2
    have hp2 : S.place d k = 8 := by unfold Bank.place; rw [if_neg (by omega), h8]
    rw [hp2]
    exact rplace_err di ki 8 (by decide) (fun w1 _ => rmay_minus r w1 hd)
set_option maxRecDepth 100000 in
set_option maxHeartbeats 1000000 in
theorem rread_out (h : RefIn w r R S) (hok : S.Ok) {di ki : Int} {d k : Nat} (hd : Is di d) (hk : Is ki k) (hbad : ¬ (di = (d : Int) ∧ ki = (k : Int))) :
    Calls Try.prog 18 #[.pointer (some ⟨r, 0, none⟩), .agg #[.int .i64 di, .int .i64 ki]] w fun e w' => e = .returned (readV S d k) ∧ Below w.heap.size w w' := by
  have HP := hide (fun w1 (h1 : RefIn w1 r R S) => rplace_out h1 hok hd hk hbad)
  have hp := place_out hok hd hk hbad
  have HB := hide h
  clear h
  unfold readV
  rw [if_neg hp]
  obtain ⟨U, hU⟩ : ∃ U, U = secL zeroSec := ⟨_, rfl⟩
  have hUl : U.length = 64 := by rw [hU, secL_length]
  have hUo : ∀ v ∈ U, v.oneCell' = true := by rw [hU]; exact secL_one _
  have hiU : (Try.prog.info? 43).map (·.size) = some U.length := by rw [hUl]; exact sec_info
  rw [show secV zeroSec = .agg U.toArray by rw [hU]; rfl]
  have HUl := hide hUl
  have HUO := hide hUo
  have HIU := hide hiU
  have hne : ((S.place d k : Int) != 0) = true := by simp; omega
  have HBZ := hide (show Try.prog.built 43 [] = some U.toArray by rw [hU]; exact sec_none)
  clear hp hU hUl hUo hiU hd hk hbad hok
  go_enter Try.func18, Try.ntmps18
  go_wp2_with (first
    | (refine wpList_box_blk rfl 33 (.tmp 1) rfl (.agg #[.int .i64 di, .int .i64 ki]) rfl ?_; intro w1 hb1q hl1 hs1; clear hs1; have hb1 : Blk w1 w.heap.size 33 [.int .i64 di, .int .i64 ki].toArray := hb1q; clear hb1q)
    | (refine wpList_alloc_blk rfl 43 rfl _ (sec_zero w1) ?_; intro w2 hb2 hl2 hs2; clear hs2; have hz1 := hb1.lt; have hb12 := hb1.below hl2 hz1)
    | (refine wpList_load_blk rfl 33 (.tmp 3) rfl w.heap.size 0 33 _ hb12 rfl [.int .i64 di, .int .i64 ki] _ (fun j v hj => by rw [Nat.zero_add]; simpa using hj) Try.underlying33 rfl rplace_info ?_)
    | (go_at_call 49; refine (HP.out w2 (HB.out.later (hl1.trans (hl2.mono hl1.size)))).mono ?_; rintro _ w3 ⟨rfl, hl3⟩; have hz2 := hb2.lt; have hl03 : Below w.heap.size w w3 := (hl1.trans (hl2.mono hl1.size)).trans (hl3.mono (by omega)); have hb23 := hb2.below hl3 hz2)
    | (refine wpList_build_is rfl 43 #[] rfl [] (by simp) U.toArray HBZ.out ?_)
    | (refine wpList_store_all rfl 43 (.tmp 4) (.tmp 12) rfl w1.heap.size 43 _ hb23 rfl U rfl HIU.out (HUl.out.trans (secL_length zeroSec).symm) HUO.out ?_; intro w4 hb4 hg4 hs4; clear hs4))
  exact ret_cell_tmp rfl w1.heap.size 43 U _ hb4 rfl Try.underlying43 rfl HIU.out (.int .i64 (S.place d k : Int)) rfl rfl ⟨rfl, hl03.grown hg4 hl03.size (fun g e => by injection e with e; omega)⟩
end

section
variable {w w' : World} {r : Nat} {R : RLay} {S : Bank} {G : Nat → Prop}
set_option maxRecDepth 100000 in
set_option maxHeartbeats 8000000 in
theorem rwrite_out (h : RefOn w r G S) (hw62 : S.writes < 4611686018427387904) {di ki : Int} {d k : Nat} (hdi : Is di d) (hki : Is ki k) (hbad : ¬ (di = (d : Int) ∧ ki = (k : Int))) (s : Sec) :
    Calls Try.prog 40 #[.pointer (some ⟨r, 0, none⟩), .agg #[.int .i64 di, .int .i64 ki], secV s] w fun e w' => e = .returned (.int .i64 ((S.write d k s).1 : Int)) ∧ RefOn w' r (More G w w') (S.write d k s).2 ∧ Turn G w w' := by
  obtain ⟨h1, h2, R, h3, h4⟩ := h
  obtain ⟨U, hU⟩ : ∃ U, U = secL s := ⟨_, rfl⟩
  have hUl : U.length = 64 := by rw [hU, secL_length]
  have hUo : ∀ v ∈ U, v.oneCell' = true := by rw [hU]; exact secL_one _
  have hiU : (Try.prog.info? 43).map (·.size) = some U.length := by rw [hUl]; exact sec_info
  have hs : secV s = .agg U.toArray := by rw [hU]; rfl
  rw [hs]
  have HUl := hide hUl
  have HUO := hide hUo
  have HIU := hide hiU
  have HU := hide hU
  have HB := hide h3
  have HOK := hide h2
  have HG := hide h4
  have HL := hide h1
  clear hUl hUo hiU hs hU h1 h2 h3 h4
  cases hdn : S.down with
  | true =>
    obtain ⟨e1, e2⟩ := write_down (S := S) (d := d) (k := k) (s := s) hdn
    have HE := hide e1
    have hne : ((S.place d k : Int) != 0) = true := by simp; omega
    have HDN := hide hdn
    clear e1 e2 hdn
    go_enter Try.func40, Try.ntmps40
    go_wp2_with (first
      | (refine wpList_box_blk rfl 33 (.tmp 1) rfl (.agg #[.int .i64 di, .int .i64 ki]) rfl ?_; intro w1 hb1q hl1 hs1; clear hs1; have hb1 : Blk w1 w.heap.size 33 ([.int .i64 di, .int .i64 ki]).toArray := hb1q; clear hb1q)
      | (refine wpList_box_blk rfl 43 (.tmp 2) rfl (.agg U.toArray) rfl ?_; intro w2 hb2q hl2 hs2; clear hs2; have hb2 : Blk w2 w1.heap.size 43 U.toArray := hb2q; clear hb2q; have hz1 := hb1.lt; have hz2 := hb2.lt; have hl02 : Below w.heap.size w w2 := hl1.trans (hl2.mono (by omega)); have hb12 := hb1.below hl2 hz1; have hgo : RefGo w2 w2 r G S := ⟨HOK.out, ⟨R, HB.out.later hl02, fun x hx => .inl (HG.out x hx)⟩, Turn.refl _ _⟩; have hI2 := HB.out.later hl02; have x2 := hI2.c2; rw [HDN.out] at x2; have HGO := hide hgo; have HX := hide hb12; have HL02 := hide hl02; have hP := hide (rplace_out hI2 HOK.out hdi hki hbad); clear hgo hb12 hl02 hb1 hb2 hl1 hl2 hI2)
      | (refine wpList_load_blk rfl 33 (.tmp 4) rfl w.heap.size 0 33 _ HX.out rfl ([.int .i64 di, .int .i64 ki]) _ (fun j v hj => by rw [Nat.zero_add]; simpa using hj) Try.underlying33 rfl rplace_info ?_)
      | (go_at_call 49; refine hP.out.mono ?_; rintro _ w3 ⟨rfl, hl3⟩))
    go_ret
    rw [HE.out]
    have hf := (HGO.out.later hl3).fin HL02.out HL.out
    exact ⟨rfl, hf.1, hf.2⟩
  | false =>
    have hcn : S.writes + 1 < 9223372036854775808 := by omega
    have hn32 := HOK.out.n_le
    have HDN := hide hdn
    obtain ⟨W0, hW0⟩ : ∃ T, T = S.wrote := ⟨_, rfl⟩
    have HW0 := hide hW0
    have hnW : W0.n = S.n := by rw [hW0]; rfl
    have hok0 : W0.Ok := by rw [hW0]; exact HOK.out.wrote
    have HOK0 := hide hok0
    clear hdn hW0 hok0
    go_enter Try.func40, Try.ntmps40
    go_wp2_with (first
      | (refine wpList_box_blk rfl 33 (.tmp 1) rfl (.agg #[.int .i64 di, .int .i64 ki]) rfl ?_; intro w1 hb1q hl1 hs1; clear hs1; have hb1 : Blk w1 w.heap.size 33 ([.int .i64 di, .int .i64 ki]).toArray := hb1q; clear hb1q)
      | (refine wpList_box_blk rfl 43 (.tmp 2) rfl (.agg U.toArray) rfl ?_; intro w2 hb2q hl2 hs2; clear hs2; have hb2 : Blk w2 w1.heap.size 43 U.toArray := hb2q; clear hb2q; have hz1 := hb1.lt; have hz2 := hb2.lt; have hl02 : Below w.heap.size w w2 := hl1.trans (hl2.mono (by omega)); have hb12 := hb1.below hl2 hz1; have hgo : RefGo w2 w2 r G S := ⟨HOK.out, ⟨R, HB.out.later hl02, fun x hx => .inl (HG.out x hx)⟩, Turn.refl _ _⟩; have hI2 := HB.out.later hl02; have x2 := hI2.c2; rw [HDN.out] at x2; have x3 := hI2.c3; have fx3 := hI2.head.frozen 3; have HGO := hide hgo; have HI2 := hide hI2; have HX := hide hb12; have HY := hide hb2; have HL02 := hide hl02; clear hgo hb12 hl02 hb1 hb2 hl1 hl2 hI2))
    have hrG := HG.out r (.inl rfl)
    have hrlt := HL.out r hrG
    have hg0 : RefGo w2 (w2.setCell ⟨r, 3, none⟩ (.int .i64 ((S.writes : Int) + 1))) r G W0 := by
      refine ⟨HOK0.out, ⟨R, ?_, fun x hx => .inl (HG.out x ?_)⟩, (Turn.refl _ _).set ⟨r, 3, none⟩ (.inl hrG) _⟩
      · rw [HW0.out]
        exact HI2.out.head_set (w' := w2.setCell ⟨r, 3, none⟩ (.int .i64 ((S.writes : Int) + 1))) S.down (S.writes + 1) S.armed S.mask (HI2.out.head.set_ 3 _) (fun x hx => Below.heap_setCell _ _ _ x hx)
      · rw [HW0.out] at hx
        exact hx
    have HG0 := hide hg0
    have hzz2 := HY.out.lt
    have hxx2 := HX.out.lt
    clear hg0 x2 x3 fx3 HI2 HB HG
    go_loopw [7] (fun s7 wr => ∃ j : Nat, s7 = .int .i64 (j : Int) ∧ j ≤ S.n ∧ Hid (RefGo w2 wr r G (W0.tick j))) (fun s7 _ => S.n - (intOf s7).toNat)
    case atStart => exact ⟨0, rfl, Nat.zero_le _, HG0⟩
    case round =>
      obtain ⟨j, rfl, hj, hgo⟩ := hrel
      obtain ⟨wo, rfl⟩ : ∃ wo, wo = wr := ⟨_, rfl⟩
      obtain ⟨hok1, ⟨R1, hI1, hF1⟩, hT1⟩ := hgo.out
      obtain ⟨k1, k2, k3, k4, k5, k6⟩ := tick_keeps W0 j
      have hnj : (W0.tick j).n = S.n := k1.trans hnW
      have c0 := hI1.c0
      rw [hnj] at c0
      by_cases hjn : j < S.n
      · have hg1 : (j : Int) < (S.n : Int) := by omega
        have hjT : j < (W0.tick j).n := by omega
        rw [R1.ad_pos hjn] at c0
        have p0 := hI1.p hjT
        have d3 := hI1.d3 hjT
        have fd3 := (hI1.disk j hjT).frozen 3
        have hfl := hok1.fail_le j
        have HOK1 := hide hok1
        have HI1 := hide hI1
        have HF1 := hide hF1
        clear hok1 hI1 hF1 k1 k2 k3 k4 k5 k6
        obtain ⟨f, hf⟩ : ∃ f, f = (W0.tick j).failAt j := ⟨_, rfl⟩
        rw [← hf] at d3 hfl
        by_cases h0 : f = 0
        · have HT := hide (tick_zero W0 j (by rw [← hf]; exact h0))
          subst h0
          clear hf
          go_wp2_with fail
          go_roundw
          case rel => exact ⟨j + 1, by go_num, by omega, by rw [HT.out]; exact hgo⟩
          case measure => simp [intOf]; omega
        · have hf0 : (0 : Int) < (f : Int) := by omega
          have hsub : (f : Int) - 1 = ((f - 1 : Nat) : Int) := by omega
          have hset : ∀ v : Int, v = (f : Int) - 1 → ∀ w4, w4 = wo.setCell ⟨R1.dk j, 3, none⟩ (.int .i64 v) → RefGo w2 w4 r G { W0.tick j with failAt := upd (W0.tick j).failAt j ((W0.tick j).failAt j - 1) } ∧ w4.cell? ⟨r, 0, none⟩ = some (.slice (some ⟨R1.mb, 0, none⟩) S.n R1.cap) ∧ w4.cell? ⟨R1.mb, j, none⟩ = some (.pointer (some ⟨R1.dk j, 0, none⟩)) ∧ w4.cell? ⟨R1.dk j, 3, none⟩ = some (.int .i64 v) := by
            rintro v hv w4 rfl
            have hv2 : v = ((f - 1 : Nat) : Int) := by omega
            have hI4 : RefIn (wo.setCell ⟨R1.dk j, 3, none⟩ (.int .i64 v)) r R1 { W0.tick j with failAt := upd (W0.tick j).failAt j ((W0.tick j).failAt j - 1) } := by
              have h := HI1.out.disk_set (w' := wo.setCell ⟨R1.dk j, 3, none⟩ (.int .i64 v)) hjT ((W0.tick j).dead j) ((W0.tick j).failAt j - 1) (by rw [← hf, ← hv2]; exact (HI1.out.disk j hjT).set_ 3 _) (fun x hx => Below.heap_setCell _ _ _ x hx)
              rw [upd_same] at h
              exact h
            have c04 := hI4.c0
            have hn4 : ({ W0.tick j with failAt := upd (W0.tick j).failAt j ((W0.tick j).failAt j - 1) } : Bank).n = S.n := hnj
            rw [hn4, R1.ad_pos hjn] at c04
            refine ⟨⟨HOK1.out.setFail j (by rw [← hf]; omega), ⟨R1, hI4, HF1.out⟩, (hgo.out.2.2).set ⟨R1.dk j, 3, none⟩ ?_ _⟩, c04, hI4.p hjT, ?_⟩
            · exact HF1.out _ (.inr (.inr (.inr ⟨j, hjT, .inl rfl⟩)))
            · have h := hI4.d3 hjT
              have e : ({ W0.tick j with failAt := upd (W0.tick j).failAt j ((W0.tick j).failAt j - 1) } : Bank).failAt j = f - 1 := by show upd (W0.tick j).failAt j ((W0.tick j).failAt j - 1) j = _; rw [upd_self, hf]
              rw [e, ← hv2] at h
              exact h
          have HSET := hide hset
          clear hset
          by_cases h1 : f = 1
          · have HT := hide (tick_one W0 j (by rw [← hf]; exact h1))
            have HNJ := hide hnj
            obtain ⟨hg4, c04, p04, d34⟩ := HSET.out 0 (by omega) _ rfl
            have HG4 := hide hg4
            subst h1
            clear hf hg4 hsub
            have hd1 : wo.cell? ⟨R1.dk j, 3, none⟩ = some (.int .i64 1) := d3
            clear d3
            go_wp2_with fail
            have hfl := rOn_fail (HG4.out.on (fun x hx => by have := HL.out x hx; omega)) j (by show j < (W0.tick j).n; omega)
            refine hfl.mono ?_
            rintro _ w5 ⟨rfl, hB5, hT5⟩
            have HG5 := hide (HG4.out.step hB5 hT5)
            clear hB5 hT5 c04 p04 d34 hd1
            go_wp2_with fail
            go_roundw
            case rel => exact ⟨j + 1, by go_num, by omega, by rw [HT.out]; exact HG5⟩
            case measure => simp [intOf]; omega
          · have HT := hide (tick_more W0 j (by rw [← hf]; exact h0) (by rw [← hf]; exact h1))
            obtain ⟨hg4, c04, p04, d34⟩ := HSET.out ((f : Int) - 1) rfl _ rfl
            have HG4 := hide hg4
            have hne1 : ¬ ((f : Int) - 1 = 0) := by omega
            clear hf hg4 hsub h1
            go_wp2_with fail
            go_roundw
            case rel => exact ⟨j + 1, by go_num, by omega, by rw [HT.out]; exact HG4⟩
            case measure => simp [intOf]; omega
      · obtain rfl : j = S.n := by omega
        have hnl : ¬ ((S.n : Int) < (S.n : Int)) := by omega
        obtain ⟨T, hT⟩ : ∃ T, T = W0.tick S.n := ⟨_, rfl⟩
        rw [← hT] at hgo hI1 hF1 hok1
        have HGT := hide hgo.out
        have HTK := hide (show S.ticked = T by rw [hT, HW0.out]; rfl)
        have c4 := hI1.c4
        have f4 := hI1.head.frozen 4
        have HI1 := hide hI1
        have HF1 := hide hF1
        have HOT := hide hok1
        have hal := HOT.out.armed_le
        clear hgo hI1 hF1 hok1 hT k1 k2 k3 k4 k5 k6 hnj hT1
        by_cases ha0 : T.armed = 0
        · have HE := hide (show S.write d k s = if T.place d k = 0 then (0, T.put d k s) else (T.place d k, T) from write_up (by
            unfold Bank.count
            rw [if_neg (by rw [HDN.out]; decide), HTK.out]
            simp only
            rw [if_pos ha0]))
          rw [ha0] at c4
          clear ha0
          obtain ⟨okV, ⟨R5, hI5, hF5⟩, hT5⟩ := HGT.out
          have HX5 := hide (HX.out.turned hT5 (fun hf => by have := HL.out _ hf; omega))
          have HY5 := hide (HY.out.turned hT5 (fun hf => by have := HL.out _ hf; omega))
          have hsz5 := hT5.size
          have hP := hide (rplace_out hI5 okV hdi hki hbad)
          have HI5 := hide hI5
          have HF5 := hide hF5
          have HT5 := hide hT5
          have HOV := hide okV
          clear hI5 hF5 hT5 okV
          have hp := place_out HOV.out hdi hki hbad
          · have HE2 := hide (show S.write d k s = (T.place d k, T) by rw [HE.out, if_neg hp])
            have hne : ((T.place d k : Int) != 0) = true := by simp; omega
            clear hp
            go_wp2_with (first
              | (refine wpList_load_blk rfl 33 (.tmp 4) rfl w.heap.size 0 33 _ HX5.out rfl ([.int .i64 di, .int .i64 ki]) _ (fun j v hj => by rw [Nat.zero_add]; simpa using hj) Try.underlying33 rfl rplace_info ?_)
              | (go_at_call 49; refine hP.out.mono ?_; rintro _ w6 ⟨rfl, hl6⟩))
            go_ret
            have hfin := (HGT.out.later hl6).fin HL02.out HL.out
            rw [HE2.out]
            exact ⟨rfl, hfin.1, hfin.2⟩
        · obtain ⟨V, hV⟩ : ∃ V : Bank, V = { T with armed := T.armed - 1 } := ⟨_, rfl⟩
          have hset : ∀ v : Int, v = (T.armed : Int) - 1 → ∀ w4, w4 = wo.setCell ⟨r, 4, none⟩ (.int .i64 v) → RefGo w2 w4 r G V ∧ w4.cell? ⟨r, 4, none⟩ = some (.int .i64 v) ∧ w4.cell? ⟨r, 5, none⟩ = some (.int .u64 (T.mask : Int)) := by
            rintro v hv w4 rfl
            have hv2 : v = ((T.armed - 1 : Nat) : Int) := by omega
            have hI4 : RefIn (wo.setCell ⟨r, 4, none⟩ (.int .i64 v)) r R1 V := by
              rw [hV]
              exact HI1.out.head_set (w' := wo.setCell ⟨r, 4, none⟩ (.int .i64 v)) T.down T.writes (T.armed - 1) T.mask (by rw [← hv2]; exact HI1.out.head.set_ 4 _) (fun x hx => Below.heap_setCell _ _ _ x hx)
            have h4 := hI4.c4
            have h5 := hI4.c5
            rw [show V.armed = T.armed - 1 by rw [hV], ← hv2] at h4
            rw [show V.mask = T.mask by rw [hV]] at h5
            refine ⟨⟨by rw [hV]; exact HOT.out.setArmed (by omega), ⟨R1, hI4, fun x hx => HF1.out x (by rw [hV] at hx; exact hx)⟩, (HGT.out.2.2).set ⟨r, 4, none⟩ (.inl hrG) _⟩, h4, h5⟩
          have HSET := hide hset
          have ha1 : (0 : Int) < (T.armed : Int) := by omega
          clear hset
          by_cases h1 : T.armed = 1
          · have HE := hide (show S.write d k s = (6, V.crash T.mask) by
              have hc : S.count = (true, V.crash T.mask) := by
                unfold Bank.count
                rw [if_neg (by rw [HDN.out]; decide), HTK.out]
                simp only
                rw [if_neg ha0, if_pos h1, ← hV]
              unfold Bank.write
              rw [hc]
              rfl)
            obtain ⟨hg4, c44, c45⟩ := HSET.out 0 (by omega) _ rfl
            have HG4 := hide hg4
            have HML := hide (HOT.out.mask_le)
            rw [h1] at c4 ha1
            clear ha0 h1 hg4
            go_wp2_with fail
            refine (rOn_crash (HG4.out.on (fun x hx => by have := HL.out x hx; omega)) T.mask HML.out).mono ?_
            rintro _ w5 ⟨rfl, hB5, hT5⟩
            have HG5 := hide (HG4.out.step hB5 hT5)
            clear hB5 hT5 c44 c45
            go_wp2_with fail
            go_ret
            rw [HE.out]
            have hf := HG5.out.fin HL02.out HL.out
            exact ⟨rfl, hf.1, hf.2⟩
          · have HE := hide (show S.write d k s = if V.place d k = 0 then (0, V.put d k s) else (V.place d k, V) from write_up (by
              unfold Bank.count
              rw [if_neg (by rw [HDN.out]; decide), HTK.out]
              simp only
              rw [if_neg ha0, if_neg h1, ← hV]))
            have HV := hide hV
            obtain ⟨hg4, c44, c45⟩ := HSET.out ((T.armed : Int) - 1) rfl _ rfl
            have HG4 := hide hg4
            clear hV
            have hne1 : ¬ ((T.armed : Int) - 1 = 0) := by omega
            clear ha0 h1 hg4 c45
            obtain ⟨okV, ⟨R5, hI5, hF5⟩, hT5⟩ := HG4.out
            have HX5 := hide (HX.out.turned hT5 (fun hf => by have := HL.out _ hf; omega))
            have HY5 := hide (HY.out.turned hT5 (fun hf => by have := HL.out _ hf; omega))
            have hsz5 := hT5.size
            have hP := hide (rplace_out hI5 okV hdi hki hbad)
            have HI5 := hide hI5
            have HF5 := hide hF5
            have HT5 := hide hT5
            have HOV := hide okV
            clear hI5 hF5 hT5 okV
            have hp := place_out HOV.out hdi hki hbad
            · have HE2 := hide (show S.write d k s = (V.place d k, V) by rw [HE.out, if_neg hp])
              have hne : ((V.place d k : Int) != 0) = true := by simp; omega
              clear hp
              go_wp2_with (first
                | (refine wpList_load_blk rfl 33 (.tmp 4) rfl w.heap.size 0 33 _ HX5.out rfl ([.int .i64 di, .int .i64 ki]) _ (fun j v hj => by rw [Nat.zero_add]; simpa using hj) Try.underlying33 rfl rplace_info ?_)
                | (go_at_call 49; refine hP.out.mono ?_; rintro _ w6 ⟨rfl, hl6⟩))
              go_ret
              have hfin := (HG4.out.later hl6).fin HL02.out HL.out
              rw [HE2.out]
              exact ⟨rfl, hfin.1, hfin.2⟩
end
section
variable {w w' : World} {r : Nat} {R : RLay} {S : Bank} {G : Nat → Prop}
theorem RefOn.more_self (h : RefOn w r G S) (hT : Turn G w w') (h' : RefIn w' r R S) : True := trivial
theorem rOnI_read (h : RefOn w r G S) (di ki : Int) :
    Calls Try.prog 18 #[.pointer (some ⟨r, 0, none⟩), .agg #[.int .i64 di, .int .i64 ki]] w fun e w' => e = .returned (readV S (nI di) (nI ki)) ∧ Below w.heap.size w w' := by
  obtain ⟨_, h2, R, h3, _⟩ := h
  by_cases hb : di = (nI di : Int) ∧ ki = (nI ki : Int)
  · have := rread_any h3 (nI di) (nI ki)
    rwa [← hb.1, ← hb.2] at this
  · exact rread_out h3 h2 (is_nI di) (is_nI ki) hb
theorem rOnI_write (h : RefOn w r G S) (hw : S.writes < 4611686018427387904) (di ki : Int) (s : Sec) :
    Calls Try.prog 40 #[.pointer (some ⟨r, 0, none⟩), .agg #[.int .i64 di, .int .i64 ki], secV s] w fun e w' => e = .returned (.int .i64 ((S.write (nI di) (nI ki) s).1 : Int)) ∧ RefOn w' r (More G w w') (S.write (nI di) (nI ki) s).2 ∧ Turn G w w' := by
  by_cases hb : di = (nI di : Int) ∧ ki = (nI ki : Int)
  · have := rOn_write h hw (nI di) (nI ki) s
    rwa [← hb.1, ← hb.2] at this
  · exact rwrite_out h hw (is_nI di) (is_nI ki) hb s
theorem RefOn.same (h : RefOn w r G S) (hb : Below w.heap.size w w') : RefOn w' r (More G w w') S :=
  (h.later hb).wider (fun x hx => .inl hx) (fun x hx => hx.elim (fun q => Nat.lt_of_lt_of_le (h.1 x q) hb.size) (fun q => q.2))
theorem rOnI_flush (h : RefOn w r G S) (di : Int) :
    Calls Try.prog 46 #[.pointer (some ⟨r, 0, none⟩), .int .i64 di] w fun e w' => e = .returned (.int .i64 (S.may (nI di) : Int)) ∧ RefOn w' r (More G w w') (if S.may (nI di) = 0 then S.flush (nI di) else S) ∧ Turn G w w' := by
  by_cases hd : di < 0
  · have h8 := may_out h.ok (d := nI di) (by rw [nI_neg hd]; decide)
    rw [h8, if_neg (by decide)]
    have HW := hide (fun w => rmay_minus r w hd)
    have HB := hide h
    clear h h8 hd
    go_enter Try.func46, Try.ntmps46
    go_wp2_with (first | (go_at_call 68; refine (HW.out _).mono ?_; rintro _ _ ⟨rfl, rfl⟩))
    go_ret
    exact ⟨rfl, HB.out.same (Below.refl _ _), Turn.refl _ _⟩
  · have := rOn_flush h (nI di)
    rwa [nI_pos (by omega)] at this
theorem rfail_out (h : RefIn w r R S) {di : Int} (hd : ¬ (0 ≤ di ∧ di < S.n)) :
    Calls Try.prog 41 #[.pointer (some ⟨r, 0, none⟩), .int .i64 di] w fun e w' => e = .returned (.int .i64 8) ∧ ∃ k, w' = w.drewN k := by
  have c0 := h.c0
  by_cases hn : di < 0
  · have hg : decide (di < 0) = true := by simpa using hn
    clear h hd
    go_enter Try.func41, Try.ntmps41
    go_wp2_with fail
    go_ret
    exact ⟨rfl, 0, rfl⟩
  · have hg : decide (di < 0) = false := by simpa using hn
    have hg2 : decide ((S.n : Int) ≤ di) = true := by
      have : (S.n : Int) ≤ di := by omega
      simpa using this
    clear h hd hn
    go_enter Try.func41, Try.ntmps41
    go_wp2_with fail
    go_ret
    exact ⟨rfl, 0, rfl⟩
theorem rOnI_fail (h : RefOn w r G S) (di : Int) :
    Calls Try.prog 41 #[.pointer (some ⟨r, 0, none⟩), .int .i64 di] w fun e w' => e = .returned (.int .i64 ((if nI di < S.n then 0 else 8 : Nat) : Int)) ∧ RefOn w' r (More G w w') (S.failI (nI di)) ∧ Turn G w w' := by
  unfold Bank.failI
  have hn := h.ok.n_le
  by_cases hd : nI di < S.n
  · rw [if_pos hd, if_pos hd]
    have h0 := ((nI_lt (by omega)).1 hd).1
    have := rOn_fail h (nI di) hd
    rwa [nI_pos h0] at this
  · rw [if_neg hd, if_neg hd]
    have hq : ¬ (0 ≤ di ∧ di < S.n) := fun e => hd ((nI_lt (by omega)).2 e)
    have hB := h
    obtain ⟨h1, h2, R, h3, h4⟩ := h
    refine (rfail_out h3 hq).mono ?_
    rintro _ _ ⟨rfl, k, rfl⟩
    have hl : Below w.heap.size w (w.drewN k) := below_drewN (Below.refl _ _) k
    exact ⟨rfl, hB.same hl, Turn.of_below hl⟩
set_option maxRecDepth 100000 in
theorem rOnI_failAt (h : RefOn w r G S) (di n : Int) (a : Nat) (ha : (a : Int) = if 0 < n then n else 0) (ha2 : a < 9223372036854775808) :
    Calls Try.prog 42 #[.pointer (some ⟨r, 0, none⟩), .int .i64 di, .int .i64 n] w fun e w' => e = .returned (.tuple #[]) ∧ RefOn w' r (More G w w') (S.willI (nI di) a) ∧ Turn G w w' := by
  unfold Bank.willI
  have hn32 := h.ok.n_le
  have hmx : max n 0 = (a : Int) := by rw [ha]; split <;> omega
  by_cases hd : nI di < S.n
  · rw [if_pos hd]
    obtain ⟨h0, hlt⟩ := (nI_lt (by omega)).1 hd
    obtain ⟨d, rfl⟩ : ∃ d : Nat, di = (d : Int) := ⟨di.toNat, by omega⟩
    rw [nI_nat] at hd ⊢
    have hB := hide h
    obtain ⟨h1, h2, R, h3, h4⟩ := h
    have c0 := h3.c0
    rw [R.ad_pos hd] at c0
    have p0 := h3.p hd
    have d3 := h3.d3 hd
    have g3 := (h3.disk d hd).frozen 3
    have hfin : ∀ w1, w1 = w.setCell ⟨R.dk d, 3, none⟩ (.int .i64 (a : Int)) → RefOn w1 r (More G w w1) (S.willFail d a) ∧ Turn G w w1 := by
      rintro w1 rfl
      have hT : Turn G w (w.setCell ⟨R.dk d, 3, none⟩ (.int .i64 (a : Int))) := (Turn.refl _ _).set ⟨R.dk d, 3, none⟩ (.inl (h4 _ (.inr (.inr (.inr ⟨d, hd, .inl rfl⟩))))) _
      have hz : (w.setCell ⟨R.dk d, 3, none⟩ (.int .i64 (a : Int))).heap.size = w.heap.size := by simp [World.setCell]
      have hI := h3.disk_set (w' := w.setCell ⟨R.dk d, 3, none⟩ (.int .i64 (a : Int))) hd (S.dead d) a ((h3.disk d hd).set_ 3 _) (fun x hx => Below.heap_setCell _ _ _ x hx)
      rw [upd_same] at hI
      exact ⟨⟨fun x hx => hx.elim (fun q => by rw [hz]; exact h1 x q) (fun q => q.2), h2.setFail d ha2, R, hI, fun x hx => .inl (h4 x hx)⟩, hT⟩
    have HFIN := hide hfin
    clear hfin h1 h2 h3 h4 ha
    go_enter Try.func42, Try.ntmps42
    go_wp2_with fail
    go_end0
    exact ⟨rfl, HFIN.out _ (by first | rfl | rw [hmx])⟩
  · rw [if_neg hd]
    have hq : ¬ (0 ≤ di ∧ di < S.n) := fun e => hd ((nI_lt (by omega)).2 e)
    have hB := hide h
    obtain ⟨h1, h2, R, h3, h4⟩ := h
    have c0 := h3.c0
    clear h1 h2 h3 h4 hd ha
    by_cases hn : 0 ≤ di
    · have hge : ¬ (di < (S.n : Int)) := fun e => hq ⟨hn, e⟩
      go_enter Try.func42, Try.ntmps42
      go_wp2_with fail
      go_end0
      exact ⟨rfl, hB.out.same (Below.refl _ _), Turn.refl _ _⟩
    · go_enter Try.func42, Try.ntmps42
      go_wp2_with fail
      go_end0
      exact ⟨rfl, hB.out.same (Below.refl _ _), Turn.refl _ _⟩
end
#print axioms rwrite_out
#print axioms rOnI_failAt
end Go.Proofs.Ytgfbndmdndpelaa
