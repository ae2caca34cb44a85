/- What byPlaces and Set of vmap do. -/
import Derived.Test.YtfjgpnjhmfcpiaaVmC
namespace Go.Proofs.Ytfjgpnjhmfcpiaa
open Go.RowKit Go.Maps
set_option linter.unusedVariables false
theorem dis_mem {V : List Wh} {k : Nat} {q : Wh} (hq : V[k]? = some q) (ht : q.t ≠ 0) (hm : q ∈ V.take k) : ¬ Dis V := fun h => by
  have h2 := h.take (k + 1)
  rw [take_snoc hq, dis_snoc] at h2
  rcases h2.2 with h3 | h3
  · exact ht h3
  · exact h3 hm
theorem dis_next {V : List Wh} {k : Nat} {q : Wh} (h : Dis (V.take k)) (hq : V[k]? = some q) (h2 : q.t = 0 ∨ q ∉ V.take k) : Dis (V.take (k + 1)) := by
  rw [take_snoc hq, dis_snoc]
  exact ⟨h, h2⟩
def BpPost (w : World) (V : List Wh) (e : Ending) (w' : World) : Prop := ∃ v, e = .returned (.tuple #[v, .bool (decide (Dis V))]) ∧ (Dis V → ∃ y, v = .map (some y) ∧ MapIs whKey w' y (hF V) ∧ w.heap.size ≤ y) ∧ Below w.heap.size w w'
section
variable {w w' : World} {p n c : Nat} {V : List Wh}
set_option maxRecDepth 100000 in
set_option maxHeartbeats 1000000 in
theorem byPlaces_any (hr : Reads w w.heap.size 3 (some ⟨p, 0, none⟩) n (whsL V)) (hn : V.length = n) (hf : n ≤ 96) (hok : ∀ q ∈ V, okWh q) : Calls Try.prog 27 #[.slice (some ⟨p, 0, none⟩) n c] w (BpPost w V) := by
  have HR := hide hr
  have HN := hide hn
  have HOK := hide hok
  clear hr hn hok
  go_enter Try.func27, Try.ntmps27
  go_wp2_with (first
    | ((with_reducible refine at_slot 9 ?_); refine wpList_makeMapW rfl 54 rfl ?_; intro w0 hm0 hl0 hs0; have hq0 : w.heap.size < w0.heap.size := (by omega); clear hs0))
  have HM0 : Hid (MapIs whKey w0 w.heap.size (hF (V.take 0))) := hide (by rw [List.take_zero, hF_nil]; exact hm0)
  clear hm0
  go_loopw [5, 6, 7, 8, 12] (fun _ _ _ _ i wr => ∃ k : Nat, k ≤ n ∧ i = .int .i64 (k : Int) ∧ Hid (MapIs whKey wr w.heap.size (hF (V.take k))) ∧ Hid (Dis (V.take k)) ∧ Hid (Below w.heap.size w wr)) (fun _ _ _ _ i _ => n - (intOf i).toNat)
  case atStart => exact ⟨0, Nat.zero_le _, rfl, HM0, hide (by rw [List.take_zero]; exact List.Pairwise.nil), hide hl0⟩
  case round =>
    obtain ⟨k, hk, rfl, HM, HD, HB⟩ := hrel
    by_cases hkn : k < n
    · obtain ⟨q, hq⟩ : ∃ q, V[k]? = some q := ⟨_, List.getElem?_eq_getElem (by rw [HN.out]; exact hkn)⟩
      obtain ⟨ad, hA, _, hcell, _, _⟩ := wh_at (HR.out.below HB.out) hq
      injection hA with hA
      subst hA
      rw [add0] at hcell
      have HCL := hide hcell
      have HQ := hide hq
      have HKO := hide (HOK.out q (List.mem_of_getElem? hq))
      have hkk : (k : Int) < (n : Int) := by omega
      have HLK := hide (show (V.take k).length = k by rw [List.length_take, HN.out]; omega)
      have hmlt := HM.out.lt
      clear hcell hq
      by_cases ht : q.t = 0
      · have hne : (q.t == 0) = true := by simpa using ht
        have HS := hide (hF_skip (V := V.take k) ht)
        have HD2 := hide (dis_next HD.out HQ.out (.inl ht))
        clear ht
        go_wp2_with (first
          | ((with_reducible refine at_slot 16 ?_); refine when_loadW rfl (.tmp 15) rfl _ q HCL.out rfl ?_)
          | ((with_reducible refine at_slot 6 ?_); refine wpList_alloc_blk rfl 24 rfl _ (wh_zero _) ?_; intro w1 hb1 hl1 hs1; clear hs1)
          | ((with_reducible refine at_store 6 ?_); refine wpList_store_all rfl 24 (.tmp 6) (.tmp 16) rfl wr.heap.size 24 _ hb1 rfl (whC q) rfl (wh_info q) rfl (wh_one q) ?_; intro w2 hb2 hg2 hs2; clear hs2; have q0 : w2.cell? ⟨wr.heap.size, 0, none⟩ = some (.int .i64 q.t) := hb2.cell 0; have hl2 : Below wr.heap.size wr w2 := hl1.grown hg2 hl1.size (fun g e => by injection e with e; omega); have HM2 := hide (HM.out.below hl2 hmlt); have HBK := hide hb2; have HB2 := hide (HB.out.trans (hl2.mono HB.out.size)); clear hl1 hl2 hg2 hb1 hb2))
        have HM3 : Hid (MapIs whKey w2 w.heap.size (hF (V.take (k + 1)))) := hide (by rw [take_snoc HQ.out]; exact HM2.out.congr HS.out)
        go_roundw
        case rel => exact ⟨k + 1, by omega, by go_num, HM3, HD2, HB2⟩
        case measure => simp [intOf]; omega
      · have hne : (q.t == 0) = false := by simpa using ht
        by_cases hm : q ∈ V.take k
        · obtain ⟨r1, hr1⟩ : ∃ r1, hF (V.take k) q = some (.int .i64 r1) := by
            have h1 := (hKs_mem (V.take k) q).1 (by unfold hKs; exact List.mem_filter.2 ⟨hm, decide_eq_true ht⟩)
            unfold hF at h1 ⊢
            cases hh : hold (V.take k) q with
            | none => rw [hh] at h1; cases h1
            | some b => exact ⟨(b : Int), rfl⟩
          have HLL : Hid ((if true then Value.tuple #[(hF (V.take k) q).getD (.int .i64 0), .bool (hF (V.take k) q).isSome] else (hF (V.take k) q).getD (.int .i64 0)) = .tuple #[.int .i64 r1, .bool true]) := hide (by rw [hr1]; rfl)
          have HND := hide (dis_mem HQ.out ht hm)
          clear ht hm hr1
          go_wp2_with (first
            | ((with_reducible refine at_slot 16 ?_); refine when_loadW rfl (.tmp 15) rfl _ q HCL.out rfl ?_)
            | ((with_reducible refine at_slot 6 ?_); refine wpList_alloc_blk rfl 24 rfl _ (wh_zero _) ?_; intro w1 hb1 hl1 hs1; clear hs1)
            | ((with_reducible refine at_store 6 ?_); refine wpList_store_all rfl 24 (.tmp 6) (.tmp 16) rfl wr.heap.size 24 _ hb1 rfl (whC q) rfl (wh_info q) rfl (wh_one q) ?_; intro w2 hb2 hg2 hs2; clear hs2; have q0 : w2.cell? ⟨wr.heap.size, 0, none⟩ = some (.int .i64 q.t) := hb2.cell 0; have hl2 : Below wr.heap.size wr w2 := hl1.grown hg2 hl1.size (fun g e => by injection e with e; omega); have HM2 := hide (HM.out.below hl2 hmlt); have HBK := hide hb2; have HB2 := hide (HB.out.trans (hl2.mono HB.out.size)); clear hl1 hl2 hg2 hb1 hb2)
            | ((with_reducible refine at_slot 22 ?_); refine when_loadW rfl (.tmp 6) rfl ⟨wr.heap.size, 0, none⟩ q (blk_at (cs := whC q) HBK.out) rfl ?_)
            | ((with_reducible refine at_slot 23 ?_); refine wpList_look (C := whKey) rfl (.tmp 21) (.tmp 22) 54 3 true rfl Try.underlying54 _ (Try.zeroValue3 _) w.heap.size (hF (V.take k)) rfl HM2.out q rfl HKO.out (.tuple #[.int .i64 r1, .bool true]) HLL.out ?_))
          go_ret2
          exact ⟨_, by rw [decide_eq_false HND.out]; rfl, fun h => absurd h HND.out, HB2.out⟩
        · have HLL : Hid ((if true then Value.tuple #[(hF (V.take k) q).getD (.int .i64 0), .bool (hF (V.take k) q).isSome] else (hF (V.take k) q).getD (.int .i64 0)) = .tuple #[.int .i64 0, .bool false]) := hide (by rw [hF_none.2 (.inr hm)]; rfl)
          have HS := hide (hF_put ht hm)
          have HD2 := hide (dis_next HD.out HQ.out (.inr hm))
          clear ht hm
          go_wp2_with (first
            | ((with_reducible refine at_slot 16 ?_); refine when_loadW rfl (.tmp 15) rfl _ q HCL.out rfl ?_)
            | ((with_reducible refine at_slot 6 ?_); refine wpList_alloc_blk rfl 24 rfl _ (wh_zero _) ?_; intro w1 hb1 hl1 hs1; clear hs1)
            | ((with_reducible refine at_store 6 ?_); refine wpList_store_all rfl 24 (.tmp 6) (.tmp 16) rfl wr.heap.size 24 _ hb1 rfl (whC q) rfl (wh_info q) rfl (wh_one q) ?_; intro w2 hb2 hg2 hs2; clear hs2; have q0 : w2.cell? ⟨wr.heap.size, 0, none⟩ = some (.int .i64 q.t) := hb2.cell 0; have hl2 : Below wr.heap.size wr w2 := hl1.grown hg2 hl1.size (fun g e => by injection e with e; omega); have HM2 := hide (HM.out.below hl2 hmlt); have HBK := hide hb2; have HB2 := hide (HB.out.trans (hl2.mono HB.out.size)); clear hl1 hl2 hg2 hb1 hb2)
            | ((with_reducible refine at_slot 22 ?_); refine when_loadW rfl (.tmp 6) rfl ⟨wr.heap.size, 0, none⟩ q (blk_at (cs := whC q) HBK.out) rfl ?_)
            | ((with_reducible refine at_slot 23 ?_); refine wpList_look (C := whKey) rfl (.tmp 21) (.tmp 22) 54 3 true rfl Try.underlying54 _ (Try.zeroValue3 _) w.heap.size (hF (V.take k)) rfl HM2.out q rfl HKO.out (.tuple #[.int .i64 0, .bool false]) HLL.out ?_)
            | ((with_reducible refine at_slot 28 ?_); refine when_loadW rfl (.tmp 6) rfl ⟨wr.heap.size, 0, none⟩ q (blk_at (cs := whC q) HBK.out) rfl ?_)
            | (refine wpList_put (C := whKey) rfl (.tmp 27) (.tmp 28) (.tmp 29) 54 3 rfl Try.underlying54 w.heap.size (hF (V.take k)) rfl HM2.out q HKO.out (.int .i64 (k : Int)) rfl rfl (hKs (V.take k)) (hKs_nodup HD.out) (hKs_mem (V.take k)) (by have := hKs_len (V.take k); have := HLK.out; omega) ?_; intro w4 hm4 hg4; have HM4 := hide hm4; have HB4 := hide (HB2.out.grown hg4 HB2.out.size (fun g e => by injection e with e; omega)); clear hm4 hg4))
          have HM5 : Hid (MapIs whKey w4 w.heap.size (hF (V.take (k + 1)))) := hide (by have h1 := HM4.out; rw [take_snoc HQ.out]; refine h1.congr fun x => ?_; rw [← HS.out x, HLK.out])
          go_roundw
          case rel => exact ⟨k + 1, by omega, by go_num, HM5, HD2, HB4⟩
          case measure => simp [intOf]; omega
    · obtain rfl : k = n := by omega
      have hall : V.take k = V := List.take_of_length_le (by rw [HN.out]; exact Nat.le_refl _)
      rw [hall] at HM HD
      go_wp2
      go_ret2
      exact ⟨_, by rw [decide_eq_true HD.out]; rfl, fun _ => ⟨_, rfl, HM.out, Nat.le_refl _⟩, HB.out⟩
end
section
variable {w w' : World} {m p y c : Nat} {cur : Array Value} {V : List Wh}
theorem chgs_take {V : List Wh} {L : List Ch} {k : Nat} {x : Ch} (hx : L[k]? = some x) : chgs V (L.take (k + 1)) = (chgs V (L.take k)).set x.1.toNat x.2 := by
  rw [take_snoc hx, chgs_snoc]
/-- What Set leaves. -/
def SetPost (w : World) (m p y : Nat) (V : List Wh) (L : List Ch) (e : Ending) (w' : World) : Prop :=
  e = .returned (.int .i64 (setE V L : Int)) ∧ (∃ p' y' c' cur', VmIn w' m p' y' c' cur' (setV V L) ∧ (p' = p ∨ w.heap.size ≤ p') ∧ (y' = y ∨ w.heap.size ≤ y')) ∧ Turn (fun i => i = m) w w'
theorem set_bad (h : VmIn w m p y c cur V) {L : List Ch} {w' : World} (hb : Below w.heap.size w w') (he : setE V L ≠ 0) {e : Int} (h2 : (setE V L : Int) = e) : SetPost w m p y V L (.returned (.int .i64 e)) w' :=
  ⟨by rw [h2], ⟨p, y, c, cur, by rw [setV_no he]; exact h.later hb, .inl rfl, .inl rfl⟩, Turn.of_below hb⟩
set_option maxRecDepth 100000 in
set_option maxHeartbeats 2000000 in
theorem set_any (h : VmIn w m p y c cur V) {A : Option Addr} {n c2 : Nat} {L : List Ch} (hl : ChIn w A n c2 L) : Calls Try.prog 12 #[.pointer (some ⟨m, 0, none⟩), .slice A n c2] w (SetPost w m p y V L) := by
  have HW := hide (wrong_any h hl)
  have HH := hide h
  have HL := hide hl
  have HLEN := hide hl.len
  have hfew := hl.few
  obtain ⟨r, hr⟩ : ∃ r, badE V.length L = r := ⟨_, rfl⟩
  rw [hr] at HW
  by_cases hr0 : r = 0
  · have hgood := badE_zero (hr.trans hr0)
    subst hr0
    have HBE := hide hr
    have HG := hide hgood
    obtain ⟨nv, hnv⟩ : ∃ nv, V.length = nv := ⟨_, rfl⟩
    have HNV := hide hnv
    have hf := h.ok.few
    have h1 := h.ok.one
    rw [hnv] at hf h1
    clear h hl hr hgood hnv
    go_enter Try.func12, Try.ntmps12
    go_wp2_with (first
      | (go_at_call 25; refine HW.out.mono ?_; rintro _ w1 ⟨rfl, hl1⟩; have HB1 := hide hl1; have HH1 := hide (HH.out.later hl1); have hc0 := HH1.out.c0; rw [HNV.out] at hc0; clear hl1)
      | (go_at_call 26; have hcl := wclone_any (n := nv) (c := c) (by have h3 := HH1.out.reads; rw [HNV.out] at h3; exact h3) h1 (by omega); refine hcl.mono ?_; clear hcl; rintro _ w2 ⟨v2, rfl, hown2, hl2⟩; obtain ⟨g, cg, cu, rfl, hbk, hck, hgb, hcg, hcm⟩ := row_blk hown2 h1; have HBK := hide hbk; have HCK := hide hck; have HB2 := hide (HB1.out.trans (hl2.mono HB1.out.size)); have hgb0 : w.heap.size ≤ g := (Nat.le_trans HB1.out.size hgb); have HCG := hide hcg; have HCM := hide hcm; clear hown2 hl2 hbk hck hcg hcm hgb))
    go_loopw [8, 24] (fun _ i wr => ∃ k : Nat, k ≤ n ∧ i = .int .i64 (k : Int) ∧ Hid (∃ cu, Blk wr g 24 cu ∧ cu.toList.take ((chgs V (L.take k)).length * 3) = whsL (chgs V (L.take k))) ∧ Hid (Below w.heap.size w wr)) (fun _ i _ => n - (intOf i).toNat)
    case atStart => exact ⟨0, Nat.zero_le _, rfl, hide ⟨cu, HBK.out, HCK.out⟩, HB2⟩
    case round =>
      obtain ⟨k, hk, rfl, HROW, HB⟩ := hrel
      by_cases hkn : k < n
      · obtain ⟨x, hx⟩ : ∃ x, L[k]? = some x := ⟨_, List.getElem?_eq_getElem (by rw [HLEN.out]; exact hkn)⟩
        obtain ⟨ad, hA, _, hcell, _, _⟩ := ch_at ((HL.out.later HB.out).rd) hx
        subst hA
        obtain ⟨cu2, hbr, hct⟩ := HROW.out
        have hlen : (chgs V (L.take k)).length = nv := (chgs_len _ _).trans HNV.out
        have hin : 0 ≤ x.1 ∧ x.1 < (nv : Int) := by have h3 := HG.out.1 x (List.mem_of_getElem? hx); unfold inB at h3; rw [HNV.out] at h3; exact of_decide_eq_true h3
        obtain ⟨xb, xw⟩ := x
        obtain ⟨b, rfl⟩ : ∃ b : Nat, xb = (b : Int) := ⟨xb.toNat, by have := hin.1; dsimp only at this; omega⟩
        have hbn : b < nv := by have := hin.2; dsimp only at this; omega
        have hroom := row_room hct
        rw [hlen] at hroom
        have HCL := hide hcell
        have HX := hide hx
        have HBR := hide hbr
        have HCT := hide hct
        have hglt := hbr.lt
        have hkk : (k : Int) < (n : Int) := by omega
        have HLN := hide hlen
        clear hcell hx hbr hct hin HROW hlen
        go_wp2_with (first
          | ((with_reducible refine at_slot 27 ?_); refine when_loadC rfl (.tmp 26) rfl _ ((b : Int), xw) HCL.out rfl ?_)
          | ((with_reducible refine at_slot 8 ?_); refine wpList_alloc_blk rfl 34 rfl _ (ch_zero _) ?_; intro w3 hb3 hl3 hs3; clear hs3)
          | ((with_reducible refine at_store 8 ?_); refine wpList_store_all rfl 34 (.tmp 8) (.tmp 27) rfl wr.heap.size 34 _ hb3 rfl (chC ((b : Int), xw)) rfl (ch_info _) rfl (ch_one _) ?_; intro w4 hb4 hg4 hs4; clear hs4; have q0 : w4.cell? ⟨wr.heap.size, 0, none⟩ = some (.int .i64 (b : Int)) := hb4.cell 0; have hl4 : Below wr.heap.size wr w4 := hl3.grown hg4 hl3.size (fun g e => by injection e with e; omega); have HBR4 := hide (HBR.out.below hl4 hglt); have HB4 := hide (HB.out.trans (hl4.mono HB.out.size)); have HCB := hide hb4; clear hl3 hl4 hg4 hb3 hb4)
          | ((with_reducible refine at_slot 32 ?_); refine when_loadW rfl (.tmp 31) rfl ⟨wr.heap.size, 1, none⟩ xw (ch_snd ((b : Int), xw) _ _ HCB.out) rfl ?_)
          | ((with_reducible refine at_store 33 ?_); refine wpList_store_blk rfl 24 (.tmp 33) (.tmp 32) rfl g (b * 3) 24 _ HBR4.out rfl (whC xw) rfl (wh_info xw) (by rw [whC_len]; omega) (wh_one xw) ?_; intro w5 hb5 hg5 hs5; clear hs5; have HB5 := hide (HB4.out.grown hg5 HB4.out.size (fun g e => by injection e with e; omega)); have HBR5 := hide hb5; clear hb5 hg5))
        have HROW5 : Hid (∃ cu, Blk w5 g 24 cu ∧ cu.toList.take ((chgs V (L.take (k + 1))).length * 3) = whsL (chgs V (L.take (k + 1)))) := hide ⟨_, HBR5.out, by rw [chgs_take HX.out]; exact row_set HCT.out (by rw [HLN.out, Int.toNat_natCast]; exact hbn)⟩
        go_roundw
        case rel => exact ⟨k + 1, by omega, by go_num, HROW5, HB5⟩
        case measure => simp [intOf]; omega
      · obtain rfl : k = n := by omega
        have hall : L.take k = L := List.take_of_length_le (by rw [HLEN.out]; exact Nat.le_refl _)
        rw [hall] at HROW
        obtain ⟨cu2, hbr, hct⟩ := HROW.out
        have hlen : (chgs V L).length = nv := (chgs_len _ _).trans HNV.out
        have HBR := hide hbr
        have HCT := hide hct
        have HLN := hide hlen
        have HOKL := hide (chgs_ok L V HG.out.2 HH.out.ok.ok)
        have HBP := hide (byPlaces_any (c := cg) (by have h3 := row_reads hbr hct; rw [hlen] at h3; exact h3) hlen hf (fun q hq => okWh_ok (HOKL.out q hq)))
        clear hbr hct hlen HROW hall
        by_cases hd : Dis (chgs V L)
        · have he : setE V L = 0 := by unfold setE; rw [HBE.out, if_pos rfl, if_pos hd]
          have HE := hide he
          have HDD := hide (decide_eq_true hd)
          have HDP := hide hd
          clear he hd
          go_wp2_with (first
            | (go_at_call 27; refine HBP.out.mono ?_; rintro _ w6 ⟨v6, rfl, hm6, hl6⟩; rw [HDD.out]; obtain ⟨y6, rfl, hm7, hy7⟩ := hm6 HDP.out; have HM6 := hide hm7; have HB6 := hide (HB.out.trans (hl6.mono HB.out.size)); have HBR6 := hide (HBR.out.below hl6 HBR.out.lt); have HH6 := hide (HH.out.later HB6.out); have HD6 := hide HH6.out.head; clear hm6 hm7 hl6)
            | ((with_reducible refine at_store 47 ?_); refine wpList_poke rfl 35 (.tmp 47) (.tmp 44) rfl m 0 56 _ HD6.out rfl (.slice (some ⟨g, 0, none⟩) nv cg) rfl rfl (by kernel_rfl) (show (0 : Nat) < 2 by decide) ?_; intro w7 hb7 hg7 hs7; clear hs7; have HD7 := hide hb7; have HG7 := hide hg7; clear hb7 hg7)
            | ((with_reducible refine at_store 49 ?_); refine wpList_poke rfl 54 (.tmp 49) (.tmp 45) rfl m 1 56 _ HD7.out rfl (.map (some y6)) rfl rfl (by kernel_rfl) (show (1 : Nat) < 2 by decide) ?_; intro w8 hb8 hg8 hs8; clear hs8; have HD8 := hide hb8; have HG8 := hide hg8; clear hb8 hg8))
          go_ret
          have hT : Turn (fun i => i = m) w w8 := ((Turn.of_below HB6.out).grown HG7.out (fun g e => by injection e with e; exact .inl e.symm)).grown HG8.out (fun g e => by injection e with e; exact .inl e.symm)
          have hmlt := HH.out.head.lt
          have hzz := HB.out.size
          refine ⟨by rw [HE.out]; rfl, ⟨g, y6, cg, cu2, ?_, .inr hgb0, .inr (by omega)⟩, hT⟩
          rw [setV_yes HE.out]
          refine ⟨by rw [HLN.out]; exact HD8.out, (HBR6.out.grown HG7.out (by intro e; injection e with e; omega)).grown HG8.out (by intro e; injection e with e; omega), HCT.out, by rw [HLN.out]; exact HCG.out, HCM.out, (HM6.out.grown HG7.out (by intro e; injection e with e; omega)).grown HG8.out (by intro e; injection e with e; omega), ?_⟩
          have h9 := HH.out.ok.set L
          rw [setV_yes HE.out] at h9
          exact h9
        · have he : setE V L = 9 := by unfold setE; rw [HBE.out, if_pos rfl, if_neg hd]
          have HE := hide he
          have HDD := hide (decide_eq_false hd)
          clear he hd
          go_wp2_with (first
            | (go_at_call 27; refine HBP.out.mono ?_; rintro _ w6 ⟨v6, rfl, hm6, hl6⟩; rw [HDD.out]; have HB6 := hide (HB.out.trans (hl6.mono HB.out.size)); clear hm6 hl6))
          go_ret
          exact set_bad HH.out HB6.out (by rw [HE.out]; decide) (by rw [HE.out]; rfl)
  · have he : setE V L = r := by unfold setE; rw [hr, if_neg hr0]
    have HE := hide he
    have hne : ((r : Int) != 0) = true := by simp; omega
    have HR0 := hide hr0
    clear h hl hr he hr0
    go_enter Try.func12, Try.ntmps12
    go_wp2_with (first
      | (go_at_call 25; refine HW.out.mono ?_; rintro _ w1 ⟨rfl, hl1⟩; have HB1 := hide hl1; clear hl1))
    go_ret
    exact set_bad HH.out HB1.out (by rw [HE.out]; exact HR0.out) (by rw [HE.out])
end
#print axioms set_any
end Go.Proofs.Ytfjgpnjhmfcpiaa
