/- What the document's Put, Clear and Drop of a table do. -/
import Derived.Test.YtgoglgghnjgcdaaUrC
namespace Go.Proofs.Ytgoglgghnjgcdaa
open Go.RowKit Go.Maps

section
variable {S : Us}
theorem wo_put (h : S.Ok) {b : Int} (hb : 0 ≤ b) : (S.L.filter fun x => !wo (-1) (-1) b x) = S.L.filter fun x => x.b != b := by
  refine List.filter_congr fun x hx => ?_
  have h1 := (Us.slots_pos h (h.ls x hx).1).2.2.1
  unfold wo
  rw [decide_eq_false (show ¬ x.g = -1 by omega), decide_eq_true hb]
  rw [Bool.eq_iff_iff]
  simp
theorem wo_clear (S : Us) {g s : Int} (hs : 0 ≤ s) : (S.L.filter fun x => !wo g s (-1) x) = (S.killed g s).L := by
  unfold Us.killed
  refine List.filter_congr fun x _ => ?_
  unfold wo
  rw [decide_eq_false (show ¬ s < 0 by omega), decide_eq_false (show ¬ (0 : Int) ≤ -1 by omega)]
  rw [Bool.eq_iff_iff]
  simp
theorem wo_drop (S : Us) (g : Int) : (S.L.filter fun x => !wo g (-1) (-1) x) = (S.dropped g).L := by
  unfold Us.dropped
  refine List.filter_congr fun x _ => ?_
  unfold wo
  rw [decide_eq_true (show (-1 : Int) < 0 by omega), decide_eq_false (show ¬ (0 : Int) ≤ -1 by omega)]
  rw [Bool.eq_iff_iff]
  simp
variable {w w' : World} {r cG cL : Nat} {AG AL : Option Addr}
theorem own_zero {base : Nat} {e : TypeId} {size n : Nat} {v : Value} {xs : List Value} (h : w.ownsRow base e size v n xs) : w.ownsRow 0 e size v n xs := by
  refine ⟨h.1, ?_⟩
  rcases h.2 with h2 | ⟨g, cap, cur, hv, h1, h2⟩
  · exact .inl h2
  · exact .inr ⟨g, cap, cur, hv, Nat.zero_le _, h2⟩
/-- The second row is replaced by one of the call's own. -/
theorem rturnL {w1 w2 : World} (h : RefIn w r AG cG AL cL S) (hl : Below w.heap.size w w1) {A2 : Option Addr} {c2 : Nat} {L2 : List Lv} (hown : w1.ownsRow w.heap.size 83 3 (.slice A2 L2.length c2) L2.length (lvL L2)) (hb : Blk w2 r 60 #[.slice AG S.G.length cG, .slice A2 L2.length c2]) (hg : w1.grownBy w2 (some r)) : RTurn w w2 r AG AL ⟨S.G, L2⟩ := by
  refine ⟨AG, cG, A2, c2, (h.later hl).setL (own_zero hown) hb hg, ?_, ((Turn.of_below hl).grown hg (fun i hi => .inl (.inl (by injection hi with hi; exact hi.symm))))⟩
  rintro i (rfl | ha | ⟨a, ha, rfl⟩)
  · exact .inl (.inl rfl)
  · exact .inl (.inr (.inl ha))
  · exact .inr (hown.lt a.block (foot_own ha)).1
set_option maxRecDepth 100000 in
set_option maxHeartbeats 2000000 in
theorem rput_any (h : RefIn w r AG cG AL cL S) (hok : S.Ok) (hgl : S.G.length < 1000000) (hf : S.L.length < 999999) (g s b : Int) :
    Calls Try.prog 34 #[.pointer (some ⟨r, 0, none⟩), .int .i64 g, .int .i64 s, .int .i64 b] w fun e w' => e = .returned (.int .i64 (S.putE g s b)) ∧ RTurn w w' r AG AL (S.put' g s b) := by
  have HE := hide (rin_any h.rd hok hgl g s)
  have HU := hide h
  by_cases he : S.inE g s = 0
  · rw [he] at HE
    by_cases hb0 : b < 0
    · have e1 : S.putE g s b = 1 := by unfold Us.putE; rw [if_pos he, if_pos hb0]
      have e2 : S.put' g s b = S := by unfold Us.put'; rw [e1]; rfl
      rw [e1, e2]
      clear h hok hgl hf e1 e2 he
      go_enter Try.func34, Try.ntmps34
      go_wp2_with (first
        | (go_at_call 52; refine HE.out.mono ?_; rintro _ _ ⟨rfl, rfl⟩))
      go_ret
      exact ⟨rfl, RTurn.same HU.out⟩
    · have HB := hide (rblock_any h.rd hok (by omega) g s)
      have hdb : decide (b < 0) = false := by simpa using hb0
      cases ha : S.at_ g s with
      | some bb =>
        have e1 : S.putE g s b = 9 := by unfold Us.putE; rw [if_pos he, if_neg hb0, ha]; rfl
        have e2 : S.put' g s b = S := by unfold Us.put'; rw [e1]; rfl
        rw [e1, e2]
        rw [ha] at HB
        clear h hok hgl hf e1 e2 he ha
        go_enter Try.func34, Try.ntmps34
        go_wp2_with (first
          | (go_at_call 52; refine HE.out.mono ?_; rintro _ _ ⟨rfl, rfl⟩)
          | (go_at_call 41; refine HB.out.mono ?_; rintro _ _ ⟨rfl, rfl⟩))
        go_ret
        exact ⟨rfl, RTurn.same HU.out⟩
      | none =>
        have e1 : S.putE g s b = 0 := by unfold Us.putE; rw [if_pos he, if_neg hb0, ha]; rfl
        have e2 : S.put' g s b = S.put g s b := by unfold Us.put'; rw [e1]; rfl
        rw [e1, e2]
        rw [ha] at HB
        have HWO := hide (rwithout_any h.rd (by omega) (-1) (-1) b)
        rw [wo_put hok (by omega)] at HWO
        obtain ⟨i0, hi0, hz0, hz1, hz2⟩ := info_parts liv_parts
        have HII := hide (And.intro hi0 (And.intro hz0 (And.intro hz1 hz2)))
        have hfl : (S.L.filter fun x => x.b != b).length ≤ S.L.length := List.length_filter_le _ _
        obtain ⟨L1, hL1⟩ : ∃ L1, L1 = S.L.filter fun x => x.b != b := ⟨_, rfl⟩
        have HL1 : Hid (S.put g s b = ⟨S.G, L1 ++ [⟨g, s, b⟩]⟩) := hide (by rw [hL1]; rfl)
        rw [← hL1] at HWO hfl
        have HLN := hide (show L1.length + 1 ≤ maxLen ∧ (L1.length + 1) * 24 ≤ 140737488355328 by simp only [maxLen]; omega)
        have hrl := h.head.lt
        clear h hok hgl hf e1 e2 he ha hi0 hz0 hz1 hz2 hfl hL1
        go_enter Try.func34, Try.ntmps34
        go_wp2_with (first
          | (go_at_call 52; refine HE.out.mono ?_; rintro _ _ ⟨rfl, rfl⟩)
          | (go_at_call 41; refine HB.out.mono ?_; rintro _ _ ⟨rfl, rfl⟩)
          | (go_at_call 51; refine HWO.out.mono ?_; rintro _ w1 ⟨v1, rfl, hown1, hl1⟩; have hz1 := hl1.size)
          | (refine wpList_build_is rfl 83 _ rfl _ rfl _ (rliv_built g s b) ?_)
          | (refine wpList_build_agg _ rfl (.tmp 36) 58 rfl 83 i0 _ 3 Try.underlying58 HII.out.1 (Try.zeroValue83 _) HII.out.2.2.1 (by decide) (by decide) (lvC ⟨g, s, b⟩).toArray rfl rfl ?_)
          | ((with_reducible refine at_slot 38 ?_); refine wpList_append_any _ rfl (.tmp 32) (.tmp 37) _ rfl w.heap.size 83 i0 _ 3 24 Try.underlying58 HII.out.1 HII.out.2.1 HII.out.2.2.1 HII.out.2.2.2 rfl (by decide) _ L1.length _ rfl (own_later hown1 ((Below.refl _ w1).alloc (Nat.le_refl _) _)) (w1.heap.size + 1) (some ⟨w1.heap.size, 0, none⟩) 1 1 (lvC ⟨g, s, b⟩) rfl (Reads.lump _ (lvC ⟨g, s, b⟩) _ _ 3 (by omega) rfl) (lvC_one _) HLN.out.1 HLN.out.2 (by rw [World.size_alloc]; omega) ?_; intro v2 w2 hown2 hl2; obtain ⟨A2, c2, rfl, _, _⟩ := own_shape hown2; have hl3 : Below w.heap.size w w2 := (hl1.alloc hz1 _).trans hl2)
          | (refine wpList_poke rfl 58 (.tmp 40) (.tmp 38) rfl r 1 60 _ (show Blk w2 r 60 #[.slice AG S.G.length cG, .slice AL S.L.length cL] from (HU.out.later hl3).head) rfl _ rfl rfl slices_one.2 (show 1 < 2 by decide) ?_; intro w3 hb3 hg3 _))
        have hown3 : w2.ownsRow w.heap.size 83 3 (.slice A2 (L1 ++ [(⟨g, s, b⟩ : Lv)]).length c2) (L1 ++ [(⟨g, s, b⟩ : Lv)]).length (lvL (L1 ++ [⟨g, s, b⟩])) := by
          rw [List.length_append, lvL_append]
          exact hown2
        have hb4 : Blk w3 r 60 #[.slice AG S.G.length cG, .slice A2 (L1 ++ [(⟨g, s, b⟩ : Lv)]).length c2] := by rw [List.length_append]; exact hb3
        have HT := hide (rturnL HU.out hl3 hown3 hb4 hg3)
        rw [← HL1.out] at HT
        go_wp2
        go_ret
        exact ⟨rfl, HT.out⟩
  · have e1 : S.putE g s b = S.inE g s := by unfold Us.putE; rw [if_neg he]
    have e2 : S.put' g s b = S := by unfold Us.put'; rw [e1, if_neg he]
    rw [e1, e2]
    have he0 : ((S.inE g s) != 0) = true := by simpa using he
    clear h hok hgl hf e1 e2 he
    generalize S.inE g s = v at HE he0 ⊢
    go_enter Try.func34, Try.ntmps34
    go_wp2_with (first
      | (go_at_call 52; refine HE.out.mono ?_; rintro _ _ ⟨rfl, rfl⟩))
    go_ret
    exact ⟨rfl, RTurn.same HU.out⟩
set_option maxRecDepth 100000 in
set_option maxHeartbeats 2000000 in
theorem rclear_any (h : RefIn w r AG cG AL cL S) (hok : S.Ok) (hgl : S.G.length < 1000000) (hf : S.L.length < 1000000) (g s : Int) :
    Calls Try.prog 35 #[.pointer (some ⟨r, 0, none⟩), .int .i64 g, .int .i64 s] w fun e w' => e = .returned (.int .i64 (S.clearE g s)) ∧ RTurn w w' r AG AL (S.clear' g s) := by
  have HE := hide (rin_any h.rd hok hgl g s)
  have HU := hide h
  by_cases he : S.inE g s = 0
  · rw [he] at HE
    have HB := hide (rblock_any h.rd hok hf g s)
    cases ha : S.at_ g s with
    | none =>
      have e1 : S.clearE g s = 9 := by unfold Us.clearE; rw [if_pos he, ha]; rfl
      have e2 : S.clear' g s = S := by unfold Us.clear'; rw [e1]; rfl
      rw [e1, e2]
      rw [ha] at HB
      clear h hok hgl hf e1 e2 he ha
      go_enter Try.func35, Try.ntmps35
      go_wp2_with (first
        | (go_at_call 52; refine HE.out.mono ?_; rintro _ _ ⟨rfl, rfl⟩)
        | (go_at_call 41; refine HB.out.mono ?_; rintro _ _ ⟨rfl, rfl⟩))
      go_ret
      exact ⟨rfl, RTurn.same HU.out⟩
    | some bb =>
      have e1 : S.clearE g s = 0 := by unfold Us.clearE; rw [if_pos he, ha]; rfl
      have e2 : S.clear' g s = S.killed g s := by unfold Us.clear'; rw [e1]; rfl
      rw [e1, e2]
      have hs0 := (Us.at_has hok ha).2.1
      rw [ha] at HB
      have HWO := hide (rwithout_any h.rd hf g s (-1))
      rw [wo_clear S hs0] at HWO
      obtain ⟨L1, hL1⟩ : ∃ L1, L1 = (S.killed g s).L := ⟨_, rfl⟩
      have HL1 : Hid (S.killed g s = ⟨S.G, L1⟩) := hide (by rw [hL1]; rfl)
      rw [← hL1] at HWO
      clear h hok hgl hf e1 e2 he ha hL1 hs0
      go_enter Try.func35, Try.ntmps35
      go_wp2_with (first
        | (go_at_call 52; refine HE.out.mono ?_; rintro _ _ ⟨rfl, rfl⟩)
        | (go_at_call 41; refine HB.out.mono ?_; rintro _ _ ⟨rfl, rfl⟩)
        | (go_at_call 51; refine HWO.out.mono ?_; rintro _ w1 ⟨v1, rfl, hown1, hl1⟩; obtain ⟨A2, c2, rfl, _, _⟩ := own_shape hown1)
        | (refine wpList_poke rfl 58 (.tmp 32) (.tmp 30) rfl r 1 60 _ (show Blk w1 r 60 #[.slice AG S.G.length cG, .slice AL S.L.length cL] from (HU.out.later hl1).head) rfl _ rfl rfl slices_one.2 (show 1 < 2 by decide) ?_; intro w3 hb3 hg3 _))
      have HT := hide (rturnL HU.out hl1 hown1 hb3 hg3)
      rw [← HL1.out] at HT
      go_wp2
      go_ret
      exact ⟨rfl, HT.out⟩
  · have e1 : S.clearE g s = S.inE g s := by unfold Us.clearE; rw [if_neg he]
    have e2 : S.clear' g s = S := by unfold Us.clear'; rw [e1, if_neg he]
    rw [e1, e2]
    have he0 : ((S.inE g s) != 0) = true := by simpa using he
    clear h hok hgl hf e1 e2 he
    generalize S.inE g s = v at HE he0 ⊢
    go_enter Try.func35, Try.ntmps35
    go_wp2_with (first
      | (go_at_call 52; refine HE.out.mono ?_; rintro _ _ ⟨rfl, rfl⟩))
    go_ret
    exact ⟨rfl, RTurn.same HU.out⟩
theorem gkeep_no {l : List Gr} {k : Nat} {x : Gr} {p : Gr → Bool} (hx : l[k]? = some x) (hp : p x = false) : (l.take (k + 1)).filter p = (l.take k).filter p := by
  rw [List.take_add_one, hx, List.filter_append]
  simp [hp]
theorem gkeep_yes {l : List Gr} {k : Nat} {x : Gr} {p : Gr → Bool} (hx : l[k]? = some x) (hp : p x = true) : (l.take (k + 1)).filter p = (l.take k).filter p ++ [x] := by
  rw [List.take_add_one, hx, List.filter_append]
  simp [hp]
theorem grp_info : (Try.prog.info? 80).map (·.size) = some 2 := by kernel_rfl
/-- A group of the row, whole. -/
theorem gr_all {l : List Gr} {A : Option Addr} {n B : Nat} (h : Reads w B 2 A n (grL l)) {k : Nat} (hk : k < l.length) :
    ∃ ad x, A = some ad ∧ l[k]? = some x ∧ w.cell? (ad.add (k * 2)) = some (.int .i64 x.id) ∧ ∀ (j : Nat) v, (grC2 x)[j]? = some v → w.cell? ((ad.add (k * 2)).add j) = some v := by
  obtain ⟨ad, x, hA, hx, h1, h2⟩ := gr_at h hk
  refine ⟨ad, x, hA, hx, h1, fun j v hj => ?_⟩
  have hj2 : j < 2 := (List.getElem?_eq_some_iff.1 hj).1
  rcases (show j = 0 ∨ j = 1 by omega) with rfl | rfl
  · injection hj with hj
    rw [← hj]
    exact h1
  · injection hj with hj
    rw [← hj, addr_one _ 1 (by decide)]
    exact h2
set_option maxRecDepth 100000 in
set_option maxHeartbeats 2000000 in
theorem rdrop_any (h : RefIn w r AG cG AL cL S) (hok : S.Ok) (hgl : S.G.length < 1000000) (hf : S.L.length < 1000000) (g : Int) :
    Calls Try.prog 33 #[.pointer (some ⟨r, 0, none⟩), .int .i64 g] w fun e w' => e = .returned (.int .i64 (S.dropE g)) ∧ RTurn w w' r AG AL (S.drop' g) := by
  have HS := hide (rslots_any h.rd hok hgl g)
  have hhs := Us.has_slots hok g
  have hle := Us.slots_le hok g
  obtain ⟨N, hN⟩ : ∃ N, S.slots g = N := ⟨_, rfl⟩
  rw [hN] at HS hhs hle
  have HU := hide h
  by_cases h0 : N = 0
  · have e1 : S.dropE g = 8 := by unfold Us.dropE; rw [hhs]; simp [h0]
    have e2 : S.drop' g = S := by unfold Us.drop'; rw [e1]; rfl
    rw [e1, e2]
    subst h0
    clear h hok hgl hf e1 e2 hhs hN hle
    go_enter Try.func33, Try.ntmps33
    go_wp2_with (first
      | (go_at_call 39; refine HS.out.mono ?_; rintro _ _ ⟨rfl, rfl⟩))
    go_ret
    exact ⟨rfl, RTurn.same HU.out⟩
  · have e1 : S.dropE g = 0 := by unfold Us.dropE; rw [hhs]; simp; omega
    have e2 : S.drop' g = S.dropped g := by unfold Us.drop'; rw [e1]; rfl
    rw [e1, e2]
    obtain ⟨i0, hi0, hz0, hz1, hz2⟩ := info_parts grp_parts
    have HII := hide (And.intro hi0 (And.intro hz0 (And.intro hz1 hz2)))
    have hne0 : (N == 0) = false := by simpa using h0
    obtain ⟨n, hn⟩ : ∃ n, S.G.length = n := ⟨_, rfl⟩
    have HN := hide hn
    have HC := hide (fun (w' : World) (hb : Below w.heap.size w w') => (show w'.cell? ⟨r, 0, none⟩ = some (.slice AG n cG) by rw [(h.later hb).c0, hn]))
    rw [hn] at hgl
    have HF := hide hf
    clear h hok hf e1 e2 hhs hN hle hi0 hz0 hz1 hz2 hn h0
    go_enter Try.func33, Try.ntmps33
    go_wp2_with (first
      | (go_at_call 39; refine HS.out.mono ?_; rintro _ _ ⟨rfl, rfl⟩))
    have hba : Below w.heap.size w (w.alloc (.cells #[] 80)) := (Below.refl _ w).alloc (Nat.le_refl _) _
    go_loopw [5, 6] (fun v i wr => ∃ k : Nat, k ≤ n ∧ i = .int .i64 (k : Int) ∧ Hid (wr.ownsRow w.heap.size 80 2 v ((S.G.take k).filter fun x => x.id != g).length (grL ((S.G.take k).filter fun x => x.id != g))) ∧ Below w.heap.size w wr) (fun _ i _ => n - (intOf i).toNat)
    case atStart => exact ⟨0, Nat.zero_le _, rfl, hide (World.ownsRow_made w #[] 0 (Nat.le_refl _) (Nat.zero_le _) rfl), hba⟩
    case round =>
      obtain ⟨k, hk, rfl, HR, hbel⟩ := hrel
      have hc0 := HC.out wr hbel
      have hsz := hbel.size
      by_cases hkn : k < n
      · obtain ⟨ad, x, hA, hx, h1, hcs⟩ := gr_all (HU.out.later hbel).rd.gr (k := k) (by rw [HN.out]; exact hkn)
        subst hA
        have HSC := hide hcs
        clear hcs
        by_cases hxg : x.id = g
        · have HQ := hide (gkeep_no (p := fun x => x.id != g) hx (by simpa using hxg))
          have HR2 : Hid (wr.ownsRow w.heap.size 80 2 u5 ((S.G.take (k + 1)).filter fun x => x.id != g).length (grL ((S.G.take (k + 1)).filter fun x => x.id != g))) := hide (by rw [HQ.out]; exact HR.out)
          rw [hxg] at h1
          clear hx hxg
          go_wp2
          go_roundw
          case rel => exact ⟨k + 1, by omega, by go_num, HR2, hbel⟩
          case measure => simp [intOf]; omega
        · have HQ := hide (gkeep_yes (p := fun x => x.id != g) hx (by simpa using hxg))
          have hlk : ((S.G.take k).filter fun x => x.id != g).length ≤ k := Nat.le_trans (List.length_filter_le _ _) (by rw [List.length_take]; omega)
          obtain ⟨Gk, hGk⟩ : ∃ Gk, Gk = (S.G.take k).filter fun x => x.id != g := ⟨_, rfl⟩
          rw [← hGk] at HR HQ hlk
          have HM := hide (show Gk.length + 1 ≤ maxLen ∧ (Gk.length + 1) * 16 ≤ 140737488355328 by simp only [maxLen]; omega)
          have hne : (x.id != g) = true := by simpa using hxg
          clear hGk hlk hx hxg
          go_wp2_with (first
            | (refine wpList_load_at rfl 80 (.tmp 37) rfl (ad.add (k * 2)) rfl (grC2 x) _ HSC.out Try.underlying80 rfl grp_info ?_)
            | (refine wpList_build_agg _ rfl (.tmp 38) 57 rfl 80 i0 _ 2 Try.underlying57 HII.out.1 (Try.zeroValue80 _) HII.out.2.2.1 (by decide) (by decide) (grC2 x).toArray rfl rfl ?_)
            | ((with_reducible refine at_slot 40 ?_); refine wpList_append_any _ rfl (.tmp 31) (.tmp 39) _ rfl w.heap.size 80 i0 _ 2 16 Try.underlying57 HII.out.1 HII.out.2.1 HII.out.2.2.1 HII.out.2.2.2 rfl (by decide) _ Gk.length _ rfl (own_later HR.out ((Below.refl _ wr).alloc (Nat.le_refl _) _)) (wr.heap.size + 1) (some ⟨wr.heap.size, 0, none⟩) 1 1 (grC2 x) rfl (Reads.lump _ (grC2 x) _ _ 2 (by omega) rfl) (grC2_one x) HM.out.1 HM.out.2 (by rw [World.size_alloc]; omega) ?_; intro v5 w5 hown5 hl5))
          have HR2 : Hid (w5.ownsRow w.heap.size 80 2 v5 ((S.G.take (k + 1)).filter fun x => x.id != g).length (grL ((S.G.take (k + 1)).filter fun x => x.id != g))) := hide (by rw [HQ.out, List.length_append, grL_append]; exact hown5)
          have hl6 : Below w.heap.size w w5 := (hbel.alloc hsz _).trans hl5
          clear hown5 hl5
          go_roundw
          case rel => exact ⟨k + 1, by omega, by go_num, HR2, hl6⟩
          case measure => simp [intOf]; omega
      · obtain rfl : k = n := by omega
        have HRR := HR.out
        rw [List.take_of_length_le (by rw [HN.out]; omega)] at HRR
        obtain ⟨A1, c1, rfl, _, _⟩ := own_shape HRR
        have HR1 := hide HRR
        clear HRR
        obtain ⟨G1, hG1⟩ : ∃ G1, G1 = S.G.filter fun x => x.id != g := ⟨_, rfl⟩
        rw [← hG1] at HR1 ⊢
        have HG1 := hide hG1
        clear hG1
        go_wp2_with (first
          | (refine wpList_poke rfl 57 (.tmp 44) (.tmp 42) rfl r 0 60 _ (show Blk wr r 60 #[.slice AG S.G.length cG, .slice AL S.L.length cL] from (HU.out.later hbel).head) rfl _ rfl rfl slices_one.1 (show 0 < 2 by decide) ?_; intro w2 hb2 hg2 hs2; have hI2 := (HU.out.later hbel).setG (own_zero HR1.out) hb2 hg2; have HI2 := hide hI2; have HWO := hide (rwithout_any hI2.rd HF.out g (-1) (-1)); clear hI2)
          | (go_at_call 51; refine HWO.out.mono ?_; rintro _ w3 ⟨v3, rfl, hown3, hl3⟩; obtain ⟨A3, c3, rfl, _, _⟩ := own_shape hown3)
          | (refine wpList_poke rfl 58 (.tmp 50) (.tmp 48) rfl r 1 60 _ (show Blk w3 r 60 #[.slice A1 G1.length c1, .slice AL S.L.length cL] from (HI2.out.later hl3).head) rfl _ rfl rfl slices_one.2 (show 1 < 2 by decide) ?_; intro w4 hb4 hg4 hs4))
        have hown4 : w3.ownsRow w2.heap.size 83 3 (.slice A3 (S.dropped g).L.length c3) (S.dropped g).L.length (lvL (S.dropped g).L) := by
          rw [← wo_drop S g]
          exact hown3
        have hb5 : Blk w4 r 60 #[.slice A1 G1.length c1, .slice A3 (S.dropped g).L.length c3] := by
          rw [← wo_drop S g]
          exact hb4
        have hT2 : Turn (RFoot r AG AL) w w2 := (Turn.of_below hbel).grown hg2 (fun i hi => .inl (.inl (by injection hi with hi; exact hi.symm)))
        have hfin : RefIn w4 r A1 c1 A3 c3 (S.dropped g) := by
          have := (HI2.out.later hl3).setL (own_zero hown4) hb5 hg4
          have e : S.dropped g = ⟨G1, (S.dropped g).L⟩ := by rw [HG1.out]; rfl
          rw [e]
          exact this
        have hA1 : ∀ a, A1 = some a → w.heap.size ≤ a.block := fun a ha => (HR1.out.lt a.block (foot_own ha)).1
        have hA3 : ∀ a, A3 = some a → w.heap.size ≤ a.block := fun a ha => by
          have h1 := (hown4.lt a.block (foot_own ha)).1
          have h2 := hT2.size
          omega
        have HT : Hid (RTurn w w4 r AG AL (S.dropped g)) := hide ⟨A1, c1, A3, c3, hfin, (by
          rintro i (rfl | ⟨a, ha, rfl⟩ | ⟨a, ha, rfl⟩)
          · exact .inl (.inl rfl)
          · exact .inr (hA1 a ha)
          · exact .inr (hA3 a ha)), (hT2.below hl3).grown hg4 (fun i hi => .inl (.inl (by injection hi with hi; exact hi.symm)))⟩
        go_wp2
        go_ret
        exact ⟨rfl, HT.out⟩
end
#print axioms rdrop_any
end Go.Proofs.Ytgoglgghnjgcdaa
