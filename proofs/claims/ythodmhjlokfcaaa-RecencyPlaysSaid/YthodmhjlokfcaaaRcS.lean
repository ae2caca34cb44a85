/- The document's own row of blocks, more of its calls; all of them over a law's memory (Sta). -/
import Derived.Test.YthodmhjlokfcaaaRcR
namespace Go.Proofs.Ythodmhjlokfcaaa
open Go.RowKit Go.Maps
set_option linter.unusedVariables false
section
variable {w w' : World} {r c : Nat} {A : Option Addr} {L : List Int}
set_option maxRecDepth 100000 in
theorem rtouch_any (h : RfIn w r A c L) (hL : L.length ≤ 1000000) (b : Int) : Calls Try.prog 21 #[.pointer (some ⟨r, 0, none⟩), .int .i64 b] w fun e w' => e = .returned (.tuple #[]) ∧ (∃ A' c', RfIn w' r A' c' (tch b L) ∧ ∀ g, (Value.slice A' (tch b L).length c').ownBlock = some g → w.heap.size ≤ g) ∧ Turn (fun i => i = r) w w' := by
  obtain ⟨i0, hi0, hz0, hz1i, hz2i⟩ := info_parts int_parts16
  have HD := hide (rdrop_any h hL b)
  have hle := wo_len b L
  obtain ⟨M, hM⟩ : ∃ M, wo b L = M := ⟨_, rfl⟩
  rw [hM] at HD hle
  have HT := hide (show tch b L = M ++ [b] by unfold tch; rw [hM])
  have hml : M.length ≤ 1000000 := by omega
  have HM := hide (show M.length + 1 ≤ maxLen ∧ (M.length + 1) * 8 ≤ 140737488355328 by simp only [maxLen]; omega)
  rw [HT.out]
  clear h hM hle
  go_enter Try.func21, Try.ntmps21
  go_wp2_with (first
    | (go_at_call 12; refine HD.out.mono ?_; rintro _ w1 ⟨rfl, ⟨A1, c1, h1, hf1⟩, hT1⟩; have hc1 := h1.c0; have H1 := hide h1; have HF := hide hf1; have HT1 := hide hT1; clear h1 hf1 hT1)
    | ((with_reducible refine at_slot 14 ?_); refine wpList_append_two _ rfl (.tmp 11) (.tmp 13) 31 rfl 0 3 i0 _ 1 8 Try.underlying31 hi0 hz0 hz1i hz2i rfl (by decide) (.slice A1 M.length c1) M.length (I64 M) rfl (own_later H1.out.own (((Below.refl _ w1).alloc (Nat.le_refl _) _))) (w1.heap.size + 1) (some ⟨w1.heap.size, 0, none⟩) 1 1 [.int .i64 b] rfl (Reads.one _ _ _ _ (by omega)) (by intro x hx; simp at hx; subst hx; rfl) HM.out.1 HM.out.2 (Nat.zero_le _) ?_; intro v3 w3 hown3 hg3 hv3; have HO3 := hide hown3; obtain ⟨A3, c3, rfl, _, _⟩ := own_shape hown3; have HG3 := hide hg3; have HV3 := hide hv3; have HB3 := hide (Blk.grown (h := ((H1.out.head).below ((Below.refl _ w1).alloc (Nat.le_refl _) _) H1.out.head.lt)) hg3 (fun e => H1.out.far e.symm)); clear hown3 hg3 hv3)
    | ((with_reducible refine at_store 16 ?_); refine wpList_poke rfl 31 (.tmp 16) (.tmp 14) rfl r 0 37 _ HB3.out rfl (.slice A3 (M.length + 1) c3) rfl rfl slice_info (by show 0 < 1; decide) ?_; intro w4 hb4 hg4 hs4; clear hs4; have HB4 := hide (show Blk w4 r 37 #[.slice A3 (M.length + 1) c3] from hb4); have HG4 := hide hg4; clear hb4 hg4))
  go_end0
  have hw := HT1.out.size
  have hz : (w1.alloc (.cells #[.int .i64 b] 3)).heap.size = w1.heap.size + 1 := World.size_alloc _ _
  have hfar : ∀ g, (Value.slice A3 (M.length + 1) c3).ownBlock = some g → w.heap.size ≤ g := fun g hg => by
    rcases HV3.out with hv | hv
    · exact HF.out g (hv.symm.trans hg)
    · have := hv.symm.trans hg
      injection this with this
      omega
  have hrl : r < w1.heap.size := H1.out.head.lt
  have hne : (Value.slice A3 (M.length + 1) c3).ownBlock ≠ some r := fun e => by
    rcases HV3.out with hv | hv
    · exact H1.out.far (hv.symm.trans e)
    · have := hv.symm.trans e
      injection this with this
      omega
  have hll : (M ++ [b]).length = M.length + 1 := by simp
  have hT3 : Turn (fun i => i = r) w w3 := (HT1.out.alloc _).grown HG3.out fun g e => .inr (HF.out g e)
  refine ⟨rfl, ⟨A3, c3, ⟨by rw [hll]; exact HB4.out, ?_, by rw [hll]; exact hne⟩, hfar⟩, hT3.grown HG4.out fun g e => .inl (by injection e with e; exact e.symm)⟩
  rw [hll, I64_append]
  exact own_of_block HO3.out fun g hg => HG4.out.block g (HO3.out.lt g hg).2 fun e => hne (hg.trans e)
set_option maxRecDepth 100000 in
theorem roldest_any (h : RfIn w r A c L) (hL : L.length ≤ 1000000) (m : Int) (T : List Int) (hT : L.take m.toNat = T) : Calls Try.prog 17 #[.pointer (some ⟨r, 0, none⟩), .int .i64 m] w fun e w' => ∃ v, e = .returned v ∧ w'.ownsRow w.heap.size 3 1 v T.length (I64 T) ∧ Below w.heap.size w w' := by
  obtain ⟨i0, hi0, hz0, hz1i, hz2i⟩ := info_parts int_parts16
  have HH := hide h
  obtain ⟨n, hn⟩ : ∃ n, L.length = n := ⟨_, rfl⟩
  rw [hn] at hL
  have HN := hide hn
  have HT := hide hT
  clear h hn hT
  go_enter Try.func17, Try.ntmps17
  go_wp2_with (first
    | ((with_reducible refine at_slot 7 ?_); refine wpList_noneI rfl rfl w.heap.size (Nat.le_refl _) ?_; intro w1 ho1 hl1; have HO1 := hide ho1; have HL1 := hide hl1; have hz1 := hl1.size; clear ho1 hl1))
  go_loopw [5, 6] (fun v i wr => ∃ (k : Nat) (A1 : Option Addr) (c1 : Nat), k ≤ n ∧ k ≤ m.toNat ∧ i = .int .i64 (k : Int) ∧ v = .slice A1 k c1 ∧ Hid (wr.ownsRow w.heap.size 3 1 v k (I64 (L.take k))) ∧ Hid (Below w.heap.size w wr)) (fun _ i _ => n - (intOf i).toNat)
  case atStart => exact ⟨0, _, _, Nat.zero_le _, Nat.zero_le _, rfl, rfl, HO1, HL1⟩
  case round =>
    obtain ⟨k, A1, c1, hk, hkm, rfl, rfl, HO, HBr⟩ := hrel
    have HHr := hide (HH.out.later HBr.out)
    have hcr := HHr.out.c0
    rw [HN.out] at hcr
    by_cases hkn : k < n
    · have hkk : (k : Int) < (n : Int) := by omega
      by_cases hkm2 : (k : Int) < m
      · obtain ⟨ad, x, rfl, had, hx, hcx⟩ := HHr.out.rd.i64_at (by rw [HN.out]; exact hkn)
        have HE := hide (take_cells hx)
        have HM := hide (show k + 1 ≤ maxLen ∧ (k + 1) * 8 ≤ 140737488355328 by simp only [maxLen]; omega)
        clear hx
        go_wp2_with (first
          | ((with_reducible refine at_slot 31 ?_); refine wpList_append_any _ rfl (.tmp 22) (.tmp 30) _ rfl w.heap.size 3 i0 _ 1 8 Try.underlying31 hi0 hz0 hz1i hz2i rfl (by decide) _ k _ rfl (own_later HO.out (((Below.refl _ wr).alloc (Nat.le_refl _) _))) (wr.heap.size + 1) (some ⟨wr.heap.size, 0, none⟩) 1 1 [.int .i64 x] rfl (Reads.one _ _ _ _ (by omega)) (by intro x hx; simp at hx; subst hx; rfl) HM.out.1 HM.out.2 (by rw [World.size_alloc]; have := HBr.out.size; omega) ?_; intro v3 w3 hown3 hl3; have HO3 := hide hown3; obtain ⟨A3, c3, rfl, _, _⟩ := own_shape hown3; have HB3 := hide ((HBr.out.trans (((Below.refl _ wr).alloc (Nat.le_refl _) _).mono HBr.out.size)).trans hl3); clear hown3 hl3))
        have HO4 : Hid (w3.ownsRow w.heap.size 3 1 (.slice A3 (k + 1) c3) (k + 1) (I64 (L.take (k + 1)))) := hide (by rw [HE.out]; exact HO3.out)
        go_roundw
        case rel => exact ⟨k + 1, A3, c3, by omega, by omega, by go_num, rfl, HO4, HB3⟩
        case measure => simp [intOf]; omega
      · have e : L.take m.toNat = L.take k := by congr 1; omega
        have HO5 : Hid (wr.ownsRow w.heap.size 3 1 (.slice A1 k c1) T.length (I64 T)) := hide (by
          have hkl : (L.take k).length = k := by rw [List.length_take, HN.out]; omega
          rw [← HT.out, e, hkl]
          exact HO.out)
        clear e
        go_wp2_with fail
        go_ret
        exact ⟨.slice A1 k c1, rfl, HO5.out, HBr.out⟩
    · obtain rfl : k = n := by omega
      have e2 : L.take k = L := List.take_of_length_le (by rw [HN.out]; exact Nat.le_refl _)
      have e : L.take m.toNat = L := List.take_of_length_le (by rw [HN.out]; exact hkm)
      have HO5 : Hid (wr.ownsRow w.heap.size 3 1 (.slice A1 k c1) T.length (I64 T)) := hide (by
        have h1 := HO.out
        rw [e2] at h1
        rw [← HT.out, e, HN.out]
        exact h1)
      clear e e2
      go_wp2_with fail
      go_ret
      exact ⟨.slice A1 k c1, rfl, HO5.out, HBr.out⟩
set_option maxRecDepth 100000 in
theorem rclone_any (h : RfIn w r A c L) (hL : L.length ≤ 1000000) : Calls Try.prog 18 #[.pointer (some ⟨r, 0, none⟩)] w fun e w' => ∃ r' A' c', e = .returned (.pointer (some ⟨r', 0, none⟩)) ∧ RfIn w' r' A' c' L ∧ w.heap.size ≤ r' ∧ (∀ g, (Value.slice A' L.length c').ownBlock = some g → w.heap.size ≤ g) ∧ Below w.heap.size w w' := by
  obtain ⟨i0, hi0, hz0, hz1i, hz2i⟩ := info_parts int_parts16
  have HH := hide h
  have HM := hide (show 0 + L.length ≤ maxLen ∧ (0 + L.length) * 8 ≤ 140737488355328 by simp only [maxLen]; omega)
  have HC := hide (fun (W : World) (hb : Below w.heap.size w W) => (h.later hb).c0)
  clear h
  go_enter Try.func18, Try.ntmps18
  go_wp2_with (first
    | ((with_reducible refine at_slot 3 ?_); refine wpList_noneI rfl rfl w.heap.size (Nat.le_refl _) ?_; intro w1 ho1 hl1; have hc1 := HC.out w1 hl1; have HO1 := hide ho1; have HL1 := hide hl1; have hz1 := hl1.size; clear ho1 hl1)
    | ((with_reducible refine at_slot 8 ?_); refine wpList_append_any _ rfl (.tmp 3) (.tmp 7) _ rfl w.heap.size 3 i0 _ 1 8 Try.underlying31 hi0 hz0 hz1i hz2i rfl (by decide) _ 0 [] rfl HO1.out w1.heap.size A L.length c (I64 L) rfl (HH.out.later HL1.out).rd (by intro x hx; unfold I64 at hx; obtain ⟨y, _, rfl⟩ := List.mem_map.1 hx; rfl) HM.out.1 HM.out.2 hz1 ?_; intro v3 w3 hown3 hl3; rw [Nat.zero_add, List.nil_append] at hown3; have HO3 := hide hown3; obtain ⟨A3, c3, rfl, _, _⟩ := own_shape hown3; have HB3 := hide (HL1.out.trans hl3); have hz3 := HB3.out.size; clear hown3 hl3)
    | ((with_reducible refine at_slot 9 ?_); refine wpList_build_is rfl 37 _ rfl _ rfl _ (rf_built _ _ _) ?_)
    | ((with_reducible refine at_slot 10 ?_); refine wpList_box_blk rfl 37 _ rfl (.agg #[.slice A3 L.length c3]) rfl ?_; intro w4 hb4 hl4 hs4; clear hs4; have HB4 := hide (show Blk w4 w3.heap.size 37 #[.slice A3 L.length c3] from hb4); have HL4 := hide hl4; clear hb4 hl4))
  go_ret
  exact ⟨_, A3, c3, rfl, ⟨HB4.out, own_mono (own_later HO3.out HL4.out) (Nat.zero_le _), fun e => by have := (HO3.out.lt _ e).2; omega⟩, hz3, fun g hg => (HO3.out.lt g hg).1, HB3.out.trans (HL4.out.mono hz3)⟩
end
/-! ### Over a law's memory -/
section
variable {w0 W W' : World} {Hs : List Thing} {U : VarsT} {r : Nat} {L : List Int}
theorem Sta.rmk (h : Sta w0 W Hs U) : Calls Try.prog 10 #[] W fun e W' => ∃ r, e = .returned (.pointer (some ⟨r, 0, none⟩)) ∧ Sta w0 W' (Hs ++ [rfT r []]) U :=
  (rnew_any W).mono fun e W' ⟨r, he, hI, h1, hb⟩ => ⟨r, he, h.add (rfT r []) (F := fun i => i = r) hb ⟨none, 0, hI, fun i => ⟨.inl, fun h => h.elim id fun h => by cases h⟩⟩ fun x hx => by rw [hx]; exact h1⟩
theorem Sta.rhas (h : Sta w0 W Hs U) (i : Nat) (e : Hs[i]? = some (rfT r L)) (hL : L.length ≤ 1000000) (b : Int) : Calls Try.prog 14 #[.pointer (some ⟨r, 0, none⟩), .int .i64 b] W fun e W' => e = .returned (.bool (decide (b ∈ L))) ∧ W = W' :=
  h.still i e fun F ⟨A, c, hI, hF⟩ => rhas_any hI hL b
theorem Sta.rdrop (h : Sta w0 W Hs U) (i : Nat) (e : Hs[i]? = some (rfT r L)) (hL : L.length ≤ 1000000) (b : Int) : Calls Try.prog 12 #[.pointer (some ⟨r, 0, none⟩), .int .i64 b] W fun e W' => e = .returned (.bool (decide (b ∈ L))) ∧ Sta w0 W' (Hs.set i (rfT r (wo b L))) U :=
  h.call i e fun F ⟨A, c, hI, hF⟩ => (rdrop_any hI hL b).mono fun e W' ⟨he, ⟨A', c', hI', hs⟩, hT⟩ => ⟨he, ⟨fun i => i = r ∨ (Value.slice A' (wo b L).length c').ownBlock = some i, ⟨A', c', hI', fun _ => Iff.rfl⟩, fun x hx => hx.imp (fun e => (hF x).2 (.inl e)) (hs x)⟩, hT.wider fun i hi => (hF i).2 (.inl hi)⟩
theorem Sta.rtouch (h : Sta w0 W Hs U) (i : Nat) (e : Hs[i]? = some (rfT r L)) (hL : L.length ≤ 1000000) (b : Int) : Calls Try.prog 21 #[.pointer (some ⟨r, 0, none⟩), .int .i64 b] W fun e W' => e = .returned (.tuple #[]) ∧ Sta w0 W' (Hs.set i (rfT r (tch b L))) U :=
  h.call i e fun F ⟨A, c, hI, hF⟩ => (rtouch_any hI hL b).mono fun e W' ⟨he, ⟨A', c', hI', hs⟩, hT⟩ => ⟨he, ⟨fun i => i = r ∨ (Value.slice A' (tch b L).length c').ownBlock = some i, ⟨A', c', hI', fun _ => Iff.rfl⟩, fun x hx => hx.imp (fun e => (hF x).2 (.inl e)) (hs x)⟩, hT.wider fun i hi => (hF i).2 (.inl hi)⟩
theorem Sta.roldest (h : Sta w0 W Hs U) (i : Nat) (e : Hs[i]? = some (rfT r L)) (hL : L.length ≤ 1000000) (n : Int) (T : List Int) (hT : L.take n.toNat = T) : Calls Try.prog 17 #[.pointer (some ⟨r, 0, none⟩), .int .i64 n] W fun e W' => ∃ A c, e = .returned (.slice A T.length c) ∧ Reads W' W'.heap.size 1 A T.length (I64 T) ∧ Sta w0 W' Hs U ∧ Below W.heap.size W W' := by
  obtain ⟨F, A, c, hI, hF⟩ := h.thing i e
  refine (roldest_any hI hL n T hT).mono fun _ W' ⟨v, he, ho, hb⟩ => ?_
  obtain ⟨A, c, rfl, h1, h2⟩ := own_shape ho
  exact ⟨A, c, he, own_rd ho, h.later hb, hb⟩
theorem Sta.rclone (h : Sta w0 W Hs U) (i : Nat) (e : Hs[i]? = some (rfT r L)) (hL : L.length ≤ 1000000) : Calls Try.prog 18 #[.pointer (some ⟨r, 0, none⟩)] W fun e W' => ∃ r', e = .returned (.pointer (some ⟨r', 0, none⟩)) ∧ Sta w0 W' (Hs ++ [rfT r' L]) U := by
  obtain ⟨F, A, c, hI, hF⟩ := h.thing i e
  exact (rclone_any hI hL).mono fun e W' ⟨r', A', c', he, hI', h1, h2, hb⟩ => ⟨r', he, h.add (rfT r' L) (F := fun i => i = r' ∨ (Value.slice A' L.length c').ownBlock = some i) hb ⟨A', c', hI', fun _ => Iff.rfl⟩ fun x hx => by
    rcases hx with rfl | hx
    · exact h1
    · exact h2 x hx⟩
theorem Sta.rcell (h : Sta w0 W Hs U) (i : Nat) (e : Hs[i]? = some (rfT r L)) : ∃ A c, W.cell? ⟨r, 0, none⟩ = some (.slice A L.length c) ∧ Reads W W.heap.size 1 A L.length (I64 L) := by
  obtain ⟨F, A, c, hI, hF⟩ := h.thing i e
  exact ⟨A, c, hI.c0, hI.rd⟩
end
#print axioms Sta.rtouch
#print axioms Sta.roldest
#print axioms Sta.rclone
end Go.Proofs.Ythodmhjlokfcaaa
