/- VmapGroups' walk over the contracts. -/
import Derived.Test.YtfjgpnjhmfcpiaaVmV
import Derived.Test.YtfjgpnjhmfcpiaaArgW
import Derived.Deep.DeepCutAuto
import Derived.Deep.CutBlock
namespace Go.Proofs.Ytfjgpnjhmfcpiaa
open Go.RowKit Go.Maps
set_option linter.unusedVariables false
theorem countP_split {α : Type} {p q r : α → Bool} : ∀ (l : List α), (∀ x ∈ l, p x = (q x || r x) ∧ (q x && r x) = false) → l.countP p = l.countP q + l.countP r
  | [], _ => rfl
  | x :: l, h => by
    have ih := countP_split l (fun y hy => h y (List.mem_cons_of_mem _ hy))
    obtain ⟨h1, h2⟩ := h x (List.mem_cons_self ..)
    rw [List.countP_cons, List.countP_cons, List.countP_cons, ih, h1]
    cases hq : q x <;> cases hr : r x <;> simp [hq, hr] at h2 ⊢ <;> omega
/-- How many blocks are in the groups below k. -/
def upTo (V : List Wh) (k : Nat) : Nat := (List.range V.length).countP fun i => decide ((V.getD i Wh.none_).t ≠ 0 ∧ (V.getD i Wh.none_).g < (k : Int))
/-- How many of the first k are nowhere. -/
def noneTo (V : List Wh) (k : Nat) : Nat := (List.range k).countP fun i => decide ((V.getD i Wh.none_).t = 0)
theorem ok_g {w : Wh} (h : w.ok = true) (ht : w.t ≠ 0) : 0 ≤ w.g ∧ w.g < 256 := by
  unfold Wh.ok at h
  rw [if_neg ht] at h
  split at h
  · have := of_decide_eq_true h; omega
  · split at h
    · have := of_decide_eq_true h; omega
    · cases h
theorem getD_ok {V : List Wh} (h : OkV V) {i : Nat} (hi : i < V.length) : (V.getD i Wh.none_).ok = true := by
  have hq := List.getElem?_eq_getElem hi
  rw [getD_at hq]
  exact h.ok _ (List.mem_of_getElem? hq)
theorem upTo_zero {V : List Wh} (h : OkV V) : upTo V 0 = 0 := by
  unfold upTo
  rw [List.countP_eq_zero]
  intro i hi
  have hl := List.mem_range.1 hi
  simp only [decide_eq_true_eq, not_and]
  intro ht
  have := ok_g (getD_ok h hl) ht
  omega
theorem inZ_length (V : List Wh) (g : Int) : (inZ V g V.length).length = (List.range V.length).countP fun i => decide ((V.getD i Wh.none_).t ≠ 0 ∧ (V.getD i Wh.none_).g = g) := by
  unfold inZ inUp
  rw [List.length_map, List.countP_eq_length_filter]
theorem upTo_succ (V : List Wh) (k : Nat) : upTo V (k + 1) = upTo V k + (inZ V (k : Int) V.length).length := by
  rw [inZ_length]
  unfold upTo
  refine countP_split _ fun i hi => ?_
  by_cases ht : (V.getD i Wh.none_).t = 0
  · have f : ∀ P : Prop, ¬ ((V.getD i Wh.none_).t ≠ 0 ∧ P) := fun P h => h.1 ht
    rw [decide_eq_false (f _), decide_eq_false (f _), decide_eq_false (f _)]
    exact ⟨rfl, rfl⟩
  · rcases Int.lt_trichotomy (V.getD i Wh.none_).g (k : Int) with hg | hg | hg
    · have h1 : (V.getD i Wh.none_).g < ((k + 1 : Nat) : Int) := by omega
      have h2 : ¬ (V.getD i Wh.none_).g = (k : Int) := by omega
      simp only [decide_eq_true (And.intro ht h1), decide_eq_true (And.intro ht hg), decide_eq_false (fun h : _ ∧ _ => h2 h.2)]
      exact ⟨rfl, rfl⟩
    · have h1 : (V.getD i Wh.none_).g < ((k + 1 : Nat) : Int) := by omega
      have h2 : ¬ (V.getD i Wh.none_).g < (k : Int) := by omega
      simp only [decide_eq_true (And.intro ht h1), decide_eq_false (fun h : _ ∧ _ => h2 h.2), decide_eq_true (And.intro ht hg)]
      exact ⟨rfl, rfl⟩
    · have h1 : ¬ (V.getD i Wh.none_).g < ((k + 1 : Nat) : Int) := by omega
      have h2 : ¬ (V.getD i Wh.none_).g < (k : Int) := by omega
      have h3 : ¬ (V.getD i Wh.none_).g = (k : Int) := by omega
      simp only [decide_eq_false (fun h : _ ∧ _ => h1 h.2), decide_eq_false (fun h : _ ∧ _ => h2 h.2), decide_eq_false (fun h : _ ∧ _ => h3 h.2)]
      exact ⟨rfl, rfl⟩
theorem upTo_all {V : List Wh} (h : OkV V) : upTo V 256 + noneTo V V.length = V.length := by
  have h1 : (List.range V.length).countP (fun _ => true) = V.length := by rw [List.countP_true, List.length_range]
  have h2 := countP_split (p := fun _ => true) (q := fun i => decide ((V.getD i Wh.none_).t ≠ 0 ∧ (V.getD i Wh.none_).g < ((256 : Nat) : Int))) (r := fun i => decide ((V.getD i Wh.none_).t = 0)) (List.range V.length) fun i hi => by
    have hl := List.mem_range.1 hi
    by_cases ht : (V.getD i Wh.none_).t = 0
    · have f : ¬ ((V.getD i Wh.none_).t ≠ 0 ∧ (V.getD i Wh.none_).g < ((256 : Nat) : Int)) := fun h => h.1 ht
      rw [decide_eq_true ht, decide_eq_false f]
      exact ⟨rfl, rfl⟩
    · have hg := ok_g (getD_ok h hl) ht
      have hg2 : (V.getD i Wh.none_).g < ((256 : Nat) : Int) := by omega
      simp only [decide_eq_false ht, decide_eq_true (And.intro ht hg2)]
      exact ⟨rfl, rfl⟩
  rw [h1] at h2
  unfold upTo noneTo
  exact h2.symm
theorem upTo_le (V : List Wh) (k : Nat) : upTo V k ≤ V.length := by
  unfold upTo
  have := List.countP_le_length (p := fun i => decide ((V.getD i Wh.none_).t ≠ 0 ∧ (V.getD i Wh.none_).g < (k : Int))) (l := List.range V.length)
  rwa [List.length_range] at this
theorem noneTo_le (V : List Wh) (k : Nat) : noneTo V k ≤ k := by
  unfold noneTo
  have := List.countP_le_length (p := fun i => decide ((V.getD i Wh.none_).t = 0)) (l := List.range k)
  rwa [List.length_range] at this
theorem noneTo_succ {V : List Wh} {k : Nat} {q : Wh} (hq : V[k]? = some q) : noneTo V (k + 1) = noneTo V k + if q.t = 0 then 1 else 0 := by
  unfold noneTo
  rw [List.range_succ, List.countP_append, List.countP_singleton, getD_at hq]
  by_cases h : q.t = 0 <;> simp [h]
/-- What stands in the row of a group's blocks. -/
theorem inZ_at {V : List Wh} {g v : Int} {j : Nat} (h : (inZ V g V.length)[j]? = some v) : ∃ (b : Nat) (q : Wh), v = (b : Int) ∧ b < V.length ∧ V[b]? = some q ∧ q.t ≠ 0 ∧ q.g = g := by
  have hm := List.mem_of_getElem? h
  unfold inZ at hm
  obtain ⟨b, hb, rfl⟩ := List.mem_map.1 hm
  unfold inUp at hb
  obtain ⟨h1, h2⟩ := List.mem_filter.1 hb
  have hl := List.mem_range.1 h1
  have hq := List.getElem?_eq_getElem hl
  rw [getD_at hq] at h2
  have h3 := of_decide_eq_true h2
  exact ⟨b, _, rfl, hl, hq, h3.1, h3.2⟩
theorem inZ_rise {V : List Wh} {g v u : Int} {j : Nat} (h : (inZ V g V.length)[j]? = some v) (h2 : (inZ V g V.length)[j + 1]? = some u) : v < u := by
  have hp : (inZ V g V.length).Pairwise (· < ·) := by
    unfold inZ inUp
    rw [List.pairwise_map]
    exact (List.pairwise_lt_range.filter _).imp fun {a b} hab => by omega
  obtain ⟨h3, h4⟩ := List.getElem?_eq_some_iff.1 h
  obtain ⟨h5, h6⟩ := List.getElem?_eq_some_iff.1 h2
  have := List.pairwise_iff_getElem.1 hp j (j + 1) h3 h5 (by omega)
  rwa [h4, h6] at this
set_option maxRecDepth 100000 in
set_option maxHeartbeats 8000000 in
theorem vmapGroups_walk (ni : Int) (A : Option Addr) (n c : Nat) (L : List Ch) (w : World) (hx : ChsIn w w.heap.size ⟨A, n, c, L⟩) :
    Calls Try.prog 7 #[.int .i64 ni, .slice A n c] w fun e w' => e = .returned (.bool true) ∧ Below w.heap.size w w' := by
  have HS_w : Hid (Sta w w [] []) := hide (Sta.begin w)
  have HSH := hide shown15_any
  have HX := hide hx
  have HXL := hide (show L.length = n by have := hx.rd.1; rw [chsL_len] at this; dsimp only at this; omega)
  have hnc : n ≤ c := hx.le
  have hcm : c ≤ 9223372036854775807 := hx.lt
  have heq := run_eql_vm
  obtain ⟨v0, h0⟩ : ∃ v, newV ni = v := ⟨_, rfl⟩
  have HV0 := hide h0
  have HOK0 := hide (show OkV v0 by rw [← h0]; exact OkV.new ni)
  clear hx h0
  go_enter Try.func7, Try.ntmps7
  go_upto_block 0 with (first
    | (go_at_call 9; refine (HSH.out _).mono ?_; rintro _ y1 ⟨rfl, hlq⟩; have HS_y1 : Hid (Sta w y1 [] []) := hide (HS_w.out.later hlq); clear hlq)
    | (go_at_call 10; refine (HS_y1.out.mk_ ni).mono ?_; rintro _ y2 ⟨m, rfl, hsq⟩; rw [HV0.out] at hsq; have HS_y2 : Hid (Sta w y2 [vmT m v0] []) := hide hsq; clear hsq))
  go_cut [7] (fun _ wx => ∃ V : List Wh, Hid (V.length = v0.length) ∧ Hid (Sta w wx [vmT m V] []))
  case first =>
    go_wp2_with fail
    go_loopw [7] (fun s11 wr => ∃ (i : Nat) (V : List Wh), s11 = .int .i64 (i : Int) ∧ i ≤ 100 ∧ Hid (V.length = v0.length) ∧ Hid (Sta w wr [vmT m V] [])) (fun s11 _ => 100 - (intOf s11).toNat)
    case atStart => exact ⟨0, v0, rfl, by decide, hide rfl, HS_y2⟩
    case round =>
      obtain ⟨i, V, rfl, hi60, HLN, HS_z1⟩ := hrel
      obtain ⟨z1, rfl⟩ : ∃ z, z = wr := ⟨_, rfl⟩
      by_cases hin : (i : Int) < (n : Int)
      · by_cases h60 : (i : Int) < 100
        · obtain ⟨q, hq⟩ : ∃ q, L[i]? = some q := ⟨_, List.getElem?_eq_getElem (by rw [HXL.out]; omega)⟩
          obtain ⟨ad, hA, hone⟩ := HX.out.one HS_z1.out.low hq
          dsimp only at hA
          subst hA
          have HONE := hide hone
          have HLN2 := hide (show (setV V [q]).length = v0.length from (setV_len V [q]).trans HLN.out)
          clear hone hq
          go_wp2_with (first
            | (go_at_call 12; refine (HS_z1.out.set_ 0 rfl HONE.out).mono ?_; rintro _ z2 ⟨rfl, hsq⟩; have HS_z2 : Hid (Sta w z2 [vmT m (setV V [q])] []) := hide hsq; clear hsq))
          go_roundw
          case rel => exact ⟨i + 1, _, by go_num, by omega, HLN2, HS_z2⟩
          case measure => simp [intOf]; omega
        · have hd : decide ((i : Int) < 100) = false := by simpa using h60
          go_wp2_with fail
          go_meet
          exact ⟨V, HLN, HS_z1⟩
      · have hd : decide ((i : Int) < (n : Int)) = false := by simpa using hin
        go_wp2_with fail
        go_meet
        exact ⟨V, HLN, HS_z1⟩
  obtain ⟨V, HLN, HS_z⟩ := hcut
  obtain ⟨z, hz⟩ : ∃ z, z = wc := ⟨_, rfl⟩
  subst hz
  have HOKV := hide (HS_z.out.okV 0 rfl)
  obtain ⟨N, hN⟩ : ∃ N, V.length = N := ⟨_, rfl⟩
  have h1 := HOKV.out.one
  have h96 := HOKV.out.few
  rw [hN] at h1 h96
  have HN := hide hN
  clear hN
  go_upto_block 2 with (first
    | (go_at_call 14; refine (HS_z.out.all_ 0 rfl).mono ?_; rintro _ z3 ⟨g0, cg, cs, rfl, hcs, hsq⟩; have HCS := hide hcs; have HS_z3 : Hid (Sta w z3 [vmT m V] [(g0, 24, cs)]) := hide hsq; clear hcs hsq; rw [HN.out]))
  go_cut [9, 10, 11, 12] (fun v9 _ _ _ wx => v9 = .int .i64 (upTo V 256 : Int) ∧ Hid (Sta w wx [vmT m V] [(g0, 24, cs)]))
  case first =>
    go_wp2_with fail
    go_loopw [9, 10, 11, 12] (fun v9 v10 _ _ wr => ∃ k : Nat, k ≤ 256 ∧ v10 = .int .i64 (k : Int) ∧ v9 = .int .i64 (upTo V k : Int) ∧ Hid (Sta w wr [vmT m V] [(g0, 24, cs)])) (fun _ v10 _ _ _ => 256 - (intOf v10).toNat)
    case atStart => exact ⟨0, by decide, rfl, by rw [upTo_zero HOKV.out]; rfl, HS_z3⟩
    case round =>
      obtain ⟨k, hk, rfl, rfl, HS_z4⟩ := hrel
      obtain ⟨z4, rfl⟩ : ∃ z, z = wr := ⟨_, rfl⟩
      by_cases hk256 : (k : Int) < 256
      · go_upto_block 4 with (first
          | (go_at_call 21; refine (HS_z4.out.in_ 0 rfl (k : Int)).mono ?_; rintro _ z5 ⟨A5, c5, rfl, hr5, hs5, hl5⟩; rw [HN.out] at hr5 ⊢; have HR5 := hide hr5; have HS_z5 : Hid (Sta w z5 [vmT m V] [(g0, 24, cs)]) := hide hs5; clear hr5 hs5 hl5))
        obtain ⟨M, hM⟩ : ∃ M, (inZ V (k : Int) N).length = M := ⟨_, rfl⟩
        have hMN : M ≤ N := by rw [← hM]; exact inZ_len V (k : Int) N
        have HM := hide hM
        rw [hM] at HR5 ⊢
        have HUS := hide (show upTo V (k + 1) = upTo V k + M by rw [upTo_succ, HN.out, hM])
        have hul := upTo_le V k
        rw [HN.out] at hul
        clear hM
        go_cut [12] (fun _ wx => Hid (Sta w wx [vmT m V] [(g0, 24, cs)]))
        case first =>
          go_wp2_with fail
          go_loopw [12] (fun v12 wr => ∃ j : Nat, j ≤ M ∧ v12 = .int .i64 (j : Int) ∧ Hid (Below z5.heap.size z5 wr)) (fun v12 _ => M - (intOf v12).toNat)
          case atStart => exact ⟨0, Nat.zero_le _, rfl, hide (Below.refl _ _)⟩
          case round =>
            obtain ⟨j, hj, rfl, HB⟩ := hrel
            by_cases hjM : j < M
            · obtain ⟨ad, v, hA, hab, hv, hcv⟩ := (HR5.out.below HB.out).i64_at hjM
              subst hA
              have hv2 : (inZ V (k : Int) V.length)[j]? = some v := by rw [HN.out]; exact hv
              obtain ⟨b, q, rfl, hbN, hq, hqt, hqg⟩ := inZ_at hv2
              obtain ⟨ad2, hA2, _, _, q0, q1⟩ := wh_at ((HS_z5.out.later HB.out).reads 0 rfl HCS.out) hq
              injection hA2 with hA2
              subst hA2
              rw [add0] at q0 q1
              rw [hqg] at q1
              have HV := hide hv2
              have HCV := hide hcv
              have HQ0 := hide q0
              have HQ1 := hide q1
              have hbb : (b : Int) < (N : Int) := by rw [HN.out] at hbN; omega
              have hne : (q.t == 0) = false := by simpa using hqt
              have hjj : (j : Int) < (M : Int) := by omega
              clear hv hv2 hcv q0 q1 hq hqt hqg hbN
              go_wp2_with fail
              by_cases hj0 : j = 0
              · subst hj0
                refine wp_region_held_drew (S := (fun W => W = wr.drew)) (by kernel_rfl) ?_ (fun hHeld => ?_)
                · exact rfl
                refine heldTake (i := 0) (v := ?_) rfl (by kernel_rfl) (by kernel_rfl) (by kernel_rfl) (fun _ _ _ h => h) (Or.inl ⟨by rfl, ?_⟩) (by assumption) ?_
                rotate_left
                · intro w hSw; (try dsimp only at hSw); go_simp <;> (with_reducible rfl)
                try simp only [Act.put, List.setIfInBounds_toArray, List.set_cons_zero, List.set_cons_succ]
                refine heldTake (i := 1) (v := ?_) rfl (by kernel_rfl) (by kernel_rfl) (by kernel_rfl) (fun _ _ _ h => h) (Or.inl ⟨by rfl, ?_⟩) (by assumption) ?_
                rotate_left
                · intro w hSw; (try dsimp only at hSw); go_simp <;> (with_reducible rfl)
                try simp only [Act.put, List.setIfInBounds_toArray, List.set_cons_zero, List.set_cons_succ]
                refine heldTake (i := 2) (v := ?_) rfl (by kernel_rfl) (by kernel_rfl) (by kernel_rfl) (fun _ _ _ h => h) (Or.inl ⟨by rfl, ?_⟩) (by assumption) ?_
                rotate_left
                · intro w hSw; (try dsimp only at hSw); go_simp <;> (with_reducible rfl)
                try simp only [Act.put, List.setIfInBounds_toArray, List.set_cons_zero, List.set_cons_succ]
                refine heldTake (i := 3) (v := .int .i64 (b : Int)) rfl (by kernel_rfl) (by kernel_rfl) (by kernel_rfl) (fun _ _ _ h => h) (Or.inl ⟨by rfl, fun W hW => ?_⟩) (by assumption) ?_
                · dsimp only at hW
                  subst hW
                  have hc2 : wr.cell? ad = some (.int .i64 (b : Int)) := HCV.out
                  go_simp <;> rfl
                try simp only [Act.put, List.setIfInBounds_toArray, List.set_cons_zero, List.set_cons_succ]
                refine heldTake (i := 4) (v := .bool false) rfl (by kernel_rfl) (by kernel_rfl) (by kernel_rfl) (fun _ _ _ h => h) (Or.inl ⟨by rfl, fun W hW => ?_⟩) (by assumption) ?_
                · dsimp only at hW
                  subst hW
                  go_simp <;> (first | rfl | simp | omega)
                try simp only [Act.put, List.setIfInBounds_toArray, List.set_cons_zero, List.set_cons_succ]
                refine heldTake (i := 5) (v := ?_) rfl (by kernel_rfl) (by kernel_rfl) (by kernel_rfl) (fun _ _ _ h => h) (Or.inl ⟨by rfl, ?_⟩) (by assumption) ?_
                rotate_left
                · intro w hSw; (try dsimp only at hSw); go_simp <;> (with_reducible rfl)
                try simp only [Act.put, List.setIfInBounds_toArray, List.set_cons_zero, List.set_cons_succ]
                refine heldTake (i := 6) (v := ?_) rfl (by kernel_rfl) (by kernel_rfl) (by kernel_rfl) (fun _ _ _ h => h) (Or.inl ⟨by rfl, ?_⟩) (by assumption) ?_
                rotate_left
                · intro w hSw; (try dsimp only at hSw); go_simp <;> (with_reducible rfl)
                try simp only [Act.put, List.setIfInBounds_toArray, List.set_cons_zero, List.set_cons_succ]
                refine heldTake (i := 7) (v := ?_) rfl (by kernel_rfl) (by kernel_rfl) (by kernel_rfl) (fun _ _ _ h => h) (Or.inl ⟨by rfl, ?_⟩) (by assumption) ?_
                rotate_left
                · intro w hSw; (try dsimp only at hSw); go_simp <;> (with_reducible rfl)
                try simp only [Act.put, List.setIfInBounds_toArray, List.set_cons_zero, List.set_cons_succ]
                refine heldTake (i := 8) (v := ?_) rfl (by kernel_rfl) (by kernel_rfl) (by kernel_rfl) (fun _ _ _ h => h) (Or.inl ⟨by rfl, ?_⟩) (by assumption) ?_
                rotate_left
                · intro w hSw; (try dsimp only at hSw); go_simp <;> (with_reducible rfl)
                try simp only [Act.put, List.setIfInBounds_toArray, List.set_cons_zero, List.set_cons_succ]
                refine heldTake (i := 9) (v := .int .i64 (b : Int)) rfl (by kernel_rfl) (by kernel_rfl) (by kernel_rfl) (fun _ _ _ h => h) (Or.inl ⟨by rfl, fun W hW => ?_⟩) (by assumption) ?_
                · dsimp only at hW
                  subst hW
                  have hc2 : wr.cell? ad = some (.int .i64 (b : Int)) := HCV.out
                  go_simp <;> rfl
                try simp only [Act.put, List.setIfInBounds_toArray, List.set_cons_zero, List.set_cons_succ]
                refine heldTake (i := 10) (v := ?_) rfl (by kernel_rfl) (by kernel_rfl) (by kernel_rfl) (fun _ _ _ h => h) (Or.inl ⟨by rfl, ?_⟩) (by assumption) ?_
                rotate_left
                · intro w hSw; (try dsimp only at hSw); go_simp <;> (with_reducible rfl)
                try simp only [Act.put, List.setIfInBounds_toArray, List.set_cons_zero, List.set_cons_succ]
                refine heldTake (i := 11) (v := ?_) rfl (by kernel_rfl) (by kernel_rfl) (by kernel_rfl) (fun _ _ _ h => h) (Or.inl ⟨by rfl, ?_⟩) (by assumption) ?_
                rotate_left
                · intro w hSw; (try dsimp only at hSw); go_simp <;> (with_reducible rfl)
                try simp only [Act.put, List.setIfInBounds_toArray, List.set_cons_zero, List.set_cons_succ]
                refine heldTake (i := 12) (v := .bool false) rfl (by kernel_rfl) (by kernel_rfl) (by kernel_rfl) (fun _ _ _ h => h) (Or.inl ⟨by rfl, fun W hW => ?_⟩) (by assumption) ?_
                · dsimp only at hW
                  subst hW
                  go_simp <;> (first | rfl | simp | omega)
                try simp only [Act.put, List.setIfInBounds_toArray, List.set_cons_zero, List.set_cons_succ]
                refine heldTake (i := 13) (v := ?_) rfl (by kernel_rfl) (by kernel_rfl) (by kernel_rfl) (fun _ _ _ h => h) (Or.inl ⟨by rfl, ?_⟩) (by assumption) ?_
                rotate_left
                · intro w hSw; (try dsimp only at hSw); go_simp <;> (with_reducible rfl)
                try simp only [Act.put, List.setIfInBounds_toArray, List.set_cons_zero, List.set_cons_succ]
                refine heldTake (i := 14) (v := ?_) rfl (by kernel_rfl) (by kernel_rfl) (by kernel_rfl) (fun _ _ _ h => h) (Or.inl ⟨by rfl, ?_⟩) (by assumption) ?_
                rotate_left
                · intro w hSw; (try dsimp only at hSw); go_simp <;> (with_reducible rfl)
                try simp only [Act.put, List.setIfInBounds_toArray, List.set_cons_zero, List.set_cons_succ]
                refine heldTake (i := 15) (v := ?_) rfl (by kernel_rfl) (by kernel_rfl) (by kernel_rfl) (fun _ _ _ h => h) (Or.inl ⟨by rfl, ?_⟩) (by assumption) ?_
                rotate_left
                · intro w hSw; (try dsimp only at hSw); go_simp <;> (with_reducible rfl)
                try simp only [Act.put, List.setIfInBounds_toArray, List.set_cons_zero, List.set_cons_succ]
                refine heldTake (i := 16) (v := ?_) rfl (by kernel_rfl) (by kernel_rfl) (by kernel_rfl) (fun _ _ _ h => h) (Or.inl ⟨by rfl, ?_⟩) (by assumption) ?_
                rotate_left
                · intro w hSw; (try dsimp only at hSw); go_simp <;> (with_reducible rfl)
                try simp only [Act.put, List.setIfInBounds_toArray, List.set_cons_zero, List.set_cons_succ]
                refine heldTake (i := 17) (v := ?_) rfl (by kernel_rfl) (by kernel_rfl) (by kernel_rfl) (fun _ _ _ h => h) (Or.inl ⟨by rfl, ?_⟩) (by assumption) ?_
                rotate_left
                · intro w hSw; (try dsimp only at hSw); go_simp <;> (with_reducible rfl)
                try simp only [Act.put, List.setIfInBounds_toArray, List.set_cons_zero, List.set_cons_succ]
                refine heldTake (i := 18) (v := ?_) rfl (by kernel_rfl) (by kernel_rfl) (by kernel_rfl) (fun _ _ _ h => h) (Or.inl ⟨by rfl, ?_⟩) (by assumption) ?_
                rotate_left
                · intro w hSw; (try dsimp only at hSw); go_simp <;> (with_reducible rfl)
                try simp only [Act.put, List.setIfInBounds_toArray, List.set_cons_zero, List.set_cons_succ]
                refine heldTake (i := 19) (v := .int .i64 (b : Int)) rfl (by kernel_rfl) (by kernel_rfl) (by kernel_rfl) (fun _ _ _ h => h) (Or.inl ⟨by rfl, fun W hW => ?_⟩) (by assumption) ?_
                · dsimp only at hW
                  subst hW
                  have hc2 : wr.cell? ad = some (.int .i64 (b : Int)) := HCV.out
                  go_simp <;> rfl
                try simp only [Act.put, List.setIfInBounds_toArray, List.set_cons_zero, List.set_cons_succ]
                refine heldTake (i := 20) (v := ?_) rfl (by kernel_rfl) (by kernel_rfl) (by kernel_rfl) (fun _ _ _ h => h) (Or.inl ⟨by rfl, ?_⟩) (by assumption) ?_
                rotate_left
                · intro w hSw; (try dsimp only at hSw); go_simp <;> (with_reducible rfl)
                try simp only [Act.put, List.setIfInBounds_toArray, List.set_cons_zero, List.set_cons_succ]
                refine heldTake (i := 21) (v := ?_) rfl (by kernel_rfl) (by kernel_rfl) (by kernel_rfl) (fun _ _ _ h => h) (Or.inl ⟨by rfl, ?_⟩) (by assumption) ?_
                rotate_left
                · intro w hSw; (try dsimp only at hSw); go_simp <;> (with_reducible rfl)
                try simp only [Act.put, List.setIfInBounds_toArray, List.set_cons_zero, List.set_cons_succ]
                refine heldTake (i := 22) (v := .int .i64 (k : Int)) rfl (by kernel_rfl) (by kernel_rfl) (by kernel_rfl) (fun _ _ _ h => h) (Or.inl ⟨by rfl, fun W hW => ?_⟩) (by assumption) ?_
                · dsimp only at hW
                  subst hW
                  have hc2 := HQ1.out
                  go_simp <;> rfl
                try simp only [Act.put, List.setIfInBounds_toArray, List.set_cons_zero, List.set_cons_succ]
                refine heldTake (i := 23) (v := ?_) rfl (by kernel_rfl) (by kernel_rfl) (by kernel_rfl) (fun _ _ _ h => h) (Or.inl ⟨by rfl, ?_⟩) (by assumption) ?_
                rotate_left
                · intro w hSw; (try dsimp only at hSw); go_simp <;> (with_reducible rfl)
                try simp only [Act.put, List.setIfInBounds_toArray, List.set_cons_zero, List.set_cons_succ]
                refine heldTake (i := 24) (v := .bool false) rfl (by kernel_rfl) (by kernel_rfl) (by kernel_rfl) (fun _ _ _ h => h) (Or.inl ⟨by rfl, fun W hW => ?_⟩) (by assumption) ?_
                · dsimp only at hW
                  subst hW
                  go_simp <;> (first | rfl | simp)
                try simp only [Act.put, List.setIfInBounds_toArray, List.set_cons_zero, List.set_cons_succ]
                refine heldTake (i := 25) (v := ?_) rfl (by kernel_rfl) (by kernel_rfl) (by kernel_rfl) (fun _ _ _ h => h) (Or.inl ⟨by rfl, ?_⟩) (by assumption) ?_
                rotate_left
                · intro w hSw; (try dsimp only at hSw); go_simp <;> (with_reducible rfl)
                try simp only [Act.put, List.setIfInBounds_toArray, List.set_cons_zero, List.set_cons_succ]
                refine heldTake (i := 26) (v := ?_) rfl (by kernel_rfl) (by kernel_rfl) (by kernel_rfl) (fun _ _ _ h => h) (Or.inl ⟨by rfl, ?_⟩) (by assumption) ?_
                rotate_left
                · intro w hSw; (try dsimp only at hSw); go_simp <;> (with_reducible rfl)
                try simp only [Act.put, List.setIfInBounds_toArray, List.set_cons_zero, List.set_cons_succ]
                refine heldTake (i := 27) (v := ?_) rfl (by kernel_rfl) (by kernel_rfl) (by kernel_rfl) (fun _ _ _ h => h) (Or.inl ⟨by rfl, ?_⟩) (by assumption) ?_
                rotate_left
                · intro w hSw; (try dsimp only at hSw); go_simp <;> (with_reducible rfl)
                try simp only [Act.put, List.setIfInBounds_toArray, List.set_cons_zero, List.set_cons_succ]
                refine heldTake (i := 28) (v := ?_) rfl (by kernel_rfl) (by kernel_rfl) (by kernel_rfl) (fun _ _ _ h => h) (Or.inl ⟨by rfl, ?_⟩) (by assumption) ?_
                rotate_left
                · intro w hSw; (try dsimp only at hSw); go_simp <;> (with_reducible rfl)
                try simp only [Act.put, List.setIfInBounds_toArray, List.set_cons_zero, List.set_cons_succ]
                refine heldTake (i := 29) (v := ?_) rfl (by kernel_rfl) (by kernel_rfl) (by kernel_rfl) (fun _ _ _ h => h) (Or.inl ⟨by rfl, ?_⟩) (by assumption) ?_
                rotate_left
                · intro w hSw; (try dsimp only at hSw); go_simp <;> (with_reducible rfl)
                try simp only [Act.put, List.setIfInBounds_toArray, List.set_cons_zero, List.set_cons_succ]
                refine heldTake (i := 30) (v := ?_) rfl (by kernel_rfl) (by kernel_rfl) (by kernel_rfl) (fun _ _ _ h => h) (Or.inl ⟨by rfl, ?_⟩) (by assumption) ?_
                rotate_left
                · intro w hSw; (try dsimp only at hSw); go_simp <;> (with_reducible rfl)
                try simp only [Act.put, List.setIfInBounds_toArray, List.set_cons_zero, List.set_cons_succ]
                refine heldTake (i := 31) (v := .int .i64 (b : Int)) rfl (by kernel_rfl) (by kernel_rfl) (by kernel_rfl) (fun _ _ _ h => h) (Or.inl ⟨by rfl, fun W hW => ?_⟩) (by assumption) ?_
                · dsimp only at hW
                  subst hW
                  have hc2 : wr.cell? ad = some (.int .i64 (b : Int)) := HCV.out
                  go_simp <;> rfl
                try simp only [Act.put, List.setIfInBounds_toArray, List.set_cons_zero, List.set_cons_succ]
                refine heldTake (i := 32) (v := ?_) rfl (by kernel_rfl) (by kernel_rfl) (by kernel_rfl) (fun _ _ _ h => h) (Or.inl ⟨by rfl, ?_⟩) (by assumption) ?_
                rotate_left
                · intro w hSw; (try dsimp only at hSw); go_simp <;> (with_reducible rfl)
                try simp only [Act.put, List.setIfInBounds_toArray, List.set_cons_zero, List.set_cons_succ]
                refine heldTake (i := 33) (v := ?_) rfl (by kernel_rfl) (by kernel_rfl) (by kernel_rfl) (fun _ _ _ h => h) (Or.inl ⟨by rfl, ?_⟩) (by assumption) ?_
                rotate_left
                · intro w hSw; (try dsimp only at hSw); go_simp <;> (with_reducible rfl)
                try simp only [Act.put, List.setIfInBounds_toArray, List.set_cons_zero, List.set_cons_succ]
                refine heldTake (i := 34) (v := .int .i64 q.t) rfl (by kernel_rfl) (by kernel_rfl) (by kernel_rfl) (fun _ _ _ h => h) (Or.inl ⟨by rfl, fun W hW => ?_⟩) (by assumption) ?_
                · dsimp only at hW
                  subst hW
                  have hc2 : wr.drew.cell? ⟨g0, b * 3, none⟩ = some (.int .i64 q.t) := HQ0.out
                  go_simp <;> rfl
                try simp only [Act.put, List.setIfInBounds_toArray, List.set_cons_zero, List.set_cons_succ]
                refine heldTake (i := 35) (v := .bool false) rfl (by kernel_rfl) (by kernel_rfl) (by kernel_rfl) (fun _ _ _ h => h) (Or.inl ⟨by rfl, fun W hW => ?_⟩) (by assumption) ?_
                · dsimp only at hW
                  subst hW
                  go_simp <;> (first | rfl | simp [hne])
                try simp only [Act.put, List.setIfInBounds_toArray, List.set_cons_zero, List.set_cons_succ]
                refine heldTake (i := 36) (v := ?_) rfl (by kernel_rfl) (by kernel_rfl) (by kernel_rfl) (fun _ _ _ h => h) (Or.inl ⟨by rfl, ?_⟩) (by assumption) ?_
                rotate_left
                · intro w hSw; (try dsimp only at hSw); go_simp <;> (with_reducible rfl)
                try simp only [Act.put, List.setIfInBounds_toArray, List.set_cons_zero, List.set_cons_succ]
                refine heldTake (i := 37) (v := ?_) rfl (by kernel_rfl) (by kernel_rfl) (by kernel_rfl) (fun _ _ _ h => h) (Or.inl ⟨by rfl, ?_⟩) (by assumption) ?_
                rotate_left
                · intro w hSw; (try dsimp only at hSw); go_simp <;> (with_reducible rfl)
                try simp only [Act.put, List.setIfInBounds_toArray, List.set_cons_zero, List.set_cons_succ]
                refine heldTake (i := 38) (v := ?_) rfl (by kernel_rfl) (by kernel_rfl) (by kernel_rfl) (fun _ _ _ h => h) (Or.inl ⟨by rfl, ?_⟩) (by assumption) ?_
                rotate_left
                · intro w hSw; (try dsimp only at hSw); go_simp <;> (with_reducible rfl)
                try simp only [Act.put, List.setIfInBounds_toArray, List.set_cons_zero, List.set_cons_succ]
                refine heldTake (i := 39) (v := .bool false) rfl (by kernel_rfl) (by kernel_rfl) (by kernel_rfl) (fun _ _ _ h => h) (Or.inl ⟨by rfl, fun W hW => ?_⟩) (by assumption) ?_
                · dsimp only at hW
                  subst hW
                  go_simp <;> (first | rfl | simp)
                try simp only [Act.put, List.setIfInBounds_toArray, List.set_cons_zero, List.set_cons_succ]
                refine heldTake (i := 40) (v := ?_) rfl (by kernel_rfl) (by kernel_rfl) (by kernel_rfl) (fun _ _ _ h => h) (Or.inl ⟨by rfl, ?_⟩) (by assumption) ?_
                rotate_left
                · intro w hSw; (try dsimp only at hSw); go_simp <;> (with_reducible rfl)
                try simp only [Act.put, List.setIfInBounds_toArray, List.set_cons_zero, List.set_cons_succ]
                refine heldTake (i := 41) (v := undef) rfl (by kernel_rfl) (by kernel_rfl) (by kernel_rfl) (fun _ _ _ h => h) (Or.inr ⟨by rfl, rfl⟩) (by assumption) ?_
                try simp only [Act.put, List.setIfInBounds_toArray, List.set_cons_zero, List.set_cons_succ]
                refine heldTake (i := 42) (v := undef) rfl (by kernel_rfl) (by kernel_rfl) (by kernel_rfl) (fun _ _ _ h => h) (Or.inr ⟨by rfl, rfl⟩) (by assumption) ?_
                try simp only [Act.put, List.setIfInBounds_toArray, List.set_cons_zero, List.set_cons_succ]
                refine heldTake (i := 43) (v := undef) rfl (by kernel_rfl) (by kernel_rfl) (by kernel_rfl) (fun _ _ _ h => h) (Or.inr ⟨by rfl, rfl⟩) (by assumption) ?_
                try simp only [Act.put, List.setIfInBounds_toArray, List.set_cons_zero, List.set_cons_succ]
                refine heldTake (i := 44) (v := undef) rfl (by kernel_rfl) (by kernel_rfl) (by kernel_rfl) (fun _ _ _ h => h) (Or.inr ⟨by rfl, rfl⟩) (by assumption) ?_
                try simp only [Act.put, List.setIfInBounds_toArray, List.set_cons_zero, List.set_cons_succ]
                refine heldTake (i := 45) (v := undef) rfl (by kernel_rfl) (by kernel_rfl) (by kernel_rfl) (fun _ _ _ h => h) (Or.inr ⟨by rfl, rfl⟩) (by assumption) ?_
                try simp only [Act.put, List.setIfInBounds_toArray, List.set_cons_zero, List.set_cons_succ]
                refine heldTake (i := 46) (v := undef) rfl (by kernel_rfl) (by kernel_rfl) (by kernel_rfl) (fun _ _ _ h => h) (Or.inr ⟨by rfl, rfl⟩) (by assumption) ?_
                try simp only [Act.put, List.setIfInBounds_toArray, List.set_cons_zero, List.set_cons_succ]
                refine heldTake (i := 47) (v := undef) rfl (by kernel_rfl) (by kernel_rfl) (by kernel_rfl) (fun _ _ _ h => h) (Or.inr ⟨by rfl, rfl⟩) (by assumption) ?_
                try simp only [Act.put, List.setIfInBounds_toArray, List.set_cons_zero, List.set_cons_succ]
                refine heldTake (i := 48) (v := undef) rfl (by kernel_rfl) (by kernel_rfl) (by kernel_rfl) (fun _ _ _ h => h) (Or.inr ⟨by rfl, rfl⟩) (by assumption) ?_
                try simp only [Act.put, List.setIfInBounds_toArray, List.set_cons_zero, List.set_cons_succ]
                refine heldTake (i := 49) (v := undef) rfl (by kernel_rfl) (by kernel_rfl) (by kernel_rfl) (fun _ _ _ h => h) (Or.inr ⟨by rfl, rfl⟩) (by assumption) ?_
                try simp only [Act.put, List.setIfInBounds_toArray, List.set_cons_zero, List.set_cons_succ]
                refine heldTake (i := 50) (v := undef) rfl (by kernel_rfl) (by kernel_rfl) (by kernel_rfl) (fun _ _ _ h => h) (Or.inr ⟨by rfl, rfl⟩) (by assumption) ?_
                try simp only [Act.put, List.setIfInBounds_toArray, List.set_cons_zero, List.set_cons_succ]
                refine heldTake (i := 51) (v := ?_) rfl (by kernel_rfl) (by kernel_rfl) (by kernel_rfl) (fun _ _ _ h => h) (Or.inl ⟨by rfl, ?_⟩) (by assumption) ?_
                rotate_left
                · intro w hSw; (try dsimp only at hSw); go_simp <;> (with_reducible rfl)
                try simp only [Act.put, List.setIfInBounds_toArray, List.set_cons_zero, List.set_cons_succ]
                refine heldTake (i := 52) (v := ?_) rfl (by kernel_rfl) (by kernel_rfl) (by kernel_rfl) (fun _ _ _ h => h) (Or.inl ⟨by rfl, ?_⟩) (by assumption) ?_
                rotate_left
                · intro w hSw; (try dsimp only at hSw); go_simp <;> (with_reducible rfl)
                try simp only [Act.put, List.setIfInBounds_toArray, List.set_cons_zero, List.set_cons_succ]
                refine wpAnyH_done (by kernel_rfl) ?_ _
                go_wp2
                have HB3 := hide (HB.out.drew)
                go_roundw
                case rel => exact ⟨0 + 1, by omega, by go_num, HB3⟩
                case measure => simp [intOf]; omega
              · obtain ⟨i, hij⟩ : ∃ i, j = i + 1 := ⟨j - 1, by omega⟩
                have HIJ := hide hij
                have hjp : (0 : Int) < (j : Int) := by omega
                have hjs : (j : Int) - 1 = (i : Int) := by omega
                have hiM : (i : Int) < (M : Int) := by omega
                obtain ⟨ad3, v3, hA3, _, hv3, hcv3⟩ := (HR5.out.below HB.out).i64_at (show i < M by omega)
                injection hA3 with hA3
                subst hA3
                have hv4 : (inZ V (k : Int) V.length)[i]? = some v3 := by rw [HN.out]; exact hv3
                obtain ⟨b2, q2, rfl, _, _, _, _⟩ := inZ_at hv4
                have hlt : (b2 : Int) < (b : Int) := inZ_rise hv4 (by have h8 := HV.out; rw [HIJ.out] at h8; exact h8)
                have HCV2 := hide hcv3
                clear hv3 hcv3 hv4 hij hj0
                refine wp_region_held_drew (S := (fun W => W = wr.drew)) (by kernel_rfl) ?_ (fun hHeld => ?_)
                · exact rfl
                refine heldTake (i := 0) (v := ?_) rfl (by kernel_rfl) (by kernel_rfl) (by kernel_rfl) (fun _ _ _ h => h) (Or.inl ⟨by rfl, ?_⟩) (by assumption) ?_
                rotate_left
                · intro w hSw; (try dsimp only at hSw); go_simp <;> (with_reducible rfl)
                try simp only [Act.put, List.setIfInBounds_toArray, List.set_cons_zero, List.set_cons_succ]
                refine heldTake (i := 1) (v := ?_) rfl (by kernel_rfl) (by kernel_rfl) (by kernel_rfl) (fun _ _ _ h => h) (Or.inl ⟨by rfl, ?_⟩) (by assumption) ?_
                rotate_left
                · intro w hSw; (try dsimp only at hSw); go_simp <;> (with_reducible rfl)
                try simp only [Act.put, List.setIfInBounds_toArray, List.set_cons_zero, List.set_cons_succ]
                refine heldTake (i := 2) (v := ?_) rfl (by kernel_rfl) (by kernel_rfl) (by kernel_rfl) (fun _ _ _ h => h) (Or.inl ⟨by rfl, ?_⟩) (by assumption) ?_
                rotate_left
                · intro w hSw; (try dsimp only at hSw); go_simp <;> (with_reducible rfl)
                try simp only [Act.put, List.setIfInBounds_toArray, List.set_cons_zero, List.set_cons_succ]
                refine heldTake (i := 3) (v := .int .i64 (b : Int)) rfl (by kernel_rfl) (by kernel_rfl) (by kernel_rfl) (fun _ _ _ h => h) (Or.inl ⟨by rfl, fun W hW => ?_⟩) (by assumption) ?_
                · dsimp only at hW
                  subst hW
                  have hc2 : wr.drew.cell? (ad.add j) = some (.int .i64 (b : Int)) := HCV.out
                  go_simp <;> rfl
                try simp only [Act.put, List.setIfInBounds_toArray, List.set_cons_zero, List.set_cons_succ]
                refine heldTake (i := 4) (v := .bool false) rfl (by kernel_rfl) (by kernel_rfl) (by kernel_rfl) (fun _ _ _ h => h) (Or.inl ⟨by rfl, fun W hW => ?_⟩) (by assumption) ?_
                · dsimp only at hW
                  subst hW
                  go_simp <;> (first | rfl | simp | omega)
                try simp only [Act.put, List.setIfInBounds_toArray, List.set_cons_zero, List.set_cons_succ]
                refine heldTake (i := 5) (v := ?_) rfl (by kernel_rfl) (by kernel_rfl) (by kernel_rfl) (fun _ _ _ h => h) (Or.inl ⟨by rfl, ?_⟩) (by assumption) ?_
                rotate_left
                · intro w hSw; (try dsimp only at hSw); go_simp <;> (with_reducible rfl)
                try simp only [Act.put, List.setIfInBounds_toArray, List.set_cons_zero, List.set_cons_succ]
                refine heldTake (i := 6) (v := ?_) rfl (by kernel_rfl) (by kernel_rfl) (by kernel_rfl) (fun _ _ _ h => h) (Or.inl ⟨by rfl, ?_⟩) (by assumption) ?_
                rotate_left
                · intro w hSw; (try dsimp only at hSw); go_simp <;> (with_reducible rfl)
                try simp only [Act.put, List.setIfInBounds_toArray, List.set_cons_zero, List.set_cons_succ]
                refine heldTake (i := 7) (v := ?_) rfl (by kernel_rfl) (by kernel_rfl) (by kernel_rfl) (fun _ _ _ h => h) (Or.inl ⟨by rfl, ?_⟩) (by assumption) ?_
                rotate_left
                · intro w hSw; (try dsimp only at hSw); go_simp <;> (with_reducible rfl)
                try simp only [Act.put, List.setIfInBounds_toArray, List.set_cons_zero, List.set_cons_succ]
                refine heldTake (i := 8) (v := ?_) rfl (by kernel_rfl) (by kernel_rfl) (by kernel_rfl) (fun _ _ _ h => h) (Or.inl ⟨by rfl, ?_⟩) (by assumption) ?_
                rotate_left
                · intro w hSw; (try dsimp only at hSw); go_simp <;> (with_reducible rfl)
                try simp only [Act.put, List.setIfInBounds_toArray, List.set_cons_zero, List.set_cons_succ]
                refine heldTake (i := 9) (v := .int .i64 (b : Int)) rfl (by kernel_rfl) (by kernel_rfl) (by kernel_rfl) (fun _ _ _ h => h) (Or.inl ⟨by rfl, fun W hW => ?_⟩) (by assumption) ?_
                · dsimp only at hW
                  subst hW
                  have hc2 : wr.drew.cell? (ad.add j) = some (.int .i64 (b : Int)) := HCV.out
                  go_simp <;> rfl
                try simp only [Act.put, List.setIfInBounds_toArray, List.set_cons_zero, List.set_cons_succ]
                refine heldTake (i := 10) (v := ?_) rfl (by kernel_rfl) (by kernel_rfl) (by kernel_rfl) (fun _ _ _ h => h) (Or.inl ⟨by rfl, ?_⟩) (by assumption) ?_
                rotate_left
                · intro w hSw; (try dsimp only at hSw); go_simp <;> (with_reducible rfl)
                try simp only [Act.put, List.setIfInBounds_toArray, List.set_cons_zero, List.set_cons_succ]
                refine heldTake (i := 11) (v := ?_) rfl (by kernel_rfl) (by kernel_rfl) (by kernel_rfl) (fun _ _ _ h => h) (Or.inl ⟨by rfl, ?_⟩) (by assumption) ?_
                rotate_left
                · intro w hSw; (try dsimp only at hSw); go_simp <;> (with_reducible rfl)
                try simp only [Act.put, List.setIfInBounds_toArray, List.set_cons_zero, List.set_cons_succ]
                refine heldTake (i := 12) (v := .bool false) rfl (by kernel_rfl) (by kernel_rfl) (by kernel_rfl) (fun _ _ _ h => h) (Or.inl ⟨by rfl, fun W hW => ?_⟩) (by assumption) ?_
                · dsimp only at hW
                  subst hW
                  go_simp <;> (first | rfl | simp | omega)
                try simp only [Act.put, List.setIfInBounds_toArray, List.set_cons_zero, List.set_cons_succ]
                refine heldTake (i := 13) (v := ?_) rfl (by kernel_rfl) (by kernel_rfl) (by kernel_rfl) (fun _ _ _ h => h) (Or.inl ⟨by rfl, ?_⟩) (by assumption) ?_
                rotate_left
                · intro w hSw; (try dsimp only at hSw); go_simp <;> (with_reducible rfl)
                try simp only [Act.put, List.setIfInBounds_toArray, List.set_cons_zero, List.set_cons_succ]
                refine heldTake (i := 14) (v := ?_) rfl (by kernel_rfl) (by kernel_rfl) (by kernel_rfl) (fun _ _ _ h => h) (Or.inl ⟨by rfl, ?_⟩) (by assumption) ?_
                rotate_left
                · intro w hSw; (try dsimp only at hSw); go_simp <;> (with_reducible rfl)
                try simp only [Act.put, List.setIfInBounds_toArray, List.set_cons_zero, List.set_cons_succ]
                refine heldTake (i := 15) (v := ?_) rfl (by kernel_rfl) (by kernel_rfl) (by kernel_rfl) (fun _ _ _ h => h) (Or.inl ⟨by rfl, ?_⟩) (by assumption) ?_
                rotate_left
                · intro w hSw; (try dsimp only at hSw); go_simp <;> (with_reducible rfl)
                try simp only [Act.put, List.setIfInBounds_toArray, List.set_cons_zero, List.set_cons_succ]
                refine heldTake (i := 16) (v := ?_) rfl (by kernel_rfl) (by kernel_rfl) (by kernel_rfl) (fun _ _ _ h => h) (Or.inl ⟨by rfl, ?_⟩) (by assumption) ?_
                rotate_left
                · intro w hSw; (try dsimp only at hSw); go_simp <;> (with_reducible rfl)
                try simp only [Act.put, List.setIfInBounds_toArray, List.set_cons_zero, List.set_cons_succ]
                refine heldTake (i := 17) (v := ?_) rfl (by kernel_rfl) (by kernel_rfl) (by kernel_rfl) (fun _ _ _ h => h) (Or.inl ⟨by rfl, ?_⟩) (by assumption) ?_
                rotate_left
                · intro w hSw; (try dsimp only at hSw); go_simp <;> (with_reducible rfl)
                try simp only [Act.put, List.setIfInBounds_toArray, List.set_cons_zero, List.set_cons_succ]
                refine heldTake (i := 18) (v := ?_) rfl (by kernel_rfl) (by kernel_rfl) (by kernel_rfl) (fun _ _ _ h => h) (Or.inl ⟨by rfl, ?_⟩) (by assumption) ?_
                rotate_left
                · intro w hSw; (try dsimp only at hSw); go_simp <;> (with_reducible rfl)
                try simp only [Act.put, List.setIfInBounds_toArray, List.set_cons_zero, List.set_cons_succ]
                refine heldTake (i := 19) (v := .int .i64 (b : Int)) rfl (by kernel_rfl) (by kernel_rfl) (by kernel_rfl) (fun _ _ _ h => h) (Or.inl ⟨by rfl, fun W hW => ?_⟩) (by assumption) ?_
                · dsimp only at hW
                  subst hW
                  have hc2 : wr.drew.cell? (ad.add j) = some (.int .i64 (b : Int)) := HCV.out
                  go_simp <;> rfl
                try simp only [Act.put, List.setIfInBounds_toArray, List.set_cons_zero, List.set_cons_succ]
                refine heldTake (i := 20) (v := ?_) rfl (by kernel_rfl) (by kernel_rfl) (by kernel_rfl) (fun _ _ _ h => h) (Or.inl ⟨by rfl, ?_⟩) (by assumption) ?_
                rotate_left
                · intro w hSw; (try dsimp only at hSw); go_simp <;> (with_reducible rfl)
                try simp only [Act.put, List.setIfInBounds_toArray, List.set_cons_zero, List.set_cons_succ]
                refine heldTake (i := 21) (v := ?_) rfl (by kernel_rfl) (by kernel_rfl) (by kernel_rfl) (fun _ _ _ h => h) (Or.inl ⟨by rfl, ?_⟩) (by assumption) ?_
                rotate_left
                · intro w hSw; (try dsimp only at hSw); go_simp <;> (with_reducible rfl)
                try simp only [Act.put, List.setIfInBounds_toArray, List.set_cons_zero, List.set_cons_succ]
                refine heldTake (i := 22) (v := .int .i64 (k : Int)) rfl (by kernel_rfl) (by kernel_rfl) (by kernel_rfl) (fun _ _ _ h => h) (Or.inl ⟨by rfl, fun W hW => ?_⟩) (by assumption) ?_
                · dsimp only at hW
                  subst hW
                  have hc2 := HQ1.out
                  go_simp <;> rfl
                try simp only [Act.put, List.setIfInBounds_toArray, List.set_cons_zero, List.set_cons_succ]
                refine heldTake (i := 23) (v := ?_) rfl (by kernel_rfl) (by kernel_rfl) (by kernel_rfl) (fun _ _ _ h => h) (Or.inl ⟨by rfl, ?_⟩) (by assumption) ?_
                rotate_left
                · intro w hSw; (try dsimp only at hSw); go_simp <;> (with_reducible rfl)
                try simp only [Act.put, List.setIfInBounds_toArray, List.set_cons_zero, List.set_cons_succ]
                refine heldTake (i := 24) (v := .bool false) rfl (by kernel_rfl) (by kernel_rfl) (by kernel_rfl) (fun _ _ _ h => h) (Or.inl ⟨by rfl, fun W hW => ?_⟩) (by assumption) ?_
                · dsimp only at hW
                  subst hW
                  go_simp <;> (first | rfl | simp)
                try simp only [Act.put, List.setIfInBounds_toArray, List.set_cons_zero, List.set_cons_succ]
                refine heldTake (i := 25) (v := ?_) rfl (by kernel_rfl) (by kernel_rfl) (by kernel_rfl) (fun _ _ _ h => h) (Or.inl ⟨by rfl, ?_⟩) (by assumption) ?_
                rotate_left
                · intro w hSw; (try dsimp only at hSw); go_simp <;> (with_reducible rfl)
                try simp only [Act.put, List.setIfInBounds_toArray, List.set_cons_zero, List.set_cons_succ]
                refine heldTake (i := 26) (v := ?_) rfl (by kernel_rfl) (by kernel_rfl) (by kernel_rfl) (fun _ _ _ h => h) (Or.inl ⟨by rfl, ?_⟩) (by assumption) ?_
                rotate_left
                · intro w hSw; (try dsimp only at hSw); go_simp <;> (with_reducible rfl)
                try simp only [Act.put, List.setIfInBounds_toArray, List.set_cons_zero, List.set_cons_succ]
                refine heldTake (i := 27) (v := ?_) rfl (by kernel_rfl) (by kernel_rfl) (by kernel_rfl) (fun _ _ _ h => h) (Or.inl ⟨by rfl, ?_⟩) (by assumption) ?_
                rotate_left
                · intro w hSw; (try dsimp only at hSw); go_simp <;> (with_reducible rfl)
                try simp only [Act.put, List.setIfInBounds_toArray, List.set_cons_zero, List.set_cons_succ]
                refine heldTake (i := 28) (v := ?_) rfl (by kernel_rfl) (by kernel_rfl) (by kernel_rfl) (fun _ _ _ h => h) (Or.inl ⟨by rfl, ?_⟩) (by assumption) ?_
                rotate_left
                · intro w hSw; (try dsimp only at hSw); go_simp <;> (with_reducible rfl)
                try simp only [Act.put, List.setIfInBounds_toArray, List.set_cons_zero, List.set_cons_succ]
                refine heldTake (i := 29) (v := ?_) rfl (by kernel_rfl) (by kernel_rfl) (by kernel_rfl) (fun _ _ _ h => h) (Or.inl ⟨by rfl, ?_⟩) (by assumption) ?_
                rotate_left
                · intro w hSw; (try dsimp only at hSw); go_simp <;> (with_reducible rfl)
                try simp only [Act.put, List.setIfInBounds_toArray, List.set_cons_zero, List.set_cons_succ]
                refine heldTake (i := 30) (v := ?_) rfl (by kernel_rfl) (by kernel_rfl) (by kernel_rfl) (fun _ _ _ h => h) (Or.inl ⟨by rfl, ?_⟩) (by assumption) ?_
                rotate_left
                · intro w hSw; (try dsimp only at hSw); go_simp <;> (with_reducible rfl)
                try simp only [Act.put, List.setIfInBounds_toArray, List.set_cons_zero, List.set_cons_succ]
                refine heldTake (i := 31) (v := .int .i64 (b : Int)) rfl (by kernel_rfl) (by kernel_rfl) (by kernel_rfl) (fun _ _ _ h => h) (Or.inl ⟨by rfl, fun W hW => ?_⟩) (by assumption) ?_
                · dsimp only at hW
                  subst hW
                  have hc2 : wr.drew.cell? (ad.add j) = some (.int .i64 (b : Int)) := HCV.out
                  go_simp <;> rfl
                try simp only [Act.put, List.setIfInBounds_toArray, List.set_cons_zero, List.set_cons_succ]
                refine heldTake (i := 32) (v := ?_) rfl (by kernel_rfl) (by kernel_rfl) (by kernel_rfl) (fun _ _ _ h => h) (Or.inl ⟨by rfl, ?_⟩) (by assumption) ?_
                rotate_left
                · intro w hSw; (try dsimp only at hSw); go_simp <;> (with_reducible rfl)
                try simp only [Act.put, List.setIfInBounds_toArray, List.set_cons_zero, List.set_cons_succ]
                refine heldTake (i := 33) (v := ?_) rfl (by kernel_rfl) (by kernel_rfl) (by kernel_rfl) (fun _ _ _ h => h) (Or.inl ⟨by rfl, ?_⟩) (by assumption) ?_
                rotate_left
                · intro w hSw; (try dsimp only at hSw); go_simp <;> (with_reducible rfl)
                try simp only [Act.put, List.setIfInBounds_toArray, List.set_cons_zero, List.set_cons_succ]
                refine heldTake (i := 34) (v := .int .i64 q.t) rfl (by kernel_rfl) (by kernel_rfl) (by kernel_rfl) (fun _ _ _ h => h) (Or.inl ⟨by rfl, fun W hW => ?_⟩) (by assumption) ?_
                · dsimp only at hW
                  subst hW
                  have hc2 : wr.drew.cell? ⟨g0, b * 3, none⟩ = some (.int .i64 q.t) := HQ0.out
                  go_simp <;> rfl
                try simp only [Act.put, List.setIfInBounds_toArray, List.set_cons_zero, List.set_cons_succ]
                refine heldTake (i := 35) (v := .bool false) rfl (by kernel_rfl) (by kernel_rfl) (by kernel_rfl) (fun _ _ _ h => h) (Or.inl ⟨by rfl, fun W hW => ?_⟩) (by assumption) ?_
                · dsimp only at hW
                  subst hW
                  go_simp <;> (first | rfl | simp [hne])
                try simp only [Act.put, List.setIfInBounds_toArray, List.set_cons_zero, List.set_cons_succ]
                refine heldTake (i := 36) (v := ?_) rfl (by kernel_rfl) (by kernel_rfl) (by kernel_rfl) (fun _ _ _ h => h) (Or.inl ⟨by rfl, ?_⟩) (by assumption) ?_
                rotate_left
                · intro w hSw; (try dsimp only at hSw); go_simp <;> (with_reducible rfl)
                try simp only [Act.put, List.setIfInBounds_toArray, List.set_cons_zero, List.set_cons_succ]
                refine heldTake (i := 37) (v := ?_) rfl (by kernel_rfl) (by kernel_rfl) (by kernel_rfl) (fun _ _ _ h => h) (Or.inl ⟨by rfl, ?_⟩) (by assumption) ?_
                rotate_left
                · intro w hSw; (try dsimp only at hSw); go_simp <;> (with_reducible rfl)
                try simp only [Act.put, List.setIfInBounds_toArray, List.set_cons_zero, List.set_cons_succ]
                refine heldTake (i := 38) (v := ?_) rfl (by kernel_rfl) (by kernel_rfl) (by kernel_rfl) (fun _ _ _ h => h) (Or.inl ⟨by rfl, ?_⟩) (by assumption) ?_
                rotate_left
                · intro w hSw; (try dsimp only at hSw); go_simp <;> (with_reducible rfl)
                try simp only [Act.put, List.setIfInBounds_toArray, List.set_cons_zero, List.set_cons_succ]
                refine heldTake (i := 39) (v := .bool true) rfl (by kernel_rfl) (by kernel_rfl) (by kernel_rfl) (fun _ _ _ h => h) (Or.inl ⟨by rfl, fun W hW => ?_⟩) (by assumption) ?_
                · dsimp only at hW
                  subst hW
                  go_simp <;> (first | rfl | simp | omega)
                try simp only [Act.put, List.setIfInBounds_toArray, List.set_cons_zero, List.set_cons_succ]
                refine heldTake (i := 40) (v := ?_) rfl (by kernel_rfl) (by kernel_rfl) (by kernel_rfl) (fun _ _ _ h => h) (Or.inl ⟨by rfl, ?_⟩) (by assumption) ?_
                rotate_left
                · intro w hSw; (try dsimp only at hSw); go_simp <;> (with_reducible rfl)
                try simp only [Act.put, List.setIfInBounds_toArray, List.set_cons_zero, List.set_cons_succ]
                refine heldTake (i := 41) (v := ?_) rfl (by kernel_rfl) (by kernel_rfl) (by kernel_rfl) (fun _ _ _ h => h) (Or.inl ⟨by rfl, ?_⟩) (by assumption) ?_
                rotate_left
                · intro w hSw; (try dsimp only at hSw); go_simp <;> (with_reducible rfl)
                try simp only [Act.put, List.setIfInBounds_toArray, List.set_cons_zero, List.set_cons_succ]
                refine heldTake (i := 42) (v := ?_) rfl (by kernel_rfl) (by kernel_rfl) (by kernel_rfl) (fun _ _ _ h => h) (Or.inl ⟨by rfl, ?_⟩) (by assumption) ?_
                rotate_left
                · intro w hSw; (try dsimp only at hSw); go_simp <;> (with_reducible rfl)
                try simp only [Act.put, List.setIfInBounds_toArray, List.set_cons_zero, List.set_cons_succ]
                refine heldTake (i := 43) (v := ?_) rfl (by kernel_rfl) (by kernel_rfl) (by kernel_rfl) (fun _ _ _ h => h) (Or.inl ⟨by rfl, ?_⟩) (by assumption) ?_
                rotate_left
                · intro w hSw; (try dsimp only at hSw); go_simp <;> (with_reducible rfl)
                try simp only [Act.put, List.setIfInBounds_toArray, List.set_cons_zero, List.set_cons_succ]
                refine heldTake (i := 44) (v := .int .i64 (b : Int)) rfl (by kernel_rfl) (by kernel_rfl) (by kernel_rfl) (fun _ _ _ h => h) (Or.inl ⟨by rfl, fun W hW => ?_⟩) (by assumption) ?_
                · dsimp only at hW
                  subst hW
                  have hc2 : wr.drew.cell? (ad.add j) = some (.int .i64 (b : Int)) := HCV.out
                  go_simp <;> rfl
                try simp only [Act.put, List.setIfInBounds_toArray, List.set_cons_zero, List.set_cons_succ]
                refine heldTake (i := 45) (v := ?_) rfl (by kernel_rfl) (by kernel_rfl) (by kernel_rfl) (fun _ _ _ h => h) (Or.inl ⟨by rfl, ?_⟩) (by assumption) ?_
                rotate_left
                · intro w hSw; (try dsimp only at hSw); go_simp <;> (with_reducible rfl)
                try simp only [Act.put, List.setIfInBounds_toArray, List.set_cons_zero, List.set_cons_succ]
                refine heldTake (i := 46) (v := ?_) rfl (by kernel_rfl) (by kernel_rfl) (by kernel_rfl) (fun _ _ _ h => h) (Or.inl ⟨by rfl, ?_⟩) (by assumption) ?_
                rotate_left
                · intro w hSw; (try dsimp only at hSw); go_simp <;> (with_reducible rfl)
                try simp only [Act.put, List.setIfInBounds_toArray, List.set_cons_zero, List.set_cons_succ]
                refine heldTake (i := 47) (v := .int .i64 (i : Int)) rfl (by kernel_rfl) (by kernel_rfl) (by kernel_rfl) (fun _ _ _ h => h) (Or.inl ⟨by rfl, fun W hW => ?_⟩) (by assumption) ?_
                · dsimp only at hW
                  subst hW
                  go_simp <;> (first | rfl | (rw [IntKind.wrap_i64]; omega) | (congr 1; omega) | omega)
                try simp only [Act.put, List.setIfInBounds_toArray, List.set_cons_zero, List.set_cons_succ]
                refine heldTake (i := 48) (v := ?_) rfl (by kernel_rfl) (by kernel_rfl) (by kernel_rfl) (fun _ _ _ h => h) (Or.inl ⟨by rfl, ?_⟩) (by assumption) ?_
                rotate_left
                · intro w hSw; (try dsimp only at hSw); go_simp <;> (with_reducible rfl)
                try simp only [Act.put, List.setIfInBounds_toArray, List.set_cons_zero, List.set_cons_succ]
                refine heldTake (i := 49) (v := .int .i64 (b2 : Int)) rfl (by kernel_rfl) (by kernel_rfl) (by kernel_rfl) (fun _ _ _ h => h) (Or.inl ⟨by rfl, fun W hW => ?_⟩) (by assumption) ?_
                · dsimp only at hW
                  subst hW
                  have hc2 : wr.drew.cell? (ad.add i) = some (.int .i64 (b2 : Int)) := HCV2.out
                  go_simp <;> rfl
                try simp only [Act.put, List.setIfInBounds_toArray, List.set_cons_zero, List.set_cons_succ]
                refine heldTake (i := 50) (v := .bool false) rfl (by kernel_rfl) (by kernel_rfl) (by kernel_rfl) (fun _ _ _ h => h) (Or.inl ⟨by rfl, fun W hW => ?_⟩) (by assumption) ?_
                · dsimp only at hW
                  subst hW
                  go_simp <;> (first | rfl | simp | omega)
                try simp only [Act.put, List.setIfInBounds_toArray, List.set_cons_zero, List.set_cons_succ]
                refine heldTake (i := 51) (v := ?_) rfl (by kernel_rfl) (by kernel_rfl) (by kernel_rfl) (fun _ _ _ h => h) (Or.inl ⟨by rfl, ?_⟩) (by assumption) ?_
                rotate_left
                · intro w hSw; (try dsimp only at hSw); go_simp <;> (with_reducible rfl)
                try simp only [Act.put, List.setIfInBounds_toArray, List.set_cons_zero, List.set_cons_succ]
                refine heldTake (i := 52) (v := ?_) rfl (by kernel_rfl) (by kernel_rfl) (by kernel_rfl) (fun _ _ _ h => h) (Or.inl ⟨by rfl, ?_⟩) (by assumption) ?_
                rotate_left
                · intro w hSw; (try dsimp only at hSw); go_simp <;> (with_reducible rfl)
                try simp only [Act.put, List.setIfInBounds_toArray, List.set_cons_zero, List.set_cons_succ]
                refine wpAnyH_done (by kernel_rfl) ?_ _
                go_wp2
                have HB3 := hide (HB.out.drew)
                go_roundw
                case rel => exact ⟨j + 1, by omega, by go_num, HB3⟩
                case measure => simp [intOf]; omega
            · obtain rfl : j = M := by omega
              go_wp2_with fail
              go_meet
              exact hide (HS_z5.out.later HB.out)
        have HS_z6 := hcut
        go_wp2_with fail
        go_roundw
        case rel => exact ⟨k + 1, by omega, by go_num, by rw [HUS.out]; go_num, HS_z6⟩
        case measure => simp [intOf]; omega
      · obtain rfl : k = 256 := by omega
        go_wp2_with fail
        go_meet
        exact ⟨rfl, HS_z4⟩
  obtain ⟨rfl, HS_z7⟩ := hcut
  obtain ⟨z7, hz7⟩ : ∃ z, z = wc := ⟨_, rfl⟩
  subst hz7
  have hall := upTo_all HOKV.out
  rw [HN.out] at hall
  have HALL := hide hall
  have HR7 := hide (HS_z7.out.reads 0 rfl HCS.out)
  obtain ⟨C0, hC0⟩ : ∃ C0, upTo V 256 = C0 := ⟨_, rfl⟩
  rw [hC0] at HALL ⊢
  have hcl : C0 ≤ N := by have := HALL.out; omega
  clear hall hC0
  go_wp2_with fail
  go_loopw [9, 13] (fun v9 v13 wr => ∃ k : Nat, k ≤ N ∧ v13 = .int .i64 (k : Int) ∧ v9 = .int .i64 ((C0 + noneTo V k : Nat) : Int) ∧ Hid (z7 = wr)) (fun _ v13 _ => N - (intOf v13).toNat)
  case atStart => exact ⟨0, Nat.zero_le _, rfl, rfl, (by first | exact hide rfl | exact hide trivial)⟩
  case round =>
    obtain ⟨k, hk, rfl, rfl, HW⟩ := hrel
    obtain rfl := HW.out
    clear HW
    have hnl := noneTo_le V k
    by_cases hkN : k < N
    · obtain ⟨q, hq⟩ : ∃ q, V[k]? = some q := ⟨_, List.getElem?_eq_getElem (by rw [HN.out]; exact hkN)⟩
      obtain ⟨ad2, hA2, _, _, q0, _⟩ := wh_at HR7.out hq
      injection hA2 with hA2
      subst hA2
      rw [add0] at q0
      have HNS := hide (noneTo_succ hq)
      have hkk : (k : Int) < (N : Int) := by omega
      clear hq
      by_cases ht : q.t = 0
      · have hne : (q.t == 0) = true := by simpa using ht
        have HNS2 := hide (show noneTo V (k + 1) = noneTo V k + 1 by rw [HNS.out, if_pos ht])
        clear ht
        go_wp2
        go_roundw
        case rel => exact ⟨k + 1, by omega, by go_num, by rw [HNS2.out, ← Nat.add_assoc]; go_num, (by first | exact hide rfl | exact hide trivial)⟩
        case measure => simp [intOf]; omega
      · have hne : (q.t == 0) = false := by simpa using ht
        have HNS2 := hide (show noneTo V (k + 1) = noneTo V k by rw [HNS.out, if_neg ht, Nat.add_zero])
        clear ht
        go_wp2
        go_roundw
        case rel => exact ⟨k + 1, by omega, by go_num, by rw [HNS2.out], (by first | exact hide rfl | exact hide trivial)⟩
        case measure => simp [intOf]; omega
    · obtain rfl : k = N := by omega
      rw [HALL.out]
      go_wp2
      go_ret
      exact ⟨by simp, HS_z7.out.low⟩
#print axioms vmapGroups_walk
end Go.Proofs.Ytfjgpnjhmfcpiaa
