/- What New, All and In of vmap answer. -/
import Derived.Test.YtfjgpnjhmfcpiaaVmA
namespace Go.Proofs.Ytfjgpnjhmfcpiaa
open Go.RowKit Go.Maps
set_option linter.unusedVariables false
theorem wpList_makeMapW {ops : Array Oper} {rest : List Oper} {o : Oper} {a : Act} {w : World} {Q : Exit → Act → World → Prop} (hgd : o.guard = none) (t : TypeId) (ho : o.op = .makeMap t none)
    (hK : ∀ w', MapIs whKey w' w.heap.size (fun _ => none) → Below w.heap.size w w' → w'.heap.size = w.heap.size + 1 → wpList Try.prog ops Q rest (a.put o.dst (.map (some w.heap.size))) w') : wpList Try.prog ops Q (o :: rest) a w :=
  wpList_plain hgd fun _ hK' => by
    have hmm := @run_makeMap Try.prog
    unfold Oper.wp
    simp [execOp, ho, hmm, Result.andThen]
    exact hK' _ _ (hK _ (MapIs.new w) ((Below.refl _ _).alloc (Nat.le_refl _) _) (World.size_alloc _ _))
theorem wh_parts : (Try.prog.info? 24).map (fun i => (i.zero, i.size, i.bytes)) = some (some (.agg #[.int .i64 0, .int .i64 0, .int .i64 0]), 3, 24) := by kernel_rfl
theorem vint_parts : (Try.prog.info? 3).map (fun i => (i.zero, i.size, i.bytes)) = some (some (.int .i64 0), 1, 8) := by kernel_rfl
theorem vm_built (A : Option Addr) (n c : Nat) (y : Nat) : Try.prog.built 56 [(0, .slice A n c), (1, .map (some y))] = some #[.slice A n c, .map (some y)] := by kernel_rfl
theorem new_cells (n : Nat) : (List.replicate n [Value.int .i64 0, .int .i64 0, .int .i64 0]).flatten = whsL (List.replicate n Wh.none_) := by
  unfold whsL
  rw [List.flatMap_def, List.map_replicate]
  rfl
theorem hF_new (n : Nat) : hF (List.replicate n Wh.none_) = fun _ => none := funext fun p => by
  rw [hF_none]
  by_cases h : p ∈ List.replicate n Wh.none_
  · rw [List.eq_of_mem_replicate h]
    exact .inl rfl
  · exact .inr h
/-- A new map's blocks. -/
theorem vm_new {w w1 w2 w3 : World} {n : Nat} (h1 : 1 ≤ n) (h2 : n ≤ 96) (hb1 : Blk w1 w.heap.size 24 (List.replicate n [Value.int .i64 0, .int .i64 0, .int .i64 0]).flatten.toArray) (hs1 : w.heap.size < w1.heap.size) (hm2 : MapIs whKey w2 w1.heap.size (fun _ => none)) (hl2 : Below w1.heap.size w1 w2) (hs2 : w1.heap.size < w2.heap.size) (hb3 : Blk w3 w2.heap.size 56 #[.slice (some ⟨w.heap.size, 0, none⟩) n n, .map (some w1.heap.size)]) (hl3 : Below w2.heap.size w2 w3) :
    VmIn w3 w2.heap.size w.heap.size w1.heap.size n (List.replicate n [Value.int .i64 0, .int .i64 0, .int .i64 0]).flatten.toArray (List.replicate n Wh.none_) := by
  have hl : (List.replicate n Wh.none_).length = n := List.length_replicate ..
  refine ⟨by rw [hl]; exact hb3, (hb1.below hl2 (by omega)).below hl3 (by omega), ?_, by rw [hl]; exact Nat.le_refl _, by omega, ?_, ?_⟩
  · rw [hl]
    show (List.take (n * 3) _) = _
    rw [new_cells, List.take_of_length_le]
    rw [whsL_len, hl]
    exact Nat.le_refl _
  · rw [hF_new]
    exact (hm2.below hl3 (by omega))
  · refine ⟨List.pairwise_replicate.2 (.inr fun _ => rfl), fun w hw => ?_, by rw [hl]; exact h1, by rw [hl]; exact h2⟩
    rw [List.eq_of_mem_replicate hw]
    rfl
def VFoot (h m : Nat) : Prop := h ≤ m
set_option maxRecDepth 100000 in
theorem new_core (ni : Int) (n : Nat) (hn : clampN ni = n) (w : World) :
    Calls Try.prog 10 #[.int .i64 ni] w fun e w' => ∃ m p y c cur, e = .returned (.pointer (some ⟨m, 0, none⟩)) ∧ VmIn w' m p y c cur (List.replicate n Wh.none_) ∧ w.heap.size ≤ m ∧ w.heap.size ≤ p ∧ w.heap.size ≤ y ∧ Below w.heap.size w w' := by
  obtain ⟨i0, hi0, hz0, hz1, hz2⟩ := info_parts wh_parts
  have h12 := clampN_le ni
  rw [hn] at h12
  unfold clampN at hn
  have hmm : min (max ni 1) 96 = (n : Int) := by
    split at hn
    · omega
    · split at hn <;> omega
  have HMM := hide (congrArg (Value.int .i64) hmm)
  clear hn hmm
  have h121 := h12.1
  have h122 := h12.2
  go_enter Try.func10, Try.ntmps10
  go_wp2_with (first
    | ((with_reducible refine at_slot 6 ?_); refine wpList_make_blk rfl (.tmp 5) (.tmp 5) 35 rfl 24 i0 _ [Value.int .i64 0, .int .i64 0, .int .i64 0] Try.underlying35 hi0 hz0 rfl hz1 (by decide) n HMM.out HMM.out (by rw [hz2]; omega) (by omega) ?_; intro w1 hb1 hl1; have hq1 := hb1.lt)
    | ((with_reducible refine at_slot 7 ?_); refine wpList_makeMapW rfl 54 rfl ?_; intro w2 hm2 hl2 hs2; have hq2 : w1.heap.size < w2.heap.size := (by omega); clear hs2)
    | ((with_reducible refine at_slot 8 ?_); refine wpList_build_is rfl 56 _ rfl _ rfl _ (vm_built _ _ _ _) ?_)
    | ((with_reducible refine at_slot 9 ?_); refine wpList_box_blk rfl 56 _ rfl (.agg #[.slice (some ⟨w.heap.size, 0, none⟩) n n, .map (some w1.heap.size)]) rfl ?_; intro w3 hb3 hl3 hs3; clear hs3))
  go_ret
  exact ⟨_, _, _, _, _, rfl, vm_new h12.1 h12.2 hb1 hq1 hm2 hl2 hq2 hb3 hl3, by omega, Nat.le_refl _, by omega, (hl1.trans (hl2.mono (by omega))).trans (hl3.mono (by omega))⟩
theorem new_any (ni : Int) (w : World) :
    Calls Try.prog 10 #[.int .i64 ni] w fun e w' => ∃ m p y c cur, e = .returned (.pointer (some ⟨m, 0, none⟩)) ∧ VmIn w' m p y c cur (newV ni) ∧ w.heap.size ≤ m ∧ w.heap.size ≤ p ∧ w.heap.size ≤ y ∧ Below w.heap.size w w' := new_core ni _ rfl w
section
variable {w w' : World} {m p y c : Nat} {cur : Array Value} {V : List Wh}
set_option maxRecDepth 100000 in
theorem all_any (h : VmIn w m p y c cur V) : Calls Try.prog 14 #[.pointer (some ⟨m, 0, none⟩)] w fun e w' => ∃ v, e = .returned v ∧ w'.ownsRow w.heap.size 24 3 v V.length (whsL V) ∧ Below w.heap.size w w' := by
  have hc := h.c0
  have HC := hide (wclone_any (c := c) h.reads h.ok.one (by have := h.ok.few; omega))
  clear h
  go_enter Try.func14, Try.ntmps14
  go_wp2_with (first
    | (go_at_call 26; refine HC.out.mono ?_; rintro _ w1 ⟨v, rfl, hown, hl1⟩))
  go_ret
  exact ⟨v, rfl, hown, hl1⟩
/-- The blocks in a group, as Go's ints. -/
def inZ (V : List Wh) (g : Int) (k : Nat) : List Int := (inUp V g k).map fun i : Nat => (i : Int)
theorem inZ_len (V : List Wh) (g : Int) (k : Nat) : (inZ V g k).length ≤ k := by
  unfold inZ
  rw [List.length_map]
  exact inUp_len V g k
theorem inZ_yes {q : Wh} {k : Nat} {g : Int} (hq : V[k]? = some q) (ht : q.t ≠ 0) (hg : q.g = g) : inZ V g (k + 1) = inZ V g k ++ [(k : Int)] := by
  unfold inZ
  rw [inUp_succ, getD_at hq, if_pos ⟨ht, hg⟩, List.map_append]
  rfl
theorem inZ_no {q : Wh} {k : Nat} {g : Int} (hq : V[k]? = some q) (h : ¬ (q.t ≠ 0 ∧ q.g = g)) : inZ V g (k + 1) = inZ V g k := by
  unfold inZ
  rw [inUp_succ, getD_at hq, if_neg h]
set_option maxRecDepth 100000 in
theorem in_any (h : VmIn w m p y c cur V) (g : Int) : Calls Try.prog 21 #[.pointer (some ⟨m, 0, none⟩), .int .i64 g] w fun e w' => ∃ v, e = .returned v ∧ w'.ownsRow w.heap.size 3 1 v (inZ V g V.length).length (I64 (inZ V g V.length)) ∧ Below w.heap.size w w' := by
  obtain ⟨i0, hi0, hz0, hz1i, hz2i⟩ := info_parts vint_parts
  have hc := h.c0
  have HR := hide h.reads
  have hf := h.ok.few
  obtain ⟨n, hn⟩ : ∃ n, V.length = n := ⟨_, rfl⟩
  rw [hn] at hc hf
  have HN := hide hn
  clear h hn
  rw [HN.out]
  go_enter Try.func21, Try.ntmps21
  go_wp2
  go_loopw [5, 6, 7, 13] (fun v _ _ i wr => ∃ k : Nat, k ≤ n ∧ i = .int .i64 (k : Int) ∧ Hid (wr.ownsRow w.heap.size 3 1 v (inZ V g k).length (I64 (inZ V g k))) ∧ Hid (Below w.heap.size w wr)) (fun _ _ _ i _ => n - (intOf i).toNat)
  case atStart => exact ⟨0, Nat.zero_le _, rfl, hide ⟨rfl, .inl ⟨rfl, rfl⟩⟩, hide (Below.refl _ _)⟩
  case round =>
    obtain ⟨k, hk, rfl, HO, HB⟩ := hrel
    by_cases hkn : k < n
    · obtain ⟨q, hq⟩ : ∃ q, V[k]? = some q := ⟨_, List.getElem?_eq_getElem (by rw [HN.out]; exact hkn)⟩
      obtain ⟨ad, hA, _, hcell, _, _⟩ := wh_at (HR.out.below HB.out) hq
      injection hA with hA
      subst hA
      rw [add0] at hcell
      have HCL := hide hcell
      have HQ := hide hq
      have hkk : (k : Int) < (n : Int) := by omega
      have hll := inZ_len V g k
      clear hcell hq
      by_cases ht : q.t = 0
      · have hne : (q.t != 0) = false := by simpa using ht
        have HE := hide (inZ_no (g := g) HQ.out (fun h => h.1 ht))
        clear ht
        go_wp2_with (first
          | ((with_reducible refine at_slot 17 ?_); refine when_loadW rfl (.tmp 16) rfl _ q HCL.out rfl ?_)
          | ((with_reducible refine at_slot 7 ?_); refine wpList_alloc_blk rfl 24 rfl _ (wh_zero _) ?_; intro w1 hb1 hl1 hs1; clear hs1)
          | ((with_reducible refine at_store 7 ?_); refine wpList_store_all rfl 24 (.tmp 7) (.tmp 17) rfl wr.heap.size 24 _ hb1 rfl (whC q) rfl (wh_info q) rfl (wh_one q) ?_; intro w2 hb2 hg2 hs2; clear hs2; have q0 : w2.cell? ⟨wr.heap.size, 0, none⟩ = some (.int .i64 q.t) := hb2.cell 0; have q1 : w2.cell? ⟨wr.heap.size, 1, none⟩ = some (.int .i64 q.g) := hb2.cell 1; have hl2 : Below wr.heap.size wr w2 := hl1.grown hg2 hl1.size (fun g e => by injection e with e; omega); have hz2 := hl2.size; have HL2 := hide hl2; clear hl1 hl2 hg2 hb1 hb2))
        have HO4 : Hid (w2.ownsRow w.heap.size 3 1 u5 (inZ V g (k + 1)).length (I64 (inZ V g (k + 1)))) := hide (by rw [HE.out]; exact own_later HO.out HL2.out)
        have HB4 : Hid (Below w.heap.size w w2) := hide (HB.out.trans (HL2.out.mono HB.out.size))
        go_roundw
        case rel => exact ⟨k + 1, by omega, by go_num, HO4, HB4⟩
        case measure => simp [intOf]; omega
      · have hne : (q.t != 0) = true := by simpa using ht
        by_cases hg : q.g = g
        · have heq : (q.g == g) = true := by simpa using hg
          have HE := hide (inZ_yes HQ.out ht hg)
          have HM := hide (show (inZ V g k).length + 1 ≤ maxLen ∧ ((inZ V g k).length + 1) * 8 ≤ 140737488355328 by simp only [maxLen]; omega)
          clear ht hg
          go_wp2_with (first
            | ((with_reducible refine at_slot 17 ?_); refine when_loadW rfl (.tmp 16) rfl _ q HCL.out rfl ?_)
            | ((with_reducible refine at_slot 7 ?_); refine wpList_alloc_blk rfl 24 rfl _ (wh_zero _) ?_; intro w1 hb1 hl1 hs1; clear hs1)
            | ((with_reducible refine at_store 7 ?_); refine wpList_store_all rfl 24 (.tmp 7) (.tmp 17) rfl wr.heap.size 24 _ hb1 rfl (whC q) rfl (wh_info q) rfl (wh_one q) ?_; intro w2 hb2 hg2 hs2; clear hs2; have q0 : w2.cell? ⟨wr.heap.size, 0, none⟩ = some (.int .i64 q.t) := hb2.cell 0; have q1 : w2.cell? ⟨wr.heap.size, 1, none⟩ = some (.int .i64 q.g) := hb2.cell 1; have hl2 : Below wr.heap.size wr w2 := hl1.grown hg2 hl1.size (fun g e => by injection e with e; omega); have hz2 := hl2.size; have HL2 := hide hl2; clear hl1 hl2 hg2 hb1 hb2)
            | ((with_reducible refine at_slot 30 ?_); refine wpList_append_any _ rfl (.tmp 27) (.tmp 29) _ rfl w.heap.size 3 i0 _ 1 8 Try.underlying45 hi0 hz0 hz1i hz2i rfl (by decide) _ (inZ V g k).length _ rfl (own_later HO.out (HL2.out.trans (((Below.refl _ w2).alloc (Nat.le_refl _) _).mono hz2))) (w2.heap.size + 1) (some ⟨w2.heap.size, 0, none⟩) 1 1 [.int .i64 (k : Int)] rfl (Reads.one _ _ _ _ (by omega)) (by intro x hx; simp at hx; subst hx; rfl) HM.out.1 HM.out.2 (by rw [World.size_alloc]; have := HB.out.size; omega) ?_; intro v3 w3 hown3 hl3; have HO3 := hide hown3; have HL3 := hide hl3; clear hown3 hl3))
          have HO4 : Hid (w3.ownsRow w.heap.size 3 1 v3 (inZ V g (k + 1)).length (I64 (inZ V g (k + 1)))) := hide (by rw [HE.out, List.length_append, I64_append]; exact HO3.out)
          have HB4 : Hid (Below w.heap.size w w3) := hide ((HB.out.trans ((HL2.out.trans (((Below.refl _ w2).alloc (Nat.le_refl _) _).mono hz2)).mono HB.out.size)).trans HL3.out)
          go_roundw
          case rel => exact ⟨k + 1, by omega, by go_num, HO4, HB4⟩
          case measure => simp [intOf]; omega
        · have heq : (q.g == g) = false := by simpa using hg
          have HE := hide (inZ_no (g := g) HQ.out (fun h => hg h.2))
          clear ht hg
          go_wp2_with (first
            | ((with_reducible refine at_slot 17 ?_); refine when_loadW rfl (.tmp 16) rfl _ q HCL.out rfl ?_)
            | ((with_reducible refine at_slot 7 ?_); refine wpList_alloc_blk rfl 24 rfl _ (wh_zero _) ?_; intro w1 hb1 hl1 hs1; clear hs1)
            | ((with_reducible refine at_store 7 ?_); refine wpList_store_all rfl 24 (.tmp 7) (.tmp 17) rfl wr.heap.size 24 _ hb1 rfl (whC q) rfl (wh_info q) rfl (wh_one q) ?_; intro w2 hb2 hg2 hs2; clear hs2; have q0 : w2.cell? ⟨wr.heap.size, 0, none⟩ = some (.int .i64 q.t) := hb2.cell 0; have q1 : w2.cell? ⟨wr.heap.size, 1, none⟩ = some (.int .i64 q.g) := hb2.cell 1; have hl2 : Below wr.heap.size wr w2 := hl1.grown hg2 hl1.size (fun g e => by injection e with e; omega); have hz2 := hl2.size; have HL2 := hide hl2; clear hl1 hl2 hg2 hb1 hb2))
          have HO4 : Hid (w2.ownsRow w.heap.size 3 1 u5 (inZ V g (k + 1)).length (I64 (inZ V g (k + 1)))) := hide (by rw [HE.out]; exact own_later HO.out HL2.out)
          have HB4 : Hid (Below w.heap.size w w2) := hide (HB.out.trans (HL2.out.mono HB.out.size))
          go_roundw
          case rel => exact ⟨k + 1, by omega, by go_num, HO4, HB4⟩
          case measure => simp [intOf]; omega
    · obtain rfl : k = n := by omega
      go_wp2
      go_ret
      exact ⟨_, rfl, HO.out, HB.out⟩
end
#print axioms in_any
end Go.Proofs.Ytfjgpnjhmfcpiaa
