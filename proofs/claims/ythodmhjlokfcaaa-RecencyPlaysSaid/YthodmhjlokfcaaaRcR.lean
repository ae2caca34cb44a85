/- The document's own row of blocks: its calls over a law's memory. -/
import Derived.Test.YthodmhjlokfcaaaRcQ
namespace Go.Proofs.Ythodmhjlokfcaaa
open Go.RowKit Go.Maps
set_option linter.unusedVariables false
/-- Block r is the document's row of the blocks L. -/
structure RfIn (W : World) (r : Nat) (A : Option Addr) (c : Nat) (L : List Int) : Prop where
  head : Blk W r 37 #[.slice A L.length c]
  own : W.ownsRow 0 3 1 (.slice A L.length c) L.length (I64 L)
  far : (Value.slice A L.length c).ownBlock ≠ some r
section
variable {W W' : World} {r c : Nat} {A : Option Addr} {L : List Int}
theorem RfIn.kept (h : RfIn W r A c L) (h1 : W'.heap[r]? = W.heap[r]?) (h2 : ∀ g, (Value.slice A L.length c).ownBlock = some g → W'.heap[g]? = W.heap[g]?) : RfIn W' r A c L := ⟨h.head.of_block h1, own_of_block h.own h2, h.far⟩
theorem RfIn.later (h : RfIn W r A c L) (hb : Below W.heap.size W W') : RfIn W' r A c L := h.kept (hb.block _ h.head.lt) fun g hg => hb.block _ (h.own.lt g hg).2
theorem RfIn.c0 (h : RfIn W r A c L) : W.cell? ⟨r, 0, none⟩ = some (.slice A L.length c) := h.head.cell 0
theorem RfIn.rd (h : RfIn W r A c L) : Reads W W.heap.size 1 A L.length (I64 L) := own_rd h.own
end
/-- As a thing. -/
def rfT (r : Nat) (L : List Int) : Thing where
  is W F := ∃ A c, RfIn W r A c L ∧ ∀ i, F i ↔ i = r ∨ (Value.slice A L.length c).ownBlock = some i
  lt := fun {w F} ⟨A, c, h, hF⟩ i hi => by
    rcases (hF i).1 hi with rfl | hg
    · exact h.head.lt
    · exact (h.own.lt i hg).2
  kept := fun {w w' F} ⟨A, c, h, hF⟩ hk => ⟨A, c, h.kept (hk r ((hF r).2 (.inl rfl))) (fun g hg => hk g ((hF g).2 (.inr hg))), hF⟩
theorem rf_built0 : Try.prog.built 37 [] = some #[.slice none 0 0] := by kernel_rfl
theorem rf_built (A : Option Addr) (n c : Nat) : Try.prog.built 37 [(0, .slice A n c)] = some #[.slice A n c] := by kernel_rfl
theorem slice_info : (Try.prog.info? 31).map (·.size) = some 1 := by kernel_rfl
theorem wpList_noneI {ops : Array Oper} {rest : List Oper} {o : Oper} {ac : Act} {w : World} {Q : Exit → Act → World → Prop} (hgd : o.guard = none) (ho : o.op = .buildSlice 31 0 #[]) (base : Nat) (hb : base ≤ w.heap.size)
    (hK : ∀ w', w'.ownsRow base 3 1 (.slice (some ⟨w.heap.size, 0, none⟩) 0 0) 0 [] → Below w.heap.size w w' → wpList Try.prog ops Q rest (ac.put o.dst (.slice (some ⟨w.heap.size, 0, none⟩) 0 0)) w') : wpList Try.prog ops Q (o :: rest) ac w :=
  wpList_plain hgd fun _ hK' => by
    have hrun : (Instr.buildSlice 31 0 #[]).run Try.prog w = .ok (.slice (some ⟨w.heap.size, 0, none⟩) 0 0) (w.alloc (.cells #[] 3)) := by kernel_rfl
    unfold Oper.wp execOp
    simp only [ho, List.map_toArray, List.map_nil, Sem.run_bind, hrun, Result.andThen_ok, Sem.run_pure]
    exact hK' _ _ (hK _ (World.ownsRow_made (base := base) (e := 3) (size := 1) w #[] 0 hb (Nat.zero_le _) (by simp)) ((Below.refl _ w).alloc (Nat.le_refl _) _))
set_option maxRecDepth 100000 in
theorem rnew_any (w : World) : Calls Try.prog 10 #[] w fun e w' => ∃ r, e = .returned (.pointer (some ⟨r, 0, none⟩)) ∧ RfIn w' r none 0 [] ∧ w.heap.size ≤ r ∧ Below w.heap.size w w' := by
  go_enter Try.func10, Try.ntmps10
  go_wp2_with (first
    | ((with_reducible refine at_slot 1 ?_); refine wpList_build_is rfl 37 _ rfl _ rfl _ rf_built0 ?_)
    | ((with_reducible refine at_slot 2 ?_); refine wpList_box_blk rfl 37 _ rfl (.agg #[.slice none 0 0]) rfl ?_; intro w1 hb1 hl1 hs1; clear hs1))
  go_ret
  exact ⟨_, rfl, ⟨hb1, ⟨rfl, .inl ⟨rfl, rfl⟩⟩, fun e => by cases e⟩, Nat.le_refl _, hl1⟩
section
variable {w w' : World} {r c : Nat} {A : Option Addr} {L : List Int}
theorem mem_take_step {l : List Int} {k : Nat} {x b : Int} (h : l[k]? = some x) : b ∈ l.take (k + 1) ↔ b ∈ l.take k ∨ x = b := by
  rw [take_more h, List.mem_append, List.mem_singleton]
  exact ⟨Or.imp id Eq.symm, Or.imp id Eq.symm⟩
set_option maxRecDepth 100000 in
theorem rhas_any (h : RfIn w r A c L) (hL : L.length ≤ 1000000) (b : Int) : Calls Try.prog 14 #[.pointer (some ⟨r, 0, none⟩), .int .i64 b] w fun e w' => e = .returned (.bool (decide (b ∈ L))) ∧ w = w' := by
  have hc := h.c0
  have HR := hide h.rd
  obtain ⟨n, hn⟩ : ∃ n, L.length = n := ⟨_, rfl⟩
  rw [hn] at hc HR hL
  have HN := hide hn
  clear h hn
  go_enter Try.func14, Try.ntmps14
  go_wp2
  go_loopw [5] (fun i wr => ∃ k : Nat, k ≤ n ∧ i = .int .i64 (k : Int) ∧ Hid (b ∉ L.take k) ∧ wr = w) (fun i _ => n - (intOf i).toNat)
  case atStart => exact ⟨0, Nat.zero_le _, rfl, hide (by simp), rfl⟩
  case round =>
    obtain ⟨k, hk, rfl, HM, rfl⟩ := hrel
    by_cases hkn : k < n
    · obtain ⟨ad, x, rfl, _, hx, hcx⟩ := HR.out.i64_at hkn
      have hkk : (k : Int) < (n : Int) := by omega
      have HX := hide hx
      by_cases he : x = b
      · have HD := hide (show decide (b ∈ L) = true from decide_eq_true (he ▸ List.mem_of_getElem? HX.out))
        have heq : (x == b) = true := by simpa using he
        clear hx he
        go_wp2_with fail
        go_ret
        exact ⟨ret_bool HD.out.symm, rfl⟩
      · have HM2 := hide (show b ∉ L.take (k + 1) from fun hm => ((mem_take_step HX.out).1 hm).elim HM.out he)
        have heq : (x == b) = false := by simpa using he
        clear hx he
        go_wp2_with fail
        go_roundw
        case rel => exact ⟨k + 1, by omega, by go_num, HM2, by first | rfl | trivial⟩
        case measure => simp [intOf]; omega
    · obtain rfl : k = n := by omega
      have HD := hide (show decide (b ∈ L) = false from decide_eq_false (by have h1 := HM.out; rwa [List.take_of_length_le (by rw [HN.out]; exact Nat.le_refl _)] at h1))
      go_wp2
      go_ret
      exact ⟨ret_bool HD.out.symm, rfl⟩
theorem wo_step_no {L : List Int} {k : Nat} {x b : Int} (h : L[k]? = some x) (e : x = b) : wo b (L.take (k + 1)) = wo b (L.take k) := by
  rw [take_more h, wo_append, e, wo_self, wo_nil, List.append_nil]
theorem wo_step_yes {L : List Int} {k : Nat} {x b : Int} (h : L[k]? = some x) (e : ¬ x = b) : wo b (L.take (k + 1)) = wo b (L.take k) ++ [x] := by
  rw [take_more h, wo_append, wo_none (L := [x]) (by rw [List.mem_singleton]; exact fun e2 => e e2.symm)]
theorem wo_take_len (b : Int) (L : List Int) (k : Nat) : (wo b (L.take k)).length ≤ k := by
  have h1 := wo_len b (L.take k)
  rw [List.length_take] at h1
  omega
set_option maxRecDepth 100000 in
theorem rdrop_any (h : RfIn w r A c L) (hL : L.length ≤ 1000000) (b : Int) : Calls Try.prog 12 #[.pointer (some ⟨r, 0, none⟩), .int .i64 b] w fun e w' => e = .returned (.bool (decide (b ∈ L))) ∧ (∃ A' c', RfIn w' r A' c' (wo b L) ∧ ∀ g, (Value.slice A' (wo b L).length c').ownBlock = some g → w.heap.size ≤ g) ∧ Turn (fun i => i = r) w w' := by
  obtain ⟨i0, hi0, hz0, hz1i, hz2i⟩ := info_parts int_parts16
  have HH := hide h
  have HB := hide (rhas_any h hL b)
  obtain ⟨n, hn⟩ : ∃ n, L.length = n := ⟨_, rfl⟩
  rw [hn] at hL
  have HN := hide hn
  have HLE := hide (fun k => wo_take_len b L k)
  obtain ⟨t, ht⟩ : ∃ t, decide (b ∈ L) = t := ⟨_, rfl⟩
  rw [ht] at HB ⊢
  clear h hn ht
  go_enter Try.func12, Try.ntmps12
  go_wp2_with (first
    | (go_at_call 14; refine HB.out.mono ?_; rintro _ _ ⟨rfl, rfl⟩)
    | ((with_reducible refine at_slot 11 ?_); refine wpList_noneI rfl rfl w.heap.size (Nat.le_refl _) ?_; intro w1 ho1 hl1; have HO1 := hide ho1; have HL1 := hide hl1; have hz1 := hl1.size; clear ho1 hl1))
  go_loopw [6, 7] (fun v i wr => ∃ (k : Nat) (A1 : Option Addr) (c1 : Nat), k ≤ n ∧ i = .int .i64 (k : Int) ∧ v = .slice A1 (wo b (L.take k)).length c1 ∧ Hid (wr.ownsRow w.heap.size 3 1 v (wo b (L.take k)).length (I64 (wo b (L.take k)))) ∧ Hid (Below w.heap.size w wr)) (fun _ i _ => n - (intOf i).toNat)
  case atStart => exact ⟨0, _, _, Nat.zero_le _, rfl, rfl, HO1, HL1⟩
  case round =>
    obtain ⟨k, A1, c1, hk, rfl, rfl, HO, HBr⟩ := hrel
    have HHr := hide (HH.out.later HBr.out)
    have hcr := HHr.out.c0
    rw [HN.out] at hcr
    by_cases hkn : k < n
    · obtain ⟨ad, x, rfl, had, hx, hcx⟩ := HHr.out.rd.i64_at (by rw [HN.out]; exact hkn)
      have hkk : (k : Int) < (n : Int) := by omega
      have HX := hide hx
      have hle := HLE.out k
      by_cases he : x = b
      · have HE := hide (wo_step_no HX.out he)
        have hne : (x != b) = false := by simpa using he
        clear hx he
        go_wp2_with fail
        go_roundw
        case rel => exact ⟨k + 1, A1, c1, by omega, by go_num, by rw [HE.out], hide (by rw [HE.out]; exact HO.out), HBr⟩
        case measure => simp [intOf]; omega
      · have HE := hide (wo_step_yes HX.out he)
        have hne : (x != b) = true := by simpa using he
        have HM := hide (show (wo b (L.take k)).length + 1 ≤ maxLen ∧ ((wo b (L.take k)).length + 1) * 8 ≤ 140737488355328 by simp only [maxLen]; omega)
        clear hx he
        go_wp2_with (first
          | ((with_reducible refine at_slot 39 ?_); refine wpList_append_any _ rfl (.tmp 30) (.tmp 38) _ rfl w.heap.size 3 i0 _ 1 8 Try.underlying31 hi0 hz0 hz1i hz2i rfl (by decide) _ (wo b (L.take k)).length _ rfl (own_later HO.out (((Below.refl _ wr).alloc (Nat.le_refl _) _))) (wr.heap.size + 1) (some ⟨wr.heap.size, 0, none⟩) 1 1 [.int .i64 x] rfl (Reads.one _ _ _ _ (by omega)) (by intro x hx; simp at hx; subst hx; rfl) HM.out.1 HM.out.2 (by rw [World.size_alloc]; have := HBr.out.size; omega) ?_; intro v3 w3 hown3 hl3; have HO3 := hide hown3; obtain ⟨A3, c3, rfl, _, _⟩ := own_shape hown3; have HB3 := hide ((HBr.out.trans (((Below.refl _ wr).alloc (Nat.le_refl _) _).mono HBr.out.size)).trans hl3); clear hown3 hl3))
        have HO4 : Hid (w3.ownsRow w.heap.size 3 1 (.slice A3 ((wo b (L.take k)).length + 1) c3) (wo b (L.take (k + 1))).length (I64 (wo b (L.take (k + 1))))) := hide (by rw [HE.out, List.length_append, I64_append]; exact HO3.out)
        go_roundw
        case rel => exact ⟨k + 1, A3, c3, by omega, by go_num, by rw [HE.out, List.length_append]; rfl, HO4, HB3⟩
        case measure => simp [intOf]; omega
    · obtain rfl : k = n := by omega
      have e : L.take k = L := List.take_of_length_le (by rw [HN.out]; exact Nat.le_refl _)
      rw [e] at HO ⊢
      clear e
      go_wp2_with (first
        | ((with_reducible refine at_store 43 ?_); refine wpList_poke rfl 31 (.tmp 43) (.tmp 41) rfl r 0 37 _ HHr.out.head rfl (.slice A1 (wo b L).length c1) rfl rfl slice_info (by show 0 < 1; decide) ?_; intro w4 hb4 hg4 hs4; clear hs4; have HB4 := hide (show Blk w4 r 37 #[.slice A1 (wo b L).length c1] from hb4); have HG4 := hide hg4; clear hb4 hg4))
      go_ret
      have hfar : ∀ g, (Value.slice A1 (wo b L).length c1).ownBlock = some g → w.heap.size ≤ g := fun g hg => (HO.out.lt g hg).1
      have hrl := HH.out.head.lt
      have hne : (Value.slice A1 (wo b L).length c1).ownBlock ≠ some r := fun e => by have := hfar r e; omega
      refine ⟨rfl, ⟨A1, c1, ⟨HB4.out, own_mono (own_of_block HO.out fun g hg => HG4.out.block g (HO.out.lt g hg).2 fun e => hne (hg.trans e)) (Nat.zero_le _), hne⟩, hfar⟩, (Turn.of_below HBr.out).grown HG4.out fun g e => .inl (by injection e with e; exact e.symm)⟩
end
#print axioms rdrop_any
end Go.Proofs.Ythodmhjlokfcaaa
