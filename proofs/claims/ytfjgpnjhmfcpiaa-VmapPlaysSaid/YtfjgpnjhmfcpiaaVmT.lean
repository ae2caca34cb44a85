/- What the document's Set does. -/
import Derived.Test.YtfjgpnjhmfcpiaaVmS
namespace Go.Proofs.Ytfjgpnjhmfcpiaa
open Go.RowKit Go.Maps
set_option linter.unusedVariables false
theorem wpList_noneW {ops : Array Oper} {rest : List Oper} {o : Oper} {ac : Act} {w : World} {Q : Exit → Act → World → Prop} (hgd : o.guard = none) (ho : o.op = .buildSlice 35 0 #[])
    (h : wpList Try.prog ops Q rest (ac.put o.dst (.slice (some ⟨w.heap.size, 0, none⟩) 0 0)) (w.alloc (.cells #[] 24))) : wpList Try.prog ops Q (o :: rest) ac w :=
  wpList_plain hgd fun _ hK => by
    have hrun : (Instr.buildSlice 35 0 #[]).run Try.prog w = .ok (.slice (some ⟨w.heap.size, 0, none⟩) 0 0) (w.alloc (.cells #[] 24)) := by kernel_rfl
    unfold Oper.wp
    simp [execOp, ho, hrun, Result.andThen]
    exact hK _ _ h
theorem step_store_at {P : Program} {ops : Array Oper} {o : Oper} {a : Act} {w : World} {K : Act → World → Prop} {Q : Exit → Act → World → Prop} {E : Prop} (hg : o.guard = none) (ty : TypeId) (x y : Operand) (ho : o.op = .store ty x y)
    (g off : Nat) (t : TypeId) (cur : Array Value) (h : Blk w g t cur) (hx : a.eval x = .pointer (some ⟨g, off, none⟩)) (cs : List Value) (hy : a.eval y = .agg cs.toArray) (hi : (P.info? ty).map (·.size) = some cs.length)
    (hl : off + cs.length ≤ cur.size) (h1 : ∀ v ∈ cs, v.oneCell' = true)
    (hK : ∀ w', Blk w' g t (cur.toList.take off ++ cs ++ cur.toList.drop (off + cs.length)).toArray → w.grownBy w' (some g) → K (a.put o.dst undef) w') :
    if Region.wanted o (yielded ops a.tmps) = true then Oper.wp P o a w K Q else E := step_store_blk hg ty x y ho g off t cur h hx cs hy hi hl h1 fun w' h2 h3 _ => hK w' h2 h3
section
variable {w w' : World} {r p c : Nat} {cur : Array Value} {V : List Wh}
def RSetPost (w : World) (r p : Nat) (V : List Wh) (L : List Ch) (e : Ending) (w' : World) : Prop :=
  e = .returned (.int .i64 (setE V L : Int)) ∧ (∃ p' c' cur', RvIn w' r p' c' cur' (setV V L) ∧ (p' = p ∨ w.heap.size ≤ p')) ∧ Turn (fun i => i = r) w w'
theorem rset_bad (h : RvIn w r p c cur V) {L : List Ch} {w' : World} (hb : Below w.heap.size w w') (he : setE V L ≠ 0) {e : Int} (h2 : (setE V L : Int) = e) : RSetPost w r p V L (.returned (.int .i64 e)) w' :=
  ⟨by rw [h2], ⟨p, c, cur, by rw [setV_no he]; exact h.later hb, .inl rfl⟩, Turn.of_below hb⟩
theorem setE_bad {V : List Wh} {L : List Ch} {n : Nat} (h : badE V.length L = n) (hn : n ≠ 0) : setE V L = n := by
  unfold setE
  rw [h, if_neg hn]
set_option maxRecDepth 100000 in
set_option maxHeartbeats 4000000 in
theorem rset_any (h : RvIn w r p c cur V) {A : Option Addr} {n c2 : Nat} {L : List Ch} (hl : ChIn w A n c2 L) : Calls Try.prog 13 #[.pointer (some ⟨r, 0, none⟩), .slice A n c2] w (RSetPost w r p V L) := by
  have HH := hide h
  have HL := hide hl
  have HLEN := hide hl.len
  have hfew := hl.few
  obtain ⟨nv, hnv⟩ : ∃ nv, V.length = nv := ⟨_, rfl⟩
  have HNV := hide hnv
  have hf := h.ok.few
  have h1 := h.ok.one
  rw [hnv] at hf h1
  obtain ⟨i0, hi0, hz0, hz1, hz2⟩ := info_parts wh_parts
  clear h hl hnv
  go_enter Try.func13, Try.ntmps13
  go_wp2
  go_loopw [5] (fun i wr => ∃ k : Nat, k ≤ n ∧ i = .int .i64 (k : Int) ∧ Hid (∀ x ∈ L.take k, inB V.length x.1 = true) ∧ Hid (Below w.heap.size w wr)) (fun i _ => n - (intOf i).toNat)
  case atStart => exact ⟨0, Nat.zero_le _, rfl, hide (by simp), hide (Below.refl _ _)⟩
  case round =>
    obtain ⟨k, hk, rfl, HP, HB⟩ := hrel
    by_cases hkn : k < n
    · obtain ⟨x, hx⟩ : ∃ x, L[k]? = some x := ⟨_, List.getElem?_eq_getElem (by rw [HLEN.out]; exact hkn)⟩
      obtain ⟨ad, hA, _, _, hc0, _⟩ := ch_at ((HL.out.later HB.out).rd) hx
      subst hA
      have HX := hide hx
      have HC0 := hide hc0
      have hkk : (k : Int) < (n : Int) := by omega
      have HHr := hide (HH.out.later HB.out)
      have HRC : Hid (wr.cell? ⟨r, 0, none⟩ = some (.slice (some ⟨p, 0, none⟩) nv c)) := hide (by have h2 := HHr.out.c0; rw [HNV.out] at h2; exact h2)
      clear hx hc0
      go_wp2_with fail
      by_cases hneg : x.1 < 0
      · have hin2 : inB V.length x.1 = false := by unfold inB; exact decide_eq_false (by omega)
        have HE := hide (setE_bad (badE_range HX.out hin2) (by decide))
        have hd : decide (x.1 < 0) = true := decide_eq_true hneg
        clear hin2
        refine wp_region_held_drew (S := (fun W => W = wr.drew)) (by kernel_rfl) ?_ (fun hHeld => ?_)
        · exact rfl
        refine heldTake (i := 0) (v := ?_) rfl (by kernel_rfl) (by kernel_rfl) (by kernel_rfl) (fun _ _ _ h => h) (Or.inl ⟨by rfl, ?_⟩) (by assumption) ?_
        rotate_left
        · intro w hSw; (try dsimp only at hSw); go_simp <;> (with_reducible rfl)
        try simp only [Act.put, List.setIfInBounds_toArray, List.set_cons_zero, List.set_cons_succ]
        refine heldTake (i := 1) (v := ?_) rfl (by kernel_rfl) (by kernel_rfl) (by kernel_rfl) (fun _ _ _ h => h) (Or.inl ⟨by rfl, ?_⟩) (by assumption) ?_
        rotate_left
        · intro w hSw; (try dsimp only at hSw); go_simp <;> (with_reducible rfl)
        try simp only [Act.put, List.setIfInBounds_toArray, List.set_cons_zero, List.set_cons_succ]
        refine heldTake (i := 2) (v := ?_) rfl (by kernel_rfl) (by kernel_rfl) (by kernel_rfl) (fun _ _ _ h => h) (Or.inl ⟨by rfl, ?_⟩) (by assumption) ?_
        rotate_left
        · intro w hSw; (try dsimp only at hSw); go_simp <;> (with_reducible rfl)
        try simp only [Act.put, List.setIfInBounds_toArray, List.set_cons_zero, List.set_cons_succ]
        refine heldTake (i := 3) (v := ?_) rfl (by kernel_rfl) (by kernel_rfl) (by kernel_rfl) (fun _ _ _ h => h) (Or.inl ⟨by rfl, ?_⟩) (by assumption) ?_
        rotate_left
        · intro w hSw; (try dsimp only at hSw); go_simp <;> (with_reducible rfl)
        try simp only [Act.put, List.setIfInBounds_toArray, List.set_cons_zero, List.set_cons_succ]
        refine heldTake (i := 4) (v := .int .i64 x.1) rfl (by kernel_rfl) (by kernel_rfl) (by kernel_rfl) (fun _ _ _ h => h) (Or.inl ⟨by rfl, fun W hW => ?_⟩) (by assumption) ?_
        · dsimp only at hW
          subst hW
          have hc2 : wr.drew.cell? (ad.add (k * 4)) = some (.int .i64 x.1) := HC0.out
          go_simp <;> rfl
        try simp only [Act.put, List.setIfInBounds_toArray, List.set_cons_zero, List.set_cons_succ]
        refine heldTake (i := 5) (v := ?_) rfl (by kernel_rfl) (by kernel_rfl) (by kernel_rfl) (fun _ _ _ h => h) (Or.inl ⟨by rfl, ?_⟩) (by assumption) ?_
        rotate_left
        · intro w hSw; (try dsimp only at hSw); go_simp <;> (with_reducible rfl)
        try simp only [Act.put, List.setIfInBounds_toArray, List.set_cons_zero, List.set_cons_succ]
        refine heldTake (i := 6) (v := ?_) rfl (by kernel_rfl) (by kernel_rfl) (by kernel_rfl) (fun _ _ _ h => h) (Or.inl ⟨by rfl, ?_⟩) (by assumption) ?_
        rotate_left
        · intro w hSw; (try dsimp only at hSw); go_simp <;> (with_reducible rfl)
        try simp only [Act.put, List.setIfInBounds_toArray, List.set_cons_zero, List.set_cons_succ]
        refine heldTake (i := 7) (v := undef) rfl (by kernel_rfl) (by kernel_rfl) (by kernel_rfl) (fun _ _ _ h => h) (Or.inr ⟨by rfl, rfl⟩) (by assumption) ?_
        try simp only [Act.put, List.setIfInBounds_toArray, List.set_cons_zero, List.set_cons_succ]
        refine heldTake (i := 8) (v := undef) rfl (by kernel_rfl) (by kernel_rfl) (by kernel_rfl) (fun _ _ _ h => h) (Or.inr ⟨by rfl, rfl⟩) (by assumption) ?_
        try simp only [Act.put, List.setIfInBounds_toArray, List.set_cons_zero, List.set_cons_succ]
        refine heldTake (i := 9) (v := undef) rfl (by kernel_rfl) (by kernel_rfl) (by kernel_rfl) (fun _ _ _ h => h) (Or.inr ⟨by rfl, rfl⟩) (by assumption) ?_
        try simp only [Act.put, List.setIfInBounds_toArray, List.set_cons_zero, List.set_cons_succ]
        refine heldTake (i := 10) (v := undef) rfl (by kernel_rfl) (by kernel_rfl) (by kernel_rfl) (fun _ _ _ h => h) (Or.inr ⟨by rfl, rfl⟩) (by assumption) ?_
        try simp only [Act.put, List.setIfInBounds_toArray, List.set_cons_zero, List.set_cons_succ]
        refine heldTake (i := 11) (v := undef) rfl (by kernel_rfl) (by kernel_rfl) (by kernel_rfl) (fun _ _ _ h => h) (Or.inr ⟨by rfl, rfl⟩) (by assumption) ?_
        try simp only [Act.put, List.setIfInBounds_toArray, List.set_cons_zero, List.set_cons_succ]
        refine heldTake (i := 12) (v := undef) rfl (by kernel_rfl) (by kernel_rfl) (by kernel_rfl) (fun _ _ _ h => h) (Or.inr ⟨by rfl, rfl⟩) (by assumption) ?_
        try simp only [Act.put, List.setIfInBounds_toArray, List.set_cons_zero, List.set_cons_succ]
        refine heldTake (i := 13) (v := undef) rfl (by kernel_rfl) (by kernel_rfl) (by kernel_rfl) (fun _ _ _ h => h) (Or.inr ⟨by rfl, rfl⟩) (by assumption) ?_
        try simp only [Act.put, List.setIfInBounds_toArray, List.set_cons_zero, List.set_cons_succ]
        refine heldTake (i := 14) (v := undef) rfl (by kernel_rfl) (by kernel_rfl) (by kernel_rfl) (fun _ _ _ h => h) (Or.inr ⟨by rfl, rfl⟩) (by assumption) ?_
        try simp only [Act.put, List.setIfInBounds_toArray, List.set_cons_zero, List.set_cons_succ]
        refine heldTake (i := 15) (v := undef) rfl (by kernel_rfl) (by kernel_rfl) (by kernel_rfl) (fun _ _ _ h => h) (Or.inr ⟨by rfl, rfl⟩) (by assumption) ?_
        try simp only [Act.put, List.setIfInBounds_toArray, List.set_cons_zero, List.set_cons_succ]
        refine heldTake (i := 16) (v := undef) rfl (by kernel_rfl) (by kernel_rfl) (by kernel_rfl) (fun _ _ _ h => h) (Or.inr ⟨by rfl, rfl⟩) (by assumption) ?_
        try simp only [Act.put, List.setIfInBounds_toArray, List.set_cons_zero, List.set_cons_succ]
        refine heldTake (i := 17) (v := undef) rfl (by kernel_rfl) (by kernel_rfl) (by kernel_rfl) (fun _ _ _ h => h) (Or.inr ⟨by rfl, rfl⟩) (by assumption) ?_
        try simp only [Act.put, List.setIfInBounds_toArray, List.set_cons_zero, List.set_cons_succ]
        refine heldTake (i := 18) (v := ?_) rfl (by kernel_rfl) (by kernel_rfl) (by kernel_rfl) (fun _ _ _ h => h) (Or.inl ⟨by rfl, ?_⟩) (by assumption) ?_
        rotate_left
        · intro w hSw; (try dsimp only at hSw); go_simp <;> (with_reducible rfl)
        try simp only [Act.put, List.setIfInBounds_toArray, List.set_cons_zero, List.set_cons_succ]
        refine wpAnyH_done (by kernel_rfl) ?_ _
        go_wp2
        go_ret
        exact rset_bad HH.out HB.out.drew (by rw [HE.out]; decide) (by rw [HE.out]; rfl)
      · have hd : decide (x.1 < 0) = false := decide_eq_false hneg
        by_cases hbig : (nv : Int) ≤ x.1
        · have hin2 : inB V.length x.1 = false := by unfold inB; rw [HNV.out]; exact decide_eq_false (by omega)
          have HE := hide (setE_bad (badE_range HX.out hin2) (by decide))
          have hd2 : decide ((nv : Int) ≤ x.1) = true := decide_eq_true hbig
          clear hin2
          refine wp_region_held_drew (S := (fun W => W = wr.drew)) (by kernel_rfl) ?_ (fun hHeld => ?_)
          · exact rfl
          refine heldTake (i := 0) (v := ?_) rfl (by kernel_rfl) (by kernel_rfl) (by kernel_rfl) (fun _ _ _ h => h) (Or.inl ⟨by rfl, ?_⟩) (by assumption) ?_
          rotate_left
          · intro w hSw; (try dsimp only at hSw); go_simp <;> (with_reducible rfl)
          try simp only [Act.put, List.setIfInBounds_toArray, List.set_cons_zero, List.set_cons_succ]
          refine heldTake (i := 1) (v := ?_) rfl (by kernel_rfl) (by kernel_rfl) (by kernel_rfl) (fun _ _ _ h => h) (Or.inl ⟨by rfl, ?_⟩) (by assumption) ?_
          rotate_left
          · intro w hSw; (try dsimp only at hSw); go_simp <;> (with_reducible rfl)
          try simp only [Act.put, List.setIfInBounds_toArray, List.set_cons_zero, List.set_cons_succ]
          refine heldTake (i := 2) (v := ?_) rfl (by kernel_rfl) (by kernel_rfl) (by kernel_rfl) (fun _ _ _ h => h) (Or.inl ⟨by rfl, ?_⟩) (by assumption) ?_
          rotate_left
          · intro w hSw; (try dsimp only at hSw); go_simp <;> (with_reducible rfl)
          try simp only [Act.put, List.setIfInBounds_toArray, List.set_cons_zero, List.set_cons_succ]
          refine heldTake (i := 3) (v := ?_) rfl (by kernel_rfl) (by kernel_rfl) (by kernel_rfl) (fun _ _ _ h => h) (Or.inl ⟨by rfl, ?_⟩) (by assumption) ?_
          rotate_left
          · intro w hSw; (try dsimp only at hSw); go_simp <;> (with_reducible rfl)
          try simp only [Act.put, List.setIfInBounds_toArray, List.set_cons_zero, List.set_cons_succ]
          refine heldTake (i := 4) (v := .int .i64 x.1) rfl (by kernel_rfl) (by kernel_rfl) (by kernel_rfl) (fun _ _ _ h => h) (Or.inl ⟨by rfl, fun W hW => ?_⟩) (by assumption) ?_
          · dsimp only at hW
            subst hW
            have hc2 : wr.drew.cell? (ad.add (k * 4)) = some (.int .i64 x.1) := HC0.out
            go_simp <;> rfl
          try simp only [Act.put, List.setIfInBounds_toArray, List.set_cons_zero, List.set_cons_succ]
          refine heldTake (i := 5) (v := ?_) rfl (by kernel_rfl) (by kernel_rfl) (by kernel_rfl) (fun _ _ _ h => h) (Or.inl ⟨by rfl, ?_⟩) (by assumption) ?_
          rotate_left
          · intro w hSw; (try dsimp only at hSw); go_simp <;> (with_reducible rfl)
          try simp only [Act.put, List.setIfInBounds_toArray, List.set_cons_zero, List.set_cons_succ]
          refine heldTake (i := 6) (v := ?_) rfl (by kernel_rfl) (by kernel_rfl) (by kernel_rfl) (fun _ _ _ h => h) (Or.inl ⟨by rfl, ?_⟩) (by assumption) ?_
          rotate_left
          · intro w hSw; (try dsimp only at hSw); go_simp <;> (with_reducible rfl)
          try simp only [Act.put, List.setIfInBounds_toArray, List.set_cons_zero, List.set_cons_succ]
          refine heldTake (i := 7) (v := ?_) rfl (by kernel_rfl) (by kernel_rfl) (by kernel_rfl) (fun _ _ _ h => h) (Or.inl ⟨by rfl, ?_⟩) (by assumption) ?_
          rotate_left
          · intro w hSw; (try dsimp only at hSw); go_simp <;> (with_reducible rfl)
          try simp only [Act.put, List.setIfInBounds_toArray, List.set_cons_zero, List.set_cons_succ]
          refine heldTake (i := 8) (v := ?_) rfl (by kernel_rfl) (by kernel_rfl) (by kernel_rfl) (fun _ _ _ h => h) (Or.inl ⟨by rfl, ?_⟩) (by assumption) ?_
          rotate_left
          · intro w hSw; (try dsimp only at hSw); go_simp <;> (with_reducible rfl)
          try simp only [Act.put, List.setIfInBounds_toArray, List.set_cons_zero, List.set_cons_succ]
          refine heldTake (i := 9) (v := ?_) rfl (by kernel_rfl) (by kernel_rfl) (by kernel_rfl) (fun _ _ _ h => h) (Or.inl ⟨by rfl, ?_⟩) (by assumption) ?_
          rotate_left
          · intro w hSw; (try dsimp only at hSw); go_simp <;> (with_reducible rfl)
          try simp only [Act.put, List.setIfInBounds_toArray, List.set_cons_zero, List.set_cons_succ]
          refine heldTake (i := 10) (v := ?_) rfl (by kernel_rfl) (by kernel_rfl) (by kernel_rfl) (fun _ _ _ h => h) (Or.inl ⟨by rfl, ?_⟩) (by assumption) ?_
          rotate_left
          · intro w hSw; (try dsimp only at hSw); go_simp <;> (with_reducible rfl)
          try simp only [Act.put, List.setIfInBounds_toArray, List.set_cons_zero, List.set_cons_succ]
          refine heldTake (i := 11) (v := .int .i64 x.1) rfl (by kernel_rfl) (by kernel_rfl) (by kernel_rfl) (fun _ _ _ h => h) (Or.inl ⟨by rfl, fun W hW => ?_⟩) (by assumption) ?_
          · dsimp only at hW
            subst hW
            have hc2 : wr.drew.cell? (ad.add (k * 4)) = some (.int .i64 x.1) := HC0.out
            go_simp <;> rfl
          try simp only [Act.put, List.setIfInBounds_toArray, List.set_cons_zero, List.set_cons_succ]
          refine heldTake (i := 12) (v := ?_) rfl (by kernel_rfl) (by kernel_rfl) (by kernel_rfl) (fun _ _ _ h => h) (Or.inl ⟨by rfl, ?_⟩) (by assumption) ?_
          rotate_left
          · intro w hSw; (try dsimp only at hSw); go_simp <;> (with_reducible rfl)
          try simp only [Act.put, List.setIfInBounds_toArray, List.set_cons_zero, List.set_cons_succ]
          refine heldTake (i := 13) (v := ?_) rfl (by kernel_rfl) (by kernel_rfl) (by kernel_rfl) (fun _ _ _ h => h) (Or.inl ⟨by rfl, ?_⟩) (by assumption) ?_
          rotate_left
          · intro w hSw; (try dsimp only at hSw); go_simp <;> (with_reducible rfl)
          try simp only [Act.put, List.setIfInBounds_toArray, List.set_cons_zero, List.set_cons_succ]
          refine heldTake (i := 14) (v := ?_) rfl (by kernel_rfl) (by kernel_rfl) (by kernel_rfl) (fun _ _ _ h => h) (Or.inl ⟨by rfl, ?_⟩) (by assumption) ?_
          rotate_left
          · intro w hSw; (try dsimp only at hSw); go_simp <;> (with_reducible rfl)
          try simp only [Act.put, List.setIfInBounds_toArray, List.set_cons_zero, List.set_cons_succ]
          refine heldTake (i := 15) (v := .slice (some ⟨p, 0, none⟩) nv c) rfl (by kernel_rfl) (by kernel_rfl) (by kernel_rfl) (fun _ _ _ h => h) (Or.inl ⟨by rfl, fun W hW => ?_⟩) (by assumption) ?_
          · dsimp only at hW
            subst hW
            have hc2 : wr.drew.cell? ⟨r, 0, none⟩ = some (.slice (some ⟨p, 0, none⟩) nv c) := HRC.out
            go_simp <;> rfl
          try simp only [Act.put, List.setIfInBounds_toArray, List.set_cons_zero, List.set_cons_succ]
          refine heldTake (i := 16) (v := ?_) rfl (by kernel_rfl) (by kernel_rfl) (by kernel_rfl) (fun _ _ _ h => h) (Or.inl ⟨by rfl, ?_⟩) (by assumption) ?_
          rotate_left
          · intro w hSw; (try dsimp only at hSw); go_simp <;> (with_reducible rfl)
          try simp only [Act.put, List.setIfInBounds_toArray, List.set_cons_zero, List.set_cons_succ]
          refine heldTake (i := 17) (v := ?_) rfl (by kernel_rfl) (by kernel_rfl) (by kernel_rfl) (fun _ _ _ h => h) (Or.inl ⟨by rfl, ?_⟩) (by assumption) ?_
          rotate_left
          · intro w hSw; (try dsimp only at hSw); go_simp <;> (with_reducible rfl)
          try simp only [Act.put, List.setIfInBounds_toArray, List.set_cons_zero, List.set_cons_succ]
          refine heldTake (i := 18) (v := ?_) rfl (by kernel_rfl) (by kernel_rfl) (by kernel_rfl) (fun _ _ _ h => h) (Or.inl ⟨by rfl, ?_⟩) (by assumption) ?_
          rotate_left
          · intro w hSw; (try dsimp only at hSw); go_simp <;> (with_reducible rfl)
          try simp only [Act.put, List.setIfInBounds_toArray, List.set_cons_zero, List.set_cons_succ]
          refine wpAnyH_done (by kernel_rfl) ?_ _
          go_wp2
          go_ret
          exact rset_bad HH.out HB.out.drew (by rw [HE.out]; decide) (by rw [HE.out]; rfl)
        · have hd2 : decide ((nv : Int) ≤ x.1) = false := decide_eq_false hbig
          have HP2 := hide (all_snoc HP.out HX.out (show inB V.length x.1 = true by unfold inB; rw [HNV.out]; exact decide_eq_true (by omega)))
          refine wp_region_held_drew (S := (fun W => W = wr.drew)) (by kernel_rfl) ?_ (fun hHeld => ?_)
          · exact rfl
          refine heldTake (i := 0) (v := ?_) rfl (by kernel_rfl) (by kernel_rfl) (by kernel_rfl) (fun _ _ _ h => h) (Or.inl ⟨by rfl, ?_⟩) (by assumption) ?_
          rotate_left
          · intro w hSw; (try dsimp only at hSw); go_simp <;> (with_reducible rfl)
          try simp only [Act.put, List.setIfInBounds_toArray, List.set_cons_zero, List.set_cons_succ]
          refine heldTake (i := 1) (v := ?_) rfl (by kernel_rfl) (by kernel_rfl) (by kernel_rfl) (fun _ _ _ h => h) (Or.inl ⟨by rfl, ?_⟩) (by assumption) ?_
          rotate_left
          · intro w hSw; (try dsimp only at hSw); go_simp <;> (with_reducible rfl)
          try simp only [Act.put, List.setIfInBounds_toArray, List.set_cons_zero, List.set_cons_succ]
          refine heldTake (i := 2) (v := ?_) rfl (by kernel_rfl) (by kernel_rfl) (by kernel_rfl) (fun _ _ _ h => h) (Or.inl ⟨by rfl, ?_⟩) (by assumption) ?_
          rotate_left
          · intro w hSw; (try dsimp only at hSw); go_simp <;> (with_reducible rfl)
          try simp only [Act.put, List.setIfInBounds_toArray, List.set_cons_zero, List.set_cons_succ]
          refine heldTake (i := 3) (v := ?_) rfl (by kernel_rfl) (by kernel_rfl) (by kernel_rfl) (fun _ _ _ h => h) (Or.inl ⟨by rfl, ?_⟩) (by assumption) ?_
          rotate_left
          · intro w hSw; (try dsimp only at hSw); go_simp <;> (with_reducible rfl)
          try simp only [Act.put, List.setIfInBounds_toArray, List.set_cons_zero, List.set_cons_succ]
          refine heldTake (i := 4) (v := .int .i64 x.1) rfl (by kernel_rfl) (by kernel_rfl) (by kernel_rfl) (fun _ _ _ h => h) (Or.inl ⟨by rfl, fun W hW => ?_⟩) (by assumption) ?_
          · dsimp only at hW
            subst hW
            have hc2 : wr.drew.cell? (ad.add (k * 4)) = some (.int .i64 x.1) := HC0.out
            go_simp <;> rfl
          try simp only [Act.put, List.setIfInBounds_toArray, List.set_cons_zero, List.set_cons_succ]
          refine heldTake (i := 5) (v := ?_) rfl (by kernel_rfl) (by kernel_rfl) (by kernel_rfl) (fun _ _ _ h => h) (Or.inl ⟨by rfl, ?_⟩) (by assumption) ?_
          rotate_left
          · intro w hSw; (try dsimp only at hSw); go_simp <;> (with_reducible rfl)
          try simp only [Act.put, List.setIfInBounds_toArray, List.set_cons_zero, List.set_cons_succ]
          refine heldTake (i := 6) (v := ?_) rfl (by kernel_rfl) (by kernel_rfl) (by kernel_rfl) (fun _ _ _ h => h) (Or.inl ⟨by rfl, ?_⟩) (by assumption) ?_
          rotate_left
          · intro w hSw; (try dsimp only at hSw); go_simp <;> (with_reducible rfl)
          try simp only [Act.put, List.setIfInBounds_toArray, List.set_cons_zero, List.set_cons_succ]
          refine heldTake (i := 7) (v := ?_) rfl (by kernel_rfl) (by kernel_rfl) (by kernel_rfl) (fun _ _ _ h => h) (Or.inl ⟨by rfl, ?_⟩) (by assumption) ?_
          rotate_left
          · intro w hSw; (try dsimp only at hSw); go_simp <;> (with_reducible rfl)
          try simp only [Act.put, List.setIfInBounds_toArray, List.set_cons_zero, List.set_cons_succ]
          refine heldTake (i := 8) (v := ?_) rfl (by kernel_rfl) (by kernel_rfl) (by kernel_rfl) (fun _ _ _ h => h) (Or.inl ⟨by rfl, ?_⟩) (by assumption) ?_
          rotate_left
          · intro w hSw; (try dsimp only at hSw); go_simp <;> (with_reducible rfl)
          try simp only [Act.put, List.setIfInBounds_toArray, List.set_cons_zero, List.set_cons_succ]
          refine heldTake (i := 9) (v := ?_) rfl (by kernel_rfl) (by kernel_rfl) (by kernel_rfl) (fun _ _ _ h => h) (Or.inl ⟨by rfl, ?_⟩) (by assumption) ?_
          rotate_left
          · intro w hSw; (try dsimp only at hSw); go_simp <;> (with_reducible rfl)
          try simp only [Act.put, List.setIfInBounds_toArray, List.set_cons_zero, List.set_cons_succ]
          refine heldTake (i := 10) (v := ?_) rfl (by kernel_rfl) (by kernel_rfl) (by kernel_rfl) (fun _ _ _ h => h) (Or.inl ⟨by rfl, ?_⟩) (by assumption) ?_
          rotate_left
          · intro w hSw; (try dsimp only at hSw); go_simp <;> (with_reducible rfl)
          try simp only [Act.put, List.setIfInBounds_toArray, List.set_cons_zero, List.set_cons_succ]
          refine heldTake (i := 11) (v := .int .i64 x.1) rfl (by kernel_rfl) (by kernel_rfl) (by kernel_rfl) (fun _ _ _ h => h) (Or.inl ⟨by rfl, fun W hW => ?_⟩) (by assumption) ?_
          · dsimp only at hW
            subst hW
            have hc2 : wr.drew.cell? (ad.add (k * 4)) = some (.int .i64 x.1) := HC0.out
            go_simp <;> rfl
          try simp only [Act.put, List.setIfInBounds_toArray, List.set_cons_zero, List.set_cons_succ]
          refine heldTake (i := 12) (v := ?_) rfl (by kernel_rfl) (by kernel_rfl) (by kernel_rfl) (fun _ _ _ h => h) (Or.inl ⟨by rfl, ?_⟩) (by assumption) ?_
          rotate_left
          · intro w hSw; (try dsimp only at hSw); go_simp <;> (with_reducible rfl)
          try simp only [Act.put, List.setIfInBounds_toArray, List.set_cons_zero, List.set_cons_succ]
          refine heldTake (i := 13) (v := ?_) rfl (by kernel_rfl) (by kernel_rfl) (by kernel_rfl) (fun _ _ _ h => h) (Or.inl ⟨by rfl, ?_⟩) (by assumption) ?_
          rotate_left
          · intro w hSw; (try dsimp only at hSw); go_simp <;> (with_reducible rfl)
          try simp only [Act.put, List.setIfInBounds_toArray, List.set_cons_zero, List.set_cons_succ]
          refine heldTake (i := 14) (v := ?_) rfl (by kernel_rfl) (by kernel_rfl) (by kernel_rfl) (fun _ _ _ h => h) (Or.inl ⟨by rfl, ?_⟩) (by assumption) ?_
          rotate_left
          · intro w hSw; (try dsimp only at hSw); go_simp <;> (with_reducible rfl)
          try simp only [Act.put, List.setIfInBounds_toArray, List.set_cons_zero, List.set_cons_succ]
          refine heldTake (i := 15) (v := .slice (some ⟨p, 0, none⟩) nv c) rfl (by kernel_rfl) (by kernel_rfl) (by kernel_rfl) (fun _ _ _ h => h) (Or.inl ⟨by rfl, fun W hW => ?_⟩) (by assumption) ?_
          · dsimp only at hW
            subst hW
            have hc2 : wr.drew.cell? ⟨r, 0, none⟩ = some (.slice (some ⟨p, 0, none⟩) nv c) := HRC.out
            go_simp <;> rfl
          try simp only [Act.put, List.setIfInBounds_toArray, List.set_cons_zero, List.set_cons_succ]
          refine heldTake (i := 16) (v := ?_) rfl (by kernel_rfl) (by kernel_rfl) (by kernel_rfl) (fun _ _ _ h => h) (Or.inl ⟨by rfl, ?_⟩) (by assumption) ?_
          rotate_left
          · intro w hSw; (try dsimp only at hSw); go_simp <;> (with_reducible rfl)
          try simp only [Act.put, List.setIfInBounds_toArray, List.set_cons_zero, List.set_cons_succ]
          refine heldTake (i := 17) (v := ?_) rfl (by kernel_rfl) (by kernel_rfl) (by kernel_rfl) (fun _ _ _ h => h) (Or.inl ⟨by rfl, ?_⟩) (by assumption) ?_
          rotate_left
          · intro w hSw; (try dsimp only at hSw); go_simp <;> (with_reducible rfl)
          try simp only [Act.put, List.setIfInBounds_toArray, List.set_cons_zero, List.set_cons_succ]
          refine heldTake (i := 18) (v := ?_) rfl (by kernel_rfl) (by kernel_rfl) (by kernel_rfl) (fun _ _ _ h => h) (Or.inl ⟨by rfl, ?_⟩) (by assumption) ?_
          rotate_left
          · intro w hSw; (try dsimp only at hSw); go_simp <;> (with_reducible rfl)
          try simp only [Act.put, List.setIfInBounds_toArray, List.set_cons_zero, List.set_cons_succ]
          refine wpAnyH_done (by kernel_rfl) ?_ _
          go_wp2
          have HB3 := hide (HB.out.drew)
          go_roundw
          case rel => exact ⟨k + 1, by omega, by go_num, HP2, HB3⟩
          case measure => simp [intOf]; omega
    · obtain rfl : k = n := by omega
      have HPA := hide (all_end HP.out HLEN.out)
      have HHr := hide (HH.out.later HB.out)
      have HBr := HB
      obtain ⟨wb, rfl⟩ : ∃ wb, wb = wr := ⟨_, rfl⟩
      have hc0 : wb.cell? ⟨r, 0, none⟩ = some (.slice (some ⟨p, 0, none⟩) nv c) := by have h2 := HHr.out.c0; rw [HNV.out] at h2; exact h2
      have HRD : Hid (Reads wb wb.heap.size 3 (some ⟨p, 0, none⟩) nv (whsL V)) := hide (by have h2 := HHr.out.reads; rw [HNV.out] at h2; exact h2)
      have hsz := HBr.out.size
      have HAL := hide ((Below.refl wb.heap.size wb).alloc (Nat.le_refl _) (.cells #[] 24))
      clear HP HB
      go_wp2_with (first
        | ((with_reducible refine at_slot 35 ?_); refine wpList_noneW rfl rfl ?_; have hc1 : (wb.alloc (.cells #[] 24)).cell? ⟨r, 0, none⟩ = some (.slice (some ⟨p, 0, none⟩) nv c) := (HAL.out.cell (p := ⟨r, 0, none⟩) HHr.out.head.lt).trans hc0)
        | ((with_reducible refine at_slot 40 ?_); refine wpList_append_any _ rfl (.tmp 35) (.tmp 39) 35 rfl w.heap.size 24 i0 _ 3 24 Try.underlying35 hi0 hz0 hz1 hz2 rfl (by decide) _ 0 [] rfl (World.ownsRow_made wb #[] 0 hsz (Nat.zero_le _) rfl) wb.heap.size (some ⟨p, 0, none⟩) nv c (whsL V) rfl (HRD.out.below HAL.out) (whs_one V) (by simp only [maxLen]; omega) (by omega) (by rw [World.size_alloc]; omega) ?_; intro v3 w3 hown3 hl3; rw [Nat.zero_add, List.nil_append] at hown3; obtain ⟨g, cg, cu, rfl, hbk, hck, hgb0, hcg, hcm⟩ := row_blk hown3 h1; have HBK := hide hbk; have HCK := hide hck; have HB3 := hide (HBr.out.trans ((HAL.out.mono hsz).trans hl3)); have HCG := hide hcg; have HCM := hide hcm; clear hown3 hl3 hbk hck hcg hcm))
      go_loopw [7, 8] (fun s7 _ wq => ∃ j : Nat, j ≤ k ∧ s7 = .int .i64 (j : Int) ∧ Hid (∀ x ∈ L.take j, x.2.ok = true) ∧ Hid (∃ cu, Blk wq g 24 cu ∧ cu.toList.take ((chgs V (L.take j)).length * 3) = whsL (chgs V (L.take j))) ∧ Hid (Below w.heap.size w wq)) (fun s7 _ _ => k - (intOf s7).toNat)
      case atStart => exact ⟨0, Nat.zero_le _, rfl, hide (by simp), hide ⟨cu, HBK.out, HCK.out⟩, HB3⟩
      case round =>
        obtain ⟨j, hj, rfl, HP, HROW, HB⟩ := hrel
        obtain ⟨wq, hwq⟩ : ∃ z, z = wr := ⟨_, rfl⟩
        by_cases hjn : j < k
        · obtain ⟨x, hx⟩ : ∃ x, L[j]? = some x := ⟨_, List.getElem?_eq_getElem (by rw [HLEN.out]; exact hjn)⟩
          obtain ⟨ad, hA, hab, _, hc0', hcw⟩ := ch_at ((HL.out.later HB.out).rd) hx
          subst hA
          have HX := hide hx
          have HCW := hide hcw
          have hkk : (j : Int) < (k : Int) := by omega
          clear hcw hx
          by_cases hok : x.2.ok = true
          · have HRT : Hid (∀ w, Calls Try.prog 28 #[.agg (whC x.2).toArray] w fun e w' => e = .returned (.bool true) ∧ Below w.heap.size w w') := hide (fun w => by have h1 := rright_any w x.2; rw [hok] at h1; exact h1)
            have HP2 := hide (all_snoc HP.out HX.out hok)
            clear hok
            go_wp2_with (first
              | ((with_reducible refine at_slot 51 ?_); refine when_loadW rfl (.tmp 50) rfl _ x.2 HCW.out rfl ?_)
              | (go_at_call 28; refine (HRT.out _).mono ?_; rintro _ w4 ⟨rfl, hl4⟩; have HB4 := hide (HB.out.trans (hl4.mono HB.out.size)); have HL4 := hide hl4; clear hl4))
            obtain ⟨cu2, hbr, hct⟩ := HROW.out
            have hlen : (chgs V (L.take j)).length = nv := (chgs_len _ _).trans HNV.out
            have hin : 0 ≤ x.1 ∧ x.1 < (nv : Int) := by have h3 := HPA.out x (List.mem_of_getElem? HX.out); unfold inB at h3; rw [HNV.out] at h3; exact of_decide_eq_true h3
            obtain ⟨xb, xw⟩ := x
            obtain ⟨b, rfl⟩ : ∃ b : Nat, xb = (b : Int) := ⟨xb.toNat, by have := hin.1; dsimp only at this; omega⟩
            have hbn : b < nv := by have := hin.2; dsimp only at this; omega
            have hroom := row_room hct
            rw [hlen] at hroom
            have HBR := hide (hbr.below HL4.out hbr.lt)
            have HCT := hide hct
            have HLN := hide hlen
            have hbb : (b : Int) < (nv : Int) := by omega
            obtain ⟨ad9, hA9, _, _, hd0, hdw⟩ := ch_at ((HL.out.later HB4.out).rd) HX.out
            injection hA9 with hA9
            subst hA9
            have HD0 := hide hd0
            have HDW := hide hdw
            clear hbr hct hin hlen hd0 hdw
            refine wp_region_held_drew (S := (fun W => Below w.heap.size w W ∧ W.cell? (ad.add (j * 4)) = some (.int .i64 (b : Int)) ∧ ∀ (i : Nat) (v : Value), (whC xw)[i]? = some v → W.cell? ((⟨(ad.add (j * 4)).block, (ad.add (j * 4)).off + 1, none⟩ : Addr).add i) = some v)) (by kernel_rfl) ?_ (fun hHeld => ?_)
            · exact ⟨HB4.out.drew, HD0.out, HDW.out⟩
            refine heldTake (i := 0) (v := ?_) rfl (by kernel_rfl) (by kernel_rfl) (by kernel_rfl) (fun _ _ _ h => h) (Or.inl ⟨by rfl, ?_⟩) (by assumption) ?_
            rotate_left
            · intro w hSw; (try dsimp only at hSw); go_simp <;> (with_reducible rfl)
            try simp only [Act.put, List.setIfInBounds_toArray, List.set_cons_zero, List.set_cons_succ]
            refine heldTake (i := 1) (v := ?_) rfl (by kernel_rfl) (by kernel_rfl) (by kernel_rfl) (fun _ _ _ h => h) (Or.inl ⟨by rfl, ?_⟩) (by assumption) ?_
            rotate_left
            · intro w hSw; (try dsimp only at hSw); go_simp <;> (with_reducible rfl)
            try simp only [Act.put, List.setIfInBounds_toArray, List.set_cons_zero, List.set_cons_succ]
            refine heldTake (i := 2) (v := ?_) rfl (by kernel_rfl) (by kernel_rfl) (by kernel_rfl) (fun _ _ _ h => h) (Or.inl ⟨by rfl, ?_⟩) (by assumption) ?_
            rotate_left
            · intro w hSw; (try dsimp only at hSw); go_simp <;> (with_reducible rfl)
            try simp only [Act.put, List.setIfInBounds_toArray, List.set_cons_zero, List.set_cons_succ]
            refine heldTake (i := 3) (v := ?_) rfl (by kernel_rfl) (by kernel_rfl) (by kernel_rfl) (fun _ _ _ h => h) (Or.inl ⟨by rfl, ?_⟩) (by assumption) ?_
            rotate_left
            · intro w hSw; (try dsimp only at hSw); go_simp <;> (with_reducible rfl)
            try simp only [Act.put, List.setIfInBounds_toArray, List.set_cons_zero, List.set_cons_succ]
            refine heldTake (i := 4) (v := ?_) rfl (by kernel_rfl) (by kernel_rfl) (by kernel_rfl) (fun _ _ _ h => h) (Or.inl ⟨by rfl, ?_⟩) (by assumption) ?_
            rotate_left
            · intro w hSw; (try dsimp only at hSw); go_simp <;> (with_reducible rfl)
            try simp only [Act.put, List.setIfInBounds_toArray, List.set_cons_zero, List.set_cons_succ]
            refine heldTake (i := 5) (v := .int .i64 (b : Int)) rfl (by kernel_rfl) (by kernel_rfl) (by kernel_rfl) (fun _ _ _ h => h) (Or.inl ⟨by rfl, fun W hW => ?_⟩) (by assumption) ?_
            · have hc2 : W.cell? (ad.add (j * 4)) = some (.int .i64 (b : Int)) := hW.2.1
              go_simp <;> rfl
            try simp only [Act.put, List.setIfInBounds_toArray, List.set_cons_zero, List.set_cons_succ]
            refine heldTake (i := 6) (v := ?_) rfl (by kernel_rfl) (by kernel_rfl) (by kernel_rfl) (fun _ _ _ h => h) (Or.inl ⟨by rfl, ?_⟩) (by assumption) ?_
            rotate_left
            · intro w hSw; (try dsimp only at hSw); go_simp <;> (with_reducible rfl)
            try simp only [Act.put, List.setIfInBounds_toArray, List.set_cons_zero, List.set_cons_succ]
            refine heldTake (i := 7) (v := ?_) rfl (by kernel_rfl) (by kernel_rfl) (by kernel_rfl) (fun _ _ _ h => h) (Or.inl ⟨by rfl, ?_⟩) (by assumption) ?_
            rotate_left
            · intro w hSw; (try dsimp only at hSw); go_simp <;> (with_reducible rfl)
            try simp only [Act.put, List.setIfInBounds_toArray, List.set_cons_zero, List.set_cons_succ]
            refine heldTake (i := 8) (v := ?_) rfl (by kernel_rfl) (by kernel_rfl) (by kernel_rfl) (fun _ _ _ h => h) (Or.inl ⟨by rfl, ?_⟩) (by assumption) ?_
            rotate_left
            · intro w hSw; (try dsimp only at hSw); go_simp <;> (with_reducible rfl)
            try simp only [Act.put, List.setIfInBounds_toArray, List.set_cons_zero, List.set_cons_succ]
            refine heldTake (i := 9) (v := ?_) rfl (by kernel_rfl) (by kernel_rfl) (by kernel_rfl) (fun _ _ _ h => h) (Or.inl ⟨by rfl, ?_⟩) (by assumption) ?_
            rotate_left
            · intro w hSw; (try dsimp only at hSw); go_simp <;> (with_reducible rfl)
            try simp only [Act.put, List.setIfInBounds_toArray, List.set_cons_zero, List.set_cons_succ]
            refine heldTake (i := 10) (v := .agg (whC xw).toArray) rfl (by kernel_rfl) (by kernel_rfl) (by kernel_rfl) (fun _ _ _ h => h) (Or.inl ⟨by rfl, fun W hW => ?_⟩) (by assumption) ?_
            · exact run_load_wh W _ (.tmp 64) rfl _ xw hW.2.2 rfl
            try simp only [Act.put, List.setIfInBounds_toArray, List.set_cons_zero, List.set_cons_succ]
            refine heldTake (i := 11) (v := ?_) rfl (by kernel_rfl) (by kernel_rfl) (by kernel_rfl) (fun _ _ _ h => h) (Or.inl ⟨by rfl, ?_⟩) (by assumption) ?_
            rotate_left
            · intro w hSw; (try dsimp only at hSw); go_simp <;> (with_reducible rfl)
            try simp only [Act.put, List.setIfInBounds_toArray, List.set_cons_zero, List.set_cons_succ]
            refine wpAnyH_ready (rs := [12]) (by kernel_rfl) (by simp) ?_
            refine heldCons (i := 12) rfl (fun Kq hKq => ?_) AllReadyH.nil
            refine step_store_at rfl 24 (.tmp 66) (.tmp 65) rfl g (b * 3) 24 cu2 (show Blk w4.drew g 24 cu2 from HBR.out) rfl (whC xw) rfl (wh_info xw) (by rw [whC_len]; omega) (wh_one xw) ?_
            intro w5 hb5 hg5
            have HB5 := hide (HB4.out.drew.grown hg5 HB4.out.drew.size (fun g e => by injection e with e; omega))
            have HBR5 := hide hb5
            obtain ⟨ad8, hA8, hab8, _, hd8, hdw8⟩ := ch_at ((HL.out.later HB5.out).rd) HX.out
            injection hA8 with hA8
            subst hA8
            first | (refine hKq.out _ _ ⟨HB5.out, hd8, hdw8⟩ (fun hHeld => ?_)) | (go_wp2_with fail; refine hKq.out _ _ ⟨HB5.out, hd8, hdw8⟩ (fun hHeld => ?_))
            clear hKq Kq hd8 hdw8 hab8 hb5 hg5
            refine wpAnyH_done (by kernel_rfl) ?_ _
            go_wp2
            have HROW5 : Hid (∃ cu, Blk w5 g 24 cu ∧ cu.toList.take ((chgs V (L.take (j + 1))).length * 3) = whsL (chgs V (L.take (j + 1)))) := hide ⟨_, HBR5.out, by rw [chgs_take HX.out]; exact row_set HCT.out (by rw [HLN.out, Int.toNat_natCast]; exact hbn)⟩
            go_roundw
            case rel => exact ⟨j + 1, by omega, by go_num, HP2, HROW5, HB5⟩
            case measure => simp [intOf]; omega
          · have hok2 : x.2.ok = false := by simpa using hok
            have HRT : Hid (∀ w, Calls Try.prog 28 #[.agg (whC x.2).toArray] w fun e w' => e = .returned (.bool false) ∧ Below w.heap.size w w') := hide (fun w => by have h1 := rright_any w x.2; rw [hok2] at h1; exact h1)
            have HE := hide (setE_bad (badE_arg HPA.out HX.out hok2) (by decide))
            clear hok hok2
            go_wp2_with (first
              | ((with_reducible refine at_slot 51 ?_); refine when_loadW rfl (.tmp 50) rfl _ x.2 HCW.out rfl ?_)
              | (go_at_call 28; refine (HRT.out _).mono ?_; rintro _ w4 ⟨rfl, hl4⟩; have HB4 := hide (HB.out.trans (hl4.mono HB.out.size)); clear hl4))
            go_ret
            exact rset_bad HH.out HB4.out (by rw [HE.out]; decide) (by rw [HE.out]; rfl)
        · obtain rfl : j = k := by omega
          have hall : L.take j = L := List.take_of_length_le (by rw [HLEN.out]; exact Nat.le_refl _)
          rw [hall] at HROW
          obtain ⟨cu2, hbr, hct⟩ := HROW.out
          have hlen : (chgs V L).length = nv := (chgs_len _ _).trans HNV.out
          have HBR := hide hbr
          have HCT := hide hct
          have HLN := hide hlen
          have HOKA := hide (all_end HP.out HLEN.out)
          have HBE := hide (badE_ok HPA.out HOKA.out)
          have HTW := hide (twice_any (c := cg) (by have h3 := row_reads hbr hct; rw [hlen] at h3; exact h3) (by omega))
          clear hbr hct hlen HROW hall
          by_cases hd : Dis (chgs V L)
          · have he : setE V L = 0 := by unfold setE; rw [HBE.out, if_pos rfl, if_pos hd]
            have HE := hide he
            have HDD := hide (show (!decide (Dis (chgs V L))) = false by rw [decide_eq_true hd]; rfl)
            clear he hd
            go_wp2_with (first
              | (go_at_call 24; refine HTW.out.mono ?_; rintro _ w6 ⟨rfl, hl6⟩; rw [HDD.out]; have HB6 := hide (HB.out.trans (hl6.mono HB.out.size)); have HBR6 := hide (HBR.out.below hl6 HBR.out.lt); have HH6 := hide (HH.out.later HB6.out); have HD6 := hide HH6.out.head; clear hl6)
              | ((with_reducible refine at_store 73 ?_); refine wpList_poke rfl 35 (.tmp 73) (.tmp 71) rfl r 0 39 _ HD6.out rfl (.slice (some ⟨g, 0, none⟩) nv cg) rfl rfl (by kernel_rfl) (show (0 : Nat) < 1 by decide) ?_; intro w7 hb7 hg7 hs7; clear hs7; have HD7 := hide hb7; have HG7 := hide hg7; clear hb7 hg7))
            go_ret
            have hT : Turn (fun i => i = r) w w7 := (Turn.of_below HB6.out).grown HG7.out (fun g e => by injection e with e; exact .inl e.symm)
            have hrlt := HH.out.head.lt
            refine ⟨by rw [HE.out]; rfl, ⟨g, cg, cu2, ?_, .inr hgb0⟩, hT⟩
            rw [setV_yes HE.out]
            refine ⟨by rw [HLN.out]; exact HD7.out, HBR6.out.grown HG7.out (by intro e; injection e with e; omega), HCT.out, by rw [HLN.out]; exact HCG.out, HCM.out, ?_⟩
            have h9 := HH.out.ok.set L
            rw [setV_yes HE.out] at h9
            exact h9
          · have he : setE V L = 9 := by unfold setE; rw [HBE.out, if_pos rfl, if_neg hd]
            have HE := hide he
            have HDD := hide (show (!decide (Dis (chgs V L))) = true by rw [decide_eq_false hd]; rfl)
            clear he hd
            go_wp2_with (first
              | (go_at_call 24; refine HTW.out.mono ?_; rintro _ w6 ⟨rfl, hl6⟩; rw [HDD.out]; have HB6 := hide (HB.out.trans (hl6.mono HB.out.size)); clear hl6))
            go_ret
            exact rset_bad HH.out HB6.out (by rw [HE.out]; decide) (by rw [HE.out]; rfl)
end
#print axioms rset_any
end Go.Proofs.Ytfjgpnjhmfcpiaa
