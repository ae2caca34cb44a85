/- What the document's Clone of a table makes. -/
import Derived.Test.YtgoglgghnjgcdaaUrD
import Derived.Test.YtgoglgghnjgcdaaStepK
namespace Go.Proofs.Ytgoglgghnjgcdaa
open Go.RowKit Go.Maps

section
variable {P : Program} {ops : Array Oper} {o : Oper} {a : Act} {w : World} {K : Act → World → Prop} {Q : Exit → Act → World → Prop} {E : Prop}
theorem step_none (hg : o.guard = none) (t e : TypeId) (ho : o.op = .buildSlice t 0 #[]) (size base : Nat) (hrun : ∀ w, (Instr.buildSlice t 0 #[]).run P w = .ok (.slice (some ⟨w.heap.size, 0, none⟩) 0 0) (w.alloc (.cells #[] e))) (hb : base ≤ w.heap.size)
    (hK : ∀ v w', w'.ownsRow base e size v 0 [] → Below w.heap.size w w' → K (a.put o.dst v) w') : if Region.wanted o (yielded ops a.tmps) = true then Oper.wp P o a w K Q else E := by
  have hw : Region.wanted o (yielded ops a.tmps) = true := by simp [Region.wanted, hg]
  rw [if_pos hw]
  unfold Oper.wp execOp
  simp only [ho, List.map_toArray, List.map_nil, Sem.run_bind, hrun, Result.andThen_ok, Sem.run_pure]
  exact hK _ _ (World.ownsRow_made (base := base) (e := e) (size := size) w #[] 0 hb (Nat.zero_le _) (by simp)) ((Below.refl _ w).alloc (Nat.le_refl _) _)
theorem run_build0 (w : World) (t e : TypeId) (ie : TypeInfo) (z : Value) (hu : P.underlying t = some (.slice e)) (hie : P.info? e = some ie) (_ : ie.zero = some z) :
    (Instr.buildSlice t 0 #[]).run P w = .ok (.slice (some ⟨w.heap.size, 0, none⟩) 0 0) (w.alloc (.cells #[] e)) := by
  simp [Instr.buildSlice, run_underlying hu, sizeOf, typeInfo, hie, newRow, Instr.fill]
  rw [Array.eq_empty_of_size_eq_zero (xs := Array.map _ (Array.range 0)) (by simp)]
theorem step_app (hg : o.guard = none) (s x : Operand) (t : TypeId) (ho : o.op = .call { callee := .builtin .append, args := #[s, x], argTypes := #[t, t] })
    (base : Nat) (e : TypeId) (i : TypeInfo) (z : Value) (size bytes : Nat) (ht : P.underlying t = some (.slice e)) (hi : P.info? e = some i) (hz : i.zero = some z)
    (hsize : i.size = size) (hby : i.bytes = bytes) (hzs : z.cells.size = size) (hsz : 0 < size)
    (v : Value) (n : Nat) (xs : List Value) (hs : a.eval s = v) (hown : w.ownsRow base e size v n xs)
    (B : Nat) (A : Option Addr) (m c : Nat) (news : List Value) (hx : a.eval x = .slice A m c) (hr : Reads w B size A m news) (h1 : ∀ u ∈ news, u.oneCell' = true)
    (h63 : n + m ≤ maxLen) (hbytes : (n + m) * bytes ≤ 140737488355328) (hbase : base ≤ w.heap.size)
    (hK : ∀ v' w', w'.ownsRow base e size v' (n + m) (xs ++ news) → w.grownBy w' v.ownBlock → (v'.ownBlock = v.ownBlock ∨ v'.ownBlock = some w.heap.size) → K (a.put o.dst v') w') : if Region.wanted o (yielded ops a.tmps) = true then Oper.wp P o a w K Q else E := by
  obtain ⟨v', w', hrun, h2, h3, h4⟩ := run_append_any (P := P) w base t o.type e i z size bytes ht hi hz hsize hby hzs hsz v n xs hown B A m c news hr h1 h63 hbytes hbase
  exact step_known hg s x t ho v (.slice A m c) hs hx v' w' hrun (hK v' w' h2 h3 h4)
theorem step_box (hg : o.guard = none) (ty : TypeId) (x : Operand) (ho : o.op = .box ty x) (v : Value) (hx : a.eval x = v)
    (hK : ∀ w', Blk w' w.heap.size ty v.cells → Below w.heap.size w w' → K (a.put o.dst (.pointer (some ⟨w.heap.size, 0, none⟩))) w') : if Region.wanted o (yielded ops a.tmps) = true then Oper.wp P o a w K Q else E := by
  have hw : Region.wanted o (yielded ops a.tmps) = true := by simp [Region.wanted, hg]
  have hrun : (Instr.box ty v).run P w = .ok (.pointer (some ⟨w.heap.size, 0, none⟩)) (w.alloc (.cells v.cells ty)) := by
    simp [Instr.box, newVar, newRow, Result.andThen, go_sem]
  rw [if_pos hw]
  unfold Oper.wp
  simp [execOp, ho, hx, hrun, Result.andThen]
  exact hK _ (Blk.new _ _ _) ((Below.refl _ _).alloc (Nat.le_refl _) _)
end
theorem rtab_built2 (A B : Option Addr) (n c m d : Nat) : Try.prog.built 60 [(0, .slice A n c), (1, .slice B m d)] = some #[.slice A n c, .slice B m d] := by kernel_rfl
theorem build_run (w : World) (vs : List (Nat × Value)) (cells : Array Value) (hb : Try.prog.built 60 vs = some cells) : (do let v ← Instr.build 60 vs.toArray; pure (Next.value v) : Sem Next).run Try.prog w = .ok (.value (.agg cells)) w := by
  simp only [Sem.run_bind, run_build w 60 vs.toArray cells (by simpa using hb), Result.andThen_ok, Sem.run_pure]
theorem grL_one (l : List Gr) : ∀ u ∈ grL l, u.oneCell' = true := by
  intro u hu
  simp only [grL, List.mem_flatMap] at hu
  obtain ⟨x, _, hx⟩ := hu
  exact grC2_one x u hx
theorem lvL_one (l : List Lv) : ∀ u ∈ lvL l, u.oneCell' = true := by
  intro u hu
  simp only [lvL, List.mem_flatMap] at hu
  obtain ⟨x, _, hx⟩ := hu
  exact lvC_one x u hx
section
variable {S : Us} {w : World} {r cG cL : Nat} {AG AL : Option Addr}
theorem rclone_end {W : World} {g : Nat} {A1 A2 : Option Addr} {c1 c2 : Nat} (hB : Below w.heap.size w W) (h1 : W.ownsRow w.heap.size 80 2 (.slice A1 S.G.length c1) S.G.length (grL S.G)) (h2 : W.ownsRow w.heap.size 83 3 (.slice A2 S.L.length c2) S.L.length (lvL S.L))
    (hb : Blk W g 60 #[.slice A1 S.G.length c1, .slice A2 S.L.length c2]) (hg : w.heap.size ≤ g) :
    ∃ r' AG' cG' AL' cL', Ending.returned (.pointer (some ⟨g, 0, none⟩)) = .returned (.pointer (some ⟨r', 0, none⟩)) ∧ RefRd W r' AG' cG' AL' cL' S ∧ (∀ i, RFoot r' AG' AL' i → w.heap.size ≤ i) ∧ Below w.heap.size w W := by
  refine ⟨g, A1, c1, A2, c2, rfl, ⟨hb, own_rd h1, own_rd h2, ?_⟩, ?_, hB⟩
  · rintro i (rfl | ⟨a, ha, rfl⟩ | ⟨a, ha, rfl⟩)
    · exact hb.lt
    · exact (h1.lt a.block (foot_own ha)).2
    · exact (h2.lt a.block (foot_own ha)).2
  · rintro i (rfl | ⟨a, ha, rfl⟩ | ⟨a, ha, rfl⟩)
    · exact hg
    · exact (h1.lt a.block (foot_own ha)).1
    · exact (h2.lt a.block (foot_own ha)).1
set_option maxRecDepth 100000 in
set_option maxHeartbeats 4000000 in
theorem rclone_any (h : RefIn w r AG cG AL cL S) (hg : S.G.length < 1000000) (hf : S.L.length < 1000000) :
    Calls Try.prog 12 #[.pointer (some ⟨r, 0, none⟩)] w fun e w' => ∃ r' AG' cG' AL' cL', e = .returned (.pointer (some ⟨r', 0, none⟩)) ∧ RefRd w' r' AG' cG' AL' cL' S ∧ (∀ i, RFoot r' AG' AL' i → w.heap.size ≤ i) ∧ Below w.heap.size w w' := by
  obtain ⟨i1, hi1, hz1, hs1, hy1⟩ := info_parts grp_parts
  obtain ⟨i2, hi2, hz2, hs2, hy2⟩ := info_parts liv_parts
  have HG := hide (And.intro hi1 (And.intro hz1 (And.intro hs1 hy1)))
  have HL := hide (And.intro hi2 (And.intro hz2 (And.intro hs2 hy2)))
  have HM := hide (And.intro hg hf)
  have HI := hide (fun (w' : World) (hb : Below w.heap.size w w') => (h.later hb).rd)
  have HC : Hid (∀ w', Below w.heap.size w w' → w'.cell? ⟨r, 0, none⟩ = some (.slice AG S.G.length cG) ∧ w'.cell? ⟨r, 1, none⟩ = some (.slice AL S.L.length cL)) := hide (fun w' hb => ⟨(h.later hb).c0, (h.later hb).c1⟩)
  clear h hg hf hi1 hz1 hs1 hy1 hi2 hz2 hs2 hy2
  go_enter Try.func12, Try.ntmps12
  go_wp2
  have hB0 : Below w.heap.size w w.drew := (Below.refl _ w).drew
  have hHeld : w.drew.cell? ⟨r, 0, none⟩ = some (.slice AG S.G.length cG) ∧ w.drew.cell? ⟨r, 1, none⟩ = some (.slice AL S.L.length cL) := HC.out _ hB0
  refine wp_region_noPanic ?_
  refine wp_region_held_drew (S := fun W => W.cell? ⟨r, 0, none⟩ = some (.slice AG S.G.length cG) ∧ W.cell? ⟨r, 1, none⟩ = some (.slice AL S.L.length cL)) (by kernel_rfl) ?_ (fun hHeld => ?_)
  · exact hHeld
  refine heldTake (i := 1) (v := ?_) rfl (by kernel_rfl) (by kernel_rfl) (by kernel_rfl) (fun _ _ _ h => h) (Or.inl ⟨by rfl, ?_⟩) (by assumption) ?_
  rotate_left
  · intro w hSw; (try dsimp only at hSw); go_simp <;> (with_reducible rfl)
  try simp only [Act.put, List.setIfInBounds_toArray, List.set_cons_zero, List.set_cons_succ]
  refine heldTake (i := 2) (v := ?_) rfl (by kernel_rfl) (by kernel_rfl) (by kernel_rfl) (fun _ _ _ h => h) (Or.inl ⟨by rfl, ?_⟩) (by assumption) ?_
  rotate_left
  · intro w hSw; (try dsimp only at hSw); go_simp <;> (with_reducible rfl)
  try simp only [Act.put, List.setIfInBounds_toArray, List.set_cons_zero, List.set_cons_succ]
  refine heldTake (i := 3) (v := ?_) rfl (by kernel_rfl) (by kernel_rfl) (by kernel_rfl) (fun _ _ _ h => h) (Or.inl ⟨by rfl, ?_⟩) (by assumption) ?_
  rotate_left
  · intro w hSw; (try dsimp only at hSw); go_simp <;> (with_reducible rfl)
  try simp only [Act.put, List.setIfInBounds_toArray, List.set_cons_zero, List.set_cons_succ]
  refine heldTake (i := 4) (v := ?_) rfl (by kernel_rfl) (by kernel_rfl) (by kernel_rfl) (fun _ _ _ h => h) (Or.inl ⟨by rfl, ?_⟩) (by assumption) ?_
  rotate_left
  · intro w hSw; (try dsimp only at hSw); go_simp <;> (with_reducible rfl)
  try simp only [Act.put, List.setIfInBounds_toArray, List.set_cons_zero, List.set_cons_succ]
  refine heldTake (i := 7) (v := ?_) rfl (by kernel_rfl) (by kernel_rfl) (by kernel_rfl) (fun _ _ _ h => h) (Or.inl ⟨by rfl, ?_⟩) (by assumption) ?_
  rotate_left
  · intro w hSw; (try dsimp only at hSw); go_simp <;> (with_reducible rfl)
  try simp only [Act.put, List.setIfInBounds_toArray, List.set_cons_zero, List.set_cons_succ]
  refine heldTake (i := 8) (v := ?_) rfl (by kernel_rfl) (by kernel_rfl) (by kernel_rfl) (fun _ _ _ h => h) (Or.inl ⟨by rfl, ?_⟩) (by assumption) ?_
  rotate_left
  · intro w hSw; (try dsimp only at hSw); go_simp <;> (with_reducible rfl)
  try simp only [Act.put, List.setIfInBounds_toArray, List.set_cons_zero, List.set_cons_succ]
  refine heldTake (i := 9) (v := ?_) rfl (by kernel_rfl) (by kernel_rfl) (by kernel_rfl) (fun _ _ _ h => h) (Or.inl ⟨by rfl, ?_⟩) (by assumption) ?_
  rotate_left
  · intro w hSw; (try dsimp only at hSw); go_simp <;> (with_reducible rfl)
  try simp only [Act.put, List.setIfInBounds_toArray, List.set_cons_zero, List.set_cons_succ]
  refine heldTake (i := 10) (v := ?_) rfl (by kernel_rfl) (by kernel_rfl) (by kernel_rfl) (fun _ _ _ h => h) (Or.inl ⟨by rfl, ?_⟩) (by assumption) ?_
  rotate_left
  · intro w hSw; (try dsimp only at hSw); go_simp <;> (with_reducible rfl)
  try simp only [Act.put, List.setIfInBounds_toArray, List.set_cons_zero, List.set_cons_succ]
  refine wpAnyH_ready (rs := [0, 6]) (by kernel_rfl) (by simp) ?_
  refine heldCons (i := 0) rfl (fun K hK => ?_) ?_
  · refine step_none rfl 57 80 rfl 2 w.heap.size (fun u => run_build0 u _ _ _ _ Try.underlying57 HG.out.1 HG.out.2.1) hB0.size ?_
    intro v1 y1 ho1 hl1
    have hB1 : Below w.heap.size w y1 := hB0.trans (hl1.mono hB0.size)
    refine hK.out _ _ ?_ (fun hHeld => ?_)
    · exact HC.out y1 hB1
    clear hK K
    try simp only [Act.put, List.setIfInBounds_toArray, List.set_cons_zero, List.set_cons_succ]
    refine wpAnyH_ready (rs := [5, 6]) (by kernel_rfl) (by simp) ?_
    refine heldCons (i := 5) rfl (fun K hK => ?_) ?_
    · refine step_app rfl (.tmp 3) (.tmp 7) 57 rfl w.heap.size 80 _ _ 2 16 Try.underlying57 HG.out.1 HG.out.2.1 HG.out.2.2.1 HG.out.2.2.2 rfl (by decide) _ 0 [] rfl ho1 y1.heap.size AG S.G.length cG (grL S.G) rfl (HI.out y1 hB1).gr (grL_one _) (by have := HM.out; simp only [maxLen]; omega) (by have := HM.out; omega) hB1.size ?_
      intro v2 y2 ho2 hg2 _
      have hB2 : Below w.heap.size w y2 := hB1.grown hg2 hB1.size (fun i hi => (ho1.lt i hi).1)
      rw [Nat.zero_add, List.nil_append] at ho2
      obtain ⟨A2, c2, rfl, _, _⟩ := own_shape ho2
      refine hK.out _ _ ?_ (fun hHeld => ?_)
      · exact HC.out y2 hB2
      clear hK K
      try simp only [Act.put, List.setIfInBounds_toArray, List.set_cons_zero, List.set_cons_succ]
      refine wpAnyH_ready (rs := [6]) (by kernel_rfl) (by simp) ?_
      refine heldCons (i := 6) rfl (fun K hK => ?_) ?_
      · refine step_none rfl 58 83 rfl 3 w.heap.size (fun u => run_build0 u _ _ _ _ Try.underlying58 HL.out.1 HL.out.2.1) hB2.size ?_
        intro v3 y3 ho3 hl3
        have hB3 : Below w.heap.size w y3 := hB2.trans (hl3.mono hB2.size)
        have hq3 := own_later ho2 hl3
        refine hK.out _ _ ?_ (fun hHeld => ?_)
        · exact HC.out y3 hB3
        clear hK K
        try simp only [Act.put, List.setIfInBounds_toArray, List.set_cons_zero, List.set_cons_succ]
        refine wpAnyH_ready (rs := [11]) (by kernel_rfl) (by simp) ?_
        refine heldCons (i := 11) rfl (fun K hK => ?_) ?_
        · refine step_app rfl (.tmp 9) (.tmp 13) 58 rfl w.heap.size 83 _ _ 3 24 Try.underlying58 HL.out.1 HL.out.2.1 HL.out.2.2.1 HL.out.2.2.2 rfl (by decide) _ 0 [] rfl ho3 y3.heap.size AL S.L.length cL (lvL S.L) rfl (HI.out y3 hB3).lr (lvL_one _) (by have := HM.out; simp only [maxLen]; omega) (by have := HM.out; omega) hB3.size ?_
          intro v4 y4 ho4 hg4 _
          have hB4 : Below w.heap.size w y4 := hB3.grown hg4 hB3.size (fun i hi => (ho3.lt i hi).1)
          rw [Nat.zero_add, List.nil_append] at ho4
          obtain ⟨A4, c4, rfl, _, _⟩ := own_shape ho4
          have hq4 := own_other hq3 hg4 (kinds_apart ho3 hq3 (by decide))
          refine hK.out _ _ ?_ (fun hHeld => ?_)
          · exact HC.out y4 hB4
          clear hK K
          try simp only [Act.put, List.setIfInBounds_toArray, List.set_cons_zero, List.set_cons_succ]
          refine heldTake (i := 12) (v := .agg #[.slice A2 S.G.length c2, .slice A4 S.L.length c4]) rfl (by kernel_rfl) (by kernel_rfl) (by kernel_rfl) (fun _ _ _ h => h) (Or.inl ⟨by rfl, ?_⟩) (by assumption) ?_
          · intro w hSw
            have hb0 := build_run w _ _ (rtab_built2 A2 A4 S.G.length c2 S.L.length c4)
            simp only [Sem.run_bind] at hb0
            simp [execOp]
            exact hb0
          try simp only [Act.put, List.setIfInBounds_toArray, List.set_cons_zero, List.set_cons_succ]
          refine wpAnyH_ready (rs := [13]) (by kernel_rfl) (by simp) ?_
          refine heldCons (i := 13) rfl (fun K hK => ?_) ?_
          · refine step_box rfl 60 (.tmp 15) rfl _ rfl ?_
            intro y5 hb5 hl5
            have hB5 : Below w.heap.size w y5 := hB4.trans (hl5.mono hB4.size)
            have hp5 := own_later hq4 hl5
            have hq5 := own_later ho4 hl5
            refine hK.out _ _ ?_ (fun hHeld => ?_)
            · exact HC.out y5 hB5
            clear hK K
            try simp only [Act.put, List.setIfInBounds_toArray, List.set_cons_zero, List.set_cons_succ]
            refine heldTake (i := 14) (v := ?_) rfl (by kernel_rfl) (by kernel_rfl) (by kernel_rfl) (fun _ _ _ h => h) (Or.inl ⟨by rfl, ?_⟩) (by assumption) ?_
            rotate_left
            · intro w hSw; (try dsimp only at hSw); go_simp <;> (with_reducible rfl)
            try simp only [Act.put, List.setIfInBounds_toArray, List.set_cons_zero, List.set_cons_succ]
            refine wpAnyH_done (by kernel_rfl) ?_ _
            refine NoPanic.normal ?_
            go_wp2
            go_ret
            exact rclone_end hB5 hp5 hq5 hb5 hB4.size
          exact AllReadyH.nil
        exact AllReadyH.nil
      exact AllReadyH.nil
    refine heldCons (i := 6) rfl (fun K hK => ?_) ?_
    · refine step_none rfl 58 83 rfl 3 w.heap.size (fun u => run_build0 u _ _ _ _ Try.underlying58 HL.out.1 HL.out.2.1) hB1.size ?_
      intro v6 y6 ho6 hl6
      have hB6 : Below w.heap.size w y6 := hB1.trans (hl6.mono hB1.size)
      have hq6 := own_later ho1 hl6
      refine hK.out _ _ ?_ (fun hHeld => ?_)
      · exact HC.out y6 hB6
      clear hK K
      try simp only [Act.put, List.setIfInBounds_toArray, List.set_cons_zero, List.set_cons_succ]
      refine wpAnyH_ready (rs := [5]) (by kernel_rfl) (by simp) ?_
      refine heldCons (i := 5) rfl (fun K hK => ?_) ?_
      · refine step_app rfl (.tmp 3) (.tmp 7) 57 rfl w.heap.size 80 _ _ 2 16 Try.underlying57 HG.out.1 HG.out.2.1 HG.out.2.2.1 HG.out.2.2.2 rfl (by decide) _ 0 [] rfl hq6 y6.heap.size AG S.G.length cG (grL S.G) rfl (HI.out y6 hB6).gr (grL_one _) (by have := HM.out; simp only [maxLen]; omega) (by have := HM.out; omega) hB6.size ?_
        intro v7 y7 ho7 hg7 _
        have hB7 : Below w.heap.size w y7 := hB6.grown hg7 hB6.size (fun i hi => (hq6.lt i hi).1)
        rw [Nat.zero_add, List.nil_append] at ho7
        obtain ⟨A7, c7, rfl, _, _⟩ := own_shape ho7
        have hq7 := own_other ho6 hg7 (kinds_apart hq6 ho6 (by decide))
        refine hK.out _ _ ?_ (fun hHeld => ?_)
        · exact HC.out y7 hB7
        clear hK K
        try simp only [Act.put, List.setIfInBounds_toArray, List.set_cons_zero, List.set_cons_succ]
        refine wpAnyH_ready (rs := [11]) (by kernel_rfl) (by simp) ?_
        refine heldCons (i := 11) rfl (fun K hK => ?_) ?_
        · refine step_app rfl (.tmp 9) (.tmp 13) 58 rfl w.heap.size 83 _ _ 3 24 Try.underlying58 HL.out.1 HL.out.2.1 HL.out.2.2.1 HL.out.2.2.2 rfl (by decide) _ 0 [] rfl hq7 y7.heap.size AL S.L.length cL (lvL S.L) rfl (HI.out y7 hB7).lr (lvL_one _) (by have := HM.out; simp only [maxLen]; omega) (by have := HM.out; omega) hB7.size ?_
          intro v8 y8 ho8 hg8 _
          have hB8 : Below w.heap.size w y8 := hB7.grown hg8 hB7.size (fun i hi => (hq7.lt i hi).1)
          rw [Nat.zero_add, List.nil_append] at ho8
          obtain ⟨A8, c8, rfl, _, _⟩ := own_shape ho8
          have hq8 := own_other ho7 hg8 (kinds_apart hq7 ho7 (by decide))
          refine hK.out _ _ ?_ (fun hHeld => ?_)
          · exact HC.out y8 hB8
          clear hK K
          try simp only [Act.put, List.setIfInBounds_toArray, List.set_cons_zero, List.set_cons_succ]
          refine heldTake (i := 12) (v := .agg #[.slice A7 S.G.length c7, .slice A8 S.L.length c8]) rfl (by kernel_rfl) (by kernel_rfl) (by kernel_rfl) (fun _ _ _ h => h) (Or.inl ⟨by rfl, ?_⟩) (by assumption) ?_
          · intro w hSw
            have hb0 := build_run w _ _ (rtab_built2 A7 A8 S.G.length c7 S.L.length c8)
            simp only [Sem.run_bind] at hb0
            simp [execOp]
            exact hb0
          try simp only [Act.put, List.setIfInBounds_toArray, List.set_cons_zero, List.set_cons_succ]
          refine wpAnyH_ready (rs := [13]) (by kernel_rfl) (by simp) ?_
          refine heldCons (i := 13) rfl (fun K hK => ?_) ?_
          · refine step_box rfl 60 (.tmp 15) rfl _ rfl ?_
            intro y9 hb9 hl9
            have hB9 : Below w.heap.size w y9 := hB8.trans (hl9.mono hB8.size)
            have hp9 := own_later hq8 hl9
            have hq9 := own_later ho8 hl9
            refine hK.out _ _ ?_ (fun hHeld => ?_)
            · exact HC.out y9 hB9
            clear hK K
            try simp only [Act.put, List.setIfInBounds_toArray, List.set_cons_zero, List.set_cons_succ]
            refine heldTake (i := 14) (v := ?_) rfl (by kernel_rfl) (by kernel_rfl) (by kernel_rfl) (fun _ _ _ h => h) (Or.inl ⟨by rfl, ?_⟩) (by assumption) ?_
            rotate_left
            · intro w hSw; (try dsimp only at hSw); go_simp <;> (with_reducible rfl)
            try simp only [Act.put, List.setIfInBounds_toArray, List.set_cons_zero, List.set_cons_succ]
            refine wpAnyH_done (by kernel_rfl) ?_ _
            refine NoPanic.normal ?_
            go_wp2
            go_ret
            exact rclone_end hB9 hp9 hq9 hb9 hB8.size
          exact AllReadyH.nil
        exact AllReadyH.nil
      exact AllReadyH.nil
    exact AllReadyH.nil
  refine heldCons (i := 6) rfl (fun K hK => ?_) ?_
  · refine step_none rfl 58 83 rfl 3 w.heap.size (fun u => run_build0 u _ _ _ _ Try.underlying58 HL.out.1 HL.out.2.1) hB0.size ?_
    intro v10 y10 ho10 hl10
    have hB10 : Below w.heap.size w y10 := hB0.trans (hl10.mono hB0.size)
    refine hK.out _ _ ?_ (fun hHeld => ?_)
    · exact HC.out y10 hB10
    clear hK K
    try simp only [Act.put, List.setIfInBounds_toArray, List.set_cons_zero, List.set_cons_succ]
    refine wpAnyH_ready (rs := [0]) (by kernel_rfl) (by simp) ?_
    refine heldCons (i := 0) rfl (fun K hK => ?_) ?_
    · refine step_none rfl 57 80 rfl 2 w.heap.size (fun u => run_build0 u _ _ _ _ Try.underlying57 HG.out.1 HG.out.2.1) hB10.size ?_
      intro v11 y11 ho11 hl11
      have hB11 : Below w.heap.size w y11 := hB10.trans (hl11.mono hB10.size)
      have hq11 := own_later ho10 hl11
      refine hK.out _ _ ?_ (fun hHeld => ?_)
      · exact HC.out y11 hB11
      clear hK K
      try simp only [Act.put, List.setIfInBounds_toArray, List.set_cons_zero, List.set_cons_succ]
      refine wpAnyH_ready (rs := [5]) (by kernel_rfl) (by simp) ?_
      refine heldCons (i := 5) rfl (fun K hK => ?_) ?_
      · refine step_app rfl (.tmp 3) (.tmp 7) 57 rfl w.heap.size 80 _ _ 2 16 Try.underlying57 HG.out.1 HG.out.2.1 HG.out.2.2.1 HG.out.2.2.2 rfl (by decide) _ 0 [] rfl ho11 y11.heap.size AG S.G.length cG (grL S.G) rfl (HI.out y11 hB11).gr (grL_one _) (by have := HM.out; simp only [maxLen]; omega) (by have := HM.out; omega) hB11.size ?_
        intro v12 y12 ho12 hg12 _
        have hB12 : Below w.heap.size w y12 := hB11.grown hg12 hB11.size (fun i hi => (ho11.lt i hi).1)
        rw [Nat.zero_add, List.nil_append] at ho12
        obtain ⟨A12, c12, rfl, _, _⟩ := own_shape ho12
        have hq12 := own_other hq11 hg12 (kinds_apart ho11 hq11 (by decide))
        refine hK.out _ _ ?_ (fun hHeld => ?_)
        · exact HC.out y12 hB12
        clear hK K
        try simp only [Act.put, List.setIfInBounds_toArray, List.set_cons_zero, List.set_cons_succ]
        refine wpAnyH_ready (rs := [11]) (by kernel_rfl) (by simp) ?_
        refine heldCons (i := 11) rfl (fun K hK => ?_) ?_
        · refine step_app rfl (.tmp 9) (.tmp 13) 58 rfl w.heap.size 83 _ _ 3 24 Try.underlying58 HL.out.1 HL.out.2.1 HL.out.2.2.1 HL.out.2.2.2 rfl (by decide) _ 0 [] rfl hq12 y12.heap.size AL S.L.length cL (lvL S.L) rfl (HI.out y12 hB12).lr (lvL_one _) (by have := HM.out; simp only [maxLen]; omega) (by have := HM.out; omega) hB12.size ?_
          intro v13 y13 ho13 hg13 _
          have hB13 : Below w.heap.size w y13 := hB12.grown hg13 hB12.size (fun i hi => (hq12.lt i hi).1)
          rw [Nat.zero_add, List.nil_append] at ho13
          obtain ⟨A13, c13, rfl, _, _⟩ := own_shape ho13
          have hq13 := own_other ho12 hg13 (kinds_apart hq12 ho12 (by decide))
          refine hK.out _ _ ?_ (fun hHeld => ?_)
          · exact HC.out y13 hB13
          clear hK K
          try simp only [Act.put, List.setIfInBounds_toArray, List.set_cons_zero, List.set_cons_succ]
          refine heldTake (i := 12) (v := .agg #[.slice A12 S.G.length c12, .slice A13 S.L.length c13]) rfl (by kernel_rfl) (by kernel_rfl) (by kernel_rfl) (fun _ _ _ h => h) (Or.inl ⟨by rfl, ?_⟩) (by assumption) ?_
          · intro w hSw
            have hb0 := build_run w _ _ (rtab_built2 A12 A13 S.G.length c12 S.L.length c13)
            simp only [Sem.run_bind] at hb0
            simp [execOp]
            exact hb0
          try simp only [Act.put, List.setIfInBounds_toArray, List.set_cons_zero, List.set_cons_succ]
          refine wpAnyH_ready (rs := [13]) (by kernel_rfl) (by simp) ?_
          refine heldCons (i := 13) rfl (fun K hK => ?_) ?_
          · refine step_box rfl 60 (.tmp 15) rfl _ rfl ?_
            intro y14 hb14 hl14
            have hB14 : Below w.heap.size w y14 := hB13.trans (hl14.mono hB13.size)
            have hp14 := own_later hq13 hl14
            have hq14 := own_later ho13 hl14
            refine hK.out _ _ ?_ (fun hHeld => ?_)
            · exact HC.out y14 hB14
            clear hK K
            try simp only [Act.put, List.setIfInBounds_toArray, List.set_cons_zero, List.set_cons_succ]
            refine heldTake (i := 14) (v := ?_) rfl (by kernel_rfl) (by kernel_rfl) (by kernel_rfl) (fun _ _ _ h => h) (Or.inl ⟨by rfl, ?_⟩) (by assumption) ?_
            rotate_left
            · intro w hSw; (try dsimp only at hSw); go_simp <;> (with_reducible rfl)
            try simp only [Act.put, List.setIfInBounds_toArray, List.set_cons_zero, List.set_cons_succ]
            refine wpAnyH_done (by kernel_rfl) ?_ _
            refine NoPanic.normal ?_
            go_wp2
            go_ret
            exact rclone_end hB14 hp14 hq14 hb14 hB13.size
          exact AllReadyH.nil
        exact AllReadyH.nil
      exact AllReadyH.nil
    exact AllReadyH.nil
  exact AllReadyH.nil
end
#print axioms rclone_any
end Go.Proofs.Ytgoglgghnjgcdaa
