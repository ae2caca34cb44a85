/- VmapPlays' walk over the contracts. -/
import Derived.Test.YtfjgpnjhmfcpiaaVmV
import Derived.Test.YtfjgpnjhmfcpiaaArgW
import Derived.Deep.DeepCutAuto
import Derived.Deep.CutBlock
namespace Go.Proofs.Ytfjgpnjhmfcpiaa
open Go.RowKit Go.Maps
set_option linter.unusedVariables false
/-- A slice's head. -/
theorem run_cutC {a : Act} (W : World) (o : Oper) (x h : Operand) (ho : o.op = .slice 30 x none (some h) none) (A : Option Addr) (n c m : Nat) (hx : a.eval x = .slice A n c) (hh : a.eval h = .int .i64 (m : Int)) (hm : m ≤ c) : (execOp a.eval o).run Try.prog W = .ok (.value (.slice A m c)) W := by
  have h1 := run_slice_h (P := Try.prog) (w := W) 30 A n c Try.underlying30 .i64 (m : Int) (by omega) (by omega)
  have hs : (sizeOf (Try.prog.elem 30)).run Try.prog W = .ok 4 W := by kernel_rfl
  unfold execOp
  have h2 := run_sliceAt_slice (P := Try.prog) (w := W) 30 (.slice A n c) none (some (.int .i64 (m : Int))) none Try.underlying30
  simp [ho, hx, hh, h2, h1, hs, Result.andThen]
  cases A <;> simp [sliced, Addr.add]
section
variable {P : Program} {ops : Array Oper} {o : Oper} {a : Act} {w : World} {K : Act → World → Prop} {Q : Exit → Act → World → Prop} {E : Prop}
theorem step_noneC (hg : o.guard = none) (t e : TypeId) (ho : o.op = .buildSlice t 0 #[]) (size base : Nat) (hrun : ∀ w, (Instr.buildSlice t 0 #[]).run P w = .ok (.slice (some ⟨w.heap.size, 0, none⟩) 0 0) (w.alloc (.cells #[] e))) (hb : base ≤ w.heap.size)
    (hK : ∀ v w', w'.ownsRow base e size v 0 [] → Below w.heap.size w w' → K (a.put o.dst v) w') : if Region.wanted o (yielded ops a.tmps) = true then Oper.wp P o a w K Q else E := by
  have hw : Region.wanted o (yielded ops a.tmps) = true := by simp [Region.wanted, hg]
  rw [if_pos hw]
  unfold Oper.wp execOp
  simp only [ho, List.map_toArray, List.map_nil, Sem.run_bind, hrun, Result.andThen_ok, Sem.run_pure]
  exact hK _ _ (World.ownsRow_made (base := base) (e := e) (size := size) w #[] 0 hb (Nat.zero_le _) (by simp)) ((Below.refl _ w).alloc (Nat.le_refl _) _)
theorem step_appC (hg : o.guard = none) (s x : Operand) (t : TypeId) (ho : o.op = .call { callee := .builtin .append, args := #[s, x], argTypes := #[t, t] })
    (base : Nat) (e : TypeId) (i : TypeInfo) (z : Value) (size bytes : Nat) (ht : P.underlying t = some (.slice e)) (hi : P.info? e = some i) (hz : i.zero = some z)
    (hsize : i.size = size) (hby : i.bytes = bytes) (hzs : z.cells.size = size) (hsz : 0 < size)
    (v : Value) (n : Nat) (xs : List Value) (hs : a.eval s = v) (hown : w.ownsRow base e size v n xs)
    (B : Nat) (A : Option Addr) (m c : Nat) (news : List Value) (hx : a.eval x = .slice A m c) (hr : Reads w B size A m news) (h1 : ∀ u ∈ news, u.oneCell' = true)
    (h63 : n + m ≤ maxLen) (hbytes : (n + m) * bytes ≤ 140737488355328) (hbase : base ≤ w.heap.size)
    (hK : ∀ v' w', w'.ownsRow base e size v' (n + m) (xs ++ news) → w.grownBy w' v.ownBlock → K (a.put o.dst v') w') : if Region.wanted o (yielded ops a.tmps) = true then Oper.wp P o a w K Q else E := by
  obtain ⟨v', w', hrun, h2, h3, h4⟩ := run_append_any (P := P) w base t o.type e i z size bytes ht hi hz hsize hby hzs hsz v n xs hown B A m c news hr h1 h63 hbytes hbase
  exact step_known hg s x t ho v (.slice A m c) hs hx v' w' hrun (hK v' w' h2 h3)
end
theorem run_noneC (w : World) : (Instr.buildSlice 30 0 #[]).run Try.prog w = .ok (.slice (some ⟨w.heap.size, 0, none⟩) 0 0) (w.alloc (.cells #[] 34)) := by kernel_rfl
theorem chs_one1 (L : List Ch) : ∀ v ∈ chsL L, v.oneCell' = true := fun v hv => by
  obtain ⟨p, _, hp⟩ := List.mem_flatMap.1 hv
  exact ch_one p v hp
/-- The copy that is handed in: a row of the law's own, unless it is empty. -/
def XV (A : Option Addr) (n : Nat) (X : VarsT) : Prop := (n = 0 ∧ X = []) ∨ ∃ g cs, A = some ⟨g, 0, none⟩ ∧ X = [(g, 34, cs)] ∧ n * 4 ≤ cs.length
theorem Sta.rowX {w0 W W' : World} {Hs : List Thing} {U : VarsT} {A : Option Addr} {n c base : Nat} {L : List Ch} (h : Sta w0 W Hs U) (hb : Below W.heap.size W W') (hB : W.heap.size ≤ base) (ho : W'.ownsRow base 34 4 (.slice A n c) n (chsL L)) : ∃ X, Sta w0 W' Hs (U ++ X) ∧ XV A n X := by
  rcases ho.2 with ⟨_, h0⟩ | ⟨g, cap, cur, hv, hg, hh, _, _, _, ht⟩
  · exact ⟨[], by rw [List.append_nil]; exact h.later hb, .inl ⟨h0, rfl⟩⟩
  · injection hv with e1
    refine ⟨[(g, 34, cur.toList)], h.var hb (by omega) (by rw [Array.toArray_toList]; exact hh), .inr ⟨g, cur.toList, e1, rfl, ?_⟩⟩
    have h3 := congrArg List.length ht
    have h4 := ho.1
    rw [List.length_take] at h3
    omega
theorem int_oneW : (Try.prog.info? 3).map (·.size) = some 1 := by kernel_rfl
set_option maxRecDepth 100000 in
set_option maxHeartbeats 16000000 in
theorem vmapPlays_walk (ni : Int) (A : Option Addr) (n c : Nat) (f : Nat → ChV) (q : Wh) (bk : Int) (w : World) (hx : ChRows w w.heap.size A n c f) (hq : q.fits) :
    Calls Try.prog 3 #[.int .i64 ni, .slice A n c, .agg (whC q).toArray, .int .i64 bk] w fun e w' => e = .returned (.bool true) ∧ Below w.heap.size w w' := by
  have HS_w : Hid (Sta w w [] []) := hide (Sta.begin w)
  have HSH := hide shown15_any
  have HX := hide hx
  have HQF := hide hq
  have hnc : n ≤ c := hx.le
  have hcm : c ≤ 9223372036854775807 := hx.lt
  have heq := run_eql_vm
  obtain ⟨i0, hi0, hz0, hz1, hz2⟩ := info_parts ch_parts
  have HI0 := hide (And.intro hi0 (And.intro hz0 (And.intro hz1 hz2)))
  obtain ⟨v0, h0⟩ : ∃ v, newV ni = v := ⟨_, rfl⟩
  have HV0 := hide h0
  clear hx h0 hq hi0 hz0 hz1 hz2
  go_enter Try.func3, Try.ntmps3
  go_wp2_with (first
    | ((with_reducible refine at_slot 6 ?_); refine wpList_box_blk rfl 24 _ rfl (.agg (whC q).toArray) rfl ?_; intro y1 hbq hl1 hs1; have HS_y1 : Hid (Sta w y1 [] [(w.heap.size, 24, whC q)]) := hide (HS_w.out.var hl1 (Nat.le_refl _) hbq); clear hbq hl1 hs1)
    | (go_at_call 9; refine (HSH.out _).mono ?_; rintro _ y2 ⟨rfl, hlq⟩; have HS_y2 : Hid (Sta w y2 [] [(w.heap.size, 24, whC q)]) := hide (HS_y1.out.later hlq); clear hlq)
    | (go_at_call 10; refine (HS_y2.out.mk_ ni).mono ?_; rintro _ y3 ⟨m, rfl, hsq⟩; rw [HV0.out] at hsq; have HS_y3 : Hid (Sta w y3 [vmT m v0] [(w.heap.size, 24, whC q)]) := hide hsq; clear hsq)
    | (go_at_call 11; refine (HS_y3.out.rmk ni).mono ?_; rintro _ y4 ⟨r, rfl, hsq⟩; rw [HV0.out] at hsq; have HS_y4 : Hid (Sta w y4 [vmT m v0, rvT r v0] [(w.heap.size, 24, whC q)]) := hide hsq; clear hsq))
  go_loopw [12, 13, 14, 15, 16, 17, 18, 19, 20, 21, 22, 23, 24, 25, 26, 27] (fun s12 _ _ _ _ _ _ _ _ _ _ _ _ _ _ _ wr => ∃ (i : Nat) (V : List Wh), s12 = .int .i64 (i : Int) ∧ i ≤ 60 ∧ Hid (Sta w wr [vmT m V, rvT r V] [(w.heap.size, 24, whC q)])) (fun s12 _ _ _ _ _ _ _ _ _ _ _ _ _ _ _ _ => 60 - (intOf s12).toNat)
  case atStart => exact ⟨0, v0, rfl, by decide, HS_y4⟩
  case round =>
    obtain ⟨i, V, rfl, hi60, HS_z1⟩ := hrel
    obtain ⟨z1, rfl⟩ : ∃ z, z = wr := ⟨_, rfl⟩
    by_cases hin : (i : Int) < (n : Int)
    · by_cases h60 : (i : Int) < 60
      · obtain ⟨ad, hA, hab, hrow⟩ := HX.out.row (by omega)
        subst hA
        obtain ⟨hci, hchi⟩ := hrow i (by omega)
        obtain ⟨⟨Ai, ni2, ci, Li⟩, hfi⟩ : ∃ y, f i = y := ⟨_, rfl⟩
        rw [hfi] at hci hchi
        dsimp only at hci
        have HCI := hide (fun (W : World) (hW : Below w.heap.size w W) => show W.cell? (ad.add i) = some (.slice Ai ni2 ci) from (hW.cell (p := ad.add i) (by rw [block_of_add]; exact hab)).trans hci)
        have hle : ni2 ≤ ci := hchi.le
        have hlm : ci ≤ 9223372036854775807 := hchi.lt
        obtain ⟨mm, hmm⟩ : ∃ mm, mm = min ni2 20 := ⟨_, rfl⟩
        have hmi : min (ni2 : Int) 20 = (mm : Int) := by rw [hmm]; omega
        have hm1 : mm ≤ ni2 := by omega
        have hm2 : mm ≤ 20 := by omega
        have HHD := hide (fun (W : World) (hW : Below w.heap.size w W) => hchi.head hW (m := mm) hm1 (by omega))
        dsimp only at HHD
        obtain ⟨L, hL⟩ : ∃ L, L = Li.take mm := ⟨_, rfl⟩
        rw [← hL] at HHD
        have HLL := hide (show (chsL L).length = mm * 4 by have := (HHD.out w (Below.refl _ _)).rd.1; exact this)
        have HOK1 := hide (HS_z1.out.okV 0 rfl)
        obtain ⟨V2, hV2⟩ : ∃ V2, setV V L = V2 := ⟨_, rfl⟩
        have HV2 := hide hV2
        obtain ⟨E, hE⟩ : ∃ E, setE V L = E := ⟨_, rfl⟩
        have HE := hide hE
        clear hrow hci hchi hfi hmm hL hV2 hE
        go_wp2_with fail
        refine wp_region_held_drew (S := (fun W => Below w.heap.size w W)) (by kernel_rfl) ?_ (fun hHeld => ?_)
        · exact HS_z1.out.drew.low
        have HS_d1 := hide HS_z1.out.drew
        refine heldTake (i := 1) (v := ?_) rfl (by kernel_rfl) (by kernel_rfl) (by kernel_rfl) (fun _ _ _ h => h) (Or.inl ⟨by rfl, ?_⟩) (by assumption) ?_
        rotate_left
        · intro w hSw; (try dsimp only at hSw); go_simp <;> (with_reducible rfl)
        try simp only [Act.put, List.setIfInBounds_toArray, List.set_cons_zero, List.set_cons_succ]
        refine heldTake (i := 2) (v := ?_) rfl (by kernel_rfl) (by kernel_rfl) (by kernel_rfl) (fun _ _ _ h => h) (Or.inl ⟨by rfl, ?_⟩) (by assumption) ?_
        rotate_left
        · intro w hSw; (try dsimp only at hSw); go_simp <;> (with_reducible rfl)
        try simp only [Act.put, List.setIfInBounds_toArray, List.set_cons_zero, List.set_cons_succ]
        refine heldTake (i := 3) (v := ?_) rfl (by kernel_rfl) (by kernel_rfl) (by kernel_rfl) (fun _ _ _ h => h) (Or.inl ⟨by rfl, ?_⟩) (by assumption) ?_
        rotate_left
        · intro w hSw; (try dsimp only at hSw); go_simp <;> (with_reducible rfl)
        try simp only [Act.put, List.setIfInBounds_toArray, List.set_cons_zero, List.set_cons_succ]
        refine heldTake (i := 4) (v := .slice Ai ni2 ci) rfl (by kernel_rfl) (by kernel_rfl) (by kernel_rfl) (fun _ _ _ h => h) (Or.inl ⟨by rfl, fun W hW => ?_⟩) (by assumption) ?_
        · dsimp only at hW
          have hc2 := HCI.out W hW
          go_simp <;> rfl
        try simp only [Act.put, List.setIfInBounds_toArray, List.set_cons_zero, List.set_cons_succ]
        refine heldTake (i := 5) (v := ?_) rfl (by kernel_rfl) (by kernel_rfl) (by kernel_rfl) (fun _ _ _ h => h) (Or.inl ⟨by rfl, ?_⟩) (by assumption) ?_
        rotate_left
        · intro w hSw; (try dsimp only at hSw); go_simp <;> (with_reducible rfl)
        try simp only [Act.put, List.setIfInBounds_toArray, List.set_cons_zero, List.set_cons_succ]
        refine heldTake (i := 6) (v := ?_) rfl (by kernel_rfl) (by kernel_rfl) (by kernel_rfl) (fun _ _ _ h => h) (Or.inl ⟨by rfl, ?_⟩) (by assumption) ?_
        rotate_left
        · intro w hSw; (try dsimp only at hSw); go_simp <;> (with_reducible rfl)
        try simp only [Act.put, List.setIfInBounds_toArray, List.set_cons_zero, List.set_cons_succ]
        refine heldTake (i := 7) (v := ?_) rfl (by kernel_rfl) (by kernel_rfl) (by kernel_rfl) (fun _ _ _ h => h) (Or.inl ⟨by rfl, ?_⟩) (by assumption) ?_
        rotate_left
        · intro w hSw; (try dsimp only at hSw); go_simp <;> (with_reducible rfl)
        try simp only [Act.put, List.setIfInBounds_toArray, List.set_cons_zero, List.set_cons_succ]
        refine heldTake (i := 8) (v := .slice Ai ni2 ci) rfl (by kernel_rfl) (by kernel_rfl) (by kernel_rfl) (fun _ _ _ h => h) (Or.inl ⟨by rfl, fun W hW => ?_⟩) (by assumption) ?_
        · dsimp only at hW
          have hc2 := HCI.out W hW
          go_simp <;> rfl
        try simp only [Act.put, List.setIfInBounds_toArray, List.set_cons_zero, List.set_cons_succ]
        refine heldTake (i := 9) (v := ?_) rfl (by kernel_rfl) (by kernel_rfl) (by kernel_rfl) (fun _ _ _ h => h) (Or.inl ⟨by rfl, ?_⟩) (by assumption) ?_
        rotate_left
        · intro w hSw; (try dsimp only at hSw); go_simp <;> (with_reducible rfl)
        try simp only [Act.put, List.setIfInBounds_toArray, List.set_cons_zero, List.set_cons_succ]
        refine heldTake (i := 10) (v := .int .i64 (mm : Int)) rfl (by kernel_rfl) (by kernel_rfl) (by kernel_rfl) (fun _ _ _ h => h) (Or.inl ⟨by rfl, fun W hW => ?_⟩) (by assumption) ?_
        · dsimp only at hW
          go_simp <;> (first | rfl | (rw [hmi]) | (simp [hmi]))
        try simp only [Act.put, List.setIfInBounds_toArray, List.set_cons_zero, List.set_cons_succ]
        refine heldTake (i := 11) (v := .slice Ai mm ci) rfl (by kernel_rfl) (by kernel_rfl) (by kernel_rfl) (fun _ _ _ h => h) (Or.inl ⟨by rfl, fun W hW => run_cutC W _ (.tmp 53) (.tmp 59) rfl Ai ni2 ci mm rfl rfl (by omega)⟩) (by assumption) ?_
        try simp only [Act.put, List.setIfInBounds_toArray, List.set_cons_zero, List.set_cons_succ]
        refine wpAnyH_ready (rs := [0]) (by kernel_rfl) (by simp) ?_
        refine heldCons (i := 0) rfl (fun Kq hKq => ?_) AllReadyH.nil
        refine step_noneC rfl 30 34 rfl 4 z1.drew.heap.size run_noneC (Nat.le_refl _) ?_
        intro v1 y1 ho1 hl1
        have HO1 := hide ho1
        have HL1 := hide hl1
        have HB1 := hide (HS_d1.out.low.trans (hl1.mono HS_d1.out.low.size))
        clear ho1 hl1
        first | (refine hKq.out _ _ HB1.out (fun hHeld => ?_)) | (go_wp2_with fail; refine hKq.out _ _ HB1.out (fun hHeld => ?_))
        clear hKq Kq
        try simp only [Act.put, List.setIfInBounds_toArray, List.set_cons_zero, List.set_cons_succ]
        refine wpAnyH_ready (rs := [12]) (by kernel_rfl) (by simp) ?_
        refine heldCons (i := 12) rfl (fun Kq hKq => ?_) AllReadyH.nil
        refine step_appC rfl (.tmp 49) (.tmp 60) 30 rfl z1.drew.heap.size 34 i0 _ 4 32 Try.underlying30 HI0.out.1 HI0.out.2.1 HI0.out.2.2.1 HI0.out.2.2.2 rfl (by decide) _ 0 [] rfl HO1.out y1.heap.size Ai mm ci (chsL L) rfl (HHD.out y1 HB1.out).rd (chs_one1 L) (by simp only [maxLen]; omega) (by omega) HL1.out.size ?_
        intro v2 y2 ho2 hg2
        rw [Nat.zero_add, List.nil_append] at ho2
        have HL2 := hide (HL1.out.grown hg2 HL1.out.size (fun i hi => (HO1.out.lt i hi).1))
        obtain ⟨A2, c2, hv2, hmc, hcm2⟩ := own_shape ho2
        subst hv2
        have HRD := hide (own_rdW ho2)
        obtain ⟨X, hsx, hxv⟩ := HS_d1.out.rowX HL2.out (Nat.le_refl _) ho2
        have HS_y2 := hide hsx
        have HXV := hide hxv
        have HB2 := hide hsx.low
        clear ho2 hg2 hsx hxv
        first | (refine hKq.out _ _ HB2.out (fun hHeld => ?_)) | (go_wp2_with fail; refine hKq.out _ _ HB2.out (fun hHeld => ?_))
        clear hKq Kq
        try simp only [Act.put, List.setIfInBounds_toArray, List.set_cons_zero, List.set_cons_succ]
        refine heldTake (i := 13) (v := ?_) rfl (by kernel_rfl) (by kernel_rfl) (by kernel_rfl) (fun _ _ _ h => h) (Or.inl ⟨by rfl, ?_⟩) (by assumption) ?_
        rotate_left
        · intro w hSw; (try dsimp only at hSw); go_simp <;> (with_reducible rfl)
        try simp only [Act.put, List.setIfInBounds_toArray, List.set_cons_zero, List.set_cons_succ]
        refine wpAnyH_done (by kernel_rfl) ?_ _
        have HCHI := hide (show ChIn y2 A2 mm c2 L from ⟨HRD.out, (HHD.out w (Below.refl _ _)).fits, by omega, hmc⟩)
        go_upto_block 2 with (first
          | (go_at_call 12; refine (HS_y2.out.set_ 0 rfl HCHI.out).mono ?_; rintro _ z3 ⟨rfl, hsq⟩; rw [HE.out]; rw [HV2.out] at hsq; have HS_z3 : Hid (Sta w z3 [vmT m V2, rvT r V] ([(w.heap.size, 24, whC q)] ++ X)) := hide hsq; clear hsq))
        go_cut [15] (fun _ wx => Hid (Sta w wx [vmT m V2, rvT r V] [(w.heap.size, 24, whC q)]))
        case first =>
          go_wp2_with fail
          go_loopw [15] (fun s15 wr => ∃ (j : Nat) (X : VarsT), j ≤ mm ∧ s15 = .int .i64 (j : Int) ∧ Hid (XV A2 mm X) ∧ Hid (Sta w wr [vmT m V2, rvT r V] ([(w.heap.size, 24, whC q)] ++ X))) (fun s15 _ => mm - (intOf s15).toNat)
          case atStart => exact ⟨0, X, Nat.zero_le _, rfl, HXV, HS_z3⟩
          case round =>
            obtain ⟨j, X3, hj, rfl, HXV3, HS_z4⟩ := hrel
            obtain ⟨z4, rfl⟩ : ∃ z, z = wr := ⟨_, rfl⟩
            by_cases hjm : j < mm
            · have hxv3 := HXV3.out
              rcases hxv3 with ⟨h00, _⟩ | ⟨g, cs, hA2, hX3, hcl⟩
              · omega
              · subst hA2
                subst hX3
                have hjj : (j : Int) < (mm : Int) := by omega
                have hoff : j * 4 < cs.length := by omega
                go_wp2_with (first
                  | ((with_reducible refine at_store 74 ?_); refine wpList_poke rfl 3 (.tmp 74) (.const (.int .i64 (-9))) rfl g (j * 4) 34 _ (HS_z4.out.own.blk 1 rfl) rfl (.int .i64 (-9)) rfl rfl int_oneW (by rw [List.size_toArray]; exact hoff) ?_; intro z5 hb5 hg5 hs5; rw [List.setIfInBounds_toArray] at hb5; have HS_z5 : Hid (Sta w z5 [vmT m V2, rvT r V] ([(w.heap.size, 24, whC q)] ++ [(g, 34, cs.set (j * 4) (.int .i64 (-9)))])) := hide (HS_z4.out.poke 1 rfl hb5 hg5); clear hs5 hb5 hg5))
                have HXV5 := hide (show XV (some ⟨g, 0, none⟩) mm [(g, 34, cs.set (j * 4) (.int .i64 (-9)))] from .inr ⟨g, _, rfl, rfl, by rw [List.length_set]; exact hcl⟩)
                go_roundw
                case rel => exact ⟨j + 1, _, by omega, by go_num, HXV5, HS_z5⟩
                case measure => simp [intOf]; omega
            · have hd : decide ((j : Int) < (mm : Int)) = false := by simp; omega
              go_wp2_with fail
              go_meet
              exact hide (HS_z4.out.cut 1)
        have HS_z6 := hcut
        obtain ⟨z6, hz6⟩ : ∃ z, z = wc := ⟨_, rfl⟩
        subst hz6
        clear hcut HXV HS_z3 HS_y2 HCHI HRD
        go_wp2_with fail
        refine wp_region_held_drew (S := (fun W => Below w.heap.size w W)) (by kernel_rfl) ?_ (fun hHeld => ?_)
        · exact HS_z6.out.drew.low
        have HS_d6 := hide HS_z6.out.drew
        refine heldTake (i := 0) (v := ?_) rfl (by kernel_rfl) (by kernel_rfl) (by kernel_rfl) (fun _ _ _ h => h) (Or.inl ⟨by rfl, ?_⟩) (by assumption) ?_
        rotate_left
        · intro w hSw; (try dsimp only at hSw); go_simp <;> (with_reducible rfl)
        try simp only [Act.put, List.setIfInBounds_toArray, List.set_cons_zero, List.set_cons_succ]
        refine heldTake (i := 1) (v := ?_) rfl (by kernel_rfl) (by kernel_rfl) (by kernel_rfl) (fun _ _ _ h => h) (Or.inl ⟨by rfl, ?_⟩) (by assumption) ?_
        rotate_left
        · intro w hSw; (try dsimp only at hSw); go_simp <;> (with_reducible rfl)
        try simp only [Act.put, List.setIfInBounds_toArray, List.set_cons_zero, List.set_cons_succ]
        refine heldTake (i := 2) (v := ?_) rfl (by kernel_rfl) (by kernel_rfl) (by kernel_rfl) (fun _ _ _ h => h) (Or.inl ⟨by rfl, ?_⟩) (by assumption) ?_
        rotate_left
        · intro w hSw; (try dsimp only at hSw); go_simp <;> (with_reducible rfl)
        try simp only [Act.put, List.setIfInBounds_toArray, List.set_cons_zero, List.set_cons_succ]
        refine heldTake (i := 3) (v := ?_) rfl (by kernel_rfl) (by kernel_rfl) (by kernel_rfl) (fun _ _ _ h => h) (Or.inl ⟨by rfl, ?_⟩) (by assumption) ?_
        rotate_left
        · intro w hSw; (try dsimp only at hSw); go_simp <;> (with_reducible rfl)
        try simp only [Act.put, List.setIfInBounds_toArray, List.set_cons_zero, List.set_cons_succ]
        refine heldTake (i := 4) (v := ?_) rfl (by kernel_rfl) (by kernel_rfl) (by kernel_rfl) (fun _ _ _ h => h) (Or.inl ⟨by rfl, ?_⟩) (by assumption) ?_
        rotate_left
        · intro w hSw; (try dsimp only at hSw); go_simp <;> (with_reducible rfl)
        try simp only [Act.put, List.setIfInBounds_toArray, List.set_cons_zero, List.set_cons_succ]
        refine heldTake (i := 5) (v := .slice Ai ni2 ci) rfl (by kernel_rfl) (by kernel_rfl) (by kernel_rfl) (fun _ _ _ h => h) (Or.inl ⟨by rfl, fun W hW => ?_⟩) (by assumption) ?_
        · dsimp only at hW
          have hc2 := HCI.out W hW
          go_simp <;> rfl
        try simp only [Act.put, List.setIfInBounds_toArray, List.set_cons_zero, List.set_cons_succ]
        refine heldTake (i := 6) (v := ?_) rfl (by kernel_rfl) (by kernel_rfl) (by kernel_rfl) (fun _ _ _ h => h) (Or.inl ⟨by rfl, ?_⟩) (by assumption) ?_
        rotate_left
        · intro w hSw; (try dsimp only at hSw); go_simp <;> (with_reducible rfl)
        try simp only [Act.put, List.setIfInBounds_toArray, List.set_cons_zero, List.set_cons_succ]
        refine heldTake (i := 7) (v := ?_) rfl (by kernel_rfl) (by kernel_rfl) (by kernel_rfl) (fun _ _ _ h => h) (Or.inl ⟨by rfl, ?_⟩) (by assumption) ?_
        rotate_left
        · intro w hSw; (try dsimp only at hSw); go_simp <;> (with_reducible rfl)
        try simp only [Act.put, List.setIfInBounds_toArray, List.set_cons_zero, List.set_cons_succ]
        refine heldTake (i := 8) (v := ?_) rfl (by kernel_rfl) (by kernel_rfl) (by kernel_rfl) (fun _ _ _ h => h) (Or.inl ⟨by rfl, ?_⟩) (by assumption) ?_
        rotate_left
        · intro w hSw; (try dsimp only at hSw); go_simp <;> (with_reducible rfl)
        try simp only [Act.put, List.setIfInBounds_toArray, List.set_cons_zero, List.set_cons_succ]
        refine heldTake (i := 9) (v := .slice Ai ni2 ci) rfl (by kernel_rfl) (by kernel_rfl) (by kernel_rfl) (fun _ _ _ h => h) (Or.inl ⟨by rfl, fun W hW => ?_⟩) (by assumption) ?_
        · dsimp only at hW
          have hc2 := HCI.out W hW
          go_simp <;> rfl
        try simp only [Act.put, List.setIfInBounds_toArray, List.set_cons_zero, List.set_cons_succ]
        refine heldTake (i := 10) (v := ?_) rfl (by kernel_rfl) (by kernel_rfl) (by kernel_rfl) (fun _ _ _ h => h) (Or.inl ⟨by rfl, ?_⟩) (by assumption) ?_
        rotate_left
        · intro w hSw; (try dsimp only at hSw); go_simp <;> (with_reducible rfl)
        try simp only [Act.put, List.setIfInBounds_toArray, List.set_cons_zero, List.set_cons_succ]
        refine heldTake (i := 11) (v := .int .i64 (mm : Int)) rfl (by kernel_rfl) (by kernel_rfl) (by kernel_rfl) (fun _ _ _ h => h) (Or.inl ⟨by rfl, fun W hW => ?_⟩) (by assumption) ?_
        · dsimp only at hW
          go_simp <;> (first | rfl | (rw [hmi]) | (simp [hmi]))
        try simp only [Act.put, List.setIfInBounds_toArray, List.set_cons_zero, List.set_cons_succ]
        refine heldTake (i := 12) (v := .slice Ai mm ci) rfl (by kernel_rfl) (by kernel_rfl) (by kernel_rfl) (fun _ _ _ h => h) (Or.inl ⟨by rfl, fun W hW => run_cutC W _ (.tmp 80) (.tmp 86) rfl Ai ni2 ci mm rfl rfl (by omega)⟩) (by assumption) ?_
        try simp only [Act.put, List.setIfInBounds_toArray, List.set_cons_zero, List.set_cons_succ]
        refine wpAnyH_ready (rs := [13]) (by kernel_rfl) (by simp) ?_
        refine heldCons (i := 13) rfl (fun Kq hKq => ?_) AllReadyH.nil
        go_simp
        go_at_call 13
        refine (HS_d6.out.rset 1 rfl (HHD.out _ HS_d6.out.low)).mono ?_
        rintro _ z7 ⟨rfl, hsq⟩
        rw [HE.out]
        rw [HV2.out] at hsq
        have HS_z7 : Hid (Sta w z7 [vmT m V2, rvT r V2] [(w.heap.size, 24, whC q)]) := hide hsq
        clear hsq
        first | (refine hKq.out _ _ HS_z7.out.low (fun hHeld => ?_)) | (go_wp2_with fail; refine hKq.out _ _ HS_z7.out.low (fun hHeld => ?_))
        clear hKq Kq
        try simp only [Act.put, List.setIfInBounds_toArray, List.set_cons_zero, List.set_cons_succ]
        refine heldTake (i := 14) (v := .bool false) rfl (by kernel_rfl) (by kernel_rfl) (by kernel_rfl) (fun _ _ _ h => h) (Or.inl ⟨by rfl, fun W hW => ?_⟩) (by assumption) ?_
        · dsimp only at hW
          go_simp <;> (first | rfl | simp)
        try simp only [Act.put, List.setIfInBounds_toArray, List.set_cons_zero, List.set_cons_succ]
        refine wpAnyH_done (by kernel_rfl) ?_ _
        have HOK2 := hide (HS_z7.out.okV 0 rfl)
        obtain ⟨N, hN⟩ : ∃ N, V2.length = N := ⟨_, rfl⟩
        have h1 := HOK2.out.one
        have h96 := HOK2.out.few
        rw [hN] at h1 h96
        have HN := hide hN
        clear hN hmi hm1 hm2
        go_upto_block 4 with (first
          | (go_at_call 14; refine (HS_z7.out.all_ 0 rfl).mono ?_; rintro _ z8 ⟨g, cg, cs, rfl, hcs, hsq⟩; have HCS := hide hcs; have HS_z8 : Hid (Sta w z8 [vmT m V2, rvT r V2] [(w.heap.size, 24, whC q), (g, 24, cs)]) := hide hsq; obtain ⟨p, cp, hcr, hrr⟩ := hsq.rcell 1 rfl; rw [HN.out] at hcr hrr ⊢; have HRR := hide hrr; clear hcs hsq hrr)
          | (go_at_call 15; refine (wsame_any (V := V2) (L := V2) (by have h8 := HS_z8.out.reads 1 rfl HCS.out; rw [HN.out] at h8; exact h8) HRR.out (by omega) (by omega)).mono ?_; rintro _ z9 ⟨rfl, hl9⟩; rw [show decide (V2 = V2) = true from decide_eq_true rfl]; have HS_z9 := hide (HS_z8.out.later hl9); clear hl9))
        have HCL := hide (show N * 3 ≤ cs.length by have h8 := congrArg List.length HCS.out; rw [List.length_take, whsL_len, HN.out] at h8; omega)
        go_cut [18] (fun _ wx => Hid (Sta w wx [vmT m V2, rvT r V2] [(w.heap.size, 24, whC q)]))
        case first =>
          go_wp2_with fail
          go_loopw [18] (fun s18 wr => ∃ (j : Nat) (cs : List Value), j ≤ N ∧ s18 = .int .i64 (j : Int) ∧ Hid (N * 3 ≤ cs.length) ∧ Hid (Sta w wr [vmT m V2, rvT r V2] [(w.heap.size, 24, whC q), (g, 24, cs)])) (fun s18 _ => N - (intOf s18).toNat)
          case atStart => exact ⟨0, cs, Nat.zero_le _, rfl, HCL, HS_z9⟩
          case round =>
            obtain ⟨j, cs3, hj, rfl, HC3, HS_y4⟩ := hrel
            obtain ⟨y4, rfl⟩ : ∃ z, z = wr := ⟨_, rfl⟩
            by_cases hjm : j < N
            · have hjj : (j : Int) < (N : Int) := by omega
              have hoff : j * 3 + 2 < cs3.length := by have := HC3.out; omega
              go_wp2_with (first
                | ((with_reducible refine at_store 107 ?_); refine wpList_poke rfl 3 (.tmp 107) (.const (.int .i64 99)) rfl g (j * 3 + 2) 24 _ (HS_y4.out.own.blk 1 rfl) rfl (.int .i64 99) rfl rfl int_oneW (by rw [List.size_toArray]; exact hoff) ?_; intro y5 hb5 hg5 hs5; rw [List.setIfInBounds_toArray] at hb5; have HS_y5 : Hid (Sta w y5 [vmT m V2, rvT r V2] [(w.heap.size, 24, whC q), (g, 24, cs3.set (j * 3 + 2) (.int .i64 99))]) := hide (HS_y4.out.poke 1 rfl hb5 hg5); clear hs5 hb5 hg5))
              have HC5 := hide (show N * 3 ≤ (cs3.set (j * 3 + 2) (.int .i64 99)).length by rw [List.length_set]; exact HC3.out)
              go_roundw
              case rel => exact ⟨j + 1, _, by omega, by go_num, HC5, HS_y5⟩
              case measure => simp [intOf]; omega
            · have hd : decide ((j : Int) < (N : Int)) = false := by simp; omega
              go_wp2_with fail
              go_meet
              exact hide (HS_y4.out.cut 1)
        have HS_y6 := hcut
        obtain ⟨y6, hy6⟩ : ∃ z, z = wc := ⟨_, rfl⟩
        subst hy6
        clear hcut HCL HS_z8 HS_z9 hcr
        obtain ⟨xa, hxa⟩ : ∃ x, atW V2 bk = x := ⟨_, rfl⟩
        obtain ⟨ea, hea⟩ : ∃ x, atE V2 bk = x := ⟨_, rfl⟩
        obtain ⟨hh, hhh⟩ : ∃ x, (((hold V2 q).getD 0 : Nat) : Int) = x := ⟨_, rfl⟩
        obtain ⟨hi, hhi⟩ : ∃ x, (hold V2 q).isSome = x := ⟨_, rfl⟩
        have HXA := hide hxa
        have HEA := hide hea
        have HHH := hide hhh
        have HHI := hide hhi
        clear hxa hea hhh hhi
        go_upto_region 27 with (first
          | (go_at_call 16; refine (HS_y6.out.at_ 0 rfl bk).mono ?_; rintro _ y61 ⟨rfl, hsq⟩; rw [HXA.out, HEA.out]; have HS_y61 : Hid (Sta w y61 [vmT m V2, rvT r V2] [(w.heap.size, 24, whC q)]) := hide hsq; clear hsq)
          | ((with_reducible refine at_slot 19 ?_); refine wpList_alloc_blk rfl 24 rfl _ (wh_zero _) ?_; intro y62 hbq hl1 hs1; clear hs1)
          | ((with_reducible refine at_store 19 ?_); refine wpList_store_all rfl 24 (.tmp 19) (.tmp 112) rfl y61.heap.size 24 _ hbq rfl (whC xa) rfl (wh_info _) rfl (wh_one _) ?_; intro y63 hbz hg hs; have HS_y63 : Hid (Sta w y63 [vmT m V2, rvT r V2] [(w.heap.size, 24, whC q), (y61.heap.size, 24, whC xa)]) := hide (HS_y61.out.new hl1 hg hbz); clear hs hbq hl1 hg hbz)
          | (go_at_call 17; refine (HS_y63.out.rat 1 rfl bk).mono ?_; rintro _ y64 ⟨rfl, hsq⟩; rw [HXA.out, HEA.out]; have HS_y64 : Hid (Sta w y64 [vmT m V2, rvT r V2] [(w.heap.size, 24, whC q), (y61.heap.size, 24, whC xa)]) := hide hsq; clear hsq)
          | ((with_reducible refine at_slot 21 ?_); refine wpList_alloc_blk rfl 24 rfl _ (wh_zero _) ?_; intro y65 hbq hl1 hs1; clear hs1)
          | ((with_reducible refine at_store 21 ?_); refine wpList_store_all rfl 24 (.tmp 21) (.tmp 118) rfl y64.heap.size 24 _ hbq rfl (whC xa) rfl (wh_info _) rfl (wh_one _) ?_; intro y66 hbz hg hs; have HS_y66 : Hid (Sta w y66 [vmT m V2, rvT r V2] [(w.heap.size, 24, whC q), (y61.heap.size, 24, whC xa), (y64.heap.size, 24, whC xa)]) := hide (HS_y64.out.new hl1 hg hbz); clear hs hbq hl1 hg hbz)
          | ((with_reducible refine at_slot 122 ?_); refine when_loadW rfl (.tmp 6) rfl ⟨w.heap.size, 0, none⟩ (q) (blk_at (cs := whC (q)) (HS_y66.out.own.blk 0 rfl)) rfl ?_)
          | (go_at_call 18; refine (HS_y66.out.holder 0 rfl q HQF.out).mono ?_; rintro _ y67 ⟨rfl, hsq⟩; rw [HHH.out, HHI.out]; have HS_y67 : Hid (Sta w y67 [vmT m V2, rvT r V2] [(w.heap.size, 24, whC q), (y61.heap.size, 24, whC xa), (y64.heap.size, 24, whC xa)]) := hide hsq; clear hsq)
          | ((with_reducible refine at_slot 128 ?_); refine when_loadW rfl (.tmp 6) rfl ⟨w.heap.size, 0, none⟩ (q) (blk_at (cs := whC (q)) (HS_y67.out.own.blk 0 rfl)) rfl ?_)
          | (go_at_call 19; refine (HS_y67.out.rholder 1 rfl q).mono ?_; rintro _ y68 ⟨rfl, hsq⟩; rw [HHH.out, HHI.out]; have HS_y68 : Hid (Sta w y68 [vmT m V2, rvT r V2] [(w.heap.size, 24, whC q), (y61.heap.size, 24, whC xa), (y64.heap.size, 24, whC xa)]) := hide hsq; clear hsq))
        refine wp_region_held_drew (S := (fun W => OwnV W w.heap.size [(w.heap.size, 24, whC q), (y61.heap.size, 24, whC xa), (y64.heap.size, 24, whC xa)])) (by kernel_rfl) ?_ (fun hHeld => ?_)
        · exact HS_y68.out.drew.own
        have HS_e1 := hide HS_y68.out.drew
        refine heldTake (i := 0) (v := ?_) rfl (by kernel_rfl) (by kernel_rfl) (by kernel_rfl) (fun _ _ _ h => h) (Or.inl ⟨by rfl, ?_⟩) (by assumption) ?_
        rotate_left
        · intro w hSw; (try dsimp only at hSw); go_simp <;> (with_reducible rfl)
        try simp only [Act.put, List.setIfInBounds_toArray, List.set_cons_zero, List.set_cons_succ]
        refine heldTake (i := 1) (v := ?_) rfl (by kernel_rfl) (by kernel_rfl) (by kernel_rfl) (fun _ _ _ h => h) (Or.inl ⟨by rfl, ?_⟩) (by assumption) ?_
        rotate_left
        · intro w hSw; (try dsimp only at hSw); go_simp <;> (with_reducible rfl)
        try simp only [Act.put, List.setIfInBounds_toArray, List.set_cons_zero, List.set_cons_succ]
        refine heldTake (i := 2) (v := .int .i64 q.g) rfl (by kernel_rfl) (by kernel_rfl) (by kernel_rfl) (fun _ _ _ h => h) (Or.inl ⟨by rfl, fun W hW => ?_⟩) (by assumption) ?_
        · have hc : W.cell? ⟨w.heap.size, 1, none⟩ = some (.int .i64 q.g) := (hW.blk 0 rfl).cell 1
          go_simp <;> rfl
        try simp only [Act.put, List.setIfInBounds_toArray, List.set_cons_zero, List.set_cons_succ]
        refine heldTake (i := 4) (v := ?_) rfl (by kernel_rfl) (by kernel_rfl) (by kernel_rfl) (fun _ _ _ h => h) (Or.inl ⟨by rfl, ?_⟩) (by assumption) ?_
        rotate_left
        · intro w hSw; (try dsimp only at hSw); go_simp <;> (with_reducible rfl)
        try simp only [Act.put, List.setIfInBounds_toArray, List.set_cons_zero, List.set_cons_succ]
        refine heldTake (i := 5) (v := ?_) rfl (by kernel_rfl) (by kernel_rfl) (by kernel_rfl) (fun _ _ _ h => h) (Or.inl ⟨by rfl, ?_⟩) (by assumption) ?_
        rotate_left
        · intro w hSw; (try dsimp only at hSw); go_simp <;> (with_reducible rfl)
        try simp only [Act.put, List.setIfInBounds_toArray, List.set_cons_zero, List.set_cons_succ]
        refine heldTake (i := 6) (v := .int .i64 q.g) rfl (by kernel_rfl) (by kernel_rfl) (by kernel_rfl) (fun _ _ _ h => h) (Or.inl ⟨by rfl, fun W hW => ?_⟩) (by assumption) ?_
        · have hc : W.cell? ⟨w.heap.size, 1, none⟩ = some (.int .i64 q.g) := (hW.blk 0 rfl).cell 1
          go_simp <;> rfl
        try simp only [Act.put, List.setIfInBounds_toArray, List.set_cons_zero, List.set_cons_succ]
        refine wpAnyH_ready (rs := [3]) (by kernel_rfl) (by simp) ?_
        refine heldCons (i := 3) rfl (fun Kq hKq => ?_) AllReadyH.nil
        go_simp
        go_at_call 21
        refine (HS_e1.out.in_ 0 rfl q.g).mono ?_
        rintro _ e2 ⟨A5, c5, rfl, hr5, hsq, hl5⟩
        have HR5 := hide hr5
        have HS_e2 : Hid (Sta w e2 [vmT m V2, rvT r V2] [(w.heap.size, 24, whC q), (y61.heap.size, 24, whC xa), (y64.heap.size, 24, whC xa)]) := hide hsq
        clear hr5 hsq hl5
        first | (refine hKq.out _ _ HS_e2.out.own (fun hHeld => ?_)) | (go_wp2_with fail; refine hKq.out _ _ HS_e2.out.own (fun hHeld => ?_))
        clear hKq Kq
        try simp only [Act.put, List.setIfInBounds_toArray, List.set_cons_zero, List.set_cons_succ]
        refine wpAnyH_ready (rs := [7]) (by kernel_rfl) (by simp) ?_
        refine heldCons (i := 7) rfl (fun Kq hKq => ?_) AllReadyH.nil
        go_simp
        go_at_call 22
        refine (HS_e2.out.rin 1 rfl q.g).mono ?_
        rintro _ e3 ⟨A6, c6, rfl, hr6, hsq, hl6⟩
        have HR6 := hide hr6
        have HR7 := hide (HR5.out.below hl6)
        have HS_e3 : Hid (Sta w e3 [vmT m V2, rvT r V2] [(w.heap.size, 24, whC q), (y61.heap.size, 24, whC xa), (y64.heap.size, 24, whC xa)]) := hide hsq
        clear hr6 hsq hl6
        first | (refine hKq.out _ _ HS_e3.out.own (fun hHeld => ?_)) | (go_wp2_with fail; refine hKq.out _ _ HS_e3.out.own (fun hHeld => ?_))
        clear hKq Kq
        try simp only [Act.put, List.setIfInBounds_toArray, List.set_cons_zero, List.set_cons_succ]
        refine wpAnyH_ready (rs := [8]) (by kernel_rfl) (by simp) ?_
        refine heldCons (i := 8) rfl (fun Kq hKq => ?_) AllReadyH.nil
        go_simp
        go_at_call 20
        refine (same_any A5 A6 _ c5 _ c6 _ _ _ _ e3 HR7.out HR6.out (by have := inZ_len V2 q.g V2.length; have := HOK2.out.few; omega) (by have := inZ_len V2 q.g V2.length; have := HOK2.out.few; omega)).mono ?_
        rintro _ e4 ⟨rfl, nq, rfl⟩
        rw [show decide (inZ V2 q.g V2.length = inZ V2 q.g V2.length) = true from decide_eq_true rfl]
        have HS_e4 : Hid (Sta w (e3.drewN nq) [vmT m V2, rvT r V2] [(w.heap.size, 24, whC q), (y61.heap.size, 24, whC xa), (y64.heap.size, 24, whC xa)]) := hide (HS_e3.out.later ⟨rfl, rfl, rfl, Nat.le_refl _, fun _ _ => rfl⟩)
        first | (refine hKq.out _ _ HS_e4.out.own (fun hHeld => ?_)) | (go_wp2_with fail; refine hKq.out _ _ HS_e4.out.own (fun hHeld => ?_))
        clear hKq Kq
        try simp only [Act.put, List.setIfInBounds_toArray, List.set_cons_zero, List.set_cons_succ]
        refine heldTake (i := 9) (v := ?_) rfl (by kernel_rfl) (by kernel_rfl) (by kernel_rfl) (fun _ _ _ h => h) (Or.inl ⟨by rfl, ?_⟩) (by assumption) ?_
        rotate_left
        · intro w hSw; (try dsimp only at hSw); go_simp <;> (with_reducible rfl)
        try simp only [Act.put, List.setIfInBounds_toArray, List.set_cons_zero, List.set_cons_succ]
        refine wpAnyH_done (by kernel_rfl) ?_ _
        obtain ⟨e5, he5⟩ : ∃ e, e = e3.drewN nq := ⟨_, rfl⟩
        rw [← he5] at HS_e4 ⊢
        clear he5
        obtain ⟨p5, cp5, hcr5, _⟩ := HS_e4.out.rcell 1 rfl
        rw [HN.out] at hcr5
        have HCR5 := hide hcr5
        have HS_e6 := hide HS_e4.out.drew
        clear hcr5
        go_wp2_with fail
        refine wp_region_held_drew (S := (fun W => W = e5.drew)) (by kernel_rfl) ?_ (fun hHeld => ?_)
        · exact rfl
        refine heldTake (i := 0) (v := ?_) rfl (by kernel_rfl) (by kernel_rfl) (by kernel_rfl) (fun _ _ _ h => h) (Or.inl ⟨by rfl, ?_⟩) (by assumption) ?_
        rotate_left
        · intro w hSw; (try dsimp only at hSw); go_simp <;> (with_reducible rfl)
        try simp only [Act.put, List.setIfInBounds_toArray, List.set_cons_zero, List.set_cons_succ]
        refine heldTake (i := 1) (v := ?_) rfl (by kernel_rfl) (by kernel_rfl) (by kernel_rfl) (fun _ _ _ h => h) (Or.inl ⟨by rfl, ?_⟩) (by assumption) ?_
        rotate_left
        · intro w hSw; (try dsimp only at hSw); go_simp <;> (with_reducible rfl)
        try simp only [Act.put, List.setIfInBounds_toArray, List.set_cons_zero, List.set_cons_succ]
        refine heldTake (i := 2) (v := ?_) rfl (by kernel_rfl) (by kernel_rfl) (by kernel_rfl) (fun _ _ _ h => h) (Or.inl ⟨by rfl, ?_⟩) (by assumption) ?_
        rotate_left
        · intro w hSw; (try dsimp only at hSw); go_simp <;> (with_reducible rfl)
        try simp only [Act.put, List.setIfInBounds_toArray, List.set_cons_zero, List.set_cons_succ]
        refine heldTake (i := 3) (v := .agg (whC xa).toArray) rfl (by kernel_rfl) (by kernel_rfl) (by kernel_rfl) (fun _ _ _ h => h) (Or.inl ⟨by rfl, fun W hW => ?_⟩) (by assumption) ?_
        · dsimp only at hW
          subst hW
          exact run_load_wh _ _ (.tmp 19) rfl ⟨y61.heap.size, 0, none⟩ xa (blk_at (w := e5.drew) (cs := whC xa) (HS_e6.out.own.blk 1 rfl)) rfl
        try simp only [Act.put, List.setIfInBounds_toArray, List.set_cons_zero, List.set_cons_succ]
        refine heldTake (i := 4) (v := .agg (whC xa).toArray) rfl (by kernel_rfl) (by kernel_rfl) (by kernel_rfl) (fun _ _ _ h => h) (Or.inl ⟨by rfl, fun W hW => ?_⟩) (by assumption) ?_
        · dsimp only at hW
          subst hW
          exact run_load_wh _ _ (.tmp 21) rfl ⟨y64.heap.size, 0, none⟩ xa (blk_at (w := e5.drew) (cs := whC xa) (HS_e6.out.own.blk 2 rfl)) rfl
        try simp only [Act.put, List.setIfInBounds_toArray, List.set_cons_zero, List.set_cons_succ]
        refine heldTake (i := 5) (v := .bool false) rfl (by kernel_rfl) (by kernel_rfl) (by kernel_rfl) (fun _ _ _ h => h) (Or.inl ⟨by rfl, fun W hW => ?_⟩) (by assumption) ?_
        · dsimp only at hW
          subst hW
          exact run_neW _ _ (.tmp 144) (.tmp 145) _ rfl xa xa rfl rfl false (by simp)
        try simp only [Act.put, List.setIfInBounds_toArray, List.set_cons_zero, List.set_cons_succ]
        refine heldTake (i := 6) (v := ?_) rfl (by kernel_rfl) (by kernel_rfl) (by kernel_rfl) (fun _ _ _ h => h) (Or.inl ⟨by rfl, ?_⟩) (by assumption) ?_
        rotate_left
        · intro w hSw; (try dsimp only at hSw); go_simp <;> (with_reducible rfl)
        try simp only [Act.put, List.setIfInBounds_toArray, List.set_cons_zero, List.set_cons_succ]
        refine heldTake (i := 7) (v := ?_) rfl (by kernel_rfl) (by kernel_rfl) (by kernel_rfl) (fun _ _ _ h => h) (Or.inl ⟨by rfl, ?_⟩) (by assumption) ?_
        rotate_left
        · intro w hSw; (try dsimp only at hSw); go_simp <;> (with_reducible rfl)
        try simp only [Act.put, List.setIfInBounds_toArray, List.set_cons_zero, List.set_cons_succ]
        refine heldTake (i := 8) (v := ?_) rfl (by kernel_rfl) (by kernel_rfl) (by kernel_rfl) (fun _ _ _ h => h) (Or.inl ⟨by rfl, ?_⟩) (by assumption) ?_
        rotate_left
        · intro w hSw; (try dsimp only at hSw); go_simp <;> (with_reducible rfl)
        try simp only [Act.put, List.setIfInBounds_toArray, List.set_cons_zero, List.set_cons_succ]
        refine heldTake (i := 9) (v := ?_) rfl (by kernel_rfl) (by kernel_rfl) (by kernel_rfl) (fun _ _ _ h => h) (Or.inl ⟨by rfl, ?_⟩) (by assumption) ?_
        rotate_left
        · intro w hSw; (try dsimp only at hSw); go_simp <;> (with_reducible rfl)
        try simp only [Act.put, List.setIfInBounds_toArray, List.set_cons_zero, List.set_cons_succ]
        refine heldTake (i := 10) (v := .bool false) rfl (by kernel_rfl) (by kernel_rfl) (by kernel_rfl) (fun _ _ _ h => h) (Or.inl ⟨by rfl, fun W hW => ?_⟩) (by assumption) ?_
        · dsimp only at hW
          subst hW
          go_simp <;> (first | rfl | simp)
        try simp only [Act.put, List.setIfInBounds_toArray, List.set_cons_zero, List.set_cons_succ]
        refine heldTake (i := 11) (v := ?_) rfl (by kernel_rfl) (by kernel_rfl) (by kernel_rfl) (fun _ _ _ h => h) (Or.inl ⟨by rfl, ?_⟩) (by assumption) ?_
        rotate_left
        · intro w hSw; (try dsimp only at hSw); go_simp <;> (with_reducible rfl)
        try simp only [Act.put, List.setIfInBounds_toArray, List.set_cons_zero, List.set_cons_succ]
        refine heldTake (i := 12) (v := ?_) rfl (by kernel_rfl) (by kernel_rfl) (by kernel_rfl) (fun _ _ _ h => h) (Or.inl ⟨by rfl, ?_⟩) (by assumption) ?_
        rotate_left
        · intro w hSw; (try dsimp only at hSw); go_simp <;> (with_reducible rfl)
        try simp only [Act.put, List.setIfInBounds_toArray, List.set_cons_zero, List.set_cons_succ]
        refine heldTake (i := 13) (v := ?_) rfl (by kernel_rfl) (by kernel_rfl) (by kernel_rfl) (fun _ _ _ h => h) (Or.inl ⟨by rfl, ?_⟩) (by assumption) ?_
        rotate_left
        · intro w hSw; (try dsimp only at hSw); go_simp <;> (with_reducible rfl)
        try simp only [Act.put, List.setIfInBounds_toArray, List.set_cons_zero, List.set_cons_succ]
        refine heldTake (i := 14) (v := ?_) rfl (by kernel_rfl) (by kernel_rfl) (by kernel_rfl) (fun _ _ _ h => h) (Or.inl ⟨by rfl, ?_⟩) (by assumption) ?_
        rotate_left
        · intro w hSw; (try dsimp only at hSw); go_simp <;> (with_reducible rfl)
        try simp only [Act.put, List.setIfInBounds_toArray, List.set_cons_zero, List.set_cons_succ]
        refine heldTake (i := 15) (v := .bool false) rfl (by kernel_rfl) (by kernel_rfl) (by kernel_rfl) (fun _ _ _ h => h) (Or.inl ⟨by rfl, fun W hW => ?_⟩) (by assumption) ?_
        · dsimp only at hW
          subst hW
          go_simp <;> (first | rfl | simp)
        try simp only [Act.put, List.setIfInBounds_toArray, List.set_cons_zero, List.set_cons_succ]
        refine heldTake (i := 16) (v := ?_) rfl (by kernel_rfl) (by kernel_rfl) (by kernel_rfl) (fun _ _ _ h => h) (Or.inl ⟨by rfl, ?_⟩) (by assumption) ?_
        rotate_left
        · intro w hSw; (try dsimp only at hSw); go_simp <;> (with_reducible rfl)
        try simp only [Act.put, List.setIfInBounds_toArray, List.set_cons_zero, List.set_cons_succ]
        refine heldTake (i := 17) (v := ?_) rfl (by kernel_rfl) (by kernel_rfl) (by kernel_rfl) (fun _ _ _ h => h) (Or.inl ⟨by rfl, ?_⟩) (by assumption) ?_
        rotate_left
        · intro w hSw; (try dsimp only at hSw); go_simp <;> (with_reducible rfl)
        try simp only [Act.put, List.setIfInBounds_toArray, List.set_cons_zero, List.set_cons_succ]
        refine heldTake (i := 18) (v := ?_) rfl (by kernel_rfl) (by kernel_rfl) (by kernel_rfl) (fun _ _ _ h => h) (Or.inl ⟨by rfl, ?_⟩) (by assumption) ?_
        rotate_left
        · intro w hSw; (try dsimp only at hSw); go_simp <;> (with_reducible rfl)
        try simp only [Act.put, List.setIfInBounds_toArray, List.set_cons_zero, List.set_cons_succ]
        refine heldTake (i := 19) (v := ?_) rfl (by kernel_rfl) (by kernel_rfl) (by kernel_rfl) (fun _ _ _ h => h) (Or.inl ⟨by rfl, ?_⟩) (by assumption) ?_
        rotate_left
        · intro w hSw; (try dsimp only at hSw); go_simp <;> (with_reducible rfl)
        try simp only [Act.put, List.setIfInBounds_toArray, List.set_cons_zero, List.set_cons_succ]
        refine heldTake (i := 20) (v := .bool false) rfl (by kernel_rfl) (by kernel_rfl) (by kernel_rfl) (fun _ _ _ h => h) (Or.inl ⟨by rfl, fun W hW => ?_⟩) (by assumption) ?_
        · dsimp only at hW
          subst hW
          go_simp <;> (first | rfl | simp | (cases hi <;> rfl))
        try simp only [Act.put, List.setIfInBounds_toArray, List.set_cons_zero, List.set_cons_succ]
        refine heldTake (i := 21) (v := ?_) rfl (by kernel_rfl) (by kernel_rfl) (by kernel_rfl) (fun _ _ _ h => h) (Or.inl ⟨by rfl, ?_⟩) (by assumption) ?_
        rotate_left
        · intro w hSw; (try dsimp only at hSw); go_simp <;> (with_reducible rfl)
        try simp only [Act.put, List.setIfInBounds_toArray, List.set_cons_zero, List.set_cons_succ]
        refine heldTake (i := 22) (v := ?_) rfl (by kernel_rfl) (by kernel_rfl) (by kernel_rfl) (fun _ _ _ h => h) (Or.inl ⟨by rfl, ?_⟩) (by assumption) ?_
        rotate_left
        · intro w hSw; (try dsimp only at hSw); go_simp <;> (with_reducible rfl)
        try simp only [Act.put, List.setIfInBounds_toArray, List.set_cons_zero, List.set_cons_succ]
        refine heldTake (i := 23) (v := ?_) rfl (by kernel_rfl) (by kernel_rfl) (by kernel_rfl) (fun _ _ _ h => h) (Or.inl ⟨by rfl, ?_⟩) (by assumption) ?_
        rotate_left
        · intro w hSw; (try dsimp only at hSw); go_simp <;> (with_reducible rfl)
        try simp only [Act.put, List.setIfInBounds_toArray, List.set_cons_zero, List.set_cons_succ]
        refine heldTake (i := 24) (v := .bool false) rfl (by kernel_rfl) (by kernel_rfl) (by kernel_rfl) (fun _ _ _ h => h) (Or.inl ⟨by rfl, fun W hW => ?_⟩) (by assumption) ?_
        · dsimp only at hW
          subst hW
          go_simp <;> (first | rfl | simp)
        try simp only [Act.put, List.setIfInBounds_toArray, List.set_cons_zero, List.set_cons_succ]
        refine heldTake (i := 25) (v := ?_) rfl (by kernel_rfl) (by kernel_rfl) (by kernel_rfl) (fun _ _ _ h => h) (Or.inl ⟨by rfl, ?_⟩) (by assumption) ?_
        rotate_left
        · intro w hSw; (try dsimp only at hSw); go_simp <;> (with_reducible rfl)
        try simp only [Act.put, List.setIfInBounds_toArray, List.set_cons_zero, List.set_cons_succ]
        refine heldTake (i := 26) (v := ?_) rfl (by kernel_rfl) (by kernel_rfl) (by kernel_rfl) (fun _ _ _ h => h) (Or.inl ⟨by rfl, ?_⟩) (by assumption) ?_
        rotate_left
        · intro w hSw; (try dsimp only at hSw); go_simp <;> (with_reducible rfl)
        try simp only [Act.put, List.setIfInBounds_toArray, List.set_cons_zero, List.set_cons_succ]
        refine heldTake (i := 27) (v := ?_) rfl (by kernel_rfl) (by kernel_rfl) (by kernel_rfl) (fun _ _ _ h => h) (Or.inl ⟨by rfl, ?_⟩) (by assumption) ?_
        rotate_left
        · intro w hSw; (try dsimp only at hSw); go_simp <;> (with_reducible rfl)
        try simp only [Act.put, List.setIfInBounds_toArray, List.set_cons_zero, List.set_cons_succ]
        refine heldTake (i := 29) (v := ?_) rfl (by kernel_rfl) (by kernel_rfl) (by kernel_rfl) (fun _ _ _ h => h) (Or.inl ⟨by rfl, ?_⟩) (by assumption) ?_
        rotate_left
        · intro w hSw; (try dsimp only at hSw); go_simp <;> (with_reducible rfl)
        try simp only [Act.put, List.setIfInBounds_toArray, List.set_cons_zero, List.set_cons_succ]
        refine heldTake (i := 30) (v := ?_) rfl (by kernel_rfl) (by kernel_rfl) (by kernel_rfl) (fun _ _ _ h => h) (Or.inl ⟨by rfl, ?_⟩) (by assumption) ?_
        rotate_left
        · intro w hSw; (try dsimp only at hSw); go_simp <;> (with_reducible rfl)
        try simp only [Act.put, List.setIfInBounds_toArray, List.set_cons_zero, List.set_cons_succ]
        refine heldTake (i := 31) (v := ?_) rfl (by kernel_rfl) (by kernel_rfl) (by kernel_rfl) (fun _ _ _ h => h) (Or.inl ⟨by rfl, ?_⟩) (by assumption) ?_
        rotate_left
        · intro w hSw; (try dsimp only at hSw); go_simp <;> (with_reducible rfl)
        try simp only [Act.put, List.setIfInBounds_toArray, List.set_cons_zero, List.set_cons_succ]
        refine heldTake (i := 32) (v := .slice (some ⟨p5, 0, none⟩) N cp5) rfl (by kernel_rfl) (by kernel_rfl) (by kernel_rfl) (fun _ _ _ h => h) (Or.inl ⟨by rfl, fun W hW => ?_⟩) (by assumption) ?_
        · dsimp only at hW
          subst hW
          have hc2 : e5.drew.cell? ⟨r, 0, none⟩ = some (.slice (some ⟨p5, 0, none⟩) N cp5) := HCR5.out
          go_simp <;> rfl
        try simp only [Act.put, List.setIfInBounds_toArray, List.set_cons_zero, List.set_cons_succ]
        refine heldTake (i := 33) (v := ?_) rfl (by kernel_rfl) (by kernel_rfl) (by kernel_rfl) (fun _ _ _ h => h) (Or.inl ⟨by rfl, ?_⟩) (by assumption) ?_
        rotate_left
        · intro w hSw; (try dsimp only at hSw); go_simp <;> (with_reducible rfl)
        try simp only [Act.put, List.setIfInBounds_toArray, List.set_cons_zero, List.set_cons_succ]
        refine wpAnyH_ready (rs := [28]) (by kernel_rfl) (by simp) ?_
        refine heldCons (i := 28) rfl (fun Kq hKq => ?_) AllReadyH.nil
        go_simp
        go_at_call 23
        refine (HS_e6.out.len_ 0 rfl).mono ?_
        rintro _ _ ⟨rfl, rfl⟩
        rw [HN.out]
        first | (refine hKq.out _ _ rfl (fun hHeld => ?_)) | (go_wp2_with fail; refine hKq.out _ _ rfl (fun hHeld => ?_))
        clear hKq Kq
        try simp only [Act.put, List.setIfInBounds_toArray, List.set_cons_zero, List.set_cons_succ]
        refine heldTake (i := 34) (v := .bool false) rfl (by kernel_rfl) (by kernel_rfl) (by kernel_rfl) (fun _ _ _ h => h) (Or.inl ⟨by rfl, fun W hW => ?_⟩) (by assumption) ?_
        · dsimp only at hW
          subst hW
          go_simp <;> (first | rfl | simp)
        try simp only [Act.put, List.setIfInBounds_toArray, List.set_cons_zero, List.set_cons_succ]
        refine heldTake (i := 35) (v := ?_) rfl (by kernel_rfl) (by kernel_rfl) (by kernel_rfl) (fun _ _ _ h => h) (Or.inl ⟨by rfl, ?_⟩) (by assumption) ?_
        rotate_left
        · intro w hSw; (try dsimp only at hSw); go_simp <;> (with_reducible rfl)
        try simp only [Act.put, List.setIfInBounds_toArray, List.set_cons_zero, List.set_cons_succ]
        refine wpAnyH_done (by kernel_rfl) ?_ _
        go_wp2_with fail
        go_roundw
        case rel => exact ⟨i + 1, V2, by go_num, by omega, hide (HS_e6.out.cut 1)⟩
        case measure => simp [intOf]; omega
      · have hd : decide ((i : Int) < 60) = false := by simpa using h60
        obtain ⟨p5, cp5, hcr5, _⟩ := HS_z1.out.rcell 1 rfl
        have HCR5 := hide hcr5
        obtain ⟨N, hN⟩ : ∃ N, V.length = N := ⟨_, rfl⟩
        rw [hN] at HCR5
        have HN := hide hN
        clear hcr5 hN
        have HS_e6 := hide HS_z1.out.drew
        go_wp2_with fail
        refine wp_region_held_drew (S := (fun W => W = z1.drew)) (by kernel_rfl) ?_ (fun hHeld => ?_)
        · exact rfl
        refine heldTake (i := 0) (v := ?_) rfl (by kernel_rfl) (by kernel_rfl) (by kernel_rfl) (fun _ _ _ h => h) (Or.inl ⟨by rfl, ?_⟩) (by assumption) ?_
        rotate_left
        · intro w hSw; (try dsimp only at hSw); go_simp <;> (with_reducible rfl)
        try simp only [Act.put, List.setIfInBounds_toArray, List.set_cons_zero, List.set_cons_succ]
        refine heldTake (i := 2) (v := ?_) rfl (by kernel_rfl) (by kernel_rfl) (by kernel_rfl) (fun _ _ _ h => h) (Or.inl ⟨by rfl, ?_⟩) (by assumption) ?_
        rotate_left
        · intro w hSw; (try dsimp only at hSw); go_simp <;> (with_reducible rfl)
        try simp only [Act.put, List.setIfInBounds_toArray, List.set_cons_zero, List.set_cons_succ]
        refine heldTake (i := 3) (v := ?_) rfl (by kernel_rfl) (by kernel_rfl) (by kernel_rfl) (fun _ _ _ h => h) (Or.inl ⟨by rfl, ?_⟩) (by assumption) ?_
        rotate_left
        · intro w hSw; (try dsimp only at hSw); go_simp <;> (with_reducible rfl)
        try simp only [Act.put, List.setIfInBounds_toArray, List.set_cons_zero, List.set_cons_succ]
        refine heldTake (i := 4) (v := ?_) rfl (by kernel_rfl) (by kernel_rfl) (by kernel_rfl) (fun _ _ _ h => h) (Or.inl ⟨by rfl, ?_⟩) (by assumption) ?_
        rotate_left
        · intro w hSw; (try dsimp only at hSw); go_simp <;> (with_reducible rfl)
        try simp only [Act.put, List.setIfInBounds_toArray, List.set_cons_zero, List.set_cons_succ]
        refine heldTake (i := 5) (v := .slice (some ⟨p5, 0, none⟩) N cp5) rfl (by kernel_rfl) (by kernel_rfl) (by kernel_rfl) (fun _ _ _ h => h) (Or.inl ⟨by rfl, fun W hW => ?_⟩) (by assumption) ?_
        · dsimp only at hW
          subst hW
          have hc2 : z1.drew.cell? ⟨r, 0, none⟩ = some (.slice (some ⟨p5, 0, none⟩) N cp5) := HCR5.out
          go_simp <;> rfl
        try simp only [Act.put, List.setIfInBounds_toArray, List.set_cons_zero, List.set_cons_succ]
        refine heldTake (i := 6) (v := ?_) rfl (by kernel_rfl) (by kernel_rfl) (by kernel_rfl) (fun _ _ _ h => h) (Or.inl ⟨by rfl, ?_⟩) (by assumption) ?_
        rotate_left
        · intro w hSw; (try dsimp only at hSw); go_simp <;> (with_reducible rfl)
        try simp only [Act.put, List.setIfInBounds_toArray, List.set_cons_zero, List.set_cons_succ]
        refine wpAnyH_ready (rs := [1]) (by kernel_rfl) (by simp) ?_
        refine heldCons (i := 1) rfl (fun Kq hKq => ?_) AllReadyH.nil
        go_simp
        go_at_call 23
        refine (HS_e6.out.len_ 0 rfl).mono ?_
        rintro _ _ ⟨rfl, rfl⟩
        rw [HN.out]
        first | (refine hKq.out _ _ rfl (fun hHeld => ?_)) | (go_wp2_with fail; refine hKq.out _ _ rfl (fun hHeld => ?_))
        clear hKq Kq
        try simp only [Act.put, List.setIfInBounds_toArray, List.set_cons_zero, List.set_cons_succ]
        refine heldTake (i := 7) (v := .bool true) rfl (by kernel_rfl) (by kernel_rfl) (by kernel_rfl) (fun _ _ _ h => h) (Or.inl ⟨by rfl, fun W hW => ?_⟩) (by assumption) ?_
        · dsimp only at hW
          subst hW
          go_simp <;> (first | rfl | simp)
        try simp only [Act.put, List.setIfInBounds_toArray, List.set_cons_zero, List.set_cons_succ]
        refine heldTake (i := 8) (v := ?_) rfl (by kernel_rfl) (by kernel_rfl) (by kernel_rfl) (fun _ _ _ h => h) (Or.inl ⟨by rfl, ?_⟩) (by assumption) ?_
        rotate_left
        · intro w hSw; (try dsimp only at hSw); go_simp <;> (with_reducible rfl)
        try simp only [Act.put, List.setIfInBounds_toArray, List.set_cons_zero, List.set_cons_succ]
        refine wpAnyH_done (by kernel_rfl) ?_ _
        go_wp2_with fail
        go_ret
        exact ⟨rfl, HS_e6.out.low⟩
    · have hd : decide ((i : Int) < (n : Int)) = false := by simpa using hin
      obtain ⟨p5, cp5, hcr5, _⟩ := HS_z1.out.rcell 1 rfl
      have HCR5 := hide hcr5
      obtain ⟨N, hN⟩ : ∃ N, V.length = N := ⟨_, rfl⟩
      rw [hN] at HCR5
      have HN := hide hN
      clear hcr5 hN
      have HS_e6 := hide HS_z1.out.drew
      go_wp2_with fail
      refine wp_region_held_drew (S := (fun W => W = z1.drew)) (by kernel_rfl) ?_ (fun hHeld => ?_)
      · exact rfl
      refine heldTake (i := 0) (v := ?_) rfl (by kernel_rfl) (by kernel_rfl) (by kernel_rfl) (fun _ _ _ h => h) (Or.inl ⟨by rfl, ?_⟩) (by assumption) ?_
      rotate_left
      · intro w hSw; (try dsimp only at hSw); go_simp <;> (with_reducible rfl)
      try simp only [Act.put, List.setIfInBounds_toArray, List.set_cons_zero, List.set_cons_succ]
      refine heldTake (i := 2) (v := ?_) rfl (by kernel_rfl) (by kernel_rfl) (by kernel_rfl) (fun _ _ _ h => h) (Or.inl ⟨by rfl, ?_⟩) (by assumption) ?_
      rotate_left
      · intro w hSw; (try dsimp only at hSw); go_simp <;> (with_reducible rfl)
      try simp only [Act.put, List.setIfInBounds_toArray, List.set_cons_zero, List.set_cons_succ]
      refine heldTake (i := 3) (v := ?_) rfl (by kernel_rfl) (by kernel_rfl) (by kernel_rfl) (fun _ _ _ h => h) (Or.inl ⟨by rfl, ?_⟩) (by assumption) ?_
      rotate_left
      · intro w hSw; (try dsimp only at hSw); go_simp <;> (with_reducible rfl)
      try simp only [Act.put, List.setIfInBounds_toArray, List.set_cons_zero, List.set_cons_succ]
      refine heldTake (i := 4) (v := ?_) rfl (by kernel_rfl) (by kernel_rfl) (by kernel_rfl) (fun _ _ _ h => h) (Or.inl ⟨by rfl, ?_⟩) (by assumption) ?_
      rotate_left
      · intro w hSw; (try dsimp only at hSw); go_simp <;> (with_reducible rfl)
      try simp only [Act.put, List.setIfInBounds_toArray, List.set_cons_zero, List.set_cons_succ]
      refine heldTake (i := 5) (v := .slice (some ⟨p5, 0, none⟩) N cp5) rfl (by kernel_rfl) (by kernel_rfl) (by kernel_rfl) (fun _ _ _ h => h) (Or.inl ⟨by rfl, fun W hW => ?_⟩) (by assumption) ?_
      · dsimp only at hW
        subst hW
        have hc2 : z1.drew.cell? ⟨r, 0, none⟩ = some (.slice (some ⟨p5, 0, none⟩) N cp5) := HCR5.out
        go_simp <;> rfl
      try simp only [Act.put, List.setIfInBounds_toArray, List.set_cons_zero, List.set_cons_succ]
      refine heldTake (i := 6) (v := ?_) rfl (by kernel_rfl) (by kernel_rfl) (by kernel_rfl) (fun _ _ _ h => h) (Or.inl ⟨by rfl, ?_⟩) (by assumption) ?_
      rotate_left
      · intro w hSw; (try dsimp only at hSw); go_simp <;> (with_reducible rfl)
      try simp only [Act.put, List.setIfInBounds_toArray, List.set_cons_zero, List.set_cons_succ]
      refine wpAnyH_ready (rs := [1]) (by kernel_rfl) (by simp) ?_
      refine heldCons (i := 1) rfl (fun Kq hKq => ?_) AllReadyH.nil
      go_simp
      go_at_call 23
      refine (HS_e6.out.len_ 0 rfl).mono ?_
      rintro _ _ ⟨rfl, rfl⟩
      rw [HN.out]
      first | (refine hKq.out _ _ rfl (fun hHeld => ?_)) | (go_wp2_with fail; refine hKq.out _ _ rfl (fun hHeld => ?_))
      clear hKq Kq
      try simp only [Act.put, List.setIfInBounds_toArray, List.set_cons_zero, List.set_cons_succ]
      refine heldTake (i := 7) (v := .bool true) rfl (by kernel_rfl) (by kernel_rfl) (by kernel_rfl) (fun _ _ _ h => h) (Or.inl ⟨by rfl, fun W hW => ?_⟩) (by assumption) ?_
      · dsimp only at hW
        subst hW
        go_simp <;> (first | rfl | simp)
      try simp only [Act.put, List.setIfInBounds_toArray, List.set_cons_zero, List.set_cons_succ]
      refine heldTake (i := 8) (v := ?_) rfl (by kernel_rfl) (by kernel_rfl) (by kernel_rfl) (fun _ _ _ h => h) (Or.inl ⟨by rfl, ?_⟩) (by assumption) ?_
      rotate_left
      · intro w hSw; (try dsimp only at hSw); go_simp <;> (with_reducible rfl)
      try simp only [Act.put, List.setIfInBounds_toArray, List.set_cons_zero, List.set_cons_succ]
      refine wpAnyH_done (by kernel_rfl) ?_ _
      go_wp2_with fail
      go_ret
      exact ⟨rfl, HS_e6.out.low⟩
#print axioms vmapPlays_walk
end Go.Proofs.Ytfjgpnjhmfcpiaa
