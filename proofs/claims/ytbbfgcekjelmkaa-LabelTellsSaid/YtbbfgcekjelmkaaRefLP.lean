/- What the reference's Put answers, over whatever label comes in: the same. -/
import Derived.Test.YtbbfgcekjelmkaaRefT
import Derived.Lib.BufferWrite
import Derived.Deep.RegionLaw
namespace Go.Proofs.Ytbbfgcekjelmkaa
open Go.RowKit

theorem byteCells_is (l : List UInt8) : Lib.byteCells l = B8 l := rfl
/-- 'copy(d[:], s)' of a string into a block known whole, as one step of a region in open order. -/
theorem step_copy_blk {P : Program} {ops : Array Oper} {o : Oper} {a : Act} {w : World} {K : Act → World → Prop} {Q : Exit → Act → World → Prop} {E : Prop}
    (hg : o.guard = none) (d x : Operand) (dT sT : TypeId) (hop : o.op = Op.call { callee := Callee.builtin Builtin.copy, args := #[d, x], argTypes := #[dT, sT] })
    (elem : TypeId) (hu : P.underlying dT = some (.slice elem)) (hs : (P.info? elem).map (·.size) = some 1) (g dLen dCap : Nat) (hd : a.eval d = .slice (some ⟨g, 0, none⟩) dLen dCap) (l : List UInt8) (hx : a.eval x = .string (strOf l))
    (cur : Array Value) (t : TypeId) (hb : Blk w g t cur) (hle : l.length ≤ dLen) (hfit : l.length ≤ cur.size)
    (hK : ∀ w', Blk w' g t (B8 l ++ cur.toList.drop l.length).toArray → w.grownBy w' (some g) → K (a.put o.dst (goInt l.length)) w') :
    if Region.wanted o (yielded ops a.tmps) = true then Oper.wp P o a w K Q else E := by
  have hw : Region.wanted o (yielded ops a.tmps) = true := by simp [Region.wanted, hg]
  rw [if_pos hw]
  have hrun := Lib.run_copy_row_string (P := P) w dT sT o.type elem g 0 dLen dCap (strOf l) cur t hu hs hb (by rw [strOf_size]; exact hle) (by rw [strOf_size]; omega)
  rw [strOf_size, List.take_zero, List.nil_append, Nat.zero_add] at hrun
  unfold Oper.wp
  simp [execOp, hop, resolve, invoke, builtin, hd, hx, hrun, Result.andThen]
  refine hK _ (setRow_heap w g cur _ t (0, 0) hb) ⟨rfl, rfl, rfl, by simp [World.setRow], fun i _ hi => ?_⟩
  simp only [World.setRow, Array.getElem?_modify]
  rw [if_neg (fun e => hi (by rw [e]))]
theorem front_cells {l : List UInt8} (h : l.length ≤ 64) : B8 l ++ (secL zeroSec).drop l.length = secL ⟨front l, front_length l⟩ := by
  show B8 l ++ (B8 (List.replicate 64 0)).drop l.length = B8 (front l)
  rw [front_short h, B8_append, B8_drop, List.drop_replicate]

set_option maxRecDepth 100000 in
set_option maxHeartbeats 4000000 in
theorem refLput_any (l : Lab) (A : Option Addr) (n c : Nat) (B0 : Nat) (w : World) (hr : MbIn w B0 A n c l.members) (hB0 : B0 ≤ w.heap.size) :
    Calls Try.prog 13 #[labV l A n c] w fun e w' => e = .returned (.tuple #[secV (putS l), .int .i64 (putE l)]) ∧ Below w.heap.size w w' := by
  have HRR := hide hr
  have HR := hide (fun w1 (hb : Below w.heap.size w w1) => refRight_any l A n c B0 w1 (hr.below (hb.mono hB0)) (Nat.le_trans hB0 hb.size))
  obtain ⟨U, hU⟩ : ∃ U, U = secL (putS l) := ⟨_, rfl⟩
  have hUl : U.length = 64 := by rw [hU, secL_length]
  have hUo : ∀ v ∈ U, v.oneCell' = true := by rw [hU]; exact secL_one _
  have hiU : (Try.prog.info? 26).map (·.size) = some U.length := by rw [hUl]; exact sec_info
  have hs : secV (putS l) = .agg U.toArray := by rw [hU]; rfl
  rw [hs]
  have HUl := hide hUl
  have HUO := hide hUo
  have HIU := hide hiU
  have HU := hide hU
  clear hr hs hUl hUo hiU hU
  cases hright : rightB l with
  | false =>
    rw [hright] at HR
    have hb0 := hide (show U = secL zeroSec by rw [HU.out, putS, hright]; rfl)
    have hE := hide (show putE l = 1 by rw [putE, hright]; rfl)
    rw [hE.out]
    go_enter Try.func13, Try.ntmps13
    go_wp2_with (first
      | (refine wpList_box_blk rfl 24 _ rfl (.agg (labC l A n c).toArray) rfl ?_; intro w1 hb1q hl1 hs1; clear hs1; have hb1 : Blk w1 w.heap.size 24 (labC l A n c).toArray := hb1q; clear hb1q)
      | (have hb2x := hb2; refine wpList_alloc_blk rfl 26 rfl _ (sec_zero _) ?_; intro w3 hb3 hl3 hs3; clear hs3 hb2x; have hz1 := hb1.lt; have hz2 := hb2.lt; have hz3 := hb3.lt; have hl03 : Below w.heap.size w w3 := (hl1.trans (hl2.mono (by omega))).trans (hl3.mono (by omega)))
      | (refine wpList_alloc_blk rfl 26 rfl _ (sec_zero _) ?_; intro w2 hb2 hl2 hs2; clear hs2)
      | (refine wpList_load_blk rfl 24 (.tmp 1) rfl w.heap.size 0 24 _ ((hb1.below hl2 hz1).below hl3 (by omega)) rfl (labC l A n c) _ (fun j v hj => by rw [Nat.zero_add]; simpa using hj) Try.underlying24 rfl lab_info ?_)
      | (go_at_call 18; refine (HR.out _ hl03).mono ?_; rintro _ w4 ⟨rfl, hl4⟩; have hz4 := hl4.size; have HL4 := hide (hl03.trans (hl4.mono (by omega))); have HB4 := hide (((hb1.below hl2 hz1).below hl3 (by omega)).below hl4 (by omega)); have HX4 := hide ((hb2.below hl3 (by omega)).below hl4 (by omega)); have HY4 := hide (hb3.below hl4 (by omega)); clear hb1 hb2 hb3 hl1 hl2 hl3 hl4 hl03)
      | (refine wpList_load_blk rfl 26 (.tmp 4) rfl w2.heap.size 0 26 _ HY4.out rfl U _ (fun j v hj => by rw [Nat.zero_add]; rw [hb0.out] at hj; simpa [secV, Value.cells] using hj) Try.underlying26 rfl HIU.out ?_)
      | (refine wpList_store_all rfl 26 (.tmp 2) (.tmp 10) rfl w1.heap.size 26 _ HX4.out rfl U rfl HIU.out (HUl.out.trans (secL_length zeroSec).symm) HUO.out ?_; intro w5 hb5 hg5 hs5; clear hs5))
    exact ret_cell_tmp rfl w1.heap.size 26 U _ hb5 rfl Try.underlying26 rfl HIU.out (.int .i64 1) rfl rfl ⟨rfl, HL4.out.grown hg5 (by have := HL4.out.size; omega) (fun g e => by injection e with e; omega)⟩
  | true =>
    have HTX := hide (fun w1 (hb : Below w.heap.size w w1) => refText_any l A n c B0 w1 (HRR.out.below (hb.mono hB0)) (Nat.le_trans hB0 hb.size) hright)
    rw [hright] at HR
    have hE := hide (show putE l = 0 by rw [putE, hright]; rfl)
    obtain ⟨_, _, _, q4, _, _⟩ := right_parts hright
    have hlb : (labB l).length ≤ 64 := by rw [labB_length]; omega
    have HFC := hide (show B8 (labB l) ++ (secV zeroSec).cells.toList.drop (labB l).length = U by
      rw [HU.out, putS, hright]
      exact front_cells hlb)
    rw [hE.out]
    clear hright q4
    go_enter Try.func13, Try.ntmps13
    go_wp2_with (first
      | (refine wpList_box_blk rfl 24 _ rfl (.agg (labC l A n c).toArray) rfl ?_; intro w1 hb1q hl1 hs1; clear hs1; have hb1 : Blk w1 w.heap.size 24 (labC l A n c).toArray := hb1q; clear hb1q)
      | (have hb2x := hb2; refine wpList_alloc_blk rfl 26 rfl _ (sec_zero _) ?_; intro w3 hb3 hl3 hs3; clear hs3 hb2x; have hz1 := hb1.lt; have hz2 := hb2.lt; have hz3 := hb3.lt; have hl03 : Below w.heap.size w w3 := (hl1.trans (hl2.mono (by omega))).trans (hl3.mono (by omega)))
      | (refine wpList_alloc_blk rfl 26 rfl _ (sec_zero _) ?_; intro w2 hb2 hl2 hs2; clear hs2)
      | (refine wpList_load_blk rfl 24 (.tmp 1) rfl w.heap.size 0 24 _ ((hb1.below hl2 hz1).below hl3 (by omega)) rfl (labC l A n c) _ (fun j v hj => by rw [Nat.zero_add]; simpa using hj) Try.underlying24 rfl lab_info ?_)
      | (go_at_call 18; refine (HR.out _ hl03).mono ?_; rintro _ w4 ⟨rfl, hl4⟩; have hz4 := hl4.size; have HL4 := hide (hl03.trans (hl4.mono (by omega))); have HB4 := hide (((hb1.below hl2 hz1).below hl3 (by omega)).below hl4 (by omega)); have HX4 := hide ((hb2.below hl3 (by omega)).below hl4 (by omega)); have HY4 := hide (hb3.below hl4 (by omega)); clear hb1 hb2 hb3 hl1 hl2 hl3 hl4 hl03))
    have x0 := lab_c0 HB4.out
    have x1 := lab_c1 HB4.out
    have x2 := lab_c2 HB4.out
    have x3 := lab_c3 HB4.out
    have x4 := lab_c4 HB4.out
    have HTT : Hid (Calls Try.prog 38 #[.agg #[.int .i64 l.array, .int .i64 l.gen, .int .i64 l.member, .int .i64 l.blocks, .slice A n c]] w4.drew fun e w' => e = .returned (.string (strOf (labB l))) ∧ Below w4.heap.size w4 w') :=
      (HTX.out w4.drew HL4.out.drew).mono fun e w' ⟨h1, h2⟩ => ⟨h1, ((Below.refl _ w4).drew).trans h2⟩
    go_wp2
    go_region_law (first
      | (refine step_copy_blk rfl (.tmp 11) (.tmp 13) 64 9 rfl 5 Try.underlying64 (by kernel_rfl) w2.heap.size 64 64 rfl (labB l) rfl _ 26 HY5.out hlb (by show _ ≤ (secL zeroSec).toArray.size; rw [List.size_toArray, secL_length]; exact hlb) ?_; intro w6 hb6 hg6; rw [HFC.out] at hb6)
      | (go_simp; go_at_call 38; refine HTT.out.mono ?_; rintro _ w5 ⟨rfl, hl5⟩; have hz5 := hl5.size; have HY5 := hide (HY4.out.below hl5 (by omega))))
    have HX6 := hide ((HX4.out.below hl5 (by omega)).grown hg6 (fun e => by injection e with e; omega))
    have hz6 := hg6.size
    have hl46 : Below w.heap.size w w6 := (HL4.out.trans (hl5.mono (by omega))).grown hg6 (by omega) (fun g e => by injection e with e; omega)
    clear x0 x1 x2 x3 x4
    go_wp2_with (first
      | (refine wpList_load_blk rfl 26 (.tmp 4) rfl w2.heap.size 0 26 _ hb6 rfl U _ (fun j v hj => by rw [Nat.zero_add]; simpa using hj) Try.underlying26 rfl HIU.out ?_)
      | (refine wpList_store_all rfl 26 (.tmp 2) (.tmp 15) rfl w1.heap.size 26 _ HX6.out rfl U rfl HIU.out (HUl.out.trans (secL_length zeroSec).symm) HUO.out ?_; intro w7 hb7 hg7 hs7; clear hs7))
    exact ret_cell_tmp rfl w1.heap.size 26 U _ hb7 rfl Try.underlying26 rfl HIU.out (.int .i64 0) rfl rfl ⟨rfl, hl46.grown hg7 (by omega) (fun g e => by injection e with e; omega)⟩
#print axioms refLput_any
end Go.Proofs.Ytbbfgcekjelmkaa
