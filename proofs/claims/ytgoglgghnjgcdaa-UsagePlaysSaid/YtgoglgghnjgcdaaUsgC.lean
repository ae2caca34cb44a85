/- What the calls of a table that only read it answer. -/
import Derived.Test.YtgoglgghnjgcdaaUsg
import Derived.Outline
import Derived.BigQuiet
import Derived.OwnWalk
namespace Go.Proofs.Ytgoglgghnjgcdaa
open Go.RowKit Go.Maps

section
variable {S : Us}
theorem look_g (h : S.Ok) (g : Int) : (gF S g).getD (.agg #[.int .i64 0, .int .i64 0]) = .agg #[.int .i64 (S.slots g), .int .i64 ((S.cnt g : Nat) : Int)] ∧ (gF S g).isSome = S.has g := by
  cases hg : S.has g with
  | true => rw [gF_yes hg]; exact ⟨rfl, rfl⟩
  | false => rw [gF_no hg, Us.slots_none hg, Us.cnt_none h hg]; exact ⟨rfl, rfl⟩
theorem look_b (S : Us) (g s : Int) : (bF S (g, s)).getD (.int .i64 0) = .int .i64 ((S.at_ g s).getD 0) ∧ (bF S (g, s)).isSome = (S.at_ g s).isSome := by
  unfold bF
  cases S.at_ g s <;> exact ⟨rfl, rfl⟩
theorem look_p (S : Us) (b : Int) : (pF S b).getD (.agg #[.int .i64 0, .int .i64 0]) = .agg #[.int .i64 ((S.fnd b).getD (0, 0)).1, .int .i64 ((S.fnd b).getD (0, 0)).2] ∧ (pF S b).isSome = (S.fnd b).isSome := by
  unfold pF
  cases S.fnd b <;> exact ⟨rfl, rfl⟩
theorem tally_info : (Try.prog.info? 63).map (·.size) = some 2 := by kernel_rfl
theorem place_info : (Try.prog.info? 66).map (·.size) = some 2 := by kernel_rfl
theorem two_one (a b : Int) : ∀ v ∈ ([.int .i64 a, .int .i64 b] : List Value), v.oneCell' = true := by
  intro v hv
  simp at hv
  rcases hv with rfl | rfl <;> rfl
theorem tally_f0 (w : World) (n c : Int) : (Instr.field 63 (.agg #[.int .i64 n, .int .i64 c]) 0).run Try.prog w = .ok (.int .i64 n) w := by kernel_rfl
theorem tally_f1 (w : World) (n c : Int) : (Instr.field 63 (.agg #[.int .i64 n, .int .i64 c]) 1).run Try.prog w = .ok (.int .i64 c) w := by kernel_rfl
variable {w : World} {t x y z : Nat} {f : Int → Option Value} {h : Int × Int → Option Value} {k : Int → Option Value}
set_option maxRecDepth 100000 in
theorem slots_any (m : UsM w t x y z (gF S) h k) (hok : S.Ok) (g : Int) (hg : okI64 g) :
    Calls Try.prog 19 #[.pointer (some ⟨t, 0, none⟩), .int .i64 g] w fun e w' => e = .returned (.int .i64 (S.slots g)) ∧ w = w' := by
  have hc := m.c0
  have HM := hide m.gm
  have HL := hide (look_g hok g)
  have HG := hide hg
  have hf0 := fun w => tally_f0 w (S.slots g) ((S.cnt g : Nat) : Int)
  clear m hok hg
  go_enter Try.func19, Try.ntmps19
  go_wp2_with (first
    | (refine wpList_look rfl (.tmp 8) (.tmp 9) 52 63 false rfl Try.underlying52 _ (Try.zeroValue63 _) x (gF S) rfl HM.out g rfl HG.out _ HL.out.1 ?_))
  go_ret
  exact ⟨rfl, rfl⟩
set_option maxRecDepth 100000 in
theorem count_any (m : UsM w t x y z (gF S) h k) (hok : S.Ok) (g : Int) (hg : okI64 g) :
    Calls Try.prog 25 #[.pointer (some ⟨t, 0, none⟩), .int .i64 g] w fun e w' => e = .returned (.int .i64 ((S.cnt g : Nat) : Int)) ∧ w = w' := by
  have hc := m.c0
  have HM := hide m.gm
  have HL := hide (look_g hok g)
  have HG := hide hg
  have hf0 := fun w => tally_f1 w (S.slots g) ((S.cnt g : Nat) : Int)
  clear m hok hg
  go_enter Try.func25, Try.ntmps25
  go_wp2_with (first
    | (refine wpList_look rfl (.tmp 8) (.tmp 9) 52 63 false rfl Try.underlying52 _ (Try.zeroValue63 _) x (gF S) rfl HM.out g rfl HG.out _ HL.out.1 ?_))
  go_ret
  exact ⟨rfl, rfl⟩
/-- What 'b, live := t.blocks[place{g, s}]' tells. -/
theorem place_built (g s : Int) : Try.prog.built 66 [(0, .int .i64 g), (1, .int .i64 s)] = some #[.int .i64 g, .int .i64 s] := by kernel_rfl
set_option maxRecDepth 100000 in
theorem block_any (m : UsM w t x y z f (bF S) k) (g s : Int) (hg : okI64 g) (hs : okI64 s) :
    Calls Try.prog 20 #[.pointer (some ⟨t, 0, none⟩), .int .i64 g, .int .i64 s] w fun e w' => e = .returned (.tuple #[.int .i64 ((S.at_ g s).getD 0), .bool (S.at_ g s).isSome]) ∧ w = w' := by
  have hc := m.c1
  have HM := hide m.bm
  have HL := hide (look_b S g s)
  have HG := hide (show okPl (g, s) from ⟨hg, hs⟩)
  clear m hg hs
  go_enter Try.func20, Try.ntmps20
  go_wp2_with (first
    | (refine wpList_build_is rfl 66 _ rfl _ rfl _ (place_built g s) ?_)
    | (refine wpList_look rfl (.tmp 14) (.tmp 17) 53 3 true rfl Try.underlying53 _ (Try.zeroValue3 _) y (bF S) rfl HM.out (g, s) rfl HG.out (.tuple #[.int .i64 ((S.at_ g s).getD 0), .bool (S.at_ g s).isSome]) (by rw [HL.out.1, HL.out.2]; rfl) ?_))
  go_ret2
  exact ⟨rfl, rfl⟩
set_option maxRecDepth 100000 in
theorem find_any (m : UsM w t x y z f h (pF S)) (b : Int) (hb : okI64 b) :
    Calls Try.prog 21 #[.pointer (some ⟨t, 0, none⟩), .int .i64 b] w fun e w' => e = .returned (.tuple #[.int .i64 ((S.fnd b).getD (0, 0)).1, .int .i64 ((S.fnd b).getD (0, 0)).2, .bool (S.fnd b).isSome]) ∧ Below w.heap.size w w' := by
  have hc := m.c2
  have HM := hide m.pm
  have HL := hide (look_p S b)
  have HG := hide hb
  have hlt := m.head.lt
  clear m hb
  obtain ⟨p1, hp1⟩ : ∃ v, v = ((S.fnd b).getD (0, 0)).1 := ⟨_, rfl⟩
  obtain ⟨p2, hp2⟩ : ∃ v, v = ((S.fnd b).getD (0, 0)).2 := ⟨_, rfl⟩
  obtain ⟨p3, hp3⟩ : ∃ v, v = (S.fnd b).isSome := ⟨_, rfl⟩
  rw [← hp1, ← hp2, ← hp3] at HL ⊢
  clear hp1 hp2 hp3
  go_enter Try.func21, Try.ntmps21
  go_wp2_with (first
    | (refine wpList_look rfl (.tmp 13) (.tmp 14) 54 66 true rfl Try.underlying54 _ (Try.zeroValue66 _) z (pF S) rfl HM.out b rfl HG.out (.tuple #[.agg #[.int .i64 p1, .int .i64 p2], .bool p3]) (by rw [HL.out.1, HL.out.2]; rfl) ?_)
    | (refine wpList_alloc_blk rfl 66 rfl _ (Try.zeroValue66 _) ?_; intro w1 hb1 hl1 hs1; clear hs1)
    | (refine wpList_store_all rfl 66 (.tmp 7) (.tmp 16) rfl w.heap.size 66 _ hb1 rfl [.int .i64 p1, .int .i64 p2] rfl place_info rfl (two_one _ _) ?_; intro w2 hb2 hg2 hs2; clear hs2; have q0 : w2.cell? ⟨w.heap.size, 0, none⟩ = some (.int .i64 p1) := hb2.cell 0; have q1 : w2.cell? ⟨w.heap.size, 1, none⟩ = some (.int .i64 p2) := hb2.cell 1))
  go_quiet (fail)
  go_wp2
  go_ret3
  exact ⟨rfl, (hl1.grown hg2 hl1.size (fun g e => by injection e with e; omega)).trans ⟨rfl, rfl, rfl, Nat.le_refl _, fun _ _ => rfl⟩⟩
set_option maxRecDepth 100000 in
theorem has_any (m : UsM w t x y z (gF S) h k) (hok : S.Ok) (g : Int) (hg : okI64 g) :
    Calls Try.prog 43 #[.pointer (some ⟨t, 0, none⟩), .int .i64 g] w fun e w' => e = .returned (.bool (S.has g)) ∧ Below w.heap.size w w' := by
  have hc := m.c0
  have HM := hide m.gm
  have HL := hide (look_g hok g)
  have HG := hide hg
  have hlt := m.head.lt
  clear m hok hg
  go_enter Try.func43, Try.ntmps43
  go_wp2_with (first
    | (refine wpList_look rfl (.tmp 11) (.tmp 12) 52 63 true rfl Try.underlying52 _ (Try.zeroValue63 _) x (gF S) rfl HM.out g rfl HG.out (.tuple #[.agg #[.int .i64 (S.slots g), .int .i64 ((S.cnt g : Nat) : Int)], .bool (S.has g)]) (by rw [HL.out.1, HL.out.2]; rfl) ?_)
    | (refine wpList_alloc_blk rfl 63 rfl _ (Try.zeroValue63 _) ?_; intro w1 hb1 hl1 hs1; clear hs1)
    | (refine wpList_store_all rfl 63 (.tmp 5) (.tmp 14) rfl w.heap.size 63 _ hb1 rfl [.int .i64 (S.slots g), .int .i64 ((S.cnt g : Nat) : Int)] rfl tally_info rfl (two_one _ _) ?_; intro w2 hb2 hg2 hs2; clear hs2))
  go_ret
  exact ⟨rfl, hl1.grown hg2 hl1.size (fun g e => by injection e with e; omega)⟩
end
#print axioms has_any
end Go.Proofs.Ytgoglgghnjgcdaa
