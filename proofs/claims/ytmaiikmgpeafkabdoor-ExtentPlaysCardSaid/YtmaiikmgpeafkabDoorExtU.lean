/- What New, Used, Room and Take of extent do. -/
import Derived.Test.YtmaiikmgpeafkabDoorExt
import Derived.Outline
namespace Go.Proofs.YtmaiikmgpeafkabDoor
open Go.RowKit

/-- How many are taken; how many are free. -/
def usedE (S : Ext) (d : Int) : Nat := if inE S d then cnt (S.t d.toNat) (S.n d.toNat) else 0
def roomE (S : Ext) (d : Int) : Nat := if inE S d then S.n d.toNat - cnt (S.t d.toNat) (S.n d.toNat) else 0
theorem usedE_in {S : Ext} {m : Nat} (h : m ∈ S.ks) : usedE S (m : Int) = cnt (S.t m) (S.n m) := by unfold usedE; rw [if_pos (inE_of h)]; rfl
theorem roomE_in {S : Ext} {m : Nat} (h : m ∈ S.ks) : roomE S (m : Int) = S.n m - cnt (S.t m) (S.n m) := by unfold roomE; rw [if_pos (inE_of h)]; rfl
section
variable {b x : Nat} {q : Nat → Nat} {S : Ext} {w : World}
set_option maxRecDepth 100000 in
theorem used_any (h : ExtIn w b x q S) (d : Int) (g1 : -9223372036854775808 ≤ d) (g2 : d < 9223372036854775808) :
    Calls Tryd.prog 27 #[.pointer (some ⟨b, 0, none⟩), .int .i64 d] w fun e w' => e = .returned (.int .i64 ((usedE S d : Nat) : Int)) ∧ w = w' := by
  have k0 := h.c0
  have HL := hide (h.look d g1 g2)
  cases hd : inE S d with
  | true =>
    obtain ⟨m, rfl, hm⟩ := inE_nat hd
    rw [lookV_in hm] at HL
    rw [usedE_in hm]
    have HM := hide (h.mem m hm)
    clear h hd hm
    go_enter Tryd.func27, Tryd.ntmps27
    go_wp2_with (first
      | (refine wpList_look rfl 42 (.tmp 11) (.tmp 12) true rfl (.map (some x)) (.int .i64 (m : Int)) rfl rfl _ HL.out ?_)
      | (go_at_call 45; refine (count_any HM.out).mono ?_; rintro _ _ ⟨rfl, rfl⟩))
    go_ret
    exact ⟨rfl, rfl⟩
  | false =>
    rw [lookV_out hd] at HL
    have HU : Hid (usedE S d = 0) := hide (by unfold usedE; rw [hd]; rfl)
    clear h hd
    go_enter Tryd.func27, Tryd.ntmps27
    go_wp2_with (first
      | (refine wpList_look rfl 42 (.tmp 11) (.tmp 12) true rfl (.map (some x)) (.int .i64 d) rfl rfl _ HL.out ?_))
    go_ret
    exact ⟨by rw [HU.out]; rfl, rfl⟩
set_option maxRecDepth 100000 in
theorem room_any (h : ExtIn w b x q S) (d : Int) (g1 : -9223372036854775808 ≤ d) (g2 : d < 9223372036854775808) :
    Calls Tryd.prog 29 #[.pointer (some ⟨b, 0, none⟩), .int .i64 d] w fun e w' => e = .returned (.int .i64 ((roomE S d : Nat) : Int)) ∧ w = w' := by
  have k0 := h.c0
  have HL := hide (h.look d g1 g2)
  cases hd : inE S d with
  | true =>
    obtain ⟨m, rfl, hm⟩ := inE_nat hd
    rw [lookV_in hm] at HL
    rw [roomE_in hm]
    have HM := hide (h.mem m hm)
    have hle := cnt_le (S.t m) (S.n m)
    have hnm := (h.mem m hm).le
    clear h hd hm
    obtain ⟨c, hc⟩ : ∃ c, c = cnt (S.t m) (S.n m) := ⟨_, rfl⟩
    rw [← hc] at hle ⊢
    have HC := hide hc
    clear hc
    go_enter Tryd.func29, Tryd.ntmps29
    go_wp2_with (first
      | (refine wpList_look rfl 42 (.tmp 11) (.tmp 12) true rfl (.map (some x)) (.int .i64 (m : Int)) rfl rfl _ HL.out ?_)
      | (go_at_call 46; refine (len_any HM.out).mono ?_; rintro _ _ ⟨rfl, rfl⟩)
      | (go_at_call 45; refine (count_any HM.out).mono ?_; rw [← HC.out]; rintro _ _ ⟨rfl, rfl⟩))
    go_ret
    exact ⟨ret_of (by omega), rfl⟩
  | false =>
    rw [lookV_out hd] at HL
    have HU : Hid (roomE S d = 0) := hide (by unfold roomE; rw [hd]; rfl)
    clear h hd
    go_enter Tryd.func29, Tryd.ntmps29
    go_wp2_with (first
      | (refine wpList_look rfl 42 (.tmp 11) (.tmp 12) true rfl (.map (some x)) (.int .i64 d) rfl rfl _ HL.out ?_))
    go_ret
    exact ⟨by rw [HU.out]; rfl, rfl⟩
theorem ext_built (x : Nat) : Tryd.prog.built 44 [(0, .map (some x))] = some #[.map (some x)] := by kernel_rfl
theorem extNew_any (w : World) : Calls Tryd.prog 5 #[] w fun e w' => e = .returned (.pointer (some ⟨w.heap.size + 1, 0, none⟩)) ∧ (∀ q, ExtIn w' (w.heap.size + 1) w.heap.size q Ext.none_) ∧ Below w.heap.size w w' ∧ w'.heap.size = w.heap.size + 2 := by
  have hmm := @run_makeMap Tryd.prog
  have hb := ext_built w.heap.size
  go_enter Tryd.func5, Tryd.ntmps5
  go_wp2_with (first
    | (refine wpList_box_blk rfl 44 (.tmp 2) rfl (.agg #[.map (some w.heap.size)]) rfl ?_; intro w1 hb1 hl1 hs1))
  have e0 : (w.alloc (.map #[] 0)).heap.size = w.heap.size + 1 := World.size_alloc _ _
  go_ret
  rw [e0] at hb1 hl1 hs1
  have hm : MapIs w1 w.heap.size (fun _ => none) := (MapIs.new w).below (hl1) (by omega)
  refine ⟨rfl, fun q => ⟨hb1, hm.congr (fun k => ?_), (fun d hd => by cases hd), (fun d hd => by cases hd)⟩, ((Below.refl _ w).alloc (Nat.le_refl _) _).trans (hl1.mono (by omega)), by omega⟩
  exact (extF_out (by simp [Ext.none_])).symm
/-- What Take does: the code, which one, and what is taken then. -/
def TakeE (S : Ext) (d : Int) (v : Value) (S' : Ext) : Prop :=
  (inE S d = false ∧ v = .tuple #[.agg #[.int .i64 0, .int .i64 0], .int .i64 8] ∧ S' = S) ∨
  (∃ m : Nat, d = (m : Int) ∧ m ∈ S.ks ∧ (∀ i, i < S.n m → S.t m i = true) ∧ v = .tuple #[.agg #[.int .i64 0, .int .i64 0], .int .i64 4] ∧ S' = S) ∨
  (∃ m k : Nat, d = (m : Int) ∧ m ∈ S.ks ∧ k < S.n m ∧ S.t m k = false ∧ (∀ i, i < k → S.t m i = true) ∧ v = .tuple #[.agg #[.int .i64 d, .int .i64 (114 + 8 * (k : Int))], .int .i64 0] ∧ S' = S.setT m (put (S.t m) k true))
theorem ext2_built0 : Tryd.prog.built 36 [] = some #[.int .i64 0, .int .i64 0] := by kernel_rfl
theorem ext2_built (a b : Int) : Tryd.prog.built 36 [(0, .int .i64 a), (1, .int .i64 b)] = some #[.int .i64 a, .int .i64 b] := by kernel_rfl
set_option maxRecDepth 100000 in
set_option maxHeartbeats 1000000 in
theorem extTake_any (h : ExtIn w b x q S) (hT : Tab w) (hok : S.Ok) (d : Int) (g1 : -9223372036854775808 ≤ d) (g2 : d < 9223372036854775808) :
    Calls Tryd.prog 12 #[.pointer (some ⟨b, 0, none⟩), .int .i64 d] w fun e w' => ∃ v S', e = .returned v ∧ TakeE S d v S' ∧ ExtIn w' b x q S' ∧ Turn (EFoot b x q S) w w' := by
  have HL := hide (fun (w1 : World) (hi : ExtIn w1 b x q S) => hi.look d g1 g2)
  have HH := hide h
  have k0 := h.c0
  have HT := hide hT
  clear hT
  have hlt := h.head.lt
  cases hd : inE S d with
  | false =>
    rw [lookV_out hd] at HL
    have HD := hide hd
    clear h hd
    go_enter Tryd.func12, Tryd.ntmps12
    go_wp2_with (first
      | (refine wpList_alloc_blk rfl 36 rfl _ (Tryd.zeroValue36 _) ?_; intro w1 hb1 hl1 hs1; clear hs1; have hi1 := HH.out.later hl1; have HI1 := hide hi1; have k1 := hi1.c0; clear hi1)
      | (refine wpList_look rfl 42 (.tmp 14) (.tmp 15) true rfl (.map (some x)) (.int .i64 d) rfl rfl _ (HL.out _ HI1.out) ?_)
      | (refine wpList_build_is rfl 36 #[] rfl [] (by simp) _ ext2_built0 ?_)
      | (refine wpList_store_all rfl 36 (.tmp 4) (.tmp 21) rfl w.heap.size 36 _ hb1 rfl [.int .i64 0, .int .i64 0] rfl ext2_info rfl (ext2_one _ _) ?_; intro w2 hb2 hg2 hs2; clear hs2))
    have hlw : Below w.heap.size w w2 := hl1.grown hg2 hl1.size (fun g e => by injection e with e; omega)
    refine ret_cell_tmp rfl w.heap.size 36 [.int .i64 0, .int .i64 0] _ hb2 rfl Tryd.underlying36 rfl ext2_info _ rfl rfl ?_
    exact ⟨_, S, rfl, .inl ⟨HD.out, rfl, rfl⟩, HH.out.later hlw, Turn.of_below hlw⟩
  | true =>
    obtain ⟨m, rfl, hm⟩ := inE_nat hd
    rw [lookV_in hm] at HL
    have HM := hide (h.mem m hm)
    have HK := hide hm
    have hnm := hok.small m hm
    clear h hd hm
    go_enter Tryd.func12, Tryd.ntmps12
    go_wp2_with (first
      | (refine wpList_alloc_blk rfl 36 rfl _ (Tryd.zeroValue36 _) ?_; intro w1 hb1 hl1 hs1; clear hs1; have hi1 := HH.out.later hl1; have HI1 := hide hi1; have k1 := hi1.c0; clear hi1)
      | (refine wpList_look rfl 42 (.tmp 14) (.tmp 15) true rfl (.map (some x)) (.int .i64 (m : Int)) rfl rfl _ (HL.out _ HI1.out) ?_))
    refine (take_any (HI1.out.mem m HK.out) (HT.out.later hl1)).mono ?_
    rintro _ w2 ⟨k, ok, rfl, hN, hm2, hg2⟩
    have HN := hide hN
    have HM2 := hide hm2
    have HG2 := hide hg2
    have hqlt := (HI1.out.mem m HK.out).lt
    have hqlt0 := HM.out.lt
    have hb12 := hb1.grown hg2 (fun e => by injection e with e; omega)
    have hB1 := hide hb12
    clear hN hm2 hg2 hb1 hb12
    cases ok
    · have hS2 := HI1.out.setT HK.out HM2.out HG2.out
      have hsame : S.setT m (S.t m) = S := by
        unfold Ext.setT
        have : upd S.t m (S.t m) = S.t := by funext j; by_cases e : j = m <;> simp [upd, e]
        rw [this]
      have HS2 : Hid (ExtIn w2 b x q S) := hide (by simpa [hsame] using hS2)
      clear hS2 hsame
      have hall : ∀ i, i < S.n m → S.t m i = true := by
        rcases HN.out with ⟨h, _⟩ | ⟨_, _, h⟩
        · cases h
        · exact fun i hi => h i (Nat.zero_le _) hi
      have HA := hide hall
      clear hall
      go_wp2_with (first
        | (refine wpList_build_is rfl 36 #[] rfl [] (by simp) _ ext2_built0 ?_)
        | (refine wpList_store_all rfl 36 (.tmp 4) (.tmp 29) rfl w.heap.size 36 _ hB1.out rfl [.int .i64 0, .int .i64 0] rfl ext2_info rfl (ext2_one _ _) ?_; intro w3 hb3 hg3 hs3; clear hs3))
      refine ret_cell_tmp rfl w.heap.size 36 [.int .i64 0, .int .i64 0] _ hb3 rfl Tryd.underlying36 rfl ext2_info _ rfl rfl ?_
      refine ⟨_, S, rfl, .inr (.inl ⟨m, rfl, HK.out, HA.out, rfl, rfl⟩), HS2.out.kept fun y hy => hg3.block y (HS2.out.foot_lt y hy) (fun e => ?_), ((Turn.of_below hl1).grown HG2.out (fun g e => ?_)).grown hg3 (fun g e => ?_)⟩
      · injection e with e
        subst e
        exact absurd (HH.out.foot_lt _ hy) (by omega)
      · injection e with e
        subst e
        exact .inl (.inr (.inr ⟨m, HK.out, rfl⟩))
      · injection e with e
        exact .inr (by omega)
    · obtain ⟨hk, hf, hall⟩ : k < S.n m ∧ S.t m k = false ∧ ∀ i, i < k → S.t m i = true := by
        rcases HN.out with ⟨_, _, h1, h2, h3⟩ | ⟨h, _⟩
        · exact ⟨h1, h2, fun i hi => h3 i (Nat.zero_le _) hi⟩
        · cases h
      have hS2 := HI1.out.setT HK.out HM2.out HG2.out
      have HS2 : Hid (ExtIn w2 b x q (S.setT m (put (S.t m) k true))) := hide (by simpa using hS2)
      have HA := hide hall
      have HF := hide hf
      clear hS2 hall hf
      go_wp2_with (first
        | (go_at_call 15; refine (extPlace_any (k : Int) (by omega) (by omega)).mono ?_; rintro _ _ ⟨rfl, rfl⟩)
        | (refine wpList_build_is rfl 36 #[(0, .tmp 30), (1, .tmp 32)] rfl [(0, .int .i64 (m : Int)), (1, .int .i64 (114 + 8 * (k : Int)))] (by simp only [List.map_toArray, List.map_cons, List.map_nil]; rfl) _ (ext2_built _ _) ?_)
        | (refine wpList_store_all rfl 36 (.tmp 4) (.tmp 33) rfl w.heap.size 36 _ hB1.out rfl [.int .i64 (m : Int), .int .i64 (114 + 8 * (k : Int))] rfl ext2_info rfl (ext2_one _ _) ?_; intro w3 hb3 hg3 hs3; clear hs3))
      refine ret_cell_tmp rfl w.heap.size 36 [.int .i64 (m : Int), .int .i64 (114 + 8 * (k : Int))] _ hb3 rfl Tryd.underlying36 rfl ext2_info _ rfl rfl ?_
      refine ⟨_, _, rfl, .inr (.inr ⟨m, k, rfl, HK.out, hk, HF.out, HA.out, rfl, rfl⟩), HS2.out.kept fun y hy => hg3.block y (HS2.out.foot_lt y hy) (fun e => ?_), ((Turn.of_below hl1).grown HG2.out (fun g e => ?_)).grown hg3 (fun g e => ?_)⟩
      · injection e with e
        subst e
        exact absurd (HH.out.foot_lt _ hy) (by omega)
      · injection e with e
        subst e
        exact .inl (.inr (.inr ⟨m, HK.out, rfl⟩))
      · injection e with e
        exact .inr (by omega)
end
#print axioms extTake_any
end Go.Proofs.YtmaiikmgpeafkabDoor
