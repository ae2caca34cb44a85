/- What the laws of stage 6 have in common: the small case; Take in its three ways. -/
import Derived.Test.YtmaiikmgpeafkabDoorExtA
import Derived.Test.YtmaiikmgpeafkabDoorExtS
import Derived.Test.YtmaiikmgpeafkabDoorWhen
import Derived.Test.YtmaiikmgpeafkabDoorTwoRows
namespace Go.Proofs.YtmaiikmgpeafkabDoor
open Go.RowKit

theorem Turn.below_ {w w' : World} {F : Nat → Prop} (h : Turn F w w') {B : Nat} (hB : B ≤ w.heap.size) (hF : ∀ x, F x → B ≤ x) : Below B w w' :=
  ⟨h.os, h.tape, h.output, h.size, fun i hi => h.block i (by omega) (fun hf => by have := hF i hf; omega)⟩
section
variable {w : World} {b : Nat} {F : Nat → Prop} {S : Ext}
theorem on_take_out (h : ExtOn w b F S) (hT : Tab w) (d : Int) (g1 : -9223372036854775808 ≤ d) (g2 : d < 9223372036854775808) (hd : inE S d = false) :
    Calls Tryd.prog 12 #[.pointer (some ⟨b, 0, none⟩), .int .i64 d] w fun e w' => e = .returned (.tuple #[.agg #[.int .i64 0, .int .i64 0], .int .i64 8]) ∧ ExtOn w' b F S ∧ Turn F w w' := by
  refine (on_take h hT d g1 g2).mono fun e w' ⟨v, S', k1, k2, k3, k4⟩ => ?_
  rcases k2 with ⟨_, rfl, rfl⟩ | ⟨m, rfl, hm, _⟩ | ⟨m, k, rfl, hm, _⟩
  · exact ⟨k1, k3, k4⟩
  · rw [inE_of hm] at hd; cases hd
  · rw [inE_of hm] at hd; cases hd
theorem on_take_full (h : ExtOn w b F S) (hT : Tab w) (m : Nat) (hm : m ∈ S.ks) (hall : ∀ i, i < S.n m → S.t m i = true) :
    Calls Tryd.prog 12 #[.pointer (some ⟨b, 0, none⟩), .int .i64 (m : Int)] w fun e w' => e = .returned (.tuple #[.agg #[.int .i64 0, .int .i64 0], .int .i64 4]) ∧ ExtOn w' b F S ∧ Turn F w w' := by
  have hlt := h.ok.lt m hm
  refine (on_take h hT (m : Int) (by omega) (by omega)).mono fun e w' ⟨v, S', k1, k2, k3, k4⟩ => ?_
  rcases k2 with ⟨hd, _⟩ | ⟨m', e1, _, _, rfl, rfl⟩ | ⟨m', k, e1, _, h1, h2, _⟩
  · rw [inE_of hm] at hd; cases hd
  · exact ⟨k1, k3, k4⟩
  · obtain rfl : m = m' := by omega
    rw [hall k h1] at h2
    cases h2
theorem on_take_yes (h : ExtOn w b F S) (hT : Tab w) (m k : Nat) (hm : m ∈ S.ks) (hk : k < S.n m) (ht : S.t m k = false) (hall : ∀ i, i < k → S.t m i = true) :
    Calls Tryd.prog 12 #[.pointer (some ⟨b, 0, none⟩), .int .i64 (m : Int)] w fun e w' => e = .returned (.tuple #[.agg #[.int .i64 (m : Int), .int .i64 (114 + 8 * (k : Int))], .int .i64 0]) ∧ ExtOn w' b F (S.setT m (put (S.t m) k true)) ∧ Turn F w w' := by
  have hlt := h.ok.lt m hm
  refine (on_take h hT (m : Int) (by omega) (by omega)).mono fun e w' ⟨v, S', k1, k2, k3, k4⟩ => ?_
  rcases k2 with ⟨hd, _⟩ | ⟨m', e1, _, ha, _⟩ | ⟨m', k', e1, _, h1, h2, h3, rfl, rfl⟩
  · rw [inE_of hm] at hd; cases hd
  · obtain rfl : m = m' := by omega
    rw [ha k hk] at ht
    cases ht
  · obtain rfl : m = m' := by omega
    obtain rfl : k = k' := by
      rcases Nat.lt_trichotomy k k' with hlt | rfl | hlt
      · rw [h3 k hlt] at ht; cases ht
      · rfl
      · rw [hall k' hlt] at h2; cases h2
    exact ⟨k1, k3, k4⟩
end
theorem setT_t (S : Ext) (d : Nat) (t : Nat → Bool) : (S.setT d t).t d = t := upd_self _ _ _
theorem setT_ne (S : Ext) {d e : Nat} (t : Nat → Bool) (h : e ≠ d) : (S.setT d t).t e = S.t e := upd_ne _ _ h
def Two : Ext := Ext.none_.add 3 2
theorem ext_fields : Tryd.prog.underlying 36 = some (.struct (Tryd.prog.fieldsOf 36)) := by kernel_rfl
theorem ext_stood : Tryd.prog.stoodInHeld 36 = false := by kernel_rfl
theorem ext_guard : Tryd.prog.eqGuardType Tryd.prog.depth 36 = false := by kernel_rfl
theorem ext_fieldsL : (Tryd.prog.fieldsOf 36).toList.map (fun f => (f.name, f.type, f.offset)) = [("Disk", 3, 0), ("At", 3, 1)] := by kernel_rfl
theorem ext2_built1 (b : Int) : Tryd.prog.built 36 [(1, .int .i64 b)] = some #[.int .i64 0, .int .i64 b] := by kernel_rfl
theorem ext2_built2 (a : Int) : Tryd.prog.built 36 [(0, .int .i64 a)] = some #[.int .i64 a, .int .i64 0] := by kernel_rfl
set_option maxRecDepth 100000 in
theorem run_eql_ext (a1 a2 b1 b2 : Int) (w : World) : (binOp .eql 36 (.agg #[.int .i64 a1, .int .i64 a2]) (.agg #[.int .i64 b1, .int .i64 b2])).run Tryd.prog w = .ok (.bool (decide (a1 = b1) && decide (a2 = b2))) w := by
  have h := run_equalIn_struct (P := Tryd.prog) w 9999 36 #[.int .i64 a1, .int .i64 a2] #[.int .i64 b1, .int .i64 b2] ext_fields ext_stood
  have hl := ext_fieldsL
  generalize (Tryd.prog.fieldsOf 36).toList = fs at h hl
  rcases fs with _ | ⟨f0, _ | ⟨f1, _ | ⟨f2, fs⟩⟩⟩ <;> simp at hl
  obtain ⟨⟨n0, t0, o0⟩, n1, t1, o1⟩ := hl
  have p0 : ∀ (x y : Int), (part f0.type #[.int .i64 x, .int .i64 y] f0.offset).run Tryd.prog w = .ok (.int .i64 x) w := fun x y => by rw [t0, o0]; exact run_part_plain (P := Tryd.prog) w (by kernel_rfl) (xs := #[.int .i64 x, .int .i64 y]) (off := 0) (v := .int .i64 x) rfl
  have p1 : ∀ (x y : Int), (part f1.type #[.int .i64 x, .int .i64 y] f1.offset).run Tryd.prog w = .ok (.int .i64 y) w := fun x y => by rw [t1, o1]; exact run_part_plain (P := Tryd.prog) w (by kernel_rfl) (xs := #[.int .i64 x, .int .i64 y]) (off := 1) (v := .int .i64 y) rfl
  have e0 : ∀ x y : Int, (Op.equalIn 9999 f0.type (.int .i64 x) (.int .i64 y)).run Tryd.prog w = .ok (x == y) w := fun x y => by rw [t0]; exact run_equalIn_int (P := Tryd.prog) w 9998 3 .i64 .i64 x y Tryd.underlying3
  have e1 : ∀ x y : Int, (Op.equalIn 9999 f1.type (.int .i64 x) (.int .i64 y)).run Tryd.prog w = .ok (x == y) w := fun x y => by rw [t1]; exact run_equalIn_int (P := Tryd.prog) w 9998 3 .i64 .i64 x y Tryd.underlying3
  rw [run_eql_struct, h]
  simp only [Op.eqFields]
  by_cases h1 : a1 = b1 <;> by_cases h2 : a2 = b2 <;> simp [n0, n1, p0, p1, e0, e1, h1, h2]
section
variable {ops : Array Oper} {rest : List Oper} {o : Oper} {a : Act} {w : World} {Q : Exit → Act → World → Prop}
theorem when_eql_ext (hw : Region.wanted o (yielded ops a.tmps) = true) (p q : Operand) (tr : TypeId) (ho : o.op = .binOp .eql 36 p q tr) (a1 a2 b1 b2 : Int)
    (hp : a.eval p = .agg #[.int .i64 a1, .int .i64 a2]) (hq : a.eval q = .agg #[.int .i64 b1, .int .i64 b2]) (r : Bool) (hr : (decide (a1 = b1) && decide (a2 = b2)) = r) (h : wpList Tryd.prog ops Q rest (a.put o.dst (.bool r)) w) : wpList Tryd.prog ops Q (o :: rest) a w :=
  when_gives hw (.bool r) (by
    unfold execOp
    simp only [ho, hp, hq, Sem.run_bind, run_eqGuard_agg w .eql 36 p q _ _ ext_guard, Result.andThen_ok, run_eql_ext a1 a2 b1 b2 w, Sem.run_pure, hr]) h
end
theorem Blk.turned {F : Nat → Prop} {g : Nat} {t : TypeId} {cs : Array Value} {a c : World} (h : Blk a g t cs) (hu : Turn F a c) (hg : ¬ F g) : Blk c g t cs := h.of_block (hu.block g h.lt hg)
set_option maxRecDepth 100000 in
set_option maxHeartbeats 8000000 in
theorem shown6_any (w : World) (hT : Tab w) : Calls Tryd.prog 4 #[] w fun e w' => e = .returned (.bool true) ∧ Below w.heap.size w w' := by
  have HT := hide hT
  have hpos := hT.pos
  clear hT
  go_enter Tryd.func4, Tryd.ntmps4
  go_wp2_with fail
  refine (on_new w hpos).mono ?_
  rintro _ w1 ⟨rfl, ho1, hl1, hs1⟩
  have HO1 := hide ho1
  obtain ⟨b, hb⟩ : ∃ b, b = w.heap.size + 1 := ⟨_, rfl⟩
  rw [← hb] at HO1 ⊢
  clear ho1 hb
  go_wp2_with fail
  refine (on_add HO1.out (by decide) 3 130 (by decide) (by decide)).mono ?_
  rw [show addE Ext.none_ 3 130 = 0 from by decide]
  rintro _ w2 ⟨rfl, ho2, ht2⟩
  have hw2 : Below w.heap.size w w2 := hl1.trans (ht2.below_ (by omega) (fun y hy => by omega))
  have hF2 : ∀ y, Grew (fun y => w.heap.size ≤ y ∧ y < w.heap.size + 2) w1 w2 y → w.heap.size ≤ y := fun y hy => by rcases hy with hy | hy <;> omega
  generalize Grew (fun y => w.heap.size ≤ y ∧ y < w.heap.size + 2) w1 w2 = F at ho2 hF2
  have hS2 : Ext.none_.more 3 130 = Ext.none_.add 3 2 := by unfold Ext.more; rw [show addE Ext.none_ 3 130 = 0 from by decide]; rfl
  rw [hS2] at ho2
  have hin : (3 : Nat) ∈ (Ext.none_.add 3 2).ks := by simp [Ext.add, Ext.none_]
  have hn3 : (Ext.none_.add 3 2).n 3 = 2 := rfl
  have htq : (Ext.none_.add 3 2).t 3 = fun _ => false := rfl
  have hks : (Ext.none_.add 3 2).ks = [3] := rfl
  generalize Ext.none_.add 3 2 = S at ho2 hin hn3 htq hks
  have HO2 := hide ho2
  have HF := hide hF2
  have HW2 := hide hw2
  have HT2 := hide (HT.out.later (hw2))
  have HIN := hide hin
  have HN3 := hide hn3
  have HTQ := hide htq
  have HKS := hide hks
  clear ho2 ht2 hF2 hw2 hS2 hin hn3 htq hks hl1 hs1 HO1
  have HFL := hide (fun y hy => (HO2.out.1 y hy).2)
  have hz2b : w2.heap.size ≤ w2.heap.size := Nat.le_refl _
  go_wp2_with fail
  refine (on_take_yes HO2.out HT2.out 3 0 HIN.out (by rw [HN3.out]; omega) (by rw [HTQ.out]) (fun i hi => absurd hi (by omega))).mono ?_
  rintro _ v2 ⟨rfl, ho, ht⟩
  have hw : Below w.heap.size w v2 := HW2.out.trans (ht.below_ HW2.out.size HF.out)
  have hsz := ht.size
  have hTv := HT2.out.turned ht (fun h => by have := HF.out _ h; omega)
  go_wp2_with (first
    | ((with_reducible refine at_slot 2 ?_); refine wpList_alloc_blk rfl 36 rfl _ (Tryd.zeroValue36 _) ?_; intro u2 hba hla hsa; clear hsa)
    | ((with_reducible refine at_store 2 ?_); refine wpList_store_all rfl 36 (.tmp 2) (.tmp 25) rfl v2.heap.size 36 _ hba rfl [.int .i64 3, .int .i64 (114 + 8 * ((0 : Nat) : Int))] rfl ext2_info rfl (ext2_one _ _) ?_; intro w3 hbq hg hs))
  have hl : Below v2.heap.size v2 w3 := hla.grown hg hla.size (fun g e => by injection e with e; omega)
  have hz3 : w2.heap.size ≤ v2.heap.size := by omega
  have HO3 := hide (ho.later hl)
  have HT3 := hide (hTv.later hl)
  have HW3 := hide (hw.trans (hl.mono hw.size))
  have HB3 := hide hbq
  have hz3b : w2.heap.size ≤ w3.heap.size := by have := hl.size; omega
  clear hw hTv hba hla hbq hg hs hl ho ht hsz
  have HX3 : Hid ((S.setT 3 (put (S.t 3) 0 true)).t 3 = put (fun _ => false) 0 true) := hide (by rw [setT_t, HTQ.out])
  go_wp2_with fail
  refine (on_take_yes HO3.out HT3.out 3 1 HIN.out (by show 1 < S.n 3; rw [HN3.out]; omega) (by rw [HX3.out]; rfl) (fun i hi => by rw [HX3.out]; obtain rfl : i = 0 := (by omega); rfl)).mono ?_
  rintro _ v3 ⟨rfl, ho, ht⟩
  have hw : Below w.heap.size w v3 := HW3.out.trans (ht.below_ HW3.out.size HF.out)
  have hsz := ht.size
  have hTv := HT3.out.turned ht (fun h => by have := HF.out _ h; omega)
  have hb3v := HB3.out.turned ht (fun h => by have := HFL.out _ h; omega)
  go_wp2_with (first
    | ((with_reducible refine at_slot 4 ?_); refine wpList_alloc_blk rfl 36 rfl _ (Tryd.zeroValue36 _) ?_; intro u3 hba hla hsa; clear hsa)
    | ((with_reducible refine at_store 4 ?_); refine wpList_store_all rfl 36 (.tmp 4) (.tmp 30) rfl v3.heap.size 36 _ hba rfl [.int .i64 3, .int .i64 (114 + 8 * ((1 : Nat) : Int))] rfl ext2_info rfl (ext2_one _ _) ?_; intro w4 hbq hg hs))
  have hl : Below v3.heap.size v3 w4 := hla.grown hg hla.size (fun g e => by injection e with e; omega)
  have hz4 : w2.heap.size ≤ v3.heap.size := by omega
  have HO4 := hide (ho.later hl)
  have HT4 := hide (hTv.later hl)
  have HW4 := hide (hw.trans (hl.mono hw.size))
  have HB4 := hide hbq
  have HB3 := hide (hb3v.below hl hb3v.lt)
  have hz4b : w2.heap.size ≤ w4.heap.size := by have := hl.size; omega
  clear hw hTv hba hla hbq hg hs hl ho ht hsz hb3v
  have HX4 : Hid (((S.setT 3 (put (S.t 3) 0 true)).setT 3 (put ((S.setT 3 (put (S.t 3) 0 true)).t 3) 1 true)).t 3 = put (put (fun _ => false) 0 true) 1 true) := hide (by rw [setT_t, HX3.out])
  go_wp2_with fail
  refine (on_take_full HO4.out HT4.out 3 HIN.out (fun i hi => by rw [HX4.out]; have hi : i < S.n 3 := hi; rw [HN3.out] at hi; match i, hi with | 0, _ => rfl | 1, _ => rfl)).mono ?_
  rintro _ v4 ⟨rfl, ho, ht⟩
  have hw : Below w.heap.size w v4 := HW4.out.trans (ht.below_ HW4.out.size HF.out)
  have hsz := ht.size
  have hTv := HT4.out.turned ht (fun h => by have := HF.out _ h; omega)
  have hb3v := HB3.out.turned ht (fun h => by have := HFL.out _ h; omega)
  have hb4v := HB4.out.turned ht (fun h => by have := HFL.out _ h; omega)
  go_wp2_with (first
    | ((with_reducible refine at_slot 6 ?_); refine wpList_alloc_blk rfl 36 rfl _ (Tryd.zeroValue36 _) ?_; intro u4 hba hla hsa; clear hsa)
    | ((with_reducible refine at_store 6 ?_); refine wpList_store_all rfl 36 (.tmp 6) (.tmp 35) rfl v4.heap.size 36 _ hba rfl [.int .i64 0, .int .i64 0] rfl ext2_info rfl (ext2_one _ _) ?_; intro w5 hbq hg hs))
  have hl : Below v4.heap.size v4 w5 := hla.grown hg hla.size (fun g e => by injection e with e; omega)
  have hz5 : w2.heap.size ≤ v4.heap.size := by omega
  have HO5 := hide (ho.later hl)
  have HT5 := hide (hTv.later hl)
  have HW5 := hide (hw.trans (hl.mono hw.size))
  have HB5 := hide hbq
  have HB3 := hide (hb3v.below hl hb3v.lt)
  have HB4 := hide (hb4v.below hl hb4v.lt)
  have hz5b : w2.heap.size ≤ w5.heap.size := by have := hl.size; omega
  clear hw hTv hba hla hbq hg hs hl ho ht hsz hb3v hb4v
  go_wp2_with fail
  refine (on_take_out HO5.out HT5.out 4 (by decide) (by decide) (by unfold inE; show (decide ((0 : Int) ≤ 4) && decide ((4 : Int).toNat ∈ S.ks)) = false; rw [HKS.out]; decide)).mono ?_
  rintro _ v5 ⟨rfl, ho, ht⟩
  have hw : Below w.heap.size w v5 := HW5.out.trans (ht.below_ HW5.out.size HF.out)
  have hsz := ht.size
  have hTv := HT5.out.turned ht (fun h => by have := HF.out _ h; omega)
  have hb3v := HB3.out.turned ht (fun h => by have := HFL.out _ h; omega)
  have hb4v := HB4.out.turned ht (fun h => by have := HFL.out _ h; omega)
  go_wp2_with (first
    | ((with_reducible refine at_slot 8 ?_); refine wpList_alloc_blk rfl 36 rfl _ (Tryd.zeroValue36 _) ?_; intro u5 hba hla hsa; clear hsa)
    | ((with_reducible refine at_store 8 ?_); refine wpList_store_all rfl 36 (.tmp 8) (.tmp 40) rfl v5.heap.size 36 _ hba rfl [.int .i64 0, .int .i64 0] rfl ext2_info rfl (ext2_one _ _) ?_; intro w6 hbq hg hs))
  have hl : Below v5.heap.size v5 w6 := hla.grown hg hla.size (fun g e => by injection e with e; omega)
  have hz6 : w2.heap.size ≤ v5.heap.size := by omega
  have HO6 := hide (ho.later hl)
  have HT6 := hide (hTv.later hl)
  have HW6 := hide (hw.trans (hl.mono hw.size))
  have HB6 := hide hbq
  have HB3 := hide (hb3v.below hl hb3v.lt)
  have HB4 := hide (hb4v.below hl hb4v.lt)
  have hz6b : w2.heap.size ≤ w6.heap.size := by have := hl.size; omega
  clear hw hTv hba hla hbq hg hs hl ho ht hsz hb3v hb4v
  go_wp2_with fail
  refine (extIndex_any 130 (by decide) (by decide)).mono ?_
  rw [show idxI 130 = 2 from by decide, show okI 130 = true from by decide]
  rintro _ _ ⟨rfl, rfl⟩
  go_wp2_with fail
  refine (extIndex_any 115 (by decide) (by decide)).mono ?_
  rw [show idxI 115 = 0 from by decide, show okI 115 = false from by decide]
  rintro _ _ ⟨rfl, rfl⟩
  go_wp2_with (first
    | ((with_reducible refine at_slot 50 ?_); refine when_load rfl 36 (.tmp 2) rfl v2.heap.size 0 36 _ HB3.out rfl [.int .i64 3, .int .i64 (114 + 8 * ((0 : Nat) : Int))] _ (fun j v hj => by rw [Nat.zero_add]; simpa [Value.cells] using hj) Tryd.underlying36 rfl ext2_info ?_)
    | ((with_reducible refine at_slot 51 ?_); refine when_build rfl 36 #[(0, .const (.int .i64 3)), (1, .const (.int .i64 114))] rfl [(0, .int .i64 3), (1, .int .i64 114)] (by simp only [List.map_toArray, List.map_cons, List.map_nil]; rfl) _ (ext2_built _ _) ?_)
    | ((with_reducible refine at_slot 52 ?_); refine when_eql_ext rfl (.tmp 50) (.tmp 51) _ rfl 3 (114 + 8 * ((0 : Nat) : Int)) 3 114 rfl rfl true (by decide) ?_)
    | ((with_reducible refine at_slot 54 ?_); refine when_load rfl 36 (.tmp 4) rfl v3.heap.size 0 36 _ HB4.out rfl [.int .i64 3, .int .i64 (114 + 8 * ((1 : Nat) : Int))] _ (fun j v hj => by rw [Nat.zero_add]; simpa [Value.cells] using hj) Tryd.underlying36 rfl ext2_info ?_)
    | ((with_reducible refine at_slot 55 ?_); refine when_build rfl 36 #[(0, .const (.int .i64 3)), (1, .const (.int .i64 122))] rfl [(0, .int .i64 3), (1, .int .i64 122)] (by simp only [List.map_toArray, List.map_cons, List.map_nil]; rfl) _ (ext2_built _ _) ?_)
    | ((with_reducible refine at_slot 56 ?_); refine when_eql_ext rfl (.tmp 54) (.tmp 55) _ rfl 3 (114 + 8 * ((1 : Nat) : Int)) 3 122 rfl rfl true (by decide) ?_)
    | (go_at_call 14; refine (extCount_any 121 (by decide) (by decide)).mono ?_; rw [show countZ 121 = 0 from by decide]; rintro _ _ ⟨rfl, rfl⟩)
    | (go_at_call 15; refine (extPlace_any 2 (by decide) (by decide)).mono ?_; rintro _ _ ⟨rfl, rfl⟩))
  go_ret
  exact ⟨rfl, HW6.out⟩
#print axioms shown6_any
end Go.Proofs.YtmaiikmgpeafkabDoor
