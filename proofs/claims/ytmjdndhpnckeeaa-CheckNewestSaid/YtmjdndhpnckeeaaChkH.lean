/- A checkpoint that begins with a part, out of the rows of an area; the newest of an area. -/
import Derived.Test.YtmjdndhpnckeeaaChkM
import Derived.Test.YtmjdndhpnckeeaaTwoRows
import Derived.Test.YtmjdndhpnckeeaaWhen
import Derived.Test.YtmjdndhpnckeeaaPoke
namespace Go.Proofs.Ytmjdndhpnckeeaa
open Go.RowKit
set_option maxRecDepth 100000 in
set_option maxHeartbeats 1000000 in
theorem run_eql_tagK (a b : Tg) (w : World) : (binOp .eql 105 (tagV a) (tagV b)).run Try.prog w = .ok (.bool (sameT a b)) w := by
  obtain ⟨a1, a2, a3, a4, a5⟩ := a
  obtain ⟨b1, b2, b3, b4, b5⟩ := b
  have h := run_equalIn_struct (P := Try.prog) w 9999 105 (tagC ⟨a1, a2, a3, a4, a5⟩).toArray (tagC ⟨b1, b2, b3, b4, b5⟩).toArray tag_fields tag_stood
  have hl := tag_fieldsL
  generalize (Try.prog.fieldsOf 105).toList = fs at h hl
  rcases fs with _ | ⟨f0, _ | ⟨f1, _ | ⟨f2, _ | ⟨f3, _ | ⟨f4, _ | ⟨f5, fs⟩⟩⟩⟩⟩⟩ <;> simp at hl
  obtain ⟨⟨n0, t0, o0⟩, ⟨n1, t1, o1⟩, ⟨n2, t2, o2⟩, ⟨n3, t3, o3⟩, n4, t4, o4⟩ := hl
  have p0 : ∀ (x y z u v : Int), (part f0.type (tagC ⟨x, y, z, u, v⟩).toArray f0.offset).run Try.prog w = .ok (.int .i64 x) w := fun x y z u v => by rw [t0, o0]; exact run_part_plain (P := Try.prog) w (by kernel_rfl) (xs := (tagC ⟨x, y, z, u, v⟩).toArray) (off := 0) (v := .int .i64 x) rfl
  have p1 : ∀ (x y z u v : Int), (part f1.type (tagC ⟨x, y, z, u, v⟩).toArray f1.offset).run Try.prog w = .ok (.int .i64 y) w := fun x y z u v => by rw [t1, o1]; exact run_part_plain (P := Try.prog) w (by kernel_rfl) (xs := (tagC ⟨x, y, z, u, v⟩).toArray) (off := 1) (v := .int .i64 y) rfl
  have p2 : ∀ (x y z u v : Int), (part f2.type (tagC ⟨x, y, z, u, v⟩).toArray f2.offset).run Try.prog w = .ok (.int .i64 z) w := fun x y z u v => by rw [t2, o2]; exact run_part_plain (P := Try.prog) w (by kernel_rfl) (xs := (tagC ⟨x, y, z, u, v⟩).toArray) (off := 2) (v := .int .i64 z) rfl
  have p3 : ∀ (x y z u v : Int), (part f3.type (tagC ⟨x, y, z, u, v⟩).toArray f3.offset).run Try.prog w = .ok (.int .i64 u) w := fun x y z u v => by rw [t3, o3]; exact run_part_plain (P := Try.prog) w (by kernel_rfl) (xs := (tagC ⟨x, y, z, u, v⟩).toArray) (off := 3) (v := .int .i64 u) rfl
  have p4 : ∀ (x y z u v : Int), (part f4.type (tagC ⟨x, y, z, u, v⟩).toArray f4.offset).run Try.prog w = .ok (.int .i64 v) w := fun x y z u v => by rw [t4, o4]; exact run_part_plain (P := Try.prog) w (by kernel_rfl) (xs := (tagC ⟨x, y, z, u, v⟩).toArray) (off := 4) (v := .int .i64 v) rfl
  have e0 : ∀ x y : Int, (Op.equalIn 9999 f0.type (.int .i64 x) (.int .i64 y)).run Try.prog w = .ok (x == y) w := fun x y => by rw [t0]; exact run_equalIn_int (P := Try.prog) w 9998 3 .i64 .i64 x y Try.underlying3
  have e1 : ∀ x y : Int, (Op.equalIn 9999 f1.type (.int .i64 x) (.int .i64 y)).run Try.prog w = .ok (x == y) w := fun x y => by rw [t1]; exact run_equalIn_int (P := Try.prog) w 9998 3 .i64 .i64 x y Try.underlying3
  have e2 : ∀ x y : Int, (Op.equalIn 9999 f2.type (.int .i64 x) (.int .i64 y)).run Try.prog w = .ok (x == y) w := fun x y => by rw [t2]; exact run_equalIn_int (P := Try.prog) w 9998 3 .i64 .i64 x y Try.underlying3
  have e3 : ∀ x y : Int, (Op.equalIn 9999 f3.type (.int .i64 x) (.int .i64 y)).run Try.prog w = .ok (x == y) w := fun x y => by rw [t3]; exact run_equalIn_int (P := Try.prog) w 9998 3 .i64 .i64 x y Try.underlying3
  have e4 : ∀ x y : Int, (Op.equalIn 9999 f4.type (.int .i64 x) (.int .i64 y)).run Try.prog w = .ok (x == y) w := fun x y => by rw [t4]; exact run_equalIn_int (P := Try.prog) w 9998 3 .i64 .i64 x y Try.underlying3
  unfold tagV
  rw [run_eql_struct, h]
  simp only [Op.eqFields]
  by_cases h1 : a1 = b1 <;> by_cases h2 : a2 = b2 <;> by_cases h3 : a3 = b3 <;> by_cases h4 : a4 = b4 <;> by_cases h5 : a5 = b5 <;> simp [n0, n1, n2, n3, n4, p0, p1, p2, p3, p4, e0, e1, e2, e3, e4, h1, h2, h3, h4, h5, sameT]
theorem when_eql_tagK {ops : Array Oper} {rest : List Oper} {o : Oper} {a : Act} {w : World} {Q : Exit → Act → World → Prop} (hw : Region.wanted o (yielded ops a.tmps) = true) (p q : Operand) (tr : TypeId) (ho : o.op = .binOp .eql 105 p q tr)
    (x y : Tg) (hp : a.eval p = tagV x) (hq : a.eval q = tagV y) (r : Bool) (hr : sameT x y = r) (h : wpList Try.prog ops Q rest (a.put o.dst (.bool r)) w) : wpList Try.prog ops Q (o :: rest) a w :=
  when_gives hw (.bool r) (by
    unfold execOp
    have hg := run_eqGuard_agg (P := Try.prog) w .eql 105 p q (tagC x).toArray (tagC y).toArray tag_guard
    have hn := run_eql_tagK x y w
    unfold tagV at hp hq hn
    simp only [ho, hp, hq, Sem.run_bind, hg, Result.andThen_ok, hn, Sem.run_pure, hr]) h
/-- Is a part the one that is looked for? -/
def askK (f : List UInt8) (n i : Nat) (s : List UInt8) : Bool := okT (readT f).gen 0 n i s
set_option maxRecDepth 100000 in
set_option maxHeartbeats 4000000 in
theorem askK_any (f s : List UInt8) (n i gf gi gn : Nat) (w : World) (hp : partB s = true) (hf : Blk w gf 127 (partC f).toArray) (hi : Blk w gi 3 #[.int .i64 (i : Int)]) (hn : Blk w gn 3 #[.int .i64 (n : Int)]) :
    Calls Try.prog 83 #[.agg (partC s).toArray, .pointer (some ⟨gf, 0, none⟩), .pointer (some ⟨gi, 0, none⟩), .pointer (some ⟨gn, 0, none⟩)] w fun e w' => e = .returned (.bool (askK f n i s)) ∧ Below w.heap.size w w' := by
  have hS := same_ok (gen := (readT f).gen) (nr := 0) (n := n) (i := i) hp
  have HF := hide hf
  have HI := hide hi
  have HN := hide hn
  have HTC := hide (show ∀ (j : Nat) (v : Value), (tagC (readT s))[j]? = some v → (partC s).toArray[0 + j]? = some v from fun j v hj => by
    rw [Nat.zero_add]
    unfold partC
    rw [List.getElem?_toArray, List.getElem?_append_left (List.getElem?_eq_some_iff.1 hj).1]
    exact hj)
  have HPC := hide (show (Value.agg (partC s).toArray).cells = (partC s).toArray from rfl)
  clear hf hi hn hp
  go_enter Try.func83, Try.ntmps83
  go_wp2_with (first
    | ((with_reducible refine at_slot 4 ?_); refine wpList_box_blk rfl 127 _ rfl (.agg (partC s).toArray) rfl ?_; intro w1 hb1q hl1 hs1; clear hs1; rw [HPC.out] at hb1q; have HB1 := hide hb1q; have y4 := part_c4 hb1q; have HF1 := hide (HF.out.below hl1 HF.out.lt); have y0 := part_c0 HF1.out; have yi : w1.cell? ⟨gi, 0, none⟩ = some (.int .i64 (i : Int)) := (HI.out.below hl1 HI.out.lt).cell 0; have yn : w1.cell? ⟨gn, 0, none⟩ = some (.int .i64 (n : Int)) := (HN.out.below hl1 HN.out.lt).cell 0; clear hb1q)
    | ((with_reducible refine at_slot 7 ?_); refine wpList_load_blk rfl 105 (.tmp 6) rfl w.heap.size 0 127 _ HB1.out rfl (tagC (readT s)) _ HTC.out Try.underlying105 rfl tag_info ?_)
    | ((with_reducible refine at_slot 16 ?_); refine wpList_build_is rfl 105 _ rfl _ rfl _ (built_tag _ _ _ _ _) ?_)
    | ((with_reducible refine at_slot 17 ?_); refine when_eql_tagK rfl (.tmp 7) (.tmp 16) _ rfl (readT s) ⟨(readT f).gen, 0, (i : Nat), (n : Nat), (readT s).len⟩ rfl rfl _ hS ?_))
  go_ret
  exact ⟨rfl, hl1⟩
#print axioms askK_any
/-- What IndexFunc tells of a row. -/
def IdxR (l : List (List UInt8)) (p : List UInt8 → Bool) (e : Ending) : Prop := (l.find? p = none ∧ e = .returned (.int .i64 (-1))) ∨ ∃ (j : Nat) (s : List UInt8), l[j]? = some s ∧ l.find? p = some s ∧ e = .returned (.int .i64 (j : Int))
theorem find_take {p : List UInt8 → Bool} : ∀ {l : List (List UInt8)} {k : Nat} {s : List UInt8}, (∀ x ∈ l.take k, p x = false) → l[k]? = some s → p s = true → l.find? p = some s
  | [], k, s, _, h, _ => by simp at h
  | x :: l, 0, s, _, h, hp => by
    have e : x = s := by simpa using h
    subst e
    rw [List.find?_cons, hp]
  | x :: l, k + 1, s, ha, h, hp => by
    have hx : p x = false := ha x (by simp)
    rw [List.find?_cons, hx]
    exact find_take (k := k) (fun y hy => ha y (by simp [hy])) (by simpa using h) hp
set_option maxRecDepth 100000 in
set_option maxHeartbeats 4000000 in
theorem indexK_any (f : List UInt8) (N i gf gi gn : Nat) (A : Option Addr) (n c : Nat) (l : List (List UInt8)) (w : World) (hr : Reads w w.heap.size 69 A n (partsV l)) (hll : ∀ s ∈ l, s.length = 64 ∧ part0 s = true) (hn : n = l.length) (hn5 : n ≤ 5) (hf : Blk w gf 127 (partC f).toArray) (hi : Blk w gi 3 #[.int .i64 (i : Int)]) (hgn : Blk w gn 3 #[.int .i64 (N : Int)]) :
    Calls Try.prog 82 #[.slice A n c, .func (.func 83) #[] #[.pointer (some ⟨gf, 0, none⟩), .pointer (some ⟨gi, 0, none⟩), .pointer (some ⟨gn, 0, none⟩)]] w fun e w' => IdxR l (askK f N i) e ∧ Below w.heap.size w w' := by
  have HR := hide hr
  have HL := hide (fun s hs => (hll s hs).1)
  have HP := hide (fun s hs => (show partB s = true from by
    have h := (hll s hs).2
    unfold part0 at h
    rw [Bool.and_eq_true] at h
    exact h.1))
  have HN := hide hn
  have HF := hide hf
  have HI := hide hi
  have HGN := hide hgn
  clear hr hll hn hf hi hgn
  go_enter Try.func82, Try.ntmps82
  go_wp2_with fail
  go_loopw [8] (fun s8 wr => ∃ k : Nat, s8 = .int .i64 (k : Int) ∧ k ≤ n ∧ Hid (∀ x ∈ l.take k, askK f N i x = false) ∧ Hid (Below w.heap.size w wr)) (fun s8 _ => n - (intOf s8).toNat)
  case atStart => exact ⟨0, rfl, Nat.zero_le _, hide (fun x hx => by simp at hx), hide (Below.refl _ _)⟩
  case round =>
    obtain ⟨k, rfl, hk, hno, hl⟩ := hrel
    obtain ⟨wo, rfl⟩ : ∃ wo, wo = wr := ⟨_, rfl⟩
    by_cases hkn : k < n
    · have hkw : (k : Int) < (n : Int) := by omega
      obtain ⟨s, hs⟩ : ∃ s, l[k]? = some s := ⟨l[k]'(by have := HN.out; omega), List.getElem?_eq_getElem _⟩
      obtain ⟨ad, rfl, hab, hcs⟩ := part_cells (HR.out.below hl.out) HL.out hs
      have HCS := hide hcs
      have hsm := List.mem_of_getElem? hs
      have HPI := hide (show (Try.prog.info? 127).map (·.size) = some (partC s).length by rw [partC_length (HL.out s hsm)]; exact part_info)
      have HA := hide (askK_any f s N i gf gi gn wo (HP.out s hsm) (HF.out.below hl.out HF.out.lt) (HI.out.below hl.out HI.out.lt) (HGN.out.below hl.out HGN.out.lt))
      have HSN := hide (show askK f N i s = false → ∀ x ∈ l.take (k + 1), askK f N i x = false from fun h x hx => by
        rw [List.take_add_one, hs] at hx
        rcases List.mem_append.1 hx with hx | hx
        · exact hno.out x hx
        · simp at hx
          rw [hx]
          exact h)
      have HYES := hide (show askK f N i s = true → IdxR l (askK f N i) (.returned (.int .i64 (k : Int))) from fun h => .inr ⟨k, s, hs, find_take hno.out hs h, rfl⟩)
      clear hcs hs hsm
      cases hq : askK f N i s with
      | false =>
        rw [hq] at HA
        have HSN2 := hide (HSN.out hq)
        clear hq
        go_wp2_with (first
          | ((with_reducible refine at_slot 15 ?_); refine wpList_load_at rfl 127 (.tmp 14) rfl (ad.add (k * 69)) rfl (partC s) _ HCS.out Try.underlying127 rfl HPI.out ?_)
          | (go_at_call 83; refine HA.out.mono ?_; rintro _ w2 ⟨rfl, hl2⟩))
        go_roundw
        case rel => exact ⟨k + 1, by simp, by omega, HSN2, hide (hl.out.trans (hl2.mono hl.out.size))⟩
        case measure => simp [intOf]; omega
      | true =>
        rw [hq] at HA
        have HYES2 := hide (HYES.out hq)
        clear hq
        go_wp2_with (first
          | ((with_reducible refine at_slot 15 ?_); refine wpList_load_at rfl 127 (.tmp 14) rfl (ad.add (k * 69)) rfl (partC s) _ HCS.out Try.underlying127 rfl HPI.out ?_)
          | (go_at_call 83; refine HA.out.mono ?_; rintro _ w2 ⟨rfl, hl2⟩))
        go_ret
        exact ⟨HYES2.out, hl.out.trans (hl2.mono hl.out.size)⟩
    · obtain rfl : k = n := by omega
      have HNO := hide (show IdxR l (askK f N i) (.returned (.int .i64 (-1))) from .inl ⟨by
        have h := hno.out
        rw [List.take_of_length_le (by have := HN.out; omega)] at h
        rw [List.find?_eq_none]
        intro x hx
        rw [h x hx]
        decide, rfl⟩)
      go_wp2
      go_ret
      exact ⟨HNO.out, hl.out⟩
#print axioms indexK_any
theorem cint_nought (w : World) : (zeroValue 3).run Try.prog w = .ok (.int .i64 0) w := by kernel_rfl
theorem cint_info1 : (Try.prog.info? 3).map (·.size) = some 1 := by kernel_rfl
theorem own_lumpK (w : World) (F : List Value) (t : TypeId) (size base : Nat) (hF : F.length = size) (hb : base ≤ w.heap.size) : (w.alloc (.cells F.toArray t)).ownsRow base t size (.slice (some ⟨w.heap.size, 0, none⟩) 1 1) 1 F :=
  ⟨by omega, .inr ⟨w.heap.size, 1, F.toArray, rfl, hb, heap_alloc_new _ _, Nat.le_refl _, by decide, by rw [List.size_toArray]; omega, by rw [Nat.one_mul]; exact List.take_of_length_le (by simp; omega)⟩⟩
/-- What checkpoint answers. -/
def CkptR (K : Rows) (s : List UInt8) (w : World) (e : Ending) (w' : World) : Prop :=
  ∃ (R : Option Addr) (k d : Nat), e = .returned (.tuple #[.slice R k d, .bool (thereK K s)]) ∧ k ≤ d ∧ d ≤ maxLen ∧ w'.ownsRow w.heap.size 5 1 (.slice R k d) k (B8 (if thereK K s = true then bytesK K s else [])) ∧ Below w.heap.size w w'
theorem ckpt_no {K : Rows} {s : List UInt8} {w w' : World} (h : thereK K s = false) (hb : Below w.heap.size w w') : CkptR K s w (.returned (.tuple #[.slice none 0 0, .bool false])) w' :=
  ⟨none, 0, 0, by rw [h], Nat.le_refl _, Nat.zero_le _, by rw [if_neg (by rw [h]; decide)]; exact World.ownsRow_nil _ _ _ _, hb⟩
theorem CkptR.later {K : Rows} {s : List UInt8} {w w1 w2 : World} {e : Ending} (h : CkptR K s w1 e w2) (hb : Below w.heap.size w w1) : CkptR K s w e w2 := by
  obtain ⟨R, k, d, h1, h2, h3, h4, h5⟩ := h
  refine ⟨R, k, d, h1, h2, h3, ⟨h4.1, ?_⟩, hb.trans (h5.mono hb.size)⟩
  rcases h4.2 with h6 | ⟨g, cap, cur, q1, q2, q3⟩
  · exact .inl h6
  · exact .inr ⟨g, cap, cur, q1, Nat.le_trans hb.size q2, q3⟩
/-- The sector of a part that lies in a row, or in a variable of its own. -/
theorem sec_in_part {s : List UInt8} {j : Nat} {v : Value} (h : (B8 s)[j]? = some v) : (partC s)[5 + j]? = some v := by
  unfold partC
  rw [List.getElem?_append_right (by simp [tagC])]
  simpa [tagC] using h
theorem indexK_none {f : List UInt8} {N i : Nat} {l : List (List UInt8)} {fn : FuncId} {args : Array Value} {w : World} (h : Calls Try.prog fn args w fun e w' => IdxR l (askK f N i) e ∧ Below w.heap.size w w') (hf : l.find? (askK f N i) = none) : Calls Try.prog fn args w fun e w' => e = .returned (.int .i64 (-1)) ∧ Below w.heap.size w w' :=
  h.mono fun e w' ⟨h1, h2⟩ => by
    rcases h1 with ⟨_, h1⟩ | ⟨j, s, _, h1, _⟩
    · exact ⟨h1, h2⟩
    · rw [hf] at h1
      cases h1
theorem indexK_some {f x : List UInt8} {N i : Nat} {l : List (List UInt8)} {fn : FuncId} {args : Array Value} {w : World} (h : Calls Try.prog fn args w fun e w' => IdxR l (askK f N i) e ∧ Below w.heap.size w w') (hf : l.find? (askK f N i) = some x) : Calls Try.prog fn args w fun e w' => ∃ j : Nat, e = .returned (.int .i64 (j : Int)) ∧ l[j]? = some x ∧ Below w.heap.size w w' :=
  h.mono fun e w' ⟨h1, h2⟩ => by
    rcases h1 with ⟨h1, _⟩ | ⟨j, s, h3, h1, h4⟩
    · rw [hf] at h1
      cases h1
    · rw [hf] at h1
      injection h1 with h1
      exact ⟨j, h4, by rw [h1]; exact h3, h2⟩
set_option maxRecDepth 100000 in
set_option maxHeartbeats 8000000 in
theorem checkpoint_any (vs : List Value) (K : Rows) (s : List UInt8) (w : World) (hK : KepAt w vs K) (hs : s ∈ K 0) :
    Calls Try.prog 72 #[.agg vs.toArray, .agg (partC s).toArray] w (CkptR K s w) := by
  obtain ⟨i0, hi0, hz0, hz1, hz2⟩ := info_parts sec_parts
  have HI0 := hide hi0
  have HZ0 := hide hz0
  have HZ1 := hide hz1
  have HZ2 := hide hz2
  clear hi0 hz0 hz1 hz2
  obtain ⟨hsl, hs0⟩ := hK.long 0 (by decide) s hs
  have HSL := hide hsl
  have HK := hide hK
  have HVC := hide (show (Value.agg vs.toArray).cells = vs.toArray from rfl)
  have HPC := hide (show (Value.agg (partC s).toArray).cells = (partC s).toArray from rfl)
  unfold part0 at hs0
  rw [Bool.and_eq_true, decide_eq_true_eq] at hs0
  obtain ⟨hpb, hnr⟩ := hs0
  have hr := (right_iff _).1 (part_right hpb)
  have hok := readT_ok s
  obtain ⟨N, hN⟩ : ∃ N : Nat, (readT s).parts = (N : Int) := ⟨(readT s).parts.toNat, by have := hok.q0; omega⟩
  have HN := hide hN
  obtain ⟨P, hP⟩ : ∃ P : Int, P = (readT s).part := ⟨_, rfl⟩
  have HPP := hide hP
  by_cases hp : (readT s).part = 0
  · by_cases h32 : N ≤ 32
    · have HF := hide (show firstC s = true by
        unfold firstC
        rw [hpb, Bool.true_and]
        exact decide_eq_true ⟨hnr, hp, by omega⟩)
      have hN1 : 1 ≤ N := by omega
      have hpw : (P != 0) = false := by rw [hP, hp]; rfl
      have hnw : ¬ ((32 : Int) < (N : Int)) := by omega
      have HKL := hide hK.long
      have HGAP := hide (fun (i : Nat) (hi : i < N) (h : pieceK K s i = none) => there_gap (K := K) HF.out HN.out hi h)
      have HJL := hide (fun (h : ∀ k, k < N → ∃ x, pieceK K s k = some x) => join_lump hK.long hsl HF.out HN.out h)
      have HP0 : Hid (pieceK K s 0 = some s) := hide rfl
      obtain ⟨U, hU⟩ : ∃ U, U = B8 s := ⟨_, rfl⟩
      have HUl := hide (show U.length = 64 by rw [hU, B8_length, hsl])
      have HUO := hide (show ∀ v ∈ U, v.oneCell' = true by rw [hU]; exact B8_one _)
      have HIU := hide (show (Try.prog.info? 51).map (·.size) = some U.length by rw [HUl.out]; exact sec_info)
      have HUP := hide (show ∀ (j : Nat) (v : Value), U[j]? = some v → (partC s).toArray[5 + j]? = some v from fun j v hj => by rw [List.getElem?_toArray]; exact sec_in_part (by rw [← hU]; exact hj))
      have HU := hide hU
      clear hs hK hsl hpb hnr hr hok hN hp hP hU
      go_enter Try.func72, Try.ntmps72
      go_wp2_with (first
        | ((with_reducible refine at_slot 2 ?_); refine wpList_box_blk rfl 97 _ rfl (.agg vs.toArray) rfl ?_; intro w1 hb1 hl1 hs1; rw [HVC.out] at hb1; have HB1 := hide hb1; have HL1 := hide hl1; clear hb1 hl1 hs1)
        | ((with_reducible refine at_slot 3 ?_); refine wpList_box_blk rfl 127 _ rfl (.agg (partC s).toArray) rfl ?_; intro w2 hb2 hl2 hs2; rw [HPC.out] at hb2; have HB2 := hide hb2; have HA2 := hide (HB1.out.below hl2 HB1.out.lt); have HL2 := hide (HL1.out.trans (hl2.mono HL1.out.size)); have y2 := part_c2 hb2; have y3 := part_c3 hb2; rw [← HPP.out] at y2; rw [HN.out] at y3; clear hb2 hl2 hs2)
        | ((with_reducible refine at_slot 6 ?_); refine wpList_alloc_blk rfl 3 rfl _ (cint_nought _) ?_; intro w3 hb3q hl3 hs3; have hb3 : Blk w3 w2.heap.size 3 #[.int .i64 0] := hb3q; clear hb3q)
        | ((with_reducible refine at_store 6 ?_); refine wpList_poke rfl 3 (.tmp 6) (.tmp 12) rfl w2.heap.size 0 3 _ hb3 rfl (.int .i64 (N : Int)) rfl rfl cint_info1 (by decide) ?_; intro w4 hb4q hg4 hs4; have hb4 : Blk w4 w2.heap.size 3 #[.int .i64 (N : Int)] := hb4q; have hz3 := hb3.lt; have hl24 : Below w2.heap.size w2 w4 := hl3.grown hg4 (by omega) (fun g e => by injection e with e; omega); have y6 : w4.cell? ⟨w2.heap.size, 0, none⟩ = some (.int .i64 (N : Int)) := hb4.cell 0; have HB4 := hide (HB2.out.below hl24 HB2.out.lt); have HA4 := hide (HA2.out.below hl24 HA2.out.lt); have HN4 := hide hb4; have z2 := part_c2 HB4.out; have HL4 := hide (HL2.out.trans (hl24.mono HL2.out.size)); rw [← HPP.out] at z2; clear hb4q hs4 hg4 hl24 hb3 hb4 hl3 hs3)
        | ((with_reducible refine at_slot 22 ?_); refine wpList_load_blk rfl 51 (.tmp 21) rfl w1.heap.size 5 127 _ HB4.out rfl U _ HUP.out Try.underlying51 rfl HIU.out ?_)
        | ((with_reducible refine at_slot 23 ?_); refine wpList_build_agg _ rfl (.tmp 22) 73 rfl 51 i0 _ 64 Try.underlying73 HI0.out (sec_nought _) HZ1.out (by omega) (by omega) U.toArray rfl (by rw [List.size_toArray]; exact HUl.out) ?_; have hown9 := own_lumpK w4 U 51 64 w4.heap.size HUl.out (Nat.le_refl _); have hl9 : Below w4.heap.size w4 (w4.alloc (.cells U.toArray 51)) := (Below.refl _ _).alloc (Nat.le_refl _) _; have hsz9 := World.size_alloc w4 (.cells U.toArray 51); generalize w4.alloc (.cells U.toArray 51) = w9 at hown9 hl9 hsz9 ⊢; have hgt9 : w4.heap.size < w9.heap.size := (by omega); clear hsz9)
        | ((with_reducible refine at_slot 8 ?_); refine wpList_alloc_blk rfl 3 rfl _ (cint_nought _) ?_; intro w10 hb10q hl10 hs10; have hb10 : Blk w10 w9.heap.size 3 #[.int .i64 0] := hb10q; clear hb10q)
        | ((with_reducible refine at_store 8 ?_); refine wpList_poke rfl 3 (.tmp 8) (.const (.int .i64 1)) rfl w9.heap.size 0 3 _ hb10 rfl (.int .i64 1) rfl rfl cint_info1 (by decide) ?_; intro w11 hb11 hg11 hs11))
      have hl911 : Below w9.heap.size w9 w11 := hl10.grown hg11 (by omega) (fun g e => by injection e with e; omega)
      have hb11' : Blk w11 w9.heap.size 3 #[.int .i64 ((1 : Nat) : Int)] := hb11
      have HI11 := hide hb11'
      have HL411 := hide (hl9.trans (hl911.mono (by omega)))
      have HO11 : Hid (w11.ownsRow w4.heap.size 51 64 (.slice (some ⟨w4.heap.size, 0, none⟩) 1 1) 1 (B8 (lumpK K s 1))) := hide (by
        have h := own_later hown9 hl911
        rw [lump_succ (i := 0) HP0.out]
        rw [HU.out] at h
        exact h)
      have HGI : Hid ((∀ g, (Value.slice (some ⟨w4.heap.size, 0, none⟩) 1 1).ownBlock = some g → g < w9.heap.size) ∧ w4.heap.size ≤ w9.heap.size) := hide ⟨fun g e => by injection e with e; have e2 : w4.heap.size = g := e; omega, by omega⟩
      have HHO : Hid (∀ k, k < 1 → ∃ x, pieceK K s k = some x) := hide (fun k hk => by
        obtain rfl : k = 0 := by omega
        exact ⟨s, HP0.out⟩)
      clear hl911 hb11 hb11' hg11 hs11 hb10 hl10 hs10 hown9 hl9 hgt9 y2 y3 y6 z2
      go_loopw [7, 8] (fun s7 s8 wr => ∃ (k : Nat) (B : Option Addr) (cp gi : Nat), s7 = .slice B k cp ∧ s8 = .pointer (some ⟨gi, 0, none⟩) ∧ 1 ≤ k ∧ k ≤ N ∧ Hid (wr.ownsRow w4.heap.size 51 64 (.slice B k cp) k (B8 (lumpK K s k))) ∧ Hid (Blk wr gi 3 #[.int .i64 (k : Int)]) ∧ Hid ((∀ g, (Value.slice B k cp).ownBlock = some g → g < gi) ∧ w4.heap.size ≤ gi) ∧ Hid (∀ i, i < k → ∃ x, pieceK K s i = some x) ∧ Hid (Below w4.heap.size w4 wr)) (fun s7 _ _ => N - lenOf s7)
      case atStart => exact ⟨1, _, _, _, rfl, rfl, Nat.le_refl _, hN1, HO11, HI11, HGI, HHO, HL411⟩
      case round =>
        obtain ⟨k, B, cp, gi, rfl, rfl, hk1, hkN, hO, hI, hGI, hH, hl⟩ := hrel
        obtain ⟨wo, rfl⟩ : ∃ wo, wo = wr := ⟨_, rfl⟩
        have ci : wo.cell? ⟨gi, 0, none⟩ = some (.int .i64 (k : Int)) := hI.out.cell 0
        have HNo := hide (HN4.out.below hl.out HN4.out.lt)
        have cn : wo.cell? ⟨w2.heap.size, 0, none⟩ = some (.int .i64 (N : Int)) := HNo.out.cell 0
        have HFo := hide (HB4.out.below hl.out HB4.out.lt)
        have HAo := hide (HA4.out.below hl.out HA4.out.lt)
        have HLO := hide (HL4.out.trans (hl.out.mono HL4.out.size))
        by_cases hkn : k < N
        · have hkw : (k : Int) < (N : Int) := by omega
          have hk32 : (k : Int) < 32 := by omega
          have HKo := hide (HK.out.later HLO.out)
          obtain ⟨A, n, c, hv, hn, hr⟩ := HKo.out.row k (by omega)
          have hn5 : n ≤ 5 := by have := HK.out.few k (by omega); omega
          have HV := hide (show ∀ (x : World), Blk x w.heap.size 97 vs.toArray → x.cell? ⟨w.heap.size, k, none⟩ = some (.slice A n c) from fun x hx => by rw [hx.cell k, List.getElem?_toArray]; exact hv)
          have ck := HV.out wo HAo.out
          have hIX := indexK_any s N k w1.heap.size gi w2.heap.size A n c (K k) wo hr (HKL.out k (by omega)) hn hn5 HFo.out hI.out HNo.out
          have HPK := hide (show pieceK K s k = (K k).find? (askK s N k) by
            unfold pieceK
            rw [if_neg (by omega), HN.out, Int.toNat_natCast]
            rfl)
          cases hq : (K k).find? (askK s N k) with
          | none =>
            have HIX := hide (indexK_none hIX hq)
            have HT := hide (HGAP.out k hkn (by rw [HPK.out, hq]))
            clear hIX hq hv hn hr
            go_wp2_with (go_at_call 82; refine HIX.out.mono ?_; rintro _ x2 ⟨rfl, hl2⟩)
            go_ret2
            exact ckpt_no HT.out (HLO.out.trans (hl2.mono HLO.out.size))
          | some x =>
            have HIX := hide (indexK_some hIX hq)
            have HPX := hide (show pieceK K s k = some x by rw [HPK.out, hq])
            have hxm := List.mem_of_find?_eq_some hq
            have hxl := (HKL.out k (by omega) x hxm).1
            have HRW := hide hr
            have HNN := hide hn
            obtain ⟨ad, hA, _⟩ := hr.2 (by have := List.length_pos_of_mem hxm; omega)
            subst hA
            have HSX := hide (show ∀ (x2 : World), Below wo.heap.size wo x2 → ∀ j : Nat, (K k)[j]? = some x → ∀ q v, (B8 x)[q]? = some v → x2.cell? (((ad.add (j * 69)).add 5).add q) = some v from fun x2 hb j hj q v hv => by
              obtain ⟨ad2, e2, _, hcs⟩ := part_cells (HRW.out.below hb) (fun s hs => (HKL.out k (by omega) s hs).1) hj
              injection e2 with e2
              subst e2
              rw [add_of_add]
              exact hcs _ _ (sec_in_part hv))
            obtain ⟨U2, hU2⟩ : ∃ U2, U2 = B8 x := ⟨_, rfl⟩
            have HUl2 := hide (show U2.length = 64 by rw [hU2, B8_length, hxl])
            have HUO2 := hide (show ∀ v ∈ U2, v.oneCell' = true by rw [hU2]; exact B8_one _)
            have HIU2 := hide (show (Try.prog.info? 51).map (·.size) = some U2.length by rw [HUl2.out]; exact sec_info)
            rw [← hU2] at HSX
            have HU2 := hide hU2
            have hk3 : k + 1 ≤ maxLen := by simp only [maxLen]; omega
            have hk4 : (k + 1) * 64 ≤ 140737488355328 := by omega
            have HLS := hide (lump_succ (K := K) (s := s) (i := k) HPX.out)
            have HHN := hide (show ∀ i, i < k + 1 → ∃ x, pieceK K s i = some x from fun i hi => by
              by_cases e : i = k
              · subst e
                exact ⟨x, HPX.out⟩
              · exact hH.out i (by omega))
            clear hIX hq hv hn hr hxm hxl hU2
            go_wp2_with (first
              | (go_at_call 82; refine HIX.out.mono ?_; rintro _ x2 ⟨j, rfl, hj, hl2⟩; have HJ := hide hj; have hjn : j < n := (by have h := (List.getElem?_eq_some_iff.1 hj).1; have := HNN.out; omega); have hjw : (j : Int) < (n : Int) := (by omega); have HO2 := hide (own_later hO.out hl2); have HI2 := hide (hI.out.below hl2 hI.out.lt); have ci2 : x2.cell? ⟨gi, 0, none⟩ = some (.int .i64 (k : Int)) := HI2.out.cell 0; have ck2 := HV.out x2 (HAo.out.below hl2 HAo.out.lt); have HX2 := hide hl2; have HL2' := hide (hl.out.trans (hl2.mono hl.out.size)); have hx2 := hl2.size; clear hl2 hj)
              | ((with_reducible refine at_slot 43 ?_); refine wpList_load_at rfl 51 (.tmp 42) rfl ((ad.add (j * 69)).add 5) rfl U2 _ (HSX.out x2 HX2.out j HJ.out) Try.underlying51 rfl HIU2.out ?_)
              | ((with_reducible refine at_slot 44 ?_); refine wpList_build_agg _ rfl (.tmp 43) 73 rfl 51 i0 _ 64 Try.underlying73 HI0.out (sec_nought _) HZ1.out (by omega) (by omega) U2.toArray rfl (by rw [List.size_toArray]; exact HUl2.out) ?_; have hlump := Reads.lump (w := x2) U2 51 (x2.heap.size + 1) 64 (by omega) HUl2.out; have hl5 : Below x2.heap.size x2 (x2.alloc (.cells U2.toArray 51)) := (Below.refl _ _).alloc (Nat.le_refl _) _; have hsz5 := World.size_alloc x2 (.cells U2.toArray 51); generalize x2.alloc (.cells U2.toArray 51) = x5 at hlump hl5 hsz5 ⊢; have HO5 := hide (own_later HO2.out hl5); have HI5 := hide (HI2.out.below hl5 HI2.out.lt); have HL5' := hide (HL2'.out.trans (hl5.mono HL2'.out.size)); clear hl5)
              | ((with_reducible refine at_slot 45 ?_); refine wpList_append_two _ rfl (.tmp 36) (.tmp 44) 73 rfl w4.heap.size 51 i0 _ 64 64 Try.underlying73 HI0.out HZ0.out HZ1.out HZ2.out rfl (by omega) _ k _ rfl HO5.out (x2.heap.size + 1) (some ⟨x2.heap.size, 0, none⟩) 1 1 U2 rfl hlump HUO2.out hk3 hk4 HL5'.out.size ?_; intro v6 x6 hown6 hg6 hor6; obtain ⟨B6, cp6, rfl, _, _⟩ := own_shape hown6; have HI6 := hide (HI5.out.grown hg6 (fun e => (by have := hGI.out.1 _ e.symm; omega))); have ci6 : x6.cell? ⟨gi, 0, none⟩ = some (.int .i64 (k : Int)) := HI6.out.cell 0; have HL6' := hide (HL5'.out.grown hg6 HL5'.out.size (fun g e => (HO5.out.lt g e).1)); have hz6 := hg6.size; clear hg6 hor6)
              | ((with_reducible refine at_slot 8 ?_); refine wpList_alloc_blk rfl 3 rfl _ (cint_nought _) ?_; intro x7 hb7q hl7 hs7; have hb7 : Blk x7 x6.heap.size 3 #[.int .i64 0] := hb7q; clear hb7q)
              | ((with_reducible refine at_store 8 ?_); refine wpList_poke rfl 3 (.tmp 8) (.tmp 46) rfl x6.heap.size 0 3 _ hb7 rfl (.int .i64 (k : Int)) rfl rfl cint_info1 (by decide) ?_; intro x8 hb8q hg8' hs8'; have hb8 : Blk x8 x6.heap.size 3 #[.int .i64 (k : Int)] := hb8q; have ci8 : x8.cell? ⟨x6.heap.size, 0, none⟩ = some (.int .i64 (k : Int)) := hb8.cell 0; have cf8 : x8.frozen? ⟨x6.heap.size, 0, none⟩ = false := hb8.frozen 0; clear hb8q))
            have hb9 := hb8.set_ 0 (.int .i64 ((k : Int) + 1))
            have hg9 := grown_set hg8' (⟨x6.heap.size, 0, none⟩ : Addr) rfl (.int .i64 ((k : Int) + 1))
            generalize x8.setCell (⟨x6.heap.size, 0, none⟩ : Addr) (.int .i64 ((k : Int) + 1)) = x9 at hb9 hg9 ⊢
            have hl69 : Below x6.heap.size x6 x9 := hl7.grown hg9 (by omega) (fun g e => by injection e with e; omega)
            go_roundw
            case rel =>
              refine ⟨k + 1, B6, cp6, x6.heap.size, rfl, rfl, by omega, by omega, hide ?_, hide ?_, hide ⟨fun g e => (hown6.lt g e).2, HL6'.out.size⟩, HHN, hide (HL6'.out.trans (hl69.mono HL6'.out.size))⟩
              · rw [HLS.out, B8_append, ← HU2.out]
                exact own_later hown6 hl69
              · rw [show ((k + 1 : Nat) : Int) = (k : Int) + 1 by omega]
                exact hb9
            case measure => simp [lenOf]; omega
        · obtain rfl : k = N := by omega
          have hkw : ¬ ((k : Int) < (k : Int)) := by omega
          obtain ⟨j1, j2, j3⟩ := HJL.out hH.out
          have HJ2 := hide j2
          have HJ3 := hide j3
          have hRJ := recJoin_any (readT s).gen 0 B k cp (lumpK K s k) wo.heap.size wo (Reads.of_own hO.out) (Nat.le_refl _) (by omega)
          have HRJ := hide (hRJ.mono (R' := fun e w' => ∃ (R : Option Addr) (q d : Nat), e = .returned (.tuple #[.slice R q d, .bool true]) ∧ q ≤ d ∧ d ≤ maxLen ∧ w'.ownsRow wo.heap.size 5 1 (.slice R q d) q (B8 (bytesK K s)) ∧ Below wo.heap.size wo w') fun e w' ⟨R, q, d, h1, h2, h3, h4, h5⟩ => ⟨R, q, d, by rw [h1, j1], h2, h3, by rw [← j2]; exact h4, h5⟩)
          have y0 := part_c0 HFo.out
          clear hRJ j1 j2 j3
          go_wp2_with (go_at_call 43; refine HRJ.out.mono ?_; rintro _ x2 ⟨R, q, d, rfl, h1, h2, h3, h4⟩)
          go_ret2
          refine ⟨R, q, d, by rw [HJ3.out]; rfl, h1, h2, ⟨?_, ?_⟩, HLO.out.trans (h4.mono HLO.out.size)⟩
          · rw [if_pos HJ3.out]
            exact h3.1
          · rw [if_pos HJ3.out]
            rcases h3.2 with h6 | ⟨g, cap, cur, q1, q2, q3⟩
            · exact .inl h6
            · exact .inr ⟨g, cap, cur, q1, Nat.le_trans HLO.out.size q2, q3⟩
    · have HT := hide (there_first (K := K) (show firstC s = false by
        unfold firstC
        rw [hpb, Bool.true_and]
        exact decide_eq_false (fun h => by omega)))
      have hpw : (P != 0) = false := by rw [hP, hp]; rfl
      have hnw : (32 : Int) < (N : Int) := by omega
      clear hs hK hsl hpb hnr hr hok hN hp hP
      go_enter Try.func72, Try.ntmps72
      go_wp2_with (first
        | ((with_reducible refine at_slot 2 ?_); refine wpList_box_blk rfl 97 _ rfl (.agg vs.toArray) rfl ?_; intro w1 hb1 hl1 hs1; rw [HVC.out] at hb1; have HB1 := hide hb1; have HL1 := hide hl1; clear hb1 hl1 hs1)
        | ((with_reducible refine at_slot 3 ?_); refine wpList_box_blk rfl 127 _ rfl (.agg (partC s).toArray) rfl ?_; intro w2 hb2 hl2 hs2; rw [HPC.out] at hb2; have HB2 := hide hb2; have HA2 := hide (HB1.out.below hl2 HB1.out.lt); have HL2 := hide (HL1.out.trans (hl2.mono HL1.out.size)); have y2 := part_c2 hb2; have y3 := part_c3 hb2; rw [← HPP.out] at y2; rw [HN.out] at y3; clear hb2 hl2 hs2)
        | ((with_reducible refine at_slot 6 ?_); refine wpList_alloc_blk rfl 3 rfl _ (cint_nought _) ?_; intro w3 hb3q hl3 hs3; have hb3 : Blk w3 w2.heap.size 3 #[.int .i64 0] := hb3q; clear hb3q)
        | ((with_reducible refine at_store 6 ?_); refine wpList_poke rfl 3 (.tmp 6) (.tmp 12) rfl w2.heap.size 0 3 _ hb3 rfl (.int .i64 (N : Int)) rfl rfl cint_info1 (by decide) ?_; intro w4 hb4q hg4 hs4; have hb4 : Blk w4 w2.heap.size 3 #[.int .i64 (N : Int)] := hb4q; have hz3 := hb3.lt; have hl24 : Below w2.heap.size w2 w4 := hl3.grown hg4 (by omega) (fun g e => by injection e with e; omega); have y6 : w4.cell? ⟨w2.heap.size, 0, none⟩ = some (.int .i64 (N : Int)) := hb4.cell 0; have HB4 := hide (HB2.out.below hl24 HB2.out.lt); have HA4 := hide (HA2.out.below hl24 HA2.out.lt); have HN4 := hide hb4; have z2 := part_c2 HB4.out; have HL4 := hide (HL2.out.trans (hl24.mono HL2.out.size)); rw [← HPP.out] at z2; clear hb4q hs4 hg4 hl24 hb3 hb4 hl3 hs3))
      go_ret2
      exact ckpt_no HT.out HL4.out
  · have HT := hide (there_first (K := K) (show firstC s = false by
      unfold firstC
      rw [hpb, Bool.true_and]
      exact decide_eq_false (fun h => hp h.2.1)))
    have hpw : ((readT s).part != 0) = true := by simp; omega
    rw [← hP] at hpw
    clear hs hK hsl hpb hnr hr hok hN hp hP
    go_enter Try.func72, Try.ntmps72
    go_wp2_with (first
      | ((with_reducible refine at_slot 2 ?_); refine wpList_box_blk rfl 97 _ rfl (.agg vs.toArray) rfl ?_; intro w1 hb1 hl1 hs1; rw [HVC.out] at hb1; have HB1 := hide hb1; have HL1 := hide hl1; clear hb1 hl1 hs1)
      | ((with_reducible refine at_slot 3 ?_); refine wpList_box_blk rfl 127 _ rfl (.agg (partC s).toArray) rfl ?_; intro w2 hb2 hl2 hs2; rw [HPC.out] at hb2; have HB2 := hide hb2; have HA2 := hide (HB1.out.below hl2 HB1.out.lt); have HL2 := hide (HL1.out.trans (hl2.mono HL1.out.size)); have y2 := part_c2 hb2; have y3 := part_c3 hb2; rw [← HPP.out] at y2; rw [HN.out] at y3; clear hb2 hl2 hs2)
      | ((with_reducible refine at_slot 6 ?_); refine wpList_alloc_blk rfl 3 rfl _ (cint_nought _) ?_; intro w3 hb3q hl3 hs3; have hb3 : Blk w3 w2.heap.size 3 #[.int .i64 0] := hb3q; clear hb3q)
      | ((with_reducible refine at_store 6 ?_); refine wpList_poke rfl 3 (.tmp 6) (.tmp 12) rfl w2.heap.size 0 3 _ hb3 rfl (.int .i64 (N : Int)) rfl rfl cint_info1 (by decide) ?_; intro w4 hb4q hg4 hs4; have hb4 : Blk w4 w2.heap.size 3 #[.int .i64 (N : Int)] := hb4q; have hz3 := hb3.lt; have hl24 : Below w2.heap.size w2 w4 := hl3.grown hg4 (by omega) (fun g e => by injection e with e; omega); have y6 : w4.cell? ⟨w2.heap.size, 0, none⟩ = some (.int .i64 (N : Int)) := hb4.cell 0; have HB4 := hide (HB2.out.below hl24 HB2.out.lt); have HA4 := hide (HA2.out.below hl24 HA2.out.lt); have HN4 := hide hb4; have z2 := part_c2 HB4.out; have HL4 := hide (HL2.out.trans (hl24.mono HL2.out.size)); rw [← HPP.out] at z2; clear hb4q hs4 hg4 hl24 hb3 hb4 hl3 hs3))
    go_ret2
    exact ckpt_no HT.out HL4.out
#print axioms checkpoint_any
/-- A Found's cells. -/
def fndC (a g s : Nat) (B : Option Addr) (m q : Nat) : List Value := [.int .i64 (a : Int), .int .i64 (g : Int), .slice B m q, .int .i64 (s : Int)]
theorem fndC_one (a g s : Nat) (B : Option Addr) (m q : Nat) : ∀ v ∈ fndC a g s B m q, v.oneCell' = true := by
  intro v hv
  simp [fndC] at hv
  rcases hv with rfl | rfl | rfl | rfl <;> rfl
theorem fnd_info : (Try.prog.info? 55).map (·.size) = some 4 := by kernel_rfl
theorem fnd_nought (w : World) : (zeroValue 55).run Try.prog w = .ok (.agg (fndC 0 0 0 none 0 0).toArray) w := by kernel_rfl
theorem fnd_built0 : Try.prog.built 55 [] = some (fndC 0 0 0 none 0 0).toArray := by kernel_rfl
theorem fnd_built (g : Nat) (B : Option Addr) (m q : Nat) : Try.prog.built 55 [(1, .int .i64 (g : Int)), (2, .slice B m q)] = some (fndC 0 g 0 B m q).toArray := by kernel_rfl
section
variable {w : World} {r : Nat} {T : TypeId} {a g s : Nat} {B : Option Addr} {m q : Nat}
theorem fnd_c1 (h : Blk w r T (fndC a g s B m q).toArray) : w.cell? ⟨r, 1, none⟩ = some (.int .i64 (g : Int)) := h.cell 1
end
def genO (b : Option Ckp) : Nat := match b with | none => 0 | some c => c.gen
def bytO (b : Option Ckp) : List UInt8 := match b with | none => [] | some c => c.bytes
/-- What newest answers. -/
def NewestR (b : Option Ckp) (w : World) (e : Ending) (w' : World) : Prop :=
  ∃ (B : Option Addr) (m q : Nat), e = .returned (.tuple #[.agg (fndC 0 (genO b) 0 B m q).toArray, .bool b.isSome]) ∧ m ≤ q ∧ q ≤ maxLen ∧ w'.ownsRow w.heap.size 5 1 (.slice B m q) m (B8 (bytO b)) ∧ Below w.heap.size w w'
theorem newest_skip {K : Rows} {a j : Nat} {s : List UInt8} {b : Ckp} (h : (K 0)[j]? = some s) (hb : newestTo K a j = some b) (hg : genT s ≤ b.gen) : newestTo K a (j + 1) = newestTo K a j := by
  rw [newestTo_succ h, hb]
  split
  · unfold newer
    simp only
    rw [if_neg (by omega)]
  · rfl
theorem newest_gone {K : Rows} {a j : Nat} {s : List UInt8} (h : (K 0)[j]? = some s) (ht : thereK K s = false) : newestTo K a (j + 1) = newestTo K a j := by
  rw [newestTo_succ h, if_neg (by rw [ht]; decide)]
theorem newest_new {K : Rows} {a j : Nat} {s : List UInt8} (h : (K 0)[j]? = some s) (ht : thereK K s = true) (hg : ∀ b, newestTo K a j = some b → b.gen < genT s) : newestTo K a (j + 1) = some ⟨a, genT s, bytesK K s⟩ := by
  rw [newestTo_succ h, if_pos ht]
  cases hb : newestTo K a j with
  | none => rfl
  | some b =>
    unfold newer
    simp only
    rw [if_pos (hg b hb)]
theorem ckpt_false {K : Rows} {s : List UInt8} {fn : FuncId} {args : Array Value} {w : World} (h : Calls Try.prog fn args w (CkptR K s w)) (ht : thereK K s = false) : Calls Try.prog fn args w fun e w' => ∃ (R : Option Addr) (k d : Nat), e = .returned (.tuple #[.slice R k d, .bool false]) ∧ Below w.heap.size w w' :=
  h.mono fun e w' ⟨R, k, d, h1, _, _, _, h5⟩ => ⟨R, k, d, by rw [h1, ht], h5⟩
theorem ckpt_true {K : Rows} {s : List UInt8} {fn : FuncId} {args : Array Value} {w : World} (h : Calls Try.prog fn args w (CkptR K s w)) (ht : thereK K s = true) : Calls Try.prog fn args w fun e w' => ∃ (R : Option Addr) (k d : Nat), e = .returned (.tuple #[.slice R k d, .bool true]) ∧ (k ≤ d ∧ d ≤ maxLen ∧ w'.ownsRow w.heap.size 5 1 (.slice R k d) k (B8 (bytesK K s))) ∧ Below w.heap.size w w' :=
  h.mono fun e w' ⟨R, k, d, h1, h2, h3, h4, h5⟩ => ⟨R, k, d, by rw [h1, ht], ⟨h2, h3, by rw [if_pos ht] at h4; exact h4⟩, h5⟩
theorem own_lower {w : World} {b b' : Nat} {e : TypeId} {size : Nat} {v : Value} {n : Nat} {xs : List Value} (h : w.ownsRow b e size v n xs) (hb : b' ≤ b) : w.ownsRow b' e size v n xs := by
  refine ⟨h.1, ?_⟩
  rcases h.2 with h6 | ⟨g, cap, cur, q1, q2, q3⟩
  · exact .inl h6
  · exact .inr ⟨g, cap, cur, q1, Nat.le_trans hb q2, q3⟩
theorem own_from {w : World} {b : Nat} {e : TypeId} {size : Nat} {v : Value} {n : Nat} {xs : List Value} (h : w.ownsRow b e size v n xs) {r : Nat} (hb : r < b) : ∀ g, v.ownBlock = some g → r < g := fun g e => Nat.lt_of_lt_of_le hb (h.lt g e).1
set_option maxRecDepth 100000 in
set_option maxHeartbeats 8000000 in
theorem cnewest_any (vs : List Value) (K : Rows) (a : Nat) (w : World) (hK : KepAt w vs K) :
    Calls Try.prog 50 #[.agg vs.toArray] w (NewestR (newestTo K a (K 0).length) w) := by
  have HK := hide hK
  have HVC := hide (show (Value.agg vs.toArray).cells = vs.toArray from rfl)
  have HIK := hide (show (Try.prog.info? 97).map (·.size) = some vs.length by rw [hK.len]; exact kept_info)
  have HLG := hide (fun s hs => (hK.long 0 (by decide) s hs).1)
  obtain ⟨A, n, c, hv, hn, hr⟩ := hK.row 0 (by decide)
  have HV := hide (show vs.toArray[0]? = some (.slice A n c) by rw [List.getElem?_toArray]; exact hv)
  have HN := hide hn
  have HR := hide hr
  have hn5 : n ≤ 5 := by have := hK.few 0 (by decide); omega
  obtain ⟨X, hX⟩ : ∃ X, X = NewestR (newestTo K a (K 0).length) w := ⟨_, rfl⟩
  rw [← hX]
  have HX := hide hX
  clear hK hv hn hr hX
  go_enter Try.func50, Try.ntmps50
  go_wp2_with (first
    | ((with_reducible refine at_slot 1 ?_); refine wpList_box_blk rfl 97 _ rfl (.agg vs.toArray) rfl ?_; intro w1 hb1 hl1 hs1; rw [HVC.out] at hb1; have HB1 := hide hb1; have HL1 := hide hl1; clear hb1 hl1 hs1)
    | ((with_reducible refine at_slot 2 ?_); refine wpList_alloc_blk rfl 55 rfl _ (fnd_nought _) ?_; intro w2 hb2q hl2 hs2; have HF2 : Hid (Blk w2 w1.heap.size 55 (fndC 0 0 0 none 0 0).toArray) := hide hb2q; have HB2 := hide (HB1.out.below hl2 HB1.out.lt); have HL2 := hide (HL1.out.trans (hl2.mono HL1.out.size)); have hz2 : w1.heap.size < w2.heap.size := (by omega); clear hb2q hl2 hs2)
    | ((with_reducible refine at_slot 4 ?_); refine wpList_alloc_blk rfl 55 rfl _ (fnd_nought _) ?_; intro w3 hb3q hl3 hs3; have HG3 : Hid (Blk w3 w2.heap.size 55 (fndC 0 0 0 none 0 0).toArray) := hide hb3q; have HF3 := hide (HF2.out.below hl3 HF2.out.lt); have HB3 := hide (HB2.out.below hl3 HB2.out.lt); have HL3 := hide (HL2.out.trans (hl3.mono HL2.out.size)); have yr : w3.cell? ⟨w.heap.size, 0, none⟩ = some (.slice A n c) := (by rw [HB3.out.cell 0]; exact HV.out); have hz3 : w2.heap.size < w3.heap.size := (by omega); have HL23 := hide hl3; clear hb3q hl3 hs3))
  clear yr
  have HZ3 := hide (And.intro hz2 (And.intro hz3 HL2.out.size))
  clear hz2 hz3
  go_loopw [5, 13] (fun s5 s13 wr => ∃ (j : Nat) (B : Option Addr) (m q : Nat), s13 = .int .i64 (j : Int) ∧ j ≤ n ∧ s5 = .bool (newestTo K a j).isSome ∧ Hid (Blk wr w2.heap.size 55 (fndC 0 (genO (newestTo K a j)) 0 B m q).toArray) ∧ Hid (m ≤ q ∧ q ≤ maxLen ∧ wr.ownsRow w.heap.size 5 1 (.slice B m q) m (B8 (bytO (newestTo K a j)))) ∧ Hid (∀ g, (Value.slice B m q).ownBlock = some g → w2.heap.size < g) ∧ Hid (Below w2.heap.size w2 wr)) (fun _ s13 _ => n - (intOf s13).toNat)
  case atStart => exact ⟨0, none, 0, 0, rfl, Nat.zero_le _, rfl, HG3, hide ⟨Nat.le_refl _, Nat.zero_le _, World.ownsRow_nil _ _ _ _⟩, hide (fun g e => by simp [Value.ownBlock] at e), HL23⟩
  case round =>
    obtain ⟨j, B, m, q, rfl, hj, rfl, hG, hO, hF, hl⟩ := hrel
    obtain ⟨wo, rfl⟩ : ∃ wo, wo = wr := ⟨_, rfl⟩
    have HBo := hide (HB2.out.below hl.out HB2.out.lt)
    have HZo := hide (show w2.heap.size < wo.heap.size from hG.out.lt)
    by_cases hjn : j < n
    · have hjw : (j : Int) < (n : Int) := by omega
      obtain ⟨s, hs⟩ : ∃ s, (K 0)[j]? = some s := ⟨(K 0)[j]'(by have := HN.out; omega), List.getElem?_eq_getElem _⟩
      obtain ⟨ad, rfl, hab, hcs⟩ := part_cells (HR.out.below (HL2.out.trans (hl.out.mono HL2.out.size))) HLG.out hs
      have HCS := hide hcs
      have hsm := List.mem_of_getElem? hs
      have HSM := hide hsm
      have HPI := hide (show (Try.prog.info? 127).map (·.size) = some (partC s).length by rw [partC_length (HLG.out s hsm)]; exact part_info)
      have HPL := hide (partC_length (HLG.out s hsm))
      have HG := hide (genT_is s)
      have HS := hide hs
      clear hcs hs hsm
      cases hbq : newestTo K a j with
      | none =>
        have HBQ := hide (show (newestTo K a j).isSome = false by rw [hbq]; rfl)
        rw [hbq] at hG hO
        have hBQ := hide hbq
        cases ht : thereK K s with
        | false =>
          have HT := hide ht
          have HSAME := hide ((newest_gone HS.out ht).trans hbq)
          clear hbq ht
          go_wp2_with (first
            | ((with_reducible refine at_slot 16 ?_); refine wpList_load_at rfl 127 (.tmp 15) rfl (ad.add (j * 69)) rfl (partC s) _ HCS.out Try.underlying127 rfl HPI.out ?_)
            | ((with_reducible refine at_slot 7 ?_); refine wpList_alloc_blk rfl 127 rfl _ (part_nought _) ?_; intro w4 hb4 hl4 hs4; clear hs4)
            | ((with_reducible refine at_store 7 ?_); refine wpList_store_all rfl 127 (.tmp 7) (.tmp 16) rfl wo.heap.size 127 _ hb4 rfl (partC s) rfl HPI.out (by rw [HPL.out]; rfl) (partC_one s) ?_; intro w5 hb5 hg5 hs5; have hz4 := hb4.lt; have hl5 : Below wo.heap.size wo w5 := hl4.grown hg5 (by omega) (fun g e => by injection e with e; omega); have HP5 := hide hb5; have y0 := part_c0 hb5; rw [HG.out] at y0; have HG5 := hide (hG.out.below hl5 hG.out.lt); have z1 := fnd_c1 HG5.out; have HB5 := hide (HBo.out.below hl5 HBo.out.lt); have HL5 := hide (hl.out.trans (hl5.mono hl.out.size)); have HO5 := hide (own_later hO.out.2.2 hl5); have HZ5 := hide (Nat.le_trans HZo.out hl5.size); have HCK := hide (ckpt_false (checkpoint_any vs K s w5 (HK.out.later (HL2.out.trans (HL5.out.mono HL2.out.size))) HSM.out) HT.out); clear hs5 hb4 hl4 hg5 hb5)
            | ((with_reducible refine at_slot 27 ?_); refine wpList_load_blk rfl 97 (.tmp 1) rfl w.heap.size 0 97 _ HB5.out rfl vs _ (fun j v hj => by rw [Nat.zero_add]; simpa using hj) Try.underlying97 rfl HIK.out ?_)
            | ((with_reducible refine at_slot 28 ?_); refine wpList_load_blk rfl 127 (.tmp 7) rfl wo.heap.size 0 127 _ HP5.out rfl (partC s) _ (fun j v hj => by rw [Nat.zero_add]; simpa using hj) Try.underlying127 rfl HPI.out ?_)
            | (go_at_call 72; refine HCK.out.mono ?_; rintro _ x2 ⟨R, k, d, rfl, h4⟩))
          go_roundw
          case rel => exact ⟨j + 1, B, m, q, by simp, by omega, by rw [HSAME.out]; rfl, hide (by rw [HSAME.out]; exact HG5.out.below h4 HG5.out.lt), hide ⟨hO.out.1, hO.out.2.1, by rw [HSAME.out]; exact own_later HO5.out h4⟩, hF, hide (HL5.out.trans (h4.mono HL5.out.size))⟩
          case measure => simp [intOf]; omega
        | true =>
          have HT := hide ht
          have HNEW := hide (newest_new HS.out ht (fun b hb => by rw [hbq] at hb; cases hb))
          clear hbq ht
          go_wp2_with (first
            | ((with_reducible refine at_slot 16 ?_); refine wpList_load_at rfl 127 (.tmp 15) rfl (ad.add (j * 69)) rfl (partC s) _ HCS.out Try.underlying127 rfl HPI.out ?_)
            | ((with_reducible refine at_slot 7 ?_); refine wpList_alloc_blk rfl 127 rfl _ (part_nought _) ?_; intro w4 hb4 hl4 hs4; clear hs4)
            | ((with_reducible refine at_store 7 ?_); refine wpList_store_all rfl 127 (.tmp 7) (.tmp 16) rfl wo.heap.size 127 _ hb4 rfl (partC s) rfl HPI.out (by rw [HPL.out]; rfl) (partC_one s) ?_; intro w5 hb5 hg5 hs5; have hz4 := hb4.lt; have hl5 : Below wo.heap.size wo w5 := hl4.grown hg5 (by omega) (fun g e => by injection e with e; omega); have HP5 := hide hb5; have y0 := part_c0 hb5; rw [HG.out] at y0; have HG5 := hide (hG.out.below hl5 hG.out.lt); have z1 := fnd_c1 HG5.out; have HB5 := hide (HBo.out.below hl5 HBo.out.lt); have HL5 := hide (hl.out.trans (hl5.mono hl.out.size)); have HO5 := hide (own_later hO.out.2.2 hl5); have HZ5 := hide (Nat.le_trans HZo.out hl5.size); have HCK := hide (ckpt_true (checkpoint_any vs K s w5 (HK.out.later (HL2.out.trans (HL5.out.mono HL2.out.size))) HSM.out) HT.out); clear hs5 hb4 hl4 hg5 hb5)
            | ((with_reducible refine at_slot 27 ?_); refine wpList_load_blk rfl 97 (.tmp 1) rfl w.heap.size 0 97 _ HB5.out rfl vs _ (fun j v hj => by rw [Nat.zero_add]; simpa using hj) Try.underlying97 rfl HIK.out ?_)
            | ((with_reducible refine at_slot 28 ?_); refine wpList_load_blk rfl 127 (.tmp 7) rfl wo.heap.size 0 127 _ HP5.out rfl (partC s) _ (fun j v hj => by rw [Nat.zero_add]; simpa using hj) Try.underlying127 rfl HPI.out ?_)
            | (go_at_call 72; refine HCK.out.mono ?_; rintro _ x2 ⟨R, k, d, rfl, h3, h4⟩; have HG6 := hide (HG5.out.below h4 HG5.out.lt); have y6 : x2.cell? ⟨wo.heap.size, 0, none⟩ = some (.int .i64 (genT s : Int)) := (by rw [← HG.out]; exact part_c0 (HP5.out.below h4 HP5.out.lt)))
            | ((with_reducible refine at_slot 37 ?_); refine wpList_build_is rfl 55 _ rfl _ rfl _ (fnd_built _ _ _ _) ?_)
            | ((with_reducible refine at_store 4 ?_); refine wpList_store_all rfl 55 (.tmp 4) (.tmp 37) rfl w2.heap.size 55 _ HG6.out rfl (fndC 0 (genT s) 0 R k d) rfl fnd_info rfl (fndC_one _ _ _ _ _ _) ?_; intro x3 hb7 hg7 hs7; clear hs7))
          have hw2 : w2.heap.size < w5.heap.size := HZ5.out
          have hgF := own_from h3.2.2 hw2
          have hown := h3.2.2.kept hg7 (.inr (fun e => by have := hgF _ e; omega))
          have hl6 : Below w2.heap.size w2 x2 := HL5.out.trans (h4.mono HL5.out.size)
          go_roundw
          case rel => exact ⟨j + 1, R, k, d, by simp, by omega, by rw [HNEW.out]; rfl, hide (by rw [HNEW.out]; exact hb7), hide ⟨h3.1, h3.2.1, by rw [HNEW.out]; exact own_lower hown (Nat.le_trans HL2.out.size (Nat.le_of_lt hw2))⟩, hide hgF, hide (hl6.grown hg7 (Nat.le_of_lt (Nat.lt_of_lt_of_le hw2 h4.size)) (fun g e => by injection e with e; omega))⟩
          case measure => simp [intOf]; omega
      | some b =>
        have HBQ := hide (show (newestTo K a j).isSome = true by rw [hbq]; rfl)
        rw [hbq] at hG hO
        have hBQ := hide hbq
        by_cases hle : genT s ≤ b.gen
        · have hlw : decide ((genT s : Int) ≤ (genO (some b) : Int)) = true := by show decide ((genT s : Int) ≤ (b.gen : Int)) = true; simp; omega
          have hlx : decide (genT s ≤ genO (some b)) = true := by show decide (genT s ≤ b.gen) = true; simp; omega
          have HSAME := hide ((newest_skip HS.out hbq hle).trans hbq)
          clear hbq hle
          go_wp2_with (first
            | ((with_reducible refine at_slot 16 ?_); refine wpList_load_at rfl 127 (.tmp 15) rfl (ad.add (j * 69)) rfl (partC s) _ HCS.out Try.underlying127 rfl HPI.out ?_)
            | ((with_reducible refine at_slot 7 ?_); refine wpList_alloc_blk rfl 127 rfl _ (part_nought _) ?_; intro w4 hb4 hl4 hs4; clear hs4)
            | ((with_reducible refine at_store 7 ?_); refine wpList_store_all rfl 127 (.tmp 7) (.tmp 16) rfl wo.heap.size 127 _ hb4 rfl (partC s) rfl HPI.out (by rw [HPL.out]; rfl) (partC_one s) ?_; intro w5 hb5 hg5 hs5; have hz4 := hb4.lt; have hl5 : Below wo.heap.size wo w5 := hl4.grown hg5 (by omega) (fun g e => by injection e with e; omega); have HP5 := hide hb5; have y0 := part_c0 hb5; rw [HG.out] at y0; have HG5 := hide (hG.out.below hl5 hG.out.lt); have z1 := fnd_c1 HG5.out; have HB5 := hide (HBo.out.below hl5 HBo.out.lt); have HL5 := hide (hl.out.trans (hl5.mono hl.out.size)); have HO5 := hide (own_later hO.out.2.2 hl5); have HZ5 := hide (Nat.le_trans HZo.out hl5.size); clear hs5 hb4 hl4 hg5 hb5))
          go_roundw
          case rel => exact ⟨j + 1, B, m, q, by simp, by omega, by rw [HSAME.out]; rfl, hide (by rw [HSAME.out]; exact HG5.out), hide ⟨hO.out.1, hO.out.2.1, by rw [HSAME.out]; exact HO5.out⟩, hF, hide (HL5.out)⟩
          case measure => simp [intOf]; omega
        · have hlw : decide ((genT s : Int) ≤ (genO (some b) : Int)) = false := by show decide ((genT s : Int) ≤ (b.gen : Int)) = false; simp; omega
          have hlx : decide (genT s ≤ genO (some b)) = false := by show decide (genT s ≤ b.gen) = false; simp; omega
          cases ht : thereK K s with
          | false =>
            have HT := hide ht
            have HSAME := hide ((newest_gone HS.out ht).trans hbq)
            clear hbq ht hle
            go_wp2_with (first
              | ((with_reducible refine at_slot 16 ?_); refine wpList_load_at rfl 127 (.tmp 15) rfl (ad.add (j * 69)) rfl (partC s) _ HCS.out Try.underlying127 rfl HPI.out ?_)
              | ((with_reducible refine at_slot 7 ?_); refine wpList_alloc_blk rfl 127 rfl _ (part_nought _) ?_; intro w4 hb4 hl4 hs4; clear hs4)
              | ((with_reducible refine at_store 7 ?_); refine wpList_store_all rfl 127 (.tmp 7) (.tmp 16) rfl wo.heap.size 127 _ hb4 rfl (partC s) rfl HPI.out (by rw [HPL.out]; rfl) (partC_one s) ?_; intro w5 hb5 hg5 hs5; have hz4 := hb4.lt; have hl5 : Below wo.heap.size wo w5 := hl4.grown hg5 (by omega) (fun g e => by injection e with e; omega); have HP5 := hide hb5; have y0 := part_c0 hb5; rw [HG.out] at y0; have HG5 := hide (hG.out.below hl5 hG.out.lt); have z1 := fnd_c1 HG5.out; have HB5 := hide (HBo.out.below hl5 HBo.out.lt); have HL5 := hide (hl.out.trans (hl5.mono hl.out.size)); have HO5 := hide (own_later hO.out.2.2 hl5); have HZ5 := hide (Nat.le_trans HZo.out hl5.size); have HCK := hide (ckpt_false (checkpoint_any vs K s w5 (HK.out.later (HL2.out.trans (HL5.out.mono HL2.out.size))) HSM.out) HT.out); clear hs5 hb4 hl4 hg5 hb5)
              | ((with_reducible refine at_slot 27 ?_); refine wpList_load_blk rfl 97 (.tmp 1) rfl w.heap.size 0 97 _ HB5.out rfl vs _ (fun j v hj => by rw [Nat.zero_add]; simpa using hj) Try.underlying97 rfl HIK.out ?_)
              | ((with_reducible refine at_slot 28 ?_); refine wpList_load_blk rfl 127 (.tmp 7) rfl wo.heap.size 0 127 _ HP5.out rfl (partC s) _ (fun j v hj => by rw [Nat.zero_add]; simpa using hj) Try.underlying127 rfl HPI.out ?_)
              | (go_at_call 72; refine HCK.out.mono ?_; rintro _ x2 ⟨R, k, d, rfl, h4⟩))
            go_roundw
            case rel => exact ⟨j + 1, B, m, q, by simp, by omega, by rw [HSAME.out]; rfl, hide (by rw [HSAME.out]; exact HG5.out.below h4 HG5.out.lt), hide ⟨hO.out.1, hO.out.2.1, by rw [HSAME.out]; exact own_later HO5.out h4⟩, hF, hide (HL5.out.trans (h4.mono HL5.out.size))⟩
            case measure => simp [intOf]; omega
          | true =>
            have HT := hide ht
            have HNEW := hide (newest_new HS.out ht (fun b' hb => by rw [hbq] at hb; injection hb with hb; subst hb; omega))
            clear hbq ht hle
            go_wp2_with (first
              | ((with_reducible refine at_slot 16 ?_); refine wpList_load_at rfl 127 (.tmp 15) rfl (ad.add (j * 69)) rfl (partC s) _ HCS.out Try.underlying127 rfl HPI.out ?_)
              | ((with_reducible refine at_slot 7 ?_); refine wpList_alloc_blk rfl 127 rfl _ (part_nought _) ?_; intro w4 hb4 hl4 hs4; clear hs4)
              | ((with_reducible refine at_store 7 ?_); refine wpList_store_all rfl 127 (.tmp 7) (.tmp 16) rfl wo.heap.size 127 _ hb4 rfl (partC s) rfl HPI.out (by rw [HPL.out]; rfl) (partC_one s) ?_; intro w5 hb5 hg5 hs5; have hz4 := hb4.lt; have hl5 : Below wo.heap.size wo w5 := hl4.grown hg5 (by omega) (fun g e => by injection e with e; omega); have HP5 := hide hb5; have y0 := part_c0 hb5; rw [HG.out] at y0; have HG5 := hide (hG.out.below hl5 hG.out.lt); have z1 := fnd_c1 HG5.out; have HB5 := hide (HBo.out.below hl5 HBo.out.lt); have HL5 := hide (hl.out.trans (hl5.mono hl.out.size)); have HO5 := hide (own_later hO.out.2.2 hl5); have HZ5 := hide (Nat.le_trans HZo.out hl5.size); have HCK := hide (ckpt_true (checkpoint_any vs K s w5 (HK.out.later (HL2.out.trans (HL5.out.mono HL2.out.size))) HSM.out) HT.out); clear hs5 hb4 hl4 hg5 hb5)
              | ((with_reducible refine at_slot 27 ?_); refine wpList_load_blk rfl 97 (.tmp 1) rfl w.heap.size 0 97 _ HB5.out rfl vs _ (fun j v hj => by rw [Nat.zero_add]; simpa using hj) Try.underlying97 rfl HIK.out ?_)
              | ((with_reducible refine at_slot 28 ?_); refine wpList_load_blk rfl 127 (.tmp 7) rfl wo.heap.size 0 127 _ HP5.out rfl (partC s) _ (fun j v hj => by rw [Nat.zero_add]; simpa using hj) Try.underlying127 rfl HPI.out ?_)
              | (go_at_call 72; refine HCK.out.mono ?_; rintro _ x2 ⟨R, k, d, rfl, h3, h4⟩; have HG6 := hide (HG5.out.below h4 HG5.out.lt); have y6 : x2.cell? ⟨wo.heap.size, 0, none⟩ = some (.int .i64 (genT s : Int)) := (by rw [← HG.out]; exact part_c0 (HP5.out.below h4 HP5.out.lt)))
              | ((with_reducible refine at_slot 37 ?_); refine wpList_build_is rfl 55 _ rfl _ rfl _ (fnd_built _ _ _ _) ?_)
              | ((with_reducible refine at_store 4 ?_); refine wpList_store_all rfl 55 (.tmp 4) (.tmp 37) rfl w2.heap.size 55 _ HG6.out rfl (fndC 0 (genT s) 0 R k d) rfl fnd_info rfl (fndC_one _ _ _ _ _ _) ?_; intro x3 hb7 hg7 hs7; clear hs7))
            have hw2 : w2.heap.size < w5.heap.size := HZ5.out
            have hgF := own_from h3.2.2 hw2
            have hown := h3.2.2.kept hg7 (.inr (fun e => by have := hgF _ e; omega))
            have hl6 : Below w2.heap.size w2 x2 := HL5.out.trans (h4.mono HL5.out.size)
            go_roundw
            case rel => exact ⟨j + 1, R, k, d, by simp, by omega, by rw [HNEW.out]; rfl, hide (by rw [HNEW.out]; exact hb7), hide ⟨h3.1, h3.2.1, by rw [HNEW.out]; exact own_lower hown (Nat.le_trans HL2.out.size (Nat.le_of_lt hw2))⟩, hide hgF, hide (hl6.grown hg7 (Nat.le_of_lt (Nat.lt_of_lt_of_le hw2 h4.size)) (fun g e => by injection e with e; omega))⟩
            case measure => simp [intOf]; omega
    · obtain rfl : j = n := by omega
      have e : j = (K 0).length := HN.out
      have HE := hide e
      clear e
      have HFo := hide (HF2.out.below hl.out HF2.out.lt)
      obtain ⟨bq, hbq⟩ : ∃ bq, bq = newestTo K a j := ⟨_, rfl⟩
      rw [← hbq] at hG hO
      have HBQ := hide hbq
      rw [← hbq]
      clear hbq
      go_wp2_with (first
        | ((with_reducible refine at_slot 39 ?_); refine wpList_load_blk rfl 55 (.tmp 4) rfl w2.heap.size 0 55 _ hG.out rfl (fndC 0 (genO bq) 0 B m q) _ (fun j v hj => by rw [Nat.zero_add]; simpa using hj) Try.underlying55 rfl fnd_info ?_)
        | ((with_reducible refine at_store 2 ?_); refine wpList_store_all rfl 55 (.tmp 2) (.tmp 39) rfl w1.heap.size 55 _ HFo.out rfl (fndC 0 (genO bq) 0 B m q) rfl fnd_info rfl (fndC_one _ _ _ _ _ _) ?_; intro x3 hb7 hg7 hs7; clear hs7))
      refine ret_cell_tmp rfl w1.heap.size 55 (fndC 0 (genO bq) 0 B m q) _ hb7 rfl Try.underlying55 rfl fnd_info (.bool bq.isSome) rfl rfl ?_
      rw [HX.out, ← HE.out, ← HBQ.out]
      have hgF := hF.out
      exact ⟨B, m, q, rfl, hO.out.1, hO.out.2.1, hO.out.2.2.kept hg7 (.inr (fun e => by have h1 := hgF _ e; have h2 := HZ3.out; omega)), (HL2.out.trans (hl.out.mono HL2.out.size)).grown hg7 (Nat.le_trans HL2.out.size hl.out.size) (fun g e => by injection e with e; have h2 := HL1.out.size; omega)⟩
#print axioms cnewest_any
end Go.Proofs.Ytmjdndhpnckeeaa
