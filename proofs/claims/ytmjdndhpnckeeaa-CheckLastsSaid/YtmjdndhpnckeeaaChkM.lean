/- Parts of checkpoints and rows of them in memory; the greatest generation of them; the members that are asked; what Save does to a bank. -/
import Derived.Test.YtmjdndhpnckeeaaChkP
import Derived.Test.YtmjdndhpnckeeaaSpr
import Derived.Test.YtmjdndhpnckeeaaRecB
import Derived.Test.YtmjdndhpnckeeaaLoose
import Derived.Test.YtmjdndhpnckeeaaTwoRows
import Derived.Test.YtmjdndhpnckeeaaRecS
namespace Go.Proofs.Ytmjdndhpnckeeaa
open Go.RowKit
/-- A part's cells: its tag, its sector. -/
def partC (s : List UInt8) : List Value := tagC (readT s) ++ B8 s
theorem partC_length {s : List UInt8} (h : s.length = 64) : (partC s).length = 69 := by
  unfold partC
  rw [List.length_append, B8_length, h]
  rfl
theorem partC_one (s : List UInt8) : ∀ v ∈ partC s, v.oneCell' = true := by
  intro v hv
  rcases List.mem_append.1 hv with hv | hv
  · exact tagC_one _ v hv
  · exact B8_one _ v hv
theorem part_parts : (Try.prog.info? 127).map (fun i => (i.zero, i.size, i.bytes)) = some (some (.agg (List.replicate 5 (Value.int .i64 0) ++ List.replicate 64 (Value.int .u8 0)).toArray), 69, 104) := by kernel_rfl
theorem part_nought (w : World) : (zeroValue 127).run Try.prog w = .ok (.agg (List.replicate 5 (Value.int .i64 0) ++ List.replicate 64 (Value.int .u8 0)).toArray) w := by kernel_rfl
theorem part_info : (Try.prog.info? 127).map (·.size) = some 69 := by kernel_rfl
theorem kept_info : (Try.prog.info? 97).map (·.size) = some 32 := by kernel_rfl
theorem kept_nought (w : World) : (zeroValue 97).run Try.prog w = .ok (.agg (List.replicate 32 (Value.slice none 0 0)).toArray) w := by kernel_rfl
theorem run_index_row (w : World) (vs : List Value) (i : Nat) (v : Value) (hv : vs[i]? = some v) (hi : i < 32) : (Instr.index 97 (.agg vs.toArray) (.int .i64 (i : Int))).run Try.prog w = .ok v w := by
  have h1 : Try.prog.underlying 97 = some (.array 32 95) := by kernel_rfl
  have h2 : (Try.prog.info? 95).map (·.size) = some 1 := by kernel_rfl
  have h3 : Try.prog.underlying 95 = some (.slice 127) := by kernel_rfl
  cases hq : Try.prog.info? 95 with
  | none => rw [hq] at h2; cases h2
  | some q =>
    have hs : q.size = 1 := by rw [hq] at h2; simpa using h2
    simp [Instr.index, asIntOf, run_underlying h1, sizeOf, typeInfo, hq, hs, part, isAgg, run_underlying h3, hv, Sem.run_bind]
    intro h
    omega
theorem wpList_index_row {ops : Array Oper} {rest : List Oper} {o : Oper} {a : Act} {w : World} {Q : Exit → Act → World → Prop} (hgd : o.guard = none) (x y : Operand) (ho : o.op = .index 97 x y)
    (vs : List Value) (hx : a.eval x = .agg vs.toArray) (i : Nat) (hy : a.eval y = .int .i64 (i : Int)) (v : Value) (hv : vs[i]? = some v) (hi : i < 32) (hK : wpList Try.prog ops Q rest (a.put o.dst v) w) : wpList Try.prog ops Q (o :: rest) a w :=
  wpList_gives hgd v (by
    unfold execOp
    simp only [ho, hx, hy, Sem.run_bind, run_index_row w vs i v hv hi, Result.andThen_ok, Sem.run_pure]) hK
def partZ : List Value := List.replicate 5 (Value.int .i64 0) ++ List.replicate 64 (Value.int .u8 0)
theorem partZ_length : partZ.length = 69 := by decide
theorem built_part_fill (parts : List (Nat × Value)) : Try.prog.built 127 parts = Instr.fill (fun i => ([(0, 5), (5, 64)] : List (Nat × Nat)).toArray[i]?) partZ.toArray parts := by kernel_rfl
theorem built_part {s : List UInt8} (hl : s.length = 64) : Try.prog.built 127 [(0, .agg (tagC (readT s)).toArray), (1, .agg (B8 s).toArray)] = some (partC s).toArray := by
  rw [built_part_fill]
  have h0 : (([(0, 5), (5, 64)] : List (Nat × Nat)).toArray[0]?) = some (0, 5) := rfl
  have h1 : (([(0, 5), (5, 64)] : List (Nat × Nat)).toArray[1]?) = some (5, 64) := rfl
  have hs : partZ.toArray.size = 69 := by rw [List.size_toArray, partZ_length]
  have hc : (Value.agg (tagC (readT s)).toArray).cells = (tagC (readT s)).toArray := rfl
  have hcs : (tagC (readT s)).toArray.size = 5 := rfl
  have hct : (tagC (readT s)).length = 5 := rfl
  have hd : (Value.agg (B8 s).toArray).cells = (B8 s).toArray := rfl
  have hds : (B8 s).toArray.size = 64 := by rw [List.size_toArray, B8_length, hl]
  obtain ⟨C, hC⟩ : ∃ C, C = partZ.toArray := ⟨_, rfl⟩
  rw [← hC] at hs ⊢
  have hCl : C.toList.length = 69 := by rw [Array.length_toList, hs]
  obtain ⟨T, hT⟩ : ∃ T, T = tagC (readT s) := ⟨_, rfl⟩
  rw [← hT] at hc hcs hct ⊢
  have hf1 : (T.toArray.zipIdx.foldl (fun cs (x : Value × Nat) => cs.setIfInBounds (0 + x.2) x.1) C) = (T ++ C.toList.drop 5).toArray := by
    have hf := foldl_set0 T 0 C (by omega)
    rw [hct, List.take_zero, List.nil_append] at hf
    rw [← Array.foldl_toList]
    simpa using hf
  unfold Instr.fill
  simp only [h0, hc, hcs]
  rw [if_neg (by rw [hs]; decide), hf1]
  have hlen : (T ++ C.toList.drop 5).length = 69 := by rw [List.length_append, hct, List.length_drop, hCl]
  have hf2 : ((B8 s).toArray.zipIdx.foldl (fun cs (x : Value × Nat) => cs.setIfInBounds (5 + x.2) x.1) (T ++ C.toList.drop 5).toArray) = (partC s).toArray := by
    have hf := foldl_set0 (B8 s) 5 (T ++ C.toList.drop 5).toArray (by rw [B8_length, hl, List.size_toArray, hlen]; decide)
    rw [B8_length, hl] at hf
    have e1 : (T ++ C.toList.drop 5).take 5 = T := by rw [List.take_append_of_le_length (by omega), List.take_of_length_le (by omega)]
    have e2 : (T ++ C.toList.drop 5).drop 69 = [] := List.drop_of_length_le (by omega)
    rw [e1, e2, List.append_nil] at hf
    unfold partC
    rw [← hT, ← hf, ← Array.foldl_toList]
    have e3 : ∀ (l : List Value) (k : Nat) (D : Array Value), (l.zipIdx k).foldl (fun cs (x : Value × Nat) => cs.setIfInBounds (5 + x.2) x.1) D = (l.zipIdx (5 + k)).foldl (fun cs x => cs.setIfInBounds x.2 x.1) D := by
      intro l
      induction l with
      | nil => intro k D; rfl
      | cons x l ih =>
        intro k D
        rw [List.zipIdx_cons, List.zipIdx_cons, List.foldl_cons, List.foldl_cons, ih]
        rfl
    have e4 := e3 (B8 s) 0 (T ++ C.toList.drop 5).toArray
    rw [← e4]
    simp
  unfold Instr.fill
  simp only [h1, hd, hds]
  rw [if_neg (by rw [List.size_toArray, hlen]; decide), hf2]
  unfold Instr.fill
  rfl
/-- A row of parts, in cells. -/
def partsV (l : List (List UInt8)) : List Value := l.flatMap partC
theorem partsV_length : ∀ {l : List (List UInt8)}, (∀ s ∈ l, s.length = 64) → (partsV l).length = l.length * 69
  | [], _ => rfl
  | s :: l, h => by
    have ih := partsV_length (l := l) (fun x hx => h x (by simp [hx]))
    have h1 := partC_length (h s (by simp))
    unfold partsV at ih ⊢
    rw [List.flatMap_cons, List.length_append, h1, ih, List.length_cons]
    omega
theorem partsV_append (l m : List (List UInt8)) : partsV (l ++ m) = partsV l ++ partsV m := List.flatMap_append
theorem partsV_one (s : List UInt8) : partsV [s] = partC s := by simp [partsV]
theorem partsV_at : ∀ {l : List (List UInt8)}, (∀ s ∈ l, s.length = 64) → ∀ {j k : Nat} {s : List UInt8} {v : Value}, l[j]? = some s → (partC s)[k]? = some v → (partsV l)[j * 69 + k]? = some v
  | [], _, j, k, s, v, hj, _ => by simp at hj
  | x :: l, h, 0, k, s, v, hj, hk => by
    have e : x = s := by simpa using hj
    subst e
    unfold partsV
    rw [List.flatMap_cons, Nat.zero_mul, Nat.zero_add, List.getElem?_append_left (List.getElem?_eq_some_iff.1 hk).1]
    exact hk
  | x :: l, h, j + 1, k, s, v, hj, hk => by
    have h1 := partC_length (h x (by simp))
    have ih := partsV_at (l := l) (fun y hy => h y (by simp [hy])) (j := j) (k := k) (s := s) (v := v) (by simpa using hj) hk
    unfold partsV at ih ⊢
    rw [List.flatMap_cons, List.getElem?_append_right (by omega), h1, show (j + 1) * 69 + k - 69 = j * 69 + k by omega]
    exact ih
/-- The rows of an area, as the code hands them on. -/
structure KepAt (w : World) (vs : List Value) (K : Rows) : Prop where
  len : vs.length = 32
  long : AllLong K
  few : ∀ i, i < 32 → (K i).length ≤ 5
  row : ∀ i, i < 32 → ∃ (A : Option Addr) (n c : Nat), vs[i]? = some (.slice A n c) ∧ n = (K i).length ∧ Reads w w.heap.size 69 A n (partsV (K i))
theorem KepAt.later {w w' : World} {vs : List Value} {K : Rows} (h : KepAt w vs K) (hb : Below w.heap.size w w') : KepAt w' vs K := by
  refine ⟨h.len, h.long, h.few, fun i hi => ?_⟩
  obtain ⟨A, n, c, h1, h2, h3⟩ := h.row i hi
  exact ⟨A, n, c, h1, h2, h3.later hb⟩
theorem KepAt.one {w : World} {vs : List Value} {K : Rows} (h : KepAt w vs K) : ∀ v ∈ vs, v.oneCell' = true := by
  intro v hv
  obtain ⟨i, hi⟩ := List.mem_iff_getElem?.1 hv
  have hl := (List.getElem?_eq_some_iff.1 hi).1
  obtain ⟨A, n, c, h1, _⟩ := h.row i (by have := h.len; omega)
  rw [hi] at h1
  injection h1 with h1
  rw [h1]
  rfl
/-- A part of a row reads. -/
theorem part_cells {w : World} {B n j : Nat} {A : Option Addr} {l : List (List UInt8)} {s : List UInt8} (h : Reads w B 69 A n (partsV l)) (hl : ∀ s ∈ l, s.length = 64) (hj : l[j]? = some s) : ∃ ad, A = some ad ∧ ad.block < B ∧ ∀ k v, (partC s)[k]? = some v → w.cell? ((ad.add (j * 69)).add k) = some v := by
  have h0 := h.1
  rw [partsV_length hl] at h0
  have hjl := (List.getElem?_eq_some_iff.1 hj).1
  obtain ⟨ad, e, hb, hc⟩ := h.2 (by omega)
  refine ⟨ad, e, hb, fun k v hk => ?_⟩
  rw [add_of_add]
  exact hc _ v (partsV_at hl hj hk)
section
variable {w : World} {g : Nat} {T : TypeId} {s : List UInt8}
theorem part_c0 (h : Blk w g T (partC s).toArray) : w.cell? ⟨g, 0, none⟩ = some (.int .i64 (readT s).gen) := h.cell 0
theorem part_c2 (h : Blk w g T (partC s).toArray) : w.cell? ⟨g, 2, none⟩ = some (.int .i64 (readT s).part) := h.cell 2
theorem part_c3 (h : Blk w g T (partC s).toArray) : w.cell? ⟨g, 3, none⟩ = some (.int .i64 (readT s).parts) := h.cell 3
theorem part_c4 (h : Blk w g T (partC s).toArray) : w.cell? ⟨g, 4, none⟩ = some (.int .i64 (readT s).len) := h.cell 4
end
#print axioms run_index_row
#print axioms built_part
#print axioms part_cells
set_option maxRecDepth 100000 in
set_option maxHeartbeats 4000000 in
theorem seen_any (vs : List Value) (K : Rows) (w : World) (hK : KepAt w vs K) :
    Calls Try.prog 49 #[.agg vs.toArray] w fun e w' => e = .returned (.int .i64 (seenTo K 32 : Int)) ∧ Below w.heap.size w w' := by
  have HK := hide hK
  have HIK := hide (show (Try.prog.info? 97).map (·.size) = some vs.length by rw [hK.len]; exact kept_info)
  clear hK
  go_enter Try.func49, Try.ntmps49
  go_wp2_with (first
    | ((with_reducible refine at_slot 1 ?_); refine wpList_box_blk rfl 97 _ rfl (.agg vs.toArray) rfl ?_; intro w1 hb1q hl1 hs1; clear hs1; have hb1 : Blk w1 w.heap.size 97 vs.toArray := hb1q; clear hb1q)
    | ((with_reducible refine at_slot 8 ?_); refine wpList_load_blk rfl 97 (.tmp 1) rfl w.heap.size 0 97 _ hb1 rfl vs _ (fun j v hj => by rw [Nat.zero_add]; simpa using hj) Try.underlying97 rfl HIK.out ?_))
  have HL1 := hide hl1
  clear hl1 hb1
  go_loopw [3, 9] (fun s3 s9 wr => ∃ i : Nat, s9 = .int .i64 (i : Int) ∧ i ≤ 32 ∧ s3 = .int .i64 (seenTo K i : Int) ∧ Hid (Below w.heap.size w wr)) (fun _ s9 _ => 32 - (intOf s9).toNat)
  case atStart => exact ⟨0, rfl, by decide, rfl, HL1⟩
  case round =>
    obtain ⟨i, rfl, hi, rfl, hl⟩ := hrel
    obtain ⟨wo, rfl⟩ : ∃ wo, wo = wr := ⟨_, rfl⟩
    by_cases h32 : i < 32
    · have hiw : (i : Int) < 32 := by omega
      have HKo := hide (HK.out.later hl.out)
      obtain ⟨A, n, c, hv, hn, hr⟩ := HKo.out.row i h32
      have HR := hide hr
      have HLG := hide (fun s hs => (HK.out.long i h32 s hs).1)
      have HN := hide hn
      have hn5 : n ≤ 5 := by have := HK.out.few i h32; omega
      have HSS := hide (seenTo_succ K i)
      obtain ⟨g0, hg0⟩ : ∃ g0 : Nat, g0 = seenTo K i := ⟨_, rfl⟩
      rw [← hg0] at HSS
      rw [← hg0]
      clear hr hn hg0
      go_wp2_with ((with_reducible refine at_slot 11 ?_); refine wpList_index_row rfl (.tmp 8) (.tmp 9) rfl vs rfl i rfl (.slice A n c) hv h32 ?_)
      go_loopw [3, 14] (fun s3 s14 wq => ∃ j : Nat, s14 = .int .i64 (j : Int) ∧ j ≤ n ∧ s3 = .int .i64 ((max g0 (maxL (((K i).take j).map genT)) : Nat) : Int) ∧ Hid (Below w.heap.size w wq) ∧ Hid (Below wo.heap.size wo wq)) (fun _ s14 _ => n - (intOf s14).toNat)
      case atStart => exact ⟨0, rfl, Nat.zero_le _, by simp [maxL], hl, hide (Below.refl _ _)⟩
      case round =>
        obtain ⟨j, rfl, hj, rfl, hl2, hl3⟩ := hrel
        obtain ⟨wq0, rfl⟩ : ∃ wq0, wq0 = wr := ⟨_, rfl⟩
        by_cases hjn : j < n
        · have hjw : (j : Int) < (n : Int) := by omega
          obtain ⟨s, hs⟩ : ∃ s, (K i)[j]? = some s := ⟨(K i)[j]'(by have := HN.out; omega), List.getElem?_eq_getElem _⟩
          obtain ⟨ad, rfl, hab, hcs⟩ := part_cells (HR.out.below hl3.out) HLG.out hs
          have HCS := hide hcs
          have HPI := hide (show (Try.prog.info? 127).map (·.size) = some (partC s).length by rw [partC_length (HLG.out s (List.mem_of_getElem? hs))]; exact part_info)
          have HPL := hide (partC_length (HLG.out s (List.mem_of_getElem? hs)))
          have HMX := hide (show max g0 (maxL (((K i).take (j + 1)).map genT)) = max (max g0 (maxL (((K i).take j).map genT))) (genT s) by
            rw [List.take_add_one, hs, List.map_append]
            show max g0 (maxL (_ ++ [genT s])) = _
            rw [maxL_snoc]
            omega)
          have HG := hide (genT_is s)
          obtain ⟨g1, hg1⟩ : ∃ g1 : Nat, g1 = max g0 (maxL (((K i).take j).map genT)) := ⟨_, rfl⟩
          rw [← hg1] at HMX
          rw [← hg1]
          clear hcs hs hg1
          go_wp2_with (first
            | ((with_reducible refine at_slot 17 ?_); refine wpList_load_at rfl 127 (.tmp 16) rfl (ad.add (j * 69)) rfl (partC s) _ HCS.out Try.underlying127 rfl HPI.out ?_)
            | ((with_reducible refine at_slot 7 ?_); refine wpList_alloc_blk rfl 127 rfl _ (part_nought _) ?_; intro w3 hb3 hl4 hs3; clear hs3)
            | ((with_reducible refine at_store 7 ?_); refine wpList_store_all rfl 127 (.tmp 7) (.tmp 17) rfl wq0.heap.size 127 _ hb3 rfl (partC s) rfl HPI.out (by rw [HPL.out]; rfl) (partC_one s) ?_; intro w4 hb4 hg4 hs4; have hz3 := hb3.lt; have hl5 : Below wq0.heap.size wq0 w4 := hl4.grown hg4 (by omega) (fun g e => by injection e with e; omega); have y0 := part_c0 hb4; rw [HG.out] at y0; clear hs4 hb4 hg4 hb3 hl4))
          go_roundw
          case rel => exact ⟨j + 1, by simp, by omega, by rw [HMX.out]; congr 1; omega, hide (hl2.out.trans (hl5.mono hl2.out.size)), hide (hl3.out.trans (hl5.mono hl3.out.size))⟩
          case measure => simp [intOf]; omega
        · obtain rfl : j = n := by omega
          have HMX := hide (show max g0 (maxL (((K i).take j).map genT)) = seenTo K (i + 1) by
            rw [HSS.out, List.take_of_length_le (by have := HN.out; omega)])
          rw [HMX.out]
          go_wp2
          go_roundw
          case rel => exact ⟨i + 1, by simp, by omega, rfl, hl2⟩
          case measure => simp [intOf]; omega
    · obtain rfl : i = 32 := by omega
      go_wp2
      go_ret
      exact ⟨rfl, hl.out⟩
#print axioms seen_any
/-- What the bank's Dead answers, now and later. -/
def DeadB (w : World) (b : Nat) (S : Bank) : Prop := ∀ (w1 : World), Below w.heap.size w w1 → ∀ d : Nat, d < S.n →
  Calls Try.prog 69 #[.pointer (some ⟨b, 0, none⟩), .int .i64 (d : Int)] w1 fun e w2 => e = .returned (.bool (S.dead d)) ∧ w1 = w2
theorem DeadB.later {w w' : World} {b : Nat} {S : Bank} (h : DeadB w b S) (hb : Below w.heap.size w w') : DeadB w' b S := fun w1 h1 => h w1 (hb.trans (h1.mono hb.size))
set_option maxHeartbeats 1000000 in
theorem index_no (A : Option Addr) (n c : Nat) (l : List Nat) (d : Nat) (B0 : Nat) (w : World) (hr : Reads w B0 1 A n (I64 (l.map Int.ofNat))) (hn : n ≤ 1000000) (hd : d ∉ l) :
    Calls Try.prog 81 #[.slice A n c, .int .i64 (d : Int)] w fun e w' => e = .returned (.int .i64 (-1)) ∧ w = w' := by
  have hlen : l.length = n := by have := hr.1; rw [I64_length, List.length_map] at this; omega
  have HR := hide hr
  have HD := hide hd
  have HLEN := hide hlen
  clear hr hd hlen
  go_enter Try.func81, Try.ntmps81
  go_wp2_with fail
  go_loopw [8] (fun s8 wr => ∃ k : Nat, s8 = .int .i64 (k : Int) ∧ k ≤ n ∧ w = wr) (fun s8 _ => n - (intOf s8).toNat)
  case atStart => exact ⟨0, rfl, Nat.zero_le _, rfl⟩
  case round =>
    obtain ⟨k, rfl, hk, rfl⟩ := hrel
    by_cases hkn : k < n
    · have hkw : (k : Int) < (n : Int) := by omega
      obtain ⟨ad, rfl, hab, hcs⟩ := HR.out.2 (by omega)
      obtain ⟨x, hx⟩ : ∃ x, l[k]? = some x := ⟨l[k]'(by have := HLEN.out; omega), List.getElem?_eq_getElem _⟩
      have hce : w.cell? (ad.add k) = some (.int .i64 (x : Int)) := hcs k _ (by unfold I64; rw [List.getElem?_map, List.getElem?_map, hx]; rfl)
      have hxd : d ≠ x := fun e => HD.out (e ▸ List.mem_of_getElem? hx)
      have hne : ((d : Int) == (x : Int)) = false := by simp; omega
      clear hcs hx
      go_wp2
      go_roundw
      case rel => exact ⟨k + 1, by simp, by omega, trivial⟩
      case measure => simp [intOf]; omega
    · obtain rfl : k = n := by omega
      go_wp2
      go_ret
      exact ⟨rfl, rfl⟩
#print axioms index_no
theorem contains_no (A : Option Addr) (n c : Nat) (l : List Nat) (d : Nat) (B0 : Nat) (w : World) (hr : Reads w B0 1 A n (I64 (l.map Int.ofNat))) (hn : n ≤ 1000000) (hd : d ∉ l) :
    Calls Try.prog 70 #[.slice A n c, .int .i64 (d : Int)] w fun e w' => e = .returned (.bool false) ∧ w = w' := by
  have H := hide (index_no A n c l d B0 w hr hn hd)
  clear hr
  go_enter Try.func70, Try.ntmps70
  go_wp2_with (go_at_call 81; refine H.out.mono ?_; rintro _ _ ⟨rfl, rfl⟩)
  go_ret
  exact ⟨rfl, rfl⟩
#print axioms contains_no
/-- The members that are asked. -/
def askedL (S : Bank) (live : List Nat) : List Nat := live.filter fun d => !S.dead d
theorem asked_dead {S : Bank} {live : List Nat} {k d : Nat} (h : live[k]? = some d) (hx : S.dead d = true) : askedL S (live.take (k + 1)) = askedL S (live.take k) := by
  unfold askedL
  rw [List.take_add_one, h, List.filter_append]
  simp [hx]
theorem asked_live {S : Bank} {live : List Nat} {k d : Nat} (h : live[k]? = some d) (hx : S.dead d = false) : askedL S (live.take (k + 1)) = askedL S (live.take k) ++ [d] := by
  unfold askedL
  rw [List.take_add_one, h, List.filter_append]
  simp [hx]
theorem asked_new {S : Bank} {live : List Nat} {k d : Nat} (hnd : live.Nodup) (h : live[k]? = some d) : d ∉ askedL S (live.take k) := by
  intro hm
  obtain ⟨hm, _⟩ := List.mem_filter.1 hm
  obtain ⟨j, hj⟩ := List.mem_iff_getElem?.1 hm
  rw [List.getElem?_take] at hj
  split at hj
  · rename_i hjk
    obtain ⟨h1, e1⟩ := List.getElem?_eq_some_iff.1 hj
    obtain ⟨h2, e2⟩ := List.getElem?_eq_some_iff.1 h
    have := (List.getElem_inj hnd (h₀ := h1) (h₁ := h2)).1 (e1.trans e2.symm)
    omega
  · cases hj
theorem asked_le (S : Bank) (live : List Nat) : (askedL S live).length ≤ live.length := List.length_filter_le _ _
set_option maxRecDepth 100000 in
set_option maxHeartbeats 4000000 in
theorem readable_any (A : Option Addr) (n c : Nat) (live : List Nat) (b : Nat) (S : Bank) (w : World) (hD : DeadB w b S) (hr : Reads w w.heap.size 1 A n (I64 (live.map Int.ofNat))) (hv : ∀ d ∈ live, d < S.n) (hnd : live.Nodup) (hn : n ≤ 5) :
    Calls Try.prog 47 #[.pointer (some ⟨b, 0, none⟩), .slice A n c] w fun e w' => ∃ v, e = .returned v ∧ w'.ownsRow w.heap.size 3 1 v (askedL S live).length (I64 ((askedL S live).map Int.ofNat)) ∧ Below w.heap.size w w' := by
  obtain ⟨i0, hi0, hz0, hz1, hz2⟩ := info_parts int_parts
  have hlen : live.length = n := by have := hr.1; rw [I64_length, List.length_map] at this; omega
  have HI := hide (And.intro hi0 (And.intro hz0 (And.intro hz1 hz2)))
  have HR := hide hr
  have HD := hide hD
  have HV := hide hv
  have HND := hide hnd
  have HLEN := hide hlen
  clear hr hD hv hnd hlen hi0 hz0 hz1 hz2
  go_enter Try.func47, Try.ntmps47
  go_wp2_with fail
  go_loopw [5, 10] (fun s5 s10 wr => ∃ (k m : Nat) (A1 : Option Addr) (c1 : Nat), s10 = .int .i64 (k : Int) ∧ k ≤ n ∧ s5 = .slice A1 m c1 ∧ Hid (m = (askedL S (live.take k)).length) ∧ Hid (wr.ownsRow w.heap.size 3 1 (.slice A1 m c1) m (I64 ((askedL S (live.take k)).map Int.ofNat))) ∧ Hid (Below w.heap.size w wr)) (fun _ s10 _ => n - (intOf s10).toNat)
  case atStart => exact ⟨0, 0, none, 0, rfl, Nat.zero_le _, rfl, hide rfl, hide (World.ownsRow_nil _ _ _ _), hide (Below.refl _ _)⟩
  case round =>
    obtain ⟨k, m, A1, c1, rfl, hk, rfl, hm, hO, hl⟩ := hrel
    obtain ⟨wo, rfl⟩ : ∃ wo, wo = wr := ⟨_, rfl⟩
    by_cases hkn : k < n
    · have hkw : (k : Int) < (n : Int) := by omega
      obtain ⟨ad, rfl, hab, hcs⟩ := HR.out.2 (by omega)
      obtain ⟨d, hd⟩ : ∃ d, live[k]? = some d := ⟨live[k]'(by have := HLEN.out; omega), List.getElem?_eq_getElem _⟩
      have hdm : d ∈ live := List.mem_of_getElem? hd
      have hce : wo.cell? (ad.add k) = some (.int .i64 (d : Int)) := (hl.out.cell (p := ad.add k) (by rw [block_of_add]; exact hab)).trans (hcs k _ (by unfold I64; rw [List.getElem?_map, List.getElem?_map, hd]; rfl))
      have HDD := hide (HD.out wo hl.out d (HV.out d hdm))
      cases hx : S.dead d with
      | true =>
        have HA := hide (asked_dead hd hx)
        rw [hx] at HDD
        clear hx hd hdm hcs
        go_wp2_with (go_at_call 69; refine HDD.out.mono ?_; rintro _ _ ⟨rfl, rfl⟩)
        go_roundw
        case rel => exact ⟨k + 1, m, A1, c1, by simp, by omega, rfl, hide (by rw [HA.out]; exact hm.out), hide (by rw [HA.out]; exact hO.out), hl⟩
        case measure => simp [intOf]; omega
      | false =>
        have HA := hide (asked_live hd hx)
        have hmn : m ≤ n := by
          have h1 := hm.out
          have h2 := asked_le S (live.take k)
          rw [List.length_take] at h2
          omega
        have HC := hide (contains_no A1 m c1 (askedL S (live.take k)) d wo.heap.size wo (Reads.of_own hO.out) (by omega) (asked_new HND.out hd))
        have h63 : m + 1 ≤ maxLen := by simp only [maxLen]; omega
        have hm2 : (m + 1) * 8 ≤ 140737488355328 := by omega
        have HM := hide (And.intro h63 hm2)
        have HSZ := hide hl.out.size
        rw [hx] at HDD
        clear hx hd hdm hcs h63 hm2
        go_wp2_with (first
          | (go_at_call 69; refine HDD.out.mono ?_; rintro _ _ ⟨rfl, rfl⟩)
          | (go_at_call 70; refine HC.out.mono ?_; rintro _ _ ⟨rfl, rfl⟩)
          | (at_builtin; refine wpList_append_any _ rfl (.tmp 24) (.tmp 26) _ rfl w.heap.size 3 i0 _ 1 8 Try.underlying27 HI.out.1 HI.out.2.1 HI.out.2.2.1 HI.out.2.2.2 rfl (by decide) _ m _ rfl (hO.out.alloc _) (wo.heap.size + 1) (some ⟨wo.heap.size, 0, none⟩) 1 1 [.int .i64 (d : Int)] rfl (Reads.one _ _ _ _ (by omega)) (one_i64 _) HM.out.1 HM.out.2 (le_alloc HSZ.out _) ?_; intro v5 w5 hown5 hbel5))
        obtain ⟨A2, c2, rfl, _, _⟩ := own_shape hown5
        go_roundw
        case rel =>
          refine ⟨k + 1, m + 1, A2, c2, by simp, by omega, rfl, hide ?_, hide ?_, hide ?_⟩
          · rw [HA.out, List.length_append, ← hm.out]
            rfl
          · rw [HA.out]
            simpa [I64] using hown5
          · exact hl.out.trans (((Below.refl _ _).alloc HSZ.out _).trans hbel5)
        case measure => simp [intOf]; omega
    · obtain rfl : k = n := by omega
      have e : live.take k = live := List.take_of_length_le (by have := HLEN.out; omega)
      have HE := hide e
      clear e
      go_wp2
      go_ret
      have hO2 := hO.out
      have hm2 := hm.out
      rw [HE.out] at hO2 hm2
      exact ⟨_, rfl, hm2 ▸ hO2, hl.out⟩
#print axioms readable_any
theorem sparts_in (gen nr : Int) (r : List UInt8) : PartsIn (B8 (splitT gen nr r)).toArray (partsS gen nr r) := by
  intro i s hs j v hv
  obtain ⟨hi, he⟩ := partsS_at hs
  have h1 : secAt (splitT gen nr r) i = pieceS gen nr r i := secAt_cat (fun i _ => secT_length _ _) hi
  unfold secL at hv
  rw [he, ← h1] at hv
  have hj : j < 64 := by
    have h2 := (List.getElem?_eq_some_iff.1 hv).1
    rw [B8_length] at h2
    unfold secAt at h2
    rw [List.length_take] at h2
    omega
  unfold secAt at hv
  rw [← B8_take, ← B8_drop, List.getElem?_take, if_pos hj, List.getElem?_drop] at hv
  rw [List.getElem?_toArray]
  exact hv
theorem ssplit_len (n : Nat) : partsN n = 0 ↔ 2120 < n := by
  unfold partsN partsI
  split
  · omega
  · split <;> omega
theorem saveC_no {S : Bank} {live : List Nat} {area : Nat} {gen : Int} {x : List UInt8} (h : ¬ (area ≤ 1 ∧ numB gen = true ∧ x.length ≤ 1696)) : saveC S live area gen x = (1, S) := if_neg h
set_option maxRecDepth 100000 in
set_option maxHeartbeats 8000000 in
theorem csave_any (w : World) (b : Nat) (F : Nat → Prop) (S : Bank) (A : Option Addr) (n c : Nat) (live : List Nat) (area : Nat) (gen : Int) (B : Option Addr) (m k : Nat) (x : List UInt8) (hW : WritesB b F) (hFl : FlushesB b F) (hB : BankOn w b F S) (hr : Reads w w.heap.size 1 A n (I64 (live.map Int.ofNat))) (hn5 : n ≤ 5) (hA : ∀ ad, A = some ad → 0 < n → ¬ F ad.block) (hx : Reads w w.heap.size 1 B m (B8 x)) (hmk : m ≤ k) (hk : k ≤ 9223372036854775807) (hw : S.writes ≤ 1000000) :
    Calls Try.prog 29 #[.pointer (some ⟨b, 0, none⟩), .slice A n c, .int .i64 (area : Int), .int .i64 gen, .slice B m k] w fun e w' => e = .returned (.int .i64 ((saveC S live area gen x).1 : Int)) ∧ BankOn w' b F (saveC S live area gen x).2 ∧ Turn F w w' := by
  have HB := hide hB
  have HR := hide hr
  have HA := hide hA
  have HW := hide hW
  have HFL := hide hFl
  by_cases ha : area ≤ 1
  · have ha1 : ¬ ((area : Int) < 0) := by omega
    have ha2 : ¬ (2 ≤ (area : Int)) := by omega
    cases hg : numB gen with
    | false =>
      rw [saveC_no (fun h => by rw [hg] at h; cases h.2.1)]
      have HS := hide (recSplit_no gen 0 (.slice B m k) w (.inl hg))
      clear hB hr hA hW hFl hx hg
      go_enter Try.func29, Try.ntmps29
      go_wp2_with (go_at_call 35; refine HS.out.mono ?_; rintro _ _ ⟨rfl, rfl⟩)
      go_ret
      exact ⟨rfl, HB.out, Turn.refl _ _⟩
    | true =>
      have HS := hide (recSplit_any gen 0 B m k x w.heap.size w hx (Nat.le_refl _) hmk hk hg (by decide))
      by_cases hlong : 2120 < x.length
      · rw [saveC_no (fun h => by omega)]
        rw [(ssplit_len x.length).2 hlong] at HS
        clear hB hr hA hW hFl hx hg
        go_enter Try.func29, Try.ntmps29
        go_wp2_with (go_at_call 35; refine HS.out.mono ?_; rintro _ w2 ⟨g, rfl, hg1, hbg, hl2⟩)
        go_ret
        exact ⟨rfl, HB.out.later hl2, Turn.of_below hl2⟩
      · obtain ⟨q1, q2, q3⟩ := partsN_is (n := x.length) (by omega)
        by_cases hmid : 1696 < x.length
        · rw [saveC_no (fun h => by omega)]
          have hN32 : 32 < partsN x.length := by omega
          obtain ⟨N, hN⟩ : ∃ N, N = partsN x.length := ⟨_, rfl⟩
          rw [← hN] at HS hN32
          have hNw : ¬ ((N : Int) = 0) := by omega
          have hNx : (32 : Int) < (N : Int) := by omega
          clear hB hr hA hW hFl hx hg hN q1 q2 q3
          go_enter Try.func29, Try.ntmps29
          go_wp2_with (go_at_call 35; refine HS.out.mono ?_; rintro _ w2 ⟨g, rfl, hg1, hbg, hl2⟩)
          go_ret
          exact ⟨rfl, HB.out.later hl2, Turn.of_below hl2⟩
        · have hN32 := parts_32 (x := x) (by omega)
          have HX := hide (show saveC S live area gen x = layAll (50 + 32 * area) (partsS gen 0 x) live S false from if_pos ⟨ha, hg, by omega⟩)
          have HPL := hide (partsS_length gen 0 x)
          have HPI := hide (sparts_in gen 0 x)
          obtain ⟨N, hN⟩ : ∃ N, N = partsN x.length := ⟨_, rfl⟩
          rw [← hN] at HS hN32 HPL
          have hNw : ((N : Int) == 0) = false := by simp; omega
          have hNx : decide ((32 : Int) < (N : Int)) = false := by simp; omega
          have hNy : (((N : Int) == 0) || decide ((32 : Int) < (N : Int))) = false := by rw [hNw, hNx]; rfl
          have HLA := hide (fun (w2 : World) (g : Nat) (h1 : BankOn w2 b F S) (h2 : Reads w2 w2.heap.size 1 A n (I64 (live.map Int.ofNat))) (h3 : Blk w2 g 51 (B8 (splitT gen 0 x)).toArray) (h4 : ¬ F g) => spread_any b g F S A n c live (50 + 32 * area) N N (partsS gen 0 x) _ w2 HW.out HFL.out h1 h2 HA.out h3 h4 HPI.out HPL.out (by omega) (by omega) hw hn5)
          rw [show ((50 + 32 * area : Nat) : Int) = 50 + (area : Int) * 32 by omega] at HLA
          rw [HX.out]
          generalize layAll (50 + 32 * area) (partsS gen 0 x) live S false = C at HLA
          obtain ⟨C1, C2⟩ := C
          clear hB hr hA hW hFl hx hg hN q1 q2 q3 HX
          go_enter Try.func29, Try.ntmps29
          go_wp2_with (first
            | (go_at_call 35; refine HS.out.mono ?_; rintro _ w2 ⟨g, rfl, hg1, hbg, hl2⟩; have HB2 := hide (HB.out.later hl2); have HR2 := hide (HR.out.later hl2); have hgF : ¬ F g := (fun h => (by have := HB.out.1 g h; omega)))
            | (go_at_call 36; refine (HLA.out w2 g HB2.out HR2.out hbg hgF).mono ?_; rintro _ w3 ⟨rfl, hB3, hT3⟩))
          go_ret
          exact ⟨rfl, hB3, (Turn.of_below hl2).trans hT3⟩
  · rw [saveC_no (fun h => ha h.1)]
    have ha1 : ¬ ((area : Int) < 0) := by omega
    have ha2 : 2 ≤ (area : Int) := by omega
    clear hB hr hA hW hFl hx
    go_enter Try.func29, Try.ntmps29
    go_wp2
    go_ret
    exact ⟨rfl, HB.out, Turn.refl _ _⟩
#print axioms csave_any
end Go.Proofs.Ytmjdndhpnckeeaa
