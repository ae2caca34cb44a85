/- What the reference's Of answers, over whatever sector comes in: the same. -/
import Derived.Test.YtbbfgcekjelmkaaRefLP
import Derived.Test.YtbbfgcekjelmkaaWhen
namespace Go.Proofs.Ytbbfgcekjelmkaa
open Go.RowKit

/-- An append onto a row of the call's own, as one step of a region in open order. -/
theorem step_append_any {P : Program} {ops : Array Oper} {o : Oper} {a : Act} {w : World} {K : Act → World → Prop} {Q : Exit → Act → World → Prop} {E : Prop}
    (hg : o.guard = none) (s x : Operand) (t : TypeId) (ho : o.op = .call { callee := .builtin .append, args := #[s, x], argTypes := #[t, t] })
    (base : Nat) (e : TypeId) (i : TypeInfo) (z : Value) (size bytes : Nat) (ht : P.underlying t = some (.slice e)) (hi : P.info? e = some i) (hz : i.zero = some z)
    (hsize : i.size = size) (hby : i.bytes = bytes) (hzs : z.cells.size = size) (hsz : 0 < size)
    (v : Value) (n : Nat) (xs : List Value) (hs : a.eval s = v) (hown : w.ownsRow base e size v n xs)
    (B : Nat) (A : Option Addr) (m c : Nat) (news : List Value) (hx : a.eval x = .slice A m c) (hr : Reads w B size A m news) (h1 : ∀ u ∈ news, u.oneCell' = true)
    (h63 : n + m ≤ maxLen) (hbytes : (n + m) * bytes ≤ 140737488355328) (hbase : base ≤ w.heap.size)
    (hK : ∀ v' w', w'.ownsRow base e size v' (n + m) (xs ++ news) → Below base w w' → K (a.put o.dst v') w') : if Region.wanted o (yielded ops a.tmps) = true then Oper.wp P o a w K Q else E := by
  have hw : Region.wanted o (yielded ops a.tmps) = true := by simp [Region.wanted, hg]
  rw [if_pos hw]
  obtain ⟨v', w', hrun, h2, h3, _⟩ := run_append_any (P := P) w base t o.type e i z size bytes ht hi hz hsize hby hzs hsz v n xs hown B A m c news hr h1 h63 hbytes hbase
  unfold Oper.wp execOp
  simp only [ho, resolve, invoke, builtin, Sem.run_bind, Sem.run_pure, Result.andThen_ok, List.map_toArray, List.map_cons, List.map_nil, hs, hx, hrun]
  exact hK _ _ h2 ((Below.refl _ _).grown h3 hbase (fun k hk => (hown.lt k hk).1))
/-- Byte j of a sector. -/
def bt (s : List UInt8) (j : Nat) : Nat := (s[j]?.getD 0).toNat
theorem bt_lt (s : List UInt8) (j : Nat) : bt s j < 256 := (s[j]?.getD 0).toNat_lt
theorem bt_cell {s : List UInt8} {j : Nat} (h : j < s.length) : (B8 s).toArray[j]? = some (.int .u8 (bt s j : Int)) := by
  rw [List.getElem?_toArray, B8_at s h, bt, List.getElem?_eq_getElem h]
  rfl
theorem bt_get {s : List UInt8} {j : Nat} (h : j < s.length) : getV (s.drop j) 1 = bt s j := by
  have ho : getO (s.drop j) 1 = true := by simp [getO]; omega
  have e : (s.drop j).take (1 : Int).toNat = [s[j]] := by rw [List.drop_eq_getElem_cons h]; rfl
  rw [getV_yes ho, e, bt, List.getElem?_eq_getElem h]
  simp [num]
theorem of_letters {s : Sec} (h : s.1.take 2 ≠ [66, 87]) : ofB s = false := by
  rw [ofB]
  cases hr : rightB (readL s.1) with
  | false => rfl
  | true =>
    rw [Bool.true_and, decide_eq_false_iff_not]
    intro e
    apply h
    rw [← e]
    obtain ⟨_, _, _, q4, _, _⟩ := right_parts hr
    show (front (labB (readL s.1))).take 2 = [66, 87]
    rw [front_short (by rw [labB_length]; omega)]
    rfl
theorem of_many {s : Sec} (h : 12 < bt s.1 13) : ofB s = false := by
  have hl : (readL s.1).members.length = bt s.1 13 := by
    show ((List.range (countM s.1)).map (readM s.1)).length = _
    rw [List.length_map, List.length_range]
    exact bt_get (by rw [s.2]; omega)
  have hm : membersB (readL s.1).members = false := by
    have h2 : inB ((readL s.1).members.length : Int) 3 12 = false := inB_no.2 (fun hh => by rw [hl] at hh; omega)
    rw [membersB, h2]
    rfl
  rw [ofB]
  have hr : rightB (readL s.1) = false := by simp [rightB, hm]
  rw [hr]
  rfl
theorem extract_two (s : ByteArray) : (s.extract 0 2).toList = (chars s).take 2 := by
  rw [ByteArray.toList_eq]
  unfold chars
  rw [Lib.extract_data]
  simp
set_option maxRecDepth 100000 in
set_option maxHeartbeats 8000000 in
theorem refOf_any (s : Sec) (w : World) :
    Calls Try.prog 15 #[secV s] w fun e w' => (∃ A n c, e = .returned (.tuple #[labV (ofL s) A n c, .int .i64 (ofE s)]) ∧ Gave (ofL s) w w' A n c) ∧ Below w.heap.size w w' := by
  obtain ⟨US, hUS⟩ : ∃ U, U = secL s := ⟨_, rfl⟩
  have hUSl : US.length = 64 := by rw [hUS, secL_length]
  have hiS : (Try.prog.info? 26).map (·.size) = some US.length := by rw [hUSl]; exact sec_info
  have hsS : secV s = .agg US.toArray := by rw [hUS]; rfl
  have hES : Value.agg US.toArray = .agg (B8 s.1).toArray := by rw [hUS]; rfl
  have hB8 : US = B8 s.1 := hUS
  rw [hsS]
  have HIS := hide hiS
  have HES := hide hES
  have HUB := hide hB8
  obtain ⟨t, ht⟩ : ∃ t, t = strOf s.1 := ⟨_, rfl⟩
  have hts : t.size = 64 := by rw [ht, strOf_size, s.2]
  have HTS := hide ht
  have hT2 := hide (show (t.extract 0 2).toList = s.1.take 2 by rw [extract_two, ht, chars_strOf])
  have HG : Hid (∀ (o : Nat) (k : Int) (W : World), Calls Try.prog 40 #[.string (t.extract o 64), .int .i64 k] W fun e w' => e = .returned (.tuple #[.int .i64 (getV (s.1.drop o) k), .bool (getO (s.1.drop o) k)]) ∧ W = w') := fun o k W => by
    have h := refGet_any (t.extract o 64) k W (by simp; omega)
    rw [show t.extract o 64 = t.extract o t.size by rw [hts], chars_extract, ht, chars_strOf] at h
    rw [show t.extract o 64 = t.extract o t.size by rw [hts], ht]
    exact h
  have HBL := hide (show Try.prog.built 24 [(0, .int .i64 (readL s.1).array), (1, .int .i64 (readL s.1).gen), (2, .int .i64 (bt s.1 10 : Int)), (3, .int .i64 (readL s.1).blocks)] = some (labC (readL s.1) none 0 0).toArray by
    rw [show ((bt s.1 10 : Nat) : Int) = (readL s.1).member by rw [← bt_get (by rw [s.2]; omega)]; rfl]
    exact built_lab _ _ _ _)
  clear hUS hUSl hiS hsS hES hB8 ht
  cases h2 : decide (s.1.take 2 = [66, 87]) with
  | false =>
    have hne : s.1.take 2 ≠ [66, 87] := by simpa using h2
    have hB := of_letters hne
    have HO := hide (show ofL s = Lab.none_ by rw [ofL, hB]; rfl)
    have HE := hide (show ofE s = 2 by rw [ofE, hB]; rfl)
    clear hB
    have hq : ¬ (t.extract 0 2).toList = [66, 87] := by rw [hT2.out]; exact hne
    clear h2 hne
    go_enter Try.func15, Try.ntmps15
    go_wp2_with (first
      | (refine wpList_box_blk rfl 26 _ rfl (.agg US.toArray) rfl ?_; intro w1 hb1q hl1 hs1; clear hs1; have hb1 : Blk w1 w.heap.size 26 US.toArray := hb1q; clear hb1q)
      | (refine wpList_alloc_blk rfl 24 rfl _ (lab_zero _) ?_; intro w2 hb2 hl2 hs2; clear hs2; have hz1 := hb1.lt; have hz2 := hb2.lt; have HB2 := hide (hb1.below hl2 hz1); have hrd : Reads w2 w2.heap.size 1 (some ⟨w.heap.size, 0, none⟩) 64 (B8 s.1) := (by
          have hb := HB2.out
          rw [HUB.out] at hb
          have h := hb.reads (B := w2.heap.size) (off := 0) (n := 64) (xs := s.1) (by omega) (by rw [s.2])
          rwa [List.drop_zero] at h); have hkc := run_conv_reads (P := Try.prog) w2 64 5 9 Try.underlying64 Try.underlying5 Try.underlying9 w2.heap.size (some ⟨w.heap.size, 0, none⟩) 64 64 s.1 hrd; rw [show (⟨s.1.toArray⟩ : ByteArray) = t from HTS.out.symm] at hkc; have y13 : w2.cell? ⟨w.heap.size, 13, none⟩ = some (.int .u8 (bt s.1 13 : Int)) := (by
          have hb := HB2.out
          rw [HUB.out] at hb
          exact (hb.cell 13).trans (bt_cell (by rw [s.2]; omega))); have HL2 := hide (hl1.trans (hl2.mono (by omega))); have HX2 := hide hb2; clear hrd hb1 hb2 hl1 hl2)
      | (refine wpList_build_is rfl 24 #[] rfl [] (by simp) (labC Lab.none_ none 0 0).toArray built_lab0 ?_)
      | (refine wpList_store_all rfl 24 (.tmp 2) (.tmp 29) rfl w1.heap.size 24 _ HX2.out rfl (labC Lab.none_ none 0 0) rfl lab_info rfl (labC_one _ _ _ _) ?_; intro w9 hb9 hg9 hs9; clear hs9))
    exact ret_cell_tmp rfl w1.heap.size 24 (labC Lab.none_ none 0 0) _ hb9 rfl Try.underlying24 rfl lab_info (.int .i64 2) rfl rfl ⟨⟨none, 0, 0, by rw [HO.out, HE.out]; rfl, by rw [HO.out]; exact Gave.none_⟩, HL2.out.grown hg9 (by have := HL2.out.size; omega) (fun g e => by injection e with e; omega)⟩
  | true =>
    have hq : (t.extract 0 2).toList = [66, 87] := by rw [hT2.out]; exact of_decide_eq_true h2
    have hbt := bt_lt s.1 13
    clear h2
    cases h12 : decide (12 < bt s.1 13) with
    | true =>
      have hB := of_many (of_decide_eq_true h12)
      have HO := hide (show ofL s = Lab.none_ by rw [ofL, hB]; rfl)
      have HE := hide (show ofE s = 2 by rw [ofE, hB]; rfl)
      have h12I : (12 : Int) < (bt s.1 13 : Int) := by have := of_decide_eq_true h12; omega
      clear hB h12
      go_enter Try.func15, Try.ntmps15
      go_wp2_with (first
        | (refine wpList_box_blk rfl 26 _ rfl (.agg US.toArray) rfl ?_; intro w1 hb1q hl1 hs1; clear hs1; have hb1 : Blk w1 w.heap.size 26 US.toArray := hb1q; clear hb1q)
        | (refine wpList_alloc_blk rfl 24 rfl _ (lab_zero _) ?_; intro w2 hb2 hl2 hs2; clear hs2; have hz1 := hb1.lt; have hz2 := hb2.lt; have HB2 := hide (hb1.below hl2 hz1); have hrd : Reads w2 w2.heap.size 1 (some ⟨w.heap.size, 0, none⟩) 64 (B8 s.1) := (by
            have hb := HB2.out
            rw [HUB.out] at hb
            have h := hb.reads (B := w2.heap.size) (off := 0) (n := 64) (xs := s.1) (by omega) (by rw [s.2])
            rwa [List.drop_zero] at h); have hkc := run_conv_reads (P := Try.prog) w2 64 5 9 Try.underlying64 Try.underlying5 Try.underlying9 w2.heap.size (some ⟨w.heap.size, 0, none⟩) 64 64 s.1 hrd; rw [show (⟨s.1.toArray⟩ : ByteArray) = t from HTS.out.symm] at hkc; have y13 : w2.cell? ⟨w.heap.size, 13, none⟩ = some (.int .u8 (bt s.1 13 : Int)) := (by
            have hb := HB2.out
            rw [HUB.out] at hb
            exact (hb.cell 13).trans (bt_cell (by rw [s.2]; omega))); have HL2 := hide (hl1.trans (hl2.mono (by omega))); have HX2 := hide hb2; clear hrd hb1 hb2 hl1 hl2)
        | (refine wpList_build_is rfl 24 #[] rfl [] (by simp) (labC Lab.none_ none 0 0).toArray built_lab0 ?_)
        | (refine wpList_store_all rfl 24 (.tmp 2) (.tmp 29) rfl w1.heap.size 24 _ HX2.out rfl (labC Lab.none_ none 0 0) rfl lab_info rfl (labC_one _ _ _ _) ?_; intro w9 hb9 hg9 hs9; clear hs9))
      exact ret_cell_tmp rfl w1.heap.size 24 (labC Lab.none_ none 0 0) _ hb9 rfl Try.underlying24 rfl lab_info (.int .i64 2) rfl rfl ⟨⟨none, 0, 0, by rw [HO.out, HE.out]; rfl, by rw [HO.out]; exact Gave.none_⟩, HL2.out.grown hg9 (by have := HL2.out.size; omega) (fun g e => by injection e with e; omega)⟩
    | false =>
      have h12I : ¬ (12 : Int) < (bt s.1 13 : Int) := by have := of_decide_eq_false h12; omega
      clear h12
      go_enter Try.func15, Try.ntmps15
      go_wp2_with (first
        | (refine wpList_box_blk rfl 26 _ rfl (.agg US.toArray) rfl ?_; intro w1 hb1q hl1 hs1; clear hs1; have hb1 : Blk w1 w.heap.size 26 US.toArray := hb1q; clear hb1q)
        | (refine wpList_alloc_blk rfl 24 rfl _ (lab_zero _) ?_; intro w2 hb2 hl2 hs2; clear hs2; have hz1 := hb1.lt; have hz2 := hb2.lt; have HB2 := hide (hb1.below hl2 hz1); have hrd : Reads w2 w2.heap.size 1 (some ⟨w.heap.size, 0, none⟩) 64 (B8 s.1) := (by
            have hb := HB2.out
            rw [HUB.out] at hb
            have h := hb.reads (B := w2.heap.size) (off := 0) (n := 64) (xs := s.1) (by omega) (by rw [s.2])
            rwa [List.drop_zero] at h); have hkc := run_conv_reads (P := Try.prog) w2 64 5 9 Try.underlying64 Try.underlying5 Try.underlying9 w2.heap.size (some ⟨w.heap.size, 0, none⟩) 64 64 s.1 hrd; rw [show (⟨s.1.toArray⟩ : ByteArray) = t from HTS.out.symm] at hkc; have y13 : w2.cell? ⟨w.heap.size, 13, none⟩ = some (.int .u8 (bt s.1 13 : Int)) := (by
            have hb := HB2.out
            rw [HUB.out] at hb
            exact (hb.cell 13).trans (bt_cell (by rw [s.2]; omega))); have HL2 := hide (hl1.trans (hl2.mono (by omega))); have HX2 := hide hb2; clear hrd hb1 hb2 hl1 hl2))
      obtain ⟨N, hN⟩ : ∃ N, N = bt s.1 13 := ⟨_, rfl⟩
      have HN := hide hN
      have hN12 : N ≤ 12 := by omega
      rw [← hN]
      clear hq h12I hbt y13 hN
      refine (HG.out 2 4 w2).mono ?_
      rintro _ _ ⟨rfl, rfl⟩
      have y10 : w2.cell? ⟨w.heap.size, 10, none⟩ = some (.int .u8 (bt s.1 10 : Int)) := by
        have hb := HB2.out
        rw [HUB.out] at hb
        exact (hb.cell 10).trans (bt_cell (by rw [s.2]; omega))
      have hb10 := bt_lt s.1 10
      go_wp2_with (first
        | (go_at_call 40; refine (HG.out _ _ _).mono ?_; rintro _ _ ⟨rfl, rfl⟩)
        | (refine wpList_build_is rfl 24 #[(0, .tmp 48), (1, .tmp 49), (2, .tmp 52), (3, .tmp 53)] rfl [(0, .int .i64 (readL s.1).array), (1, .int .i64 (readL s.1).gen), (2, .int .i64 (bt s.1 10 : Int)), (3, .int .i64 (readL s.1).blocks)] (by simp only [List.map_toArray, List.map_cons, List.map_nil]; rfl) (labC (readL s.1) none 0 0).toArray HBL.out ?_)
        | (refine wpList_alloc_blk rfl 24 rfl _ (lab_zero _) ?_; intro w3 hb3 hl3 hs3; clear hs3)
        | (refine wpList_store_all rfl 24 (.tmp 11) (.tmp 54) rfl w2.heap.size 24 _ hb3 rfl (labC (readL s.1) none 0 0) rfl lab_info rfl (labC_one _ _ _ _) ?_; intro w4 hb4 hg4 hs4; clear hs4))
      have hz3 := hb3.lt
      have hz4 := hg4.size
      have HL4 := hide (hl3.grown hg4 (by have := hl3.size; omega) (fun g e => by injection e with e; omega) : Below w2.heap.size w2 w4)
      have HX4 := hide hb4
      clear hb3 hl3 hb4 hg4 y10 hb10 hkc
      have HBY := hide (fun (W : World) (h : Below w2.heap.size w2 W) (j : Nat) (hj : j < 64) => (show W.cell? ⟨w.heap.size, j, none⟩ = some (.int .u8 (bt s.1 j : Int)) from by
        have hb := HB2.out.below h (by omega)
        rw [HUB.out] at hb
        exact (hb.cell j).trans (bt_cell (by rw [s.2]; exact hj))))
      obtain ⟨i0, hi0, hz0, hz1i, hz2i⟩ := info_parts mb_parts
      go_loopw [12, 13, 14, 15] (fun s12 _ _ _ wr => ∃ (k : Nat) (A : Option Addr) (c : Nat), k ≤ N ∧ s12 = .int .i64 (k : Int) ∧ Hid (Blk wr w2.heap.size 24 (labC (readL s.1) A k c).toArray) ∧ Hid (wr.ownsRow w4.heap.size 62 3 (.slice A k c) k (mbL ((List.range k).map (readM s.1)))) ∧ Hid (Below w2.heap.size w2 wr) ∧ w4.heap.size ≤ wr.heap.size) (fun s12 _ _ _ _ => N - (intOf s12).toNat)
      case atStart => exact ⟨0, none, 0, Nat.zero_le _, rfl, HX4, hide (World.ownsRow_nil _ _ _ _), HL4, Nat.le_refl _⟩
      case round =>
        obtain ⟨k, A, c, hk, rfl, HX, HO, HL, hsz⟩ := hrel
        have y13 : wr.cell? ⟨w.heap.size, 13, none⟩ = some (.int .u8 (N : Int)) := by rw [HN.out]; exact HBY.out wr HL.out 13 (by omega)
        by_cases hkn : k < N
        · have ya := HBY.out wr HL.out (14 + 4 * k) (by omega)
          have yb := HBY.out wr HL.out (14 + 4 * k + 3) (by omega)
          have ba := bt_lt s.1 (14 + 4 * k)
          have bb := bt_lt s.1 (14 + 4 * k + 3)
          have x4 := lab_c4 HX.out
          have HM := hide (show ([.int .i64 (bt s.1 (14 + 4 * k) : Int), .int .i64 ((getV (s.1.drop (14 + 4 * k + 1)) 2 : Nat) : Int), .int .i64 (bt s.1 (14 + 4 * k + 3) : Int)] : List Value) = mbC (readM s.1 k) by
            show _ = [Value.int .i64 ((getV (s.1.drop (14 + 4 * k)) 1 : Nat) : Int), .int .i64 ((getV (s.1.drop (15 + 4 * k)) 2 : Nat) : Int), .int .i64 ((getV (s.1.drop (17 + 4 * k)) 1 : Nat) : Int)]
            rw [bt_get (by rw [s.2]; omega), bt_get (by rw [s.2]; omega), show 14 + 4 * k + 1 = 15 + 4 * k by omega, show 14 + 4 * k + 3 = 17 + 4 * k by omega])
          have HMM := hide (show mbL ((List.range k).map (readM s.1)) ++ mbC (readM s.1 k) = mbL ((List.range (k + 1)).map (readM s.1)) by rw [List.range_succ, List.map_append, mbL_append]; simp [mbL])
          generalize hva : bt s.1 (14 + 4 * k) = va at *
          generalize hvb : bt s.1 (14 + 4 * k + 3) = vb at *
          generalize hvc : getV (s.1.drop (14 + 4 * k + 1)) 2 = vc at *
          have HVC := hide hvc
          clear hva hvb hvc
          have hA : k + 1 ≤ maxLen := by simp only [maxLen]; omega
          have hB : (k + 1) * 24 ≤ 140737488355328 := by omega
          go_wp2_with fail
          refine (HG.out _ _ _).mono ?_
          rintro _ _ ⟨rfl, rfl⟩
          rw [HVC.out]
          go_wp2_with fail
          have i1 : (0 : Int) ≤ 14 + 4 * (k : Int) := by omega
          have i2 : 14 + 4 * (k : Int) < 64 := by omega
          have i3 : (14 + 4 * (k : Int)).toNat = 14 + 4 * k := by omega
          have i4 : (0 : Int) ≤ 14 + 4 * (k : Int) + 3 := by omega
          have i5 : 14 + 4 * (k : Int) + 3 < 64 := by omega
          have i6 : (14 + 4 * (k : Int) + 3).toNat = 14 + 4 * k + 3 := by omega
          have i7 : IntKind.i64.wrap (14 + 4 * (k : Int) + 3) = 14 + 4 * (k : Int) + 3 := by rw [IntKind.wrap_i64]; omega
          have x4a := lab_c4 (HX.out.alloc (.cells #[.int .i64 (va : Int), .int .i64 (vc : Int), .int .i64 (vb : Int)] 62))
          have i8 : IntKind.i64.wrap (va : Int) = (va : Int) := by rw [IntKind.wrap_i64]; omega
          have i9 : IntKind.i64.wrap (vb : Int) = (vb : Int) := by rw [IntKind.wrap_i64]; omega
          go_region_law (first
            | (refine step_append_any rfl (.tmp 74) (.tmp 86) _ rfl w4.heap.size 62 i0 _ 3 24 Try.underlying22 hi0 hz0 hz1i hz2i rfl (by omega) _ k _ rfl (HO.out.alloc _) (wr.heap.size + 1) (some ⟨wr.heap.size, 0, none⟩) 1 1 [.int .i64 (va : Int), .int .i64 (vc : Int), .int .i64 (vb : Int)] rfl (Reads.fresh _ _ _ _ 3 1 (by show wr.heap.size < wr.heap.size + 1; omega) rfl) (by intro u hu; rw [HM.out] at hu; exact mbC_one _ u hu) hA hB (by show w4.heap.size ≤ (wr.alloc _).heap.size; rw [World.size_alloc]; omega) ?_; intro v5 w5 ho5 hl5; rw [HM.out, HMM.out] at ho5; obtain ⟨A5, c5, rfl, hn5, hc5⟩ := own_shape ho5; have HX5 := hide (((HX.out.alloc (.cells #[.int .i64 (va : Int), .int .i64 (vc : Int), .int .i64 (vb : Int)] 62)).drew).below hl5 (by omega)); have x5 := lab_c4 HX5.out; have f5 := HX5.out.frozen 4; have HO5 := hide ho5; have HL5 := hide (((HL.out.alloc (by omega) (.cells #[.int .i64 (va : Int), .int .i64 (vc : Int), .int .i64 (vb : Int)] 62)).drew).trans (hl5.mono (by omega))); have hsz5 : w4.heap.size ≤ w5.heap.size := Nat.le_trans (Nat.le_trans hsz (by rw [World.size_alloc]; omega)) (show (wr.alloc (.cells #[.int .i64 (va : Int), .int .i64 (vc : Int), .int .i64 (vb : Int)] 62)).heap.size ≤ w5.heap.size from hl5.size); clear ho5))
          all_goals
            have HY : Hid (Blk (w5.setCell ⟨w2.heap.size, 4, none⟩ (.slice A5 (k + 1) c5)) w2.heap.size 24 (labC (readL s.1) A5 (k + 1) c5).toArray) := HX5.out.set_ 4 _
            have hg5 := grown_set (grown_refl w5 (some w2.heap.size)) ⟨w2.heap.size, 4, none⟩ rfl (.slice A5 (k + 1) c5)
            have HOY := hide (HO5.out.kept hg5 (.inr (fun e => by
              have h := (HO5.out.lt w2.heap.size e).1
              omega)))
            have HLY := hide (HL5.out.setCell (p := ⟨w2.heap.size, 4, none⟩) (Nat.le_refl _) (.slice A5 (k + 1) c5))
            have hszY : w4.heap.size ≤ (w5.setCell ⟨w2.heap.size, 4, none⟩ (.slice A5 (k + 1) c5)).heap.size := Nat.le_trans hsz5 hg5.size
            clear HX5 x5 f5 HO5 HL5 hsz5 hl5 x4 x4a ya yb y13 hg5
            go_wp2
            go_roundw
            case rel => exact ⟨k + 1, A5, c5, by omega, by go_num, HY, HOY, HLY, hszY⟩
            case measure => simp [intOf]; omega
        · obtain rfl : k = N := by omega
          obtain ⟨L, hL⟩ : ∃ L, L = readL s.1 := ⟨_, rfl⟩
          have hLm : (List.range k).map (readM s.1) = L.members := by
            have e : countM s.1 = k := by rw [HN.out]; exact bt_get (by rw [s.2]; omega)
            rw [hL, ← e]
            rfl
          have hO := HO.out
          rw [hLm] at hO
          obtain ⟨A9, c9, hv9, hn9, hc9⟩ := own_shape hO
          injection hv9 with e1 e2 e3
          subst e1 e3
          have HG0 : Hid (Gave L w wr A k c) := ⟨⟨Reads.of_own hO, hn9, by simpa [maxLen] using hc9⟩, fun h0 ad e => by
            obtain ⟨g, cap, hv, h1, _⟩ := hO.form h0
            injection hv with hv
            rw [hv] at e
            injection e with e
            subst e
            show w.heap.size ≤ g
            omega⟩
          have HF := hide (show 0 < k → ∀ ad, A = some ad → w4.heap.size ≤ ad.block from fun h0 ad e => by
            obtain ⟨g, cap, hv, h1, _⟩ := hO.form h0
            injection hv with hv
            rw [hv] at e
            injection e with e
            subst e
            exact h1)
          rw [← hL] at HX
          have HLL := hide hL
          have HSr := hide (HB2.out.below HL.out (by omega))
          have HRr := hide (HX2.out.below HL.out (by omega))
          have HLr := hide (HL2.out.trans (HL.out.mono (by omega)))
          obtain ⟨UP, hUP⟩ : ∃ U, U = secL (putS L) := ⟨_, rfl⟩
          have hUPl : UP.length = 64 := by rw [hUP, secL_length]
          have hUPo : ∀ v ∈ UP, v.oneCell' = true := by rw [hUP]; exact secL_one _
          have hiP : (Try.prog.info? 26).map (·.size) = some UP.length := by rw [hUPl]; exact sec_info
          have hsP : secV (putS L) = .agg UP.toArray := by rw [hUP]; rfl
          have hEP : Value.agg UP.toArray = .agg (B8 (putS L).1).toArray := by rw [hUP]; rfl
          have HP := hide (refLput_any L A k c wr.heap.size wr HG0.out.1 (Nat.le_refl _))
          rw [hsP] at HP
          have HPl := hide hUPl
          have HPO := hide hUPo
          have HIP := hide hiP
          have HEP := hide hEP
          clear hUP hUPl hUPo hiP hsP hEP hO hLm hL hn9 hc9 HO
          cases hr : rightB L with
          | false =>
            have hE := hide (show putE L = 1 by rw [putE, hr]; rfl)
            have hB : ofB s = false := by rw [ofB, ← HLL.out, hr]; rfl
            have HO := hide (show ofL s = Lab.none_ by rw [ofL, hB]; rfl)
            have HE := hide (show ofE s = 2 by rw [ofE, hB]; rfl)
            rw [hE.out] at HP
            clear hr hB
            go_wp2_with (first
              | (refine wpList_load_blk rfl 24 (.tmp 11) rfl w2.heap.size 0 24 _ HX.out rfl (labC L A k c) _ (fun j v hj => by rw [Nat.zero_add]; simpa using hj) Try.underlying24 rfl lab_info ?_))
            refine HP.out.mono ?_
            rintro _ w6 ⟨rfl, hl6⟩
            have hz6 := hl6.size
            go_wp2_with (first
              | (refine wpList_alloc_blk rfl 26 rfl _ (sec_zero _) ?_; intro w7 hb7 hl7 hs7; clear hs7)
              | (refine wpList_store_all rfl 26 (.tmp 16) (.tmp 92) rfl w6.heap.size 26 _ hb7 rfl UP rfl HIP.out (HPl.out.trans (secL_length zeroSec).symm) HPO.out ?_; intro w8 hb8 hg8 hs8; clear hs8; have hl68 : Below w6.heap.size w6 w8 := hl7.grown hg8 (by have := hl7.size; omega) (fun g e => by injection e with e; omega); have hl08 := hl6.trans (hl68.mono hz6); have HL8 := hide (HLr.out.trans (hl08.mono (by omega))); have HB8 := hide (HRr.out.below hl08 (by omega)); have HS8 := hide (HSr.out.below hl08 (by omega)); have HX8 := hide (HX.out.below hl08 (by omega)); have HG8 := hide (HG0.out.later hl08))
              | (refine wpList_build_is rfl 24 #[] rfl [] (by simp) (labC Lab.none_ none 0 0).toArray built_lab0 ?_)
              | (refine wpList_store_all rfl 24 (.tmp 2) (.tmp 101) rfl w1.heap.size 24 _ HB8.out rfl (labC Lab.none_ none 0 0) rfl lab_info rfl (labC_one _ _ _ _) ?_; intro w9 hb9 hg9 hs9; clear hs9))
            exact ret_cell_tmp rfl w1.heap.size 24 (labC Lab.none_ none 0 0) _ hb9 rfl Try.underlying24 rfl lab_info (.int .i64 2) rfl rfl ⟨⟨none, 0, 0, by rw [HO.out, HE.out]; rfl, by rw [HO.out]; exact Gave.none_⟩, HL8.out.grown hg9 (by have := HL8.out.size; omega) (fun g e => by injection e with e; omega)⟩
          | true =>
            have hE := hide (show putE L = 0 by rw [putE, hr]; rfl)
            have hPS := hide (show putS L = labS L by rw [putS, hr]; rfl)
            rw [hE.out] at HP
            cases hd : decide (labS L = s) with
            | false =>
              have hB : ofB s = false := by rw [ofB, ← HLL.out, hr, hd]; rfl
              have HO := hide (show ofL s = Lab.none_ by rw [ofL, hB]; rfl)
              have HE := hide (show ofE s = 2 by rw [ofE, hB]; rfl)
              have HEQ := hide (show (!decide ((putS L).1 = s.1)) = true by
                rw [hPS.out, Bool.not_eq_true', decide_eq_false_iff_not]
                intro h
                exact absurd (Subtype.ext h) (by simpa using hd))
              clear hr hd hB
              go_wp2_with (first
                | (refine wpList_load_blk rfl 24 (.tmp 11) rfl w2.heap.size 0 24 _ HX.out rfl (labC L A k c) _ (fun j v hj => by rw [Nat.zero_add]; simpa using hj) Try.underlying24 rfl lab_info ?_))
              refine HP.out.mono ?_
              rintro _ w6 ⟨rfl, hl6⟩
              have hz6 := hl6.size
              go_wp2_with (first
                | (refine wpList_alloc_blk rfl 26 rfl _ (sec_zero _) ?_; intro w7 hb7 hl7 hs7; clear hs7)
                | (refine wpList_store_all rfl 26 (.tmp 16) (.tmp 92) rfl w6.heap.size 26 _ hb7 rfl UP rfl HIP.out (HPl.out.trans (secL_length zeroSec).symm) HPO.out ?_; intro w8 hb8 hg8 hs8; clear hs8; have hl68 : Below w6.heap.size w6 w8 := hl7.grown hg8 (by have := hl7.size; omega) (fun g e => by injection e with e; omega); have hl08 := hl6.trans (hl68.mono hz6); have HL8 := hide (HLr.out.trans (hl08.mono (by omega))); have HB8 := hide (HRr.out.below hl08 (by omega)); have HS8 := hide (HSr.out.below hl08 (by omega)); have HX8 := hide (HX.out.below hl08 (by omega)); have HG8 := hide (HG0.out.later hl08))
                | (refine when_load rfl 26 (.tmp 16) rfl w6.heap.size 0 26 _ hb8 rfl UP _ (fun j v hj => by rw [Nat.zero_add]; simpa using hj) Try.underlying26 rfl HIP.out ?_)
                | (refine when_load rfl 26 (.tmp 1) rfl w.heap.size 0 26 _ HS8.out rfl US _ (fun j v hj => by rw [Nat.zero_add]; simpa using hj) Try.underlying26 rfl HIS.out ?_)
                | (refine when_neq rfl 26 5 _ (.tmp 97) (.tmp 98) rfl 64 _ Try.underlying26 Try.underlying5 u8_info (by kernel_rfl) (by kernel_rfl) (putS L).1 s.1 (putS L).2 s.2 HEP.out HES.out true HEQ.out ?_)
                | (refine wpList_build_is rfl 24 #[] rfl [] (by simp) (labC Lab.none_ none 0 0).toArray built_lab0 ?_)
                | (refine wpList_store_all rfl 24 (.tmp 2) (.tmp 101) rfl w1.heap.size 24 _ HB8.out rfl (labC Lab.none_ none 0 0) rfl lab_info rfl (labC_one _ _ _ _) ?_; intro w9 hb9 hg9 hs9; clear hs9))
              exact ret_cell_tmp rfl w1.heap.size 24 (labC Lab.none_ none 0 0) _ hb9 rfl Try.underlying24 rfl lab_info (.int .i64 2) rfl rfl ⟨⟨none, 0, 0, by rw [HO.out, HE.out]; rfl, by rw [HO.out]; exact Gave.none_⟩, HL8.out.grown hg9 (by have := HL8.out.size; omega) (fun g e => by injection e with e; omega)⟩
            | true =>
              have hB : ofB s = true := by rw [ofB, ← HLL.out, hr, hd]; rfl
              have HO := hide (show ofL s = L by rw [ofL, hB, HLL.out]; rfl)
              have HE := hide (show ofE s = 0 by rw [ofE, hB]; rfl)
              have HEQ := hide (show (!decide ((putS L).1 = s.1)) = false by
                rw [hPS.out, (by simpa using hd : labS L = s)]
                simp)
              clear hr hd hB
              go_wp2_with (first
                | (refine wpList_load_blk rfl 24 (.tmp 11) rfl w2.heap.size 0 24 _ HX.out rfl (labC L A k c) _ (fun j v hj => by rw [Nat.zero_add]; simpa using hj) Try.underlying24 rfl lab_info ?_))
              refine HP.out.mono ?_
              rintro _ w6 ⟨rfl, hl6⟩
              have hz6 := hl6.size
              go_wp2_with (first
                | (refine wpList_alloc_blk rfl 26 rfl _ (sec_zero _) ?_; intro w7 hb7 hl7 hs7; clear hs7)
                | (refine wpList_store_all rfl 26 (.tmp 16) (.tmp 92) rfl w6.heap.size 26 _ hb7 rfl UP rfl HIP.out (HPl.out.trans (secL_length zeroSec).symm) HPO.out ?_; intro w8 hb8 hg8 hs8; clear hs8; have hl68 : Below w6.heap.size w6 w8 := hl7.grown hg8 (by have := hl7.size; omega) (fun g e => by injection e with e; omega); have hl08 := hl6.trans (hl68.mono hz6); have HL8 := hide (HLr.out.trans (hl08.mono (by omega))); have HB8 := hide (HRr.out.below hl08 (by omega)); have HS8 := hide (HSr.out.below hl08 (by omega)); have HX8 := hide (HX.out.below hl08 (by omega)); have HG8 := hide (HG0.out.later hl08))
                | (refine when_load rfl 26 (.tmp 16) rfl w6.heap.size 0 26 _ hb8 rfl UP _ (fun j v hj => by rw [Nat.zero_add]; simpa using hj) Try.underlying26 rfl HIP.out ?_)
                | (refine when_load rfl 26 (.tmp 1) rfl w.heap.size 0 26 _ HS8.out rfl US _ (fun j v hj => by rw [Nat.zero_add]; simpa using hj) Try.underlying26 rfl HIS.out ?_)
                | (refine when_neq rfl 26 5 _ (.tmp 97) (.tmp 98) rfl 64 _ Try.underlying26 Try.underlying5 u8_info (by kernel_rfl) (by kernel_rfl) (putS L).1 s.1 (putS L).2 s.2 HEP.out HES.out false HEQ.out ?_)
                | (refine wpList_load_blk rfl 24 (.tmp 11) rfl w2.heap.size 0 24 _ HX8.out rfl (labC L A k c) _ (fun j v hj => by rw [Nat.zero_add]; simpa using hj) Try.underlying24 rfl lab_info ?_)
                | (refine wpList_store_all rfl 24 (.tmp 2) (.tmp 102) rfl w1.heap.size 24 _ HB8.out rfl (labC L A k c) rfl lab_info rfl (labC_one _ _ _ _) ?_; intro w9 hb9 hg9 hs9; clear hs9))
              exact ret_cell_tmp rfl w1.heap.size 24 (labC L A k c) _ hb9 rfl Try.underlying24 rfl lab_info (.int .i64 0) rfl rfl ⟨⟨A, k, c, by rw [HO.out, HE.out]; rfl, by rw [HO.out]; exact HG8.out.grown hg9 (fun h0 ad e => by have := HF.out h0 ad e; omega)⟩, HL8.out.grown hg9 (by have := HL8.out.size; omega) (fun g e => by injection e with e; omega)⟩
#print axioms refOf_any
end Go.Proofs.Ytbbfgcekjelmkaa
