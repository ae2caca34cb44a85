/- The document's answer for record's Parts, number and Split, over strings: the same sectors. -/
import Derived.Test.YtdchdmbkojnmcaaRecS
import Derived.Test.YtdchdmbkojnmcaaRefPG
import Derived.Test.YtdchdmbkojnmcaaPoke
import Derived.Lib.BufferWrite
namespace Go.Proofs.Ytdchdmbkojnmcaa
open Go.RowKit

theorem byteCells_is (l : List UInt8) : Lib.byteCells l = B8 l := rfl
/-- 'copy(d[:], s)' of a string into a block known whole. -/
theorem wpList_copy_str {P : Program} {ops : Array Oper} {rest : List Oper} {o : Oper} {a : Act} {w : World} {Q : Exit → Act → World → Prop}
    (hg : o.guard = none) (d x : Operand) (dT sT : TypeId) (hop : o.op = Op.call { callee := Callee.builtin Builtin.copy, args := #[d, x], argTypes := #[dT, sT] })
    (elem : TypeId) (hu : P.underlying dT = some (.slice elem)) (hs : (P.info? elem).map (·.size) = some 1) (g dLen dCap : Nat) (hd : a.eval d = .slice (some ⟨g, 0, none⟩) dLen dCap) (l : List UInt8) (hx : a.eval x = .string (strOf l))
    (cur : Array Value) (t : TypeId) (hb : Blk w g t cur) (hle : l.length ≤ dLen) (hfit : l.length ≤ cur.size)
    (hK : ∀ w', Blk w' g t (B8 l ++ cur.toList.drop l.length).toArray → w.grownBy w' (some g) → wpList P ops Q rest (a.put o.dst (goInt l.length)) w') : wpList P ops Q (o :: rest) a w :=
  wpList_plain hg fun _ hK' => by
    have hrun := Lib.run_copy_row_string (P := P) w dT sT o.type elem g 0 dLen dCap (strOf l) cur t hu hs hb (by rw [strOf_size]; exact hle) (by rw [strOf_size]; omega)
    rw [strOf_size, List.take_zero, List.nil_append, Nat.zero_add] at hrun
    unfold Oper.wp
    simp [execOp, hop, resolve, invoke, builtin, hd, hx, hrun, Result.andThen]
    refine hK' _ _ (hK _ (setRow_heap w g cur _ t (0, 0) hb) ⟨rfl, rfl, rfl, by simp [World.setRow], fun i _ hi => ?_⟩)
    simp only [World.setRow, Array.getElem?_modify]
    rw [if_neg (fun e => hi (by rw [e]))]
theorem run_build_three (a b c : Value) (ha : a.oneCell' = true) (hb : b.oneCell' = true) (hc : c.oneCell' = true) (w : World) : (Instr.buildSlice 22 3 #[(0, a), (1, b), (2, c)]).run Try.prog w = .ok (.slice (some ⟨w.heap.size, 0, none⟩) 3 3) (w.alloc (.cells #[a, b, c] 5)) := by
  obtain ⟨i, hi, _, hs, _⟩ := info_parts u8_parts
  have ca := cells_one ha
  have cb := cells_one hb
  have cc := cells_one hc
  have hA : ∀ f : Nat → Value, (((Array.map f (Array.range 3)).setIfInBounds 0 a).setIfInBounds 1 b).setIfInBounds 2 c = #[a, b, c] := by
    intro f
    apply Array.ext'
    simp [Array.toList_setIfInBounds, List.range_succ]
  simp [Instr.buildSlice, run_underlying Try.underlying22, sizeOf, typeInfo, hi, hs, Instr.fill, ca, cb, cc, hA]
  rfl
theorem wpList_build_three {ops : Array Oper} {rest : List Oper} {o : Oper} {a : Act} {w : World} {Q : Exit → Act → World → Prop} (hgd : o.guard = none) (x y z : Operand) (ho : o.op = .buildSlice 22 3 #[(0, x), (1, y), (2, z)]) (u v s : Value) (hx : a.eval x = u) (hy : a.eval y = v) (hz : a.eval z = s) (hu : u.oneCell' = true) (hv : v.oneCell' = true) (hs : s.oneCell' = true)
    (hK : wpList Try.prog ops Q rest (a.put o.dst (.slice (some ⟨w.heap.size, 0, none⟩) 3 3)) (w.alloc (.cells #[u, v, s] 5))) : wpList Try.prog ops Q (o :: rest) a w :=
  wpList_plain hgd fun _ hK' => by
    have hrun := run_build_three u v s hu hv hs w
    unfold Oper.wp
    simp [execOp, ho, hx, hy, hz, hrun, Result.andThen]
    exact hK' _ _ hK
set_option maxHeartbeats 400000 in
theorem refParts_any (n : Int) (w : World) :
    Calls Try.prog 15 #[.int .i64 n] w fun e w' => e = .returned (.int .i64 (partsI n)) ∧ w = w' := by
  cases d1 : decide (n < 0) with
  | true =>
    have H := hide (partsI_low (of_decide_eq_true d1))
    go_enter Try.func15, Try.ntmps15
    go_wp2
    go_ret
    exact ⟨ret_i H.out.symm, rfl⟩
  | false =>
    cases d2 : decide ((2120 : Int) < n) with
    | true =>
      have H := hide (partsI_high (of_decide_eq_true d2))
      go_enter Try.func15, Try.ntmps15
      go_wp2
      go_ret
      exact ⟨ret_i H.out.symm, rfl⟩
    | false =>
      have h0 := of_decide_eq_false d1
      have h1 := of_decide_eq_false d2
      have H := hide (partsI_mid (n := n) (by omega) (by omega))
      go_enter Try.func15, Try.ntmps15
      go_wp2
      all_goals (go_ret; exact ⟨ret_i (by rw [H.out]; omega), rfl⟩)
set_option maxHeartbeats 400000 in
theorem refNumber_any (v : Int) (w : World) :
    Calls Try.prog 22 #[.int .i64 v] w fun e w' => e = .returned (.bool (numB v)) ∧ w = w' := by
  cases d1 : decide ((0 : Int) ≤ v) with
  | false =>
    have H := hide (show numB v = false by have := of_decide_eq_false d1; simp [numB]; omega)
    go_enter Try.func22, Try.ntmps22
    go_wp2
    go_ret
    exact ⟨ret_b H.out.symm, rfl⟩
  | true =>
    have h1 := of_decide_eq_true d1
    have H := hide (show numB v = decide (v ≤ 4294967295) by simp [numB, h1])
    go_enter Try.func22, Try.ntmps22
    go_wp2
    go_ret
    exact ⟨ret_b H.out.symm, rfl⟩
/-- What both Splits answer. -/
def splitR (gen nr : Int) (b : List UInt8) : List UInt8 := if numB gen && numB nr then splitT gen nr b else []
theorem splitR_yes {gen nr : Int} {b : List UInt8} (hg : numB gen = true) (hn : numB nr = true) : splitR gen nr b = splitT gen nr b := by rw [splitR, hg, hn]; rfl
theorem splitR_no {gen nr : Int} {b : List UInt8} (h : numB gen = false ∨ numB nr = false) : splitR gen nr b = [] := by
  rcases h with h | h <;> simp [splitR, h]
theorem splitT_none {gen nr : Int} {b : List UInt8} (h : partsN b.length = 0) : splitT gen nr b = [] := by rw [splitT, h]; rfl
theorem str_held (b : List UInt8) (k e : Nat) (he : e = min b.length (53 * (k + 1))) : (strOf b).extract (k * 53) e = strOf (heldT b k) := by
  apply ByteArray.ext
  apply Array.ext'
  rw [Lib.extract_data]
  show (b.drop (k * 53)).take (e - k * 53) = heldT b k
  rw [heldT, he, Nat.mul_comm k 53]
  rcases Nat.le_total b.length (53 * (k + 1)) with h | h
  · rw [Nat.min_eq_left h, List.take_of_length_le (by rw [List.length_drop]; omega), List.take_of_length_le (by rw [List.length_drop]; omega)]
  · rw [Nat.min_eq_right h]
    congr 1
    omega
#print axioms str_held
theorem wpList_add_str {P : Program} {ops : Array Oper} {rest : List Oper} {o : Oper} {a : Act} {w : World} {Q : Exit → Act → World → Prop} (hgd : o.guard = none) (t tr : TypeId) (p q : Operand) (ho : o.op = .binOp .add t p q tr) (x y : List UInt8) (hp : a.eval p = .string (strOf x)) (hq : a.eval q = .string (strOf y)) (hl : x.length + y.length ≤ 1000000)
    (h : wpList P ops Q rest (a.put o.dst (.string (strOf (x ++ y)))) w) : wpList P ops Q (o :: rest) a w :=
  wpList_gives hgd (.string (strOf (x ++ y))) (by
    have hrun := run_string_add_sum (P := P) w (strOf x) (strOf y) (by rw [strOf_size, strOf_size]; omega)
    rw [str_join, chars_strOf] at hrun
    unfold execOp
    simp [ho, hp, hq, binOp, eqGuard, hrun, Result.andThen]) h
theorem sec_done {l : List UInt8} (h : l.length ≤ 64) : B8 l ++ (B8 (List.replicate 64 0)).drop l.length = B8 (front l) := by
  rw [front_le l h, B8_append, B8_drop, List.drop_replicate]
theorem text_is (gen nr : Int) (k N h : Nat) (hk : k < 256) (hN : N < 256) (hh : h < 256) (held : List UInt8) :
    (be 4 gen.toNat ++ be 4 nr.toNat) ++ [UInt8.ofNat k, UInt8.ofNat N, UInt8.ofNat h] ++ held = headT ⟨gen, nr, (k : Nat), (N : Nat), (h : Nat)⟩ ++ held := by
  simp only [headT, Int.toNat_natCast, be_one, Nat.mod_eq_of_lt hk, Nat.mod_eq_of_lt hN, Nat.mod_eq_of_lt hh]
  simp [List.append_assoc]
theorem three_cells (k N h : Nat) (hk : k < 256) (hN : N < 256) (hh : h < 256) : [Value.int .u8 (k : Int), .int .u8 (N : Int), .int .u8 (h : Int)] = B8 [UInt8.ofNat k, UInt8.ofNat N, UInt8.ofNat h] := by
  simp [B8]
  omega
set_option maxHeartbeats 1000000 in
theorem refSplit_no (gen nr : Int) (b : List UInt8) (w : World) (h : partsN b.length = 0 ∨ numB gen = false ∨ numB nr = false) :
    Calls Try.prog 13 #[.int .i64 gen, .int .i64 nr, .string (strOf b)] w fun e w' => e = .returned (.slice none 0 0) ∧ w = w' := by
  have H1 := hide (refNumber_any gen)
  have H2 := hide (refNumber_any nr)
  have HP := hide (refParts_any (b.length : Int))
  rw [partsI_nat b.length] at HP
  have hsz := strOf_size b
  cases d0 : decide (partsN b.length = 0) with
  | true =>
    rw [of_decide_eq_true d0] at HP
    clear d0 h
    go_enter Try.func13, Try.ntmps13
    go_wp2_with (go_at_call 15; refine (HP.out _).mono ?_; rintro _ w1 ⟨rfl, rfl⟩)
    go_ret
    exact ⟨rfl, rfl⟩
  | false =>
    have hn0 := of_decide_eq_false d0
    generalize partsN b.length = N at *
    have hq : ((N : Int) == 0) = false := by simp; omega
    cases hg : numB gen with
    | false =>
      rw [hg] at H1
      clear d0 h hn0
      go_enter Try.func13, Try.ntmps13
      go_wp2_with (first
        | (go_at_call 15; refine (HP.out _).mono ?_; rintro _ w1 ⟨rfl, rfl⟩)
        | (go_at_call 22; refine (H1.out _).mono ?_; rintro _ w2 ⟨rfl, rfl⟩))
      go_ret
      exact ⟨rfl, rfl⟩
    | true =>
      have hn : numB nr = false := by
        rcases h with h | h | h
        · exact absurd h hn0
        · rw [hg] at h; cases h
        · exact h
      rw [hg] at H1
      rw [hn] at H2
      clear d0 h hn0 hg hn
      go_enter Try.func13, Try.ntmps13
      go_wp2_with fail
      refine (HP.out _).mono ?_
      rintro _ w1 ⟨rfl, rfl⟩
      go_wp2_with fail
      refine (H1.out _).mono ?_
      rintro _ w1 ⟨rfl, rfl⟩
      go_wp2_with fail
      refine (H2.out _).mono ?_
      rintro _ w1 ⟨rfl, rfl⟩
      go_wp2
      go_ret
      exact ⟨rfl, rfl⟩
set_option maxRecDepth 100000 in
set_option maxHeartbeats 4000000 in
theorem refSplit_any (gen nr : Int) (b : List UInt8) (hb : b.length ≤ 1000000) (w : World) (hp : partsN b.length ≠ 0) (hg : numB gen = true) (hn : numB nr = true) :
    Calls Try.prog 13 #[.int .i64 gen, .int .i64 nr, .string (strOf b)] w (Made w.heap.size 35 64 (B8 (splitT gen nr b)) w) := by
  obtain ⟨i0, hi0, hz0, hz1, hz2⟩ := info_parts sec_parts
  have H1 := hide (refNumber_any gen)
  have H2 := hide (refNumber_any nr)
  rw [hg] at H1
  rw [hn] at H2
  have g4 := numB_iff.1 hg
  have n4 := numB_iff.1 hn
  have HP := hide (refParts_any (b.length : Int))
  rw [partsI_nat b.length] at HP
  have hsz := strOf_size b
  have hp40 := partsN_le b.length
  obtain ⟨N, hN⟩ : ∃ N, N = partsN b.length := ⟨_, rfl⟩
  have HNN := hide hN
  have h21 : b.length ≤ 2120 := by
    rcases Nat.lt_or_ge 2120 b.length with h | h
    · exact absurd (partsN_big h) hp
    · exact h
  have hpi := partsN_is h21
  rw [← hN] at HP hp40 hp hpi
  obtain ⟨hpi1, hpi2, hpi3⟩ := hpi
  have HP3 := hide hpi3
  have hq : ((N : Int) == 0) = false := by simp; omega
  -- the two numbers
  have hf1 : fitsB gen 4 = true := by simp [fitsB, g4.1]; omega
  have hf2 : fitsB nr 4 = true := by simp [fitsB, n4.1]; omega
  have e1 : putStr ⟨#[]⟩ gen 4 = strOf (be 4 gen.toNat) := by rw [putStr, putB, if_pos hf1]; rfl
  have e2 : putStr (strOf (be 4 gen.toNat)) nr 4 = strOf (be 4 gen.toNat ++ be 4 nr.toNat) := by rw [putStr, putB, if_pos hf2, chars_strOf]; rfl
  have HU1 := hide (fun (w1 : World) => refPut_any ⟨#[]⟩ gen 4 w1 (by simp [ByteArray.size]) (by omega))
  have HU2 := hide (fun (w1 : World) => refPut_any (strOf (be 4 gen.toNat)) nr 4 w1 (by rw [strOf_size, be_length]; omega) (by omega))
  rw [e1] at HU1
  rw [e2] at HU2
  obtain ⟨n, hnl⟩ : ∃ n, n = b.length := ⟨_, rfl⟩
  rw [← hnl] at HP hsz h21 hpi2 HP3 hb
  have HNL := hide hnl
  have HG := hide hg
  have HNR := hide hn
  clear hN hpi3 hf1 hf2 e1 e2 hg hn hnl hp
  go_enter Try.func13, Try.ntmps13
  go_wp2_with fail
  refine (HP.out _).mono ?_
  rintro _ w1 ⟨rfl, rfl⟩
  go_wp2_with fail
  refine (H1.out _).mono ?_
  rintro _ w1 ⟨rfl, rfl⟩
  go_wp2_with fail
  refine (H2.out _).mono ?_
  rintro _ w1 ⟨rfl, rfl⟩
  go_wp2_with fail
  go_loopw [8, 9] (fun v i wr => ∃ k : Nat, k ≤ N ∧ i = .int .i64 k ∧ Hid (wr.ownsRow w.heap.size 35 64 v k (B8 (cat (pieceS gen nr b) k))) ∧ Hid (Below w.heap.size w wr)) (fun _ i _ => N - (intOf i).toNat)
  case atStart => exact ⟨0, Nat.zero_le _, rfl, hide (World.ownsRow_nil _ _ _ _), hide (Below.refl _ _)⟩
  case round =>
    obtain ⟨k, hk, rfl, HO, HL⟩ := hrel
    by_cases hkn : k < N
    · have h53 : 53 * k ≤ n := by
        rcases HP3.out with h | h
        · omega
        · have : 53 * k ≤ 53 * (N - 1) := Nat.mul_le_mul_left _ (by omega)
          omega
      have hkb : k < partsN b.length := by rw [← HNN.out]; exact hkn
      have hhl := heldT_length b k
      obtain ⟨h, hh⟩ : ∃ h, h = (heldT b k).length := ⟨_, rfl⟩
      rw [← hh] at hhl
      have hPS : pieceS gen nr b k = front (headT ⟨gen, nr, (k : Nat), (N : Nat), (h : Nat)⟩ ++ heldT b k) := by
        rw [pieceS, secT, pieceT, ← HNN.out, ← hh]
      have h53h : h ≤ 53 := by omega
      obtain ⟨T, hT⟩ : ∃ T, T = headT ⟨gen, nr, (k : Nat), (N : Nat), (h : Nat)⟩ ++ heldT b k := ⟨_, rfl⟩
      have hTl : T.length = 11 + h := by rw [hT, List.length_append, headT_length, ← hh]
      rw [← hT] at hPS
      have HTX := hide ((text_is gen nr k N h (by omega) (by omega) (by omega) (heldT b k)).trans hT.symm)
      have H3C := hide (three_cells k N h (by omega) (by omega) (by omega))
      obtain ⟨F, hF⟩ : ∃ F, F = pieceS gen nr b k := ⟨_, rfl⟩
      have hFl : F.length = 64 := by rw [hF]; exact secT_length _ _
      obtain ⟨U, hU⟩ : ∃ U, U = B8 F := ⟨_, rfl⟩
      have hUl : U.length = 64 := by rw [hU, B8_length, hFl]
      have HIU := hide (show (Try.prog.info? 35).map (·.size) = some U.length by rw [hUl]; kernel_rfl)
      have HUO := hide (show ∀ v ∈ U, v.oneCell' = true by rw [hU]; exact B8_one _)
      have HUA := hide (show U.toArray.size = 64 by rw [List.size_toArray, hUl])
      have HUL := hide hUl
      have HDN := hide (show B8 T ++ Z64.toArray.toList.drop T.length = U by
        rw [hU, hF, hPS]
        exact sec_done (by omega))
      have HST := hide (show B8 (cat (pieceS gen nr b) k) ++ U = B8 (cat (pieceS gen nr b) (k + 1)) by rw [cat_succ, B8_append, hU, hF])
      have HTL := hide hTl
      have hsh := strOf_size (heldT b k)
      rw [← hh] at hsh
      have hsn : (be 4 gen.toNat ++ be 4 nr.toNat).length = 8 := by rw [List.length_append, be_length, be_length]
      have HX := hide (fun (e : Nat) (he : e = min n (53 * (k + 1))) => str_held b k e (by rw [he, HNL.out]))
      rw [← HNL.out] at hhl
      clear hkb hh hPS hT hTl hF hFl hU hUl
      obtain ⟨Y, hY⟩ : ∃ Y, Y = heldT b k := ⟨_, rfl⟩
      rw [← hY] at HTX HX hsh
      obtain ⟨Q8, hQ8⟩ : ∃ Q, Q = be 4 gen.toNat ++ be 4 nr.toNat := ⟨_, rfl⟩
      rw [← hQ8] at HTX HU2 hsn
      clear hY hQ8
      have HYL := hide (show (Q8 ++ [UInt8.ofNat k, UInt8.ofNat N, UInt8.ofNat h]).length + Y.length ≤ 1000000 by
        rw [strOf_size] at hsh
        rw [List.length_append, hsn, hsh]
        simp
        omega)
      have HT64 := hide (show T.length ≤ 64 by rw [HTL.out]; omega)
      have HTZ := hide (show T.length ≤ Z64.toArray.size by rw [HTL.out, List.size_toArray, Z64_length]; omega)
      have hm1 : (k : Int) % 256 = (k : Int) := by omega
      have hm2 : (N : Int) % 256 = (N : Int) := by omega
      have hm3 : (h : Int) % 256 = (h : Int) := by omega
      have hw1 : (0 : Int) ≤ (k : Int) * 53 := by omega
      have hw2 : ((k : Int) * 53).toNat = k * 53 := by omega
      have hw3 : (((k : Int) + 1) * 53).toNat = (k + 1) * 53 := by omega
      have hw4 : (k : Int) * 53 ≤ ((k : Int) + 1) * 53 := by omega
      have hw5 : (k : Int) * 53 ≤ (n : Int) := by omega
      by_cases hle : n ≤ (k + 1) * 53
      · have hi1 : (n : Int) ≤ ((k : Int) + 1) * 53 := by omega
        have hx := HX.out n (by omega)
        clear hle hhl
        go_wp2_with fail
        refine (HU1.out wr).mono ?_
        rintro _ w2 ⟨rfl, hl2⟩
        have HL2 := hide (HL.out.trans (hl2.mono HL.out.size))
        have HO2 := hide (own_later HO.out hl2)
        clear hl2
        go_wp2_with fail
        refine (HU2.out w2).mono ?_
        rintro _ w3 ⟨rfl, hl3⟩
        have HL3 := hide (HL2.out.trans (hl3.mono HL2.out.size))
        have HO3 := hide (own_later HO2.out hl3)
        clear hl3 HL2 HO2
        have hr3 := Reads.fresh w3 (B8 [UInt8.ofNat k, UInt8.ofNat N, UInt8.ofNat h]) 5 (w3.heap.size + 1) 1 3 (by omega) rfl
        have hk3 := run_conv_reads (P := Try.prog) _ 22 5 9 Try.underlying22 Try.underlying5 Try.underlying9 (w3.heap.size + 1) (some ⟨w3.heap.size, 0, none⟩) 3 3 _ hr3
        rw [← H3C.out] at hk3
        clear hr3
        have hsz3 := HL3.out.size
        have hA : k + 1 ≤ maxLen := by simp only [maxLen]; omega
        have hB : (k + 1) * 64 ≤ 140737488355328 := by omega
        go_wp2_with (first
          | ((with_reducible refine at_slot 55 ?_); refine wpList_build_three rfl (.tmp 49) (.tmp 51) (.tmp 54) rfl _ _ _ rfl rfl rfl rfl rfl rfl ?_)
          | ((with_reducible refine at_slot 57 ?_); refine wpList_add_str rfl 9 9 (.tmp 47) (.tmp 56) rfl Q8 [UInt8.ofNat k, UInt8.ofNat N, UInt8.ofNat h] rfl rfl (by rw [hsn]; simp) ?_)
          | ((with_reducible refine at_slot 59 ?_); refine wpList_add_str rfl 9 9 (.tmp 57) (.tmp 58) rfl (Q8 ++ [UInt8.ofNat k, UInt8.ofNat N, UInt8.ofNat h]) Y rfl rfl HYL.out ?_; rw [HTX.out])
          | ((with_reducible refine at_slot 12 ?_); refine wpList_alloc_blk rfl 35 rfl _ (sec_nought8 _) ?_; intro w4 hb4q hl4 hs4; clear hs4; have hz4 := hl4.size; rw [World.size_alloc] at hb4q hl4 hz4; have hb4 : Blk w4 (w3.heap.size + 1) 35 Z64.toArray := hb4q; clear hb4q)
          | ((with_reducible refine at_slot 62 ?_); refine wpList_copy_str rfl (.tmp 60) (.tmp 61) 22 9 rfl 5 Try.underlying22 (by kernel_rfl) (w3.heap.size + 1) 64 64 rfl T rfl _ 35 hb4 HT64.out HTZ.out ?_; intro w5 hb5 hg5; rw [HDN.out] at hb5; have hl45 := hl4.grown hg5 hz4 (fun g e => by injection e with e; omega); have hl35 : Below w3.heap.size w3 w5 := ((Below.refl _ w3).alloc (Nat.le_refl _) _).trans (hl45.mono (by omega)); have HO5 := hide (own_later HO3.out hl35); have HL5 := hide (HL3.out.trans (hl35.mono hsz3)); have hsz5 := HL5.out.size; clear hl45)
          | ((with_reducible refine at_slot 64 ?_); refine wpList_load_blk rfl 35 (.tmp 12) rfl _ 0 35 _ hb5 rfl U _ (fun j v hj => by rw [Nat.zero_add]; simpa using hj) Try.underlying35 rfl HIU.out ?_)
          | ((with_reducible refine at_slot 65 ?_); refine wpList_build_agg _ rfl (.tmp 64) 24 rfl 35 i0 _ 64 Try.underlying24 hi0 (sec_nought _) hz1 (by omega) (by omega) U.toArray rfl HUA.out ?_)
          | (at_builtin; refine wpList_append_any _ rfl (.tmp 63) (.tmp 65) _ rfl w.heap.size 35 i0 _ 64 64 Try.underlying24 hi0 hz0 hz1 hz2 rfl (by omega) _ k _ rfl (HO5.out.alloc _) (w5.heap.size + 1) (some ⟨w5.heap.size, 0, none⟩) 1 1 U rfl (Reads.lump _ U _ _ 64 (by omega) HUL.out) HUO.out hA hB (le_alloc hsz5 _) ?_; intro v6 w6 ho6 hl6))
        rw [HST.out] at ho6
        have HO6 := hide ho6
        have HL6 := hide ((HL5.out.alloc hsz5 _).trans hl6)
        clear ho6 hl6 hk3
        go_roundw
        case rel => exact ⟨k + 1, by omega, by go_num, HO6, HL6⟩
        case measure => simp [intOf]; omega
      · have hi1 : ¬ ((n : Int) ≤ ((k : Int) + 1) * 53) := by omega
        have hx := HX.out ((k + 1) * 53) (by omega)
        have hi2 : ((k : Int) + 1) * 53 ≤ (n : Int) := by omega
        clear hle hhl
        go_wp2_with fail
        refine (HU1.out wr).mono ?_
        rintro _ w2 ⟨rfl, hl2⟩
        have HL2 := hide (HL.out.trans (hl2.mono HL.out.size))
        have HO2 := hide (own_later HO.out hl2)
        clear hl2
        go_wp2_with fail
        refine (HU2.out w2).mono ?_
        rintro _ w3 ⟨rfl, hl3⟩
        have HL3 := hide (HL2.out.trans (hl3.mono HL2.out.size))
        have HO3 := hide (own_later HO2.out hl3)
        clear hl3 HL2 HO2
        have hr3 := Reads.fresh w3 (B8 [UInt8.ofNat k, UInt8.ofNat N, UInt8.ofNat h]) 5 (w3.heap.size + 1) 1 3 (by omega) rfl
        have hk3 := run_conv_reads (P := Try.prog) _ 22 5 9 Try.underlying22 Try.underlying5 Try.underlying9 (w3.heap.size + 1) (some ⟨w3.heap.size, 0, none⟩) 3 3 _ hr3
        rw [← H3C.out] at hk3
        clear hr3
        have hsz3 := HL3.out.size
        have hA : k + 1 ≤ maxLen := by simp only [maxLen]; omega
        have hB : (k + 1) * 64 ≤ 140737488355328 := by omega
        go_wp2_with (first
          | ((with_reducible refine at_slot 55 ?_); refine wpList_build_three rfl (.tmp 49) (.tmp 51) (.tmp 54) rfl _ _ _ rfl rfl rfl rfl rfl rfl ?_)
          | ((with_reducible refine at_slot 57 ?_); refine wpList_add_str rfl 9 9 (.tmp 47) (.tmp 56) rfl Q8 [UInt8.ofNat k, UInt8.ofNat N, UInt8.ofNat h] rfl rfl (by rw [hsn]; simp) ?_)
          | ((with_reducible refine at_slot 59 ?_); refine wpList_add_str rfl 9 9 (.tmp 57) (.tmp 58) rfl (Q8 ++ [UInt8.ofNat k, UInt8.ofNat N, UInt8.ofNat h]) Y rfl rfl HYL.out ?_; rw [HTX.out])
          | ((with_reducible refine at_slot 12 ?_); refine wpList_alloc_blk rfl 35 rfl _ (sec_nought8 _) ?_; intro w4 hb4q hl4 hs4; clear hs4; have hz4 := hl4.size; rw [World.size_alloc] at hb4q hl4 hz4; have hb4 : Blk w4 (w3.heap.size + 1) 35 Z64.toArray := hb4q; clear hb4q)
          | ((with_reducible refine at_slot 62 ?_); refine wpList_copy_str rfl (.tmp 60) (.tmp 61) 22 9 rfl 5 Try.underlying22 (by kernel_rfl) (w3.heap.size + 1) 64 64 rfl T rfl _ 35 hb4 HT64.out HTZ.out ?_; intro w5 hb5 hg5; rw [HDN.out] at hb5; have hl45 := hl4.grown hg5 hz4 (fun g e => by injection e with e; omega); have hl35 : Below w3.heap.size w3 w5 := ((Below.refl _ w3).alloc (Nat.le_refl _) _).trans (hl45.mono (by omega)); have HO5 := hide (own_later HO3.out hl35); have HL5 := hide (HL3.out.trans (hl35.mono hsz3)); have hsz5 := HL5.out.size; clear hl45)
          | ((with_reducible refine at_slot 64 ?_); refine wpList_load_blk rfl 35 (.tmp 12) rfl _ 0 35 _ hb5 rfl U _ (fun j v hj => by rw [Nat.zero_add]; simpa using hj) Try.underlying35 rfl HIU.out ?_)
          | ((with_reducible refine at_slot 65 ?_); refine wpList_build_agg _ rfl (.tmp 64) 24 rfl 35 i0 _ 64 Try.underlying24 hi0 (sec_nought _) hz1 (by omega) (by omega) U.toArray rfl HUA.out ?_)
          | (at_builtin; refine wpList_append_any _ rfl (.tmp 63) (.tmp 65) _ rfl w.heap.size 35 i0 _ 64 64 Try.underlying24 hi0 hz0 hz1 hz2 rfl (by omega) _ k _ rfl (HO5.out.alloc _) (w5.heap.size + 1) (some ⟨w5.heap.size, 0, none⟩) 1 1 U rfl (Reads.lump _ U _ _ 64 (by omega) HUL.out) HUO.out hA hB (le_alloc hsz5 _) ?_; intro v6 w6 ho6 hl6))
        rw [HST.out] at ho6
        have HO6 := hide ho6
        have HL6 := hide ((HL5.out.alloc hsz5 _).trans hl6)
        clear ho6 hl6 hk3
        go_roundw
        case rel => exact ⟨k + 1, by omega, by go_num, HO6, HL6⟩
        case measure => simp [intOf]; omega
    · obtain rfl : k = N := by omega
      have HE := hide (show B8 (cat (pieceS gen nr b) k) = B8 (splitT gen nr b) by rw [splitT, ← HNN.out])
      have hown := HO.out
      rw [HE.out] at hown
      go_wp2
      go_ret
      exact made_of hown HL.out
#print axioms refSplit_any
end Go.Proofs.Ytdchdmbkojnmcaa
