/- What record.Split does. -/
import Derived.Test.YtmjdndhpnckeeaaRecT
namespace Go.Proofs.Ytmjdndhpnckeeaa
open Go.RowKit

theorem flat_noughts (n : Nat) : (List.replicate n Z64).flatten = B8 (List.replicate (n * 64) 0) := by
  induction n with
  | zero => rfl
  | succ n ih => rw [List.replicate_succ, List.flatten_cons, ih, Nat.add_mul, Nat.one_mul, Nat.add_comm (n * 64) 64, ← List.replicate_append_replicate, B8_append]; rfl
theorem sec_cells8 : (Value.agg (Array.replicate 64 (.int .u8 0))).cells = Z64.toArray := by kernel_rfl
/-- Behind k rounds. -/
def laidS (gen nr : Int) (b : List UInt8) (k : Nat) : List UInt8 := cat (pieceS gen nr b) k ++ List.replicate ((partsN b.length - k) * 64) 0
theorem pieces_len (gen nr : Int) (b : List UInt8) (k : Nat) : (cat (pieceS gen nr b) k).length = k * 64 := cat_length (fun _ _ => secT_length _ _)
theorem laidS_step (gen nr : Int) (b : List UInt8) {k : Nat} (hk : k < partsN b.length) :
    (B8 (laidS gen nr b k)).take (k * 64) ++ B8 (pieceS gen nr b k) ++ (B8 (laidS gen nr b k)).drop (k * 64 + 64) = B8 (laidS gen nr b (k + 1)) := by
  have hl := pieces_len gen nr b k
  rw [B8_take, B8_drop, ← B8_append, ← B8_append]
  congr 1
  unfold laidS
  rw [take_app _ _ hl, cat_succ, ← List.drop_drop, drop_app _ _ hl, List.drop_replicate]
  congr 2
  omega
theorem laidS_length (gen nr : Int) (b : List UInt8) {k : Nat} (hk : k ≤ partsN b.length) : (laidS gen nr b k).length = partsN b.length * 64 := by
  rw [laidS, List.length_append, pieces_len, List.length_replicate, ← Nat.add_mul]
  congr 1
  omega
theorem laidS_end (gen nr : Int) (b : List UInt8) : laidS gen nr b (partsN b.length) = splitT gen nr b := by
  rw [laidS, Nat.sub_self, Nat.zero_mul, List.replicate_zero, List.append_nil, splitT]
theorem laidS_zero (gen nr : Int) (b : List UInt8) : laidS gen nr b 0 = List.replicate (partsN b.length * 64) 0 := by
  rw [laidS, Nat.sub_zero]; rfl

set_option maxHeartbeats 400000 in
theorem recSplit_no (gen nr : Int) (v : Value) (w : World) (h : numB gen = false ∨ numB nr = false) :
    Calls Try.prog 35 #[.int .i64 gen, .int .i64 nr, v] w fun e w' => e = .returned (.slice none 0 0) ∧ w = w' := by
  have H1 := hide (numbered_any gen)
  have H2 := hide (numbered_any nr)
  cases hg : numB gen with
  | false =>
    rw [hg] at H1
    clear hg h
    go_enter Try.func35, Try.ntmps35
    go_wp2_with fail
    refine (H1.out w).mono ?_
    rintro _ w1 ⟨rfl, rfl⟩
    go_wp2
    go_ret
    exact ⟨rfl, rfl⟩
  | true =>
    have hn : numB nr = false := by
      rcases h with h | h
      · rw [hg] at h; cases h
      · exact h
    rw [hg] at H1
    rw [hn] at H2
    clear hg hn h
    go_enter Try.func35, Try.ntmps35
    go_wp2_with fail
    refine (H1.out w).mono ?_
    rintro _ w1 ⟨rfl, rfl⟩
    go_wp2_with fail
    refine (H2.out w).mono ?_
    rintro _ w2 ⟨rfl, rfl⟩
    go_wp2
    go_ret
    exact ⟨rfl, rfl⟩
set_option maxRecDepth 100000 in
set_option maxHeartbeats 4000000 in
theorem recSplit_any (gen nr : Int) (A : Option Addr) (n c : Nat) (b : List UInt8) (B0 : Nat) (w : World) (hr : Reads w B0 1 A n (B8 b)) (hB0 : B0 ≤ w.heap.size) (hc : n ≤ c) (hc2 : c ≤ 9223372036854775807) (hg : numB gen = true) (hn : numB nr = true) :
    Calls Try.prog 35 #[.int .i64 gen, .int .i64 nr, .slice A n c] w fun e w' => ∃ g, e = .returned (.slice (some ⟨g, 0, none⟩) (partsN b.length) (partsN b.length)) ∧ w.heap.size ≤ g ∧ Blk w' g 51 (B8 (splitT gen nr b)).toArray ∧ Below w.heap.size w w' := by
  obtain ⟨i0, hi0, hz0, hz1, hz2⟩ := info_parts sec_parts
  have hlen : b.length = n := by have := hr.1; rw [B8_length] at this; omega
  have H1 := hide (numbered_any gen)
  have H2 := hide (numbered_any nr)
  rw [hg] at H1
  rw [hn] at H2
  have HG := hide hg
  have HN := hide hn
  have HR := hide hr
  have HLN := hide hlen
  have H3 := hide (recParts_any (n : Int))
  have HPN := hide (partsI_nat n)
  rw [HPN.out] at H3
  obtain ⟨N, hN⟩ : ∃ N, N = partsN n := ⟨_, rfl⟩
  have HNN := hide (show partsN b.length = N by rw [hlen, hN])
  have hN40 : N ≤ 40 := by rw [hN]; exact partsN_le n
  rw [← hN] at H3
  rw [HNN.out]
  clear hg hn hr hlen hN HPN
  go_enter Try.func35, Try.ntmps35
  go_wp2_with fail
  refine (H1.out w).mono ?_
  rintro _ w1 ⟨rfl, rfl⟩
  go_wp2_with fail
  refine (H2.out w).mono ?_
  rintro _ w2 ⟨rfl, rfl⟩
  go_wp2_with fail
  refine (H3.out w).mono ?_
  rintro _ w3 ⟨rfl, rfl⟩
  go_wp2_with (first
    | ((with_reducible refine at_slot 21 ?_); refine wpList_make_blk rfl (.tmp 20) (.tmp 20) 73 rfl 51 i0 _ Z64 Try.underlying73 hi0 hz0 sec_cells8 (by rw [hz1, Z64_length]) (by rw [Z64_length]; omega) N rfl rfl (by rw [hz2]; omega) (by omega) ?_; intro w4 hb4 hl4))
  rw [flat_noughts] at hb4
  have hx4 := hb4.lt
  have HB4 := hide (show Blk w4 w.heap.size 51 (B8 (laidS gen nr b 0)).toArray by rw [laidS_zero, HNN.out]; exact hb4)
  have HL4 := hide hl4
  clear hb4 hl4
  go_loopw [2, 24] (fun bv i wr => ∃ (k : Nat) (A1 : Option Addr) (n1 c1 : Nat), k ≤ N ∧ i = .int .i64 k ∧ bv = .slice A1 n1 c1 ∧ n1 ≤ c1 ∧ c1 ≤ 9223372036854775807 ∧ Hid (Reads w B0 1 A1 n1 (B8 (b.drop (53 * k)))) ∧ Hid (Blk wr w.heap.size 51 (B8 (laidS gen nr b k)).toArray) ∧ Hid (Below w.heap.size w wr)) (fun _ i _ => N - (intOf i).toNat)
  case atStart => exact ⟨0, A, n, c, Nat.zero_le _, rfl, rfl, hc, hc2, HR, HB4, HL4⟩
  case round =>
    obtain ⟨k, A1, n1, c1, hk, rfl, rfl, hc1, hcm, HR1, HB, HL⟩ := hrel
    by_cases hkn : k < N
    · have hn1 : n1 = b.length - 53 * k := by have := HR1.out.1; rw [B8_length, List.length_drop] at this; omega
      have hhl := heldT_length b k
      obtain ⟨m, hm⟩ : ∃ m, m = (heldT b k).length := ⟨_, rfl⟩
      have hmm : m = min 53 n1 := by rw [hm, hhl, hn1]
      have hkb : k < partsN b.length := by rw [HNN.out]; exact hkn
      have HOK := hide (piece_ok HG.out HN.out hkb)
      have HPT := hide (show pieceT gen nr b k = ⟨gen, nr, (k : Nat), (N : Nat), (m : Nat)⟩ by rw [pieceT, HNN.out, ← hm])
      have hh := HR1.out.head (k := m) (by omega)
      rw [Nat.mul_one, B8_take] at hh
      have hh2 : (b.drop (53 * k)).take m = heldT b k := by
        rw [hmm, heldT]
        rcases Nat.le_total 53 n1 with h | h
        · rw [Nat.min_eq_left h]
        · rw [Nat.min_eq_right h, List.take_of_length_le (by rw [List.length_drop]; omega), List.take_of_length_le (by rw [List.length_drop]; omega)]
      rw [hh2] at hh
      have HH := hide hh
      have hx : w.heap.size < wr.heap.size := HB.out.lt
      have HSe := hide (recSector_any (pieceT gen nr b k) HOK.out A1 m c1 (heldT b k) B0 wr (hh.below (HL.out.mono hB0)) (by have := HL.out.size; omega) (by omega))
      rw [HPT.out] at HSe
      have HPS := hide (show secT ⟨gen, nr, (k : Nat), (N : Nat), (m : Nat)⟩ (heldT b k) = pieceS gen nr b k by rw [pieceS, HPT.out])
      rw [HPS.out] at HSe
      obtain ⟨U, hU⟩ : ∃ U, U = B8 (pieceS gen nr b k) := ⟨_, rfl⟩
      have hUl : U.length = 64 := by rw [hU, B8_length]; exact secT_length _ _
      have HIU := hide (show (Try.prog.info? 51).map (·.size) = some U.length by rw [hUl]; kernel_rfl)
      have HUO := hide (show ∀ v ∈ U, v.oneCell' = true by rw [hU]; exact B8_one _)
      have hstep := laidS_step gen nr b hkb
      rw [← hU] at HSe hstep
      have HST := hide hstep
      have hsz : (B8 (laidS gen nr b k)).toArray.size = N * 64 := by rw [List.size_toArray, B8_length, laidS_length gen nr b (by omega), HNN.out]
      have HFIT := hide (show k * 64 + U.length ≤ (B8 (laidS gen nr b k)).toArray.size by rw [hsz, hUl]; omega)
      have HUL := hide hUl
      have hcut := HR1.out.cut (k := m) (cap := c1) (by omega) hc1
      have hdr : (B8 (b.drop (53 * k))).drop (m * 1) = B8 (b.drop (53 * (k + 1))) := by
        rw [Nat.mul_one, B8_drop, List.drop_drop]
        rcases Nat.le_total 53 n1 with h | h
        · rw [hmm, Nat.min_eq_left h]
          rfl
        · rw [List.drop_of_length_le (by omega), List.drop_of_length_le (by omega)]
      rw [hdr] at hcut
      have HCU := hide hcut
      clear hhl hm hh hh2 hU hUl hstep hsz hcut hdr hkb hn1
      by_cases h53 : 53 ≤ n1
      · obtain rfl : m = 53 := by omega
        have hi1 : (53 : Int) ≤ (n1 : Int) := by omega
        clear hmm
        by_cases hcc : c1 = 53
        · subst hcc
          obtain rfl : n1 = 53 := by omega
          rw [if_pos rfl] at HCU
          go_wp2_with (first
            | ((with_reducible refine at_slot 45 ?_); refine wpList_build_is rfl 105 _ rfl _ rfl _ (built_tag _ _ _ _ _) ?_))
          refine HSe.out.mono ?_
          rintro _ w5 ⟨rfl, hl5⟩
          have HB5 := hide (HB.out.below hl5 hx)
          have HL5 := hide (HL.out.trans (hl5.mono HL.out.size))
          have hx5 := hl5.size
          clear hl5
          go_wp2_with (first
            | ((with_reducible refine at_store 48 ?_); refine wpList_store_blk rfl 51 (.tmp 48) (.tmp 47) rfl w.heap.size (k * 64) 51 _ HB5.out rfl U rfl HIU.out HFIT.out HUO.out ?_; intro w6 hb6 hg6 hs6; clear hs6))
          rw [HUL.out, HST.out] at hb6
          have HB6 := hide hb6
          have HL6 := hide (HL5.out.grown hg6 (by omega) (fun g e => by injection e with e; omega))
          clear hb6 hg6
          go_roundw
          case rel => exact ⟨k + 1, _, _, _, by omega, by go_num, rfl, by omega, by omega, (by simpa using HCU), HB6, HL6⟩
          case measure => simp [intOf]; omega
        · rw [if_neg hcc, Nat.mul_one] at HCU
          go_wp2_with (first
            | ((with_reducible refine at_slot 45 ?_); refine wpList_build_is rfl 105 _ rfl _ rfl _ (built_tag _ _ _ _ _) ?_))
          refine HSe.out.mono ?_
          rintro _ w5 ⟨rfl, hl5⟩
          have HB5 := hide (HB.out.below hl5 hx)
          have HL5 := hide (HL.out.trans (hl5.mono HL.out.size))
          have hx5 := hl5.size
          clear hl5
          go_wp2_with (first
            | ((with_reducible refine at_store 48 ?_); refine wpList_store_blk rfl 51 (.tmp 48) (.tmp 47) rfl w.heap.size (k * 64) 51 _ HB5.out rfl U rfl HIU.out HFIT.out HUO.out ?_; intro w6 hb6 hg6 hs6; clear hs6))
          rw [HUL.out, HST.out] at hb6
          have HB6 := hide hb6
          have HL6 := hide (HL5.out.grown hg6 (by omega) (fun g e => by injection e with e; omega))
          clear hb6 hg6
          go_roundw
          case rel => exact ⟨k + 1, _, _, _, by omega, by go_num, rfl, by omega, by omega, HCU, HB6, HL6⟩
          case measure => simp [intOf]; omega
      · obtain rfl : m = n1 := by omega
        clear hmm
        have hi1 : ¬ ((53 : Int) ≤ (m : Int)) := by omega
        by_cases hcc : c1 = m
        · subst hcc
          rw [if_pos rfl] at HCU
          go_wp2_with (first
            | ((with_reducible refine at_slot 45 ?_); refine wpList_build_is rfl 105 _ rfl _ rfl _ (built_tag _ _ _ _ _) ?_))
          refine HSe.out.mono ?_
          rintro _ w5 ⟨rfl, hl5⟩
          have HB5 := hide (HB.out.below hl5 hx)
          have HL5 := hide (HL.out.trans (hl5.mono HL.out.size))
          have hx5 := hl5.size
          clear hl5
          go_wp2_with (first
            | ((with_reducible refine at_store 48 ?_); refine wpList_store_blk rfl 51 (.tmp 48) (.tmp 47) rfl w.heap.size (k * 64) 51 _ HB5.out rfl U rfl HIU.out HFIT.out HUO.out ?_; intro w6 hb6 hg6 hs6; clear hs6))
          rw [HUL.out, HST.out] at hb6
          have HB6 := hide hb6
          have HL6 := hide (HL5.out.grown hg6 (by omega) (fun g e => by injection e with e; omega))
          clear hb6 hg6
          go_roundw
          case rel => exact ⟨k + 1, _, _, _, by omega, by go_num, rfl, by omega, by omega, (by simpa using HCU), HB6, HL6⟩
          case measure => simp [intOf]; omega
        · rw [if_neg hcc, Nat.mul_one] at HCU
          go_wp2_with (first
            | ((with_reducible refine at_slot 45 ?_); refine wpList_build_is rfl 105 _ rfl _ rfl _ (built_tag _ _ _ _ _) ?_))
          refine HSe.out.mono ?_
          rintro _ w5 ⟨rfl, hl5⟩
          have HB5 := hide (HB.out.below hl5 hx)
          have HL5 := hide (HL.out.trans (hl5.mono HL.out.size))
          have hx5 := hl5.size
          clear hl5
          go_wp2_with (first
            | ((with_reducible refine at_store 48 ?_); refine wpList_store_blk rfl 51 (.tmp 48) (.tmp 47) rfl w.heap.size (k * 64) 51 _ HB5.out rfl U rfl HIU.out HFIT.out HUO.out ?_; intro w6 hb6 hg6 hs6; clear hs6))
          rw [HUL.out, HST.out] at hb6
          have HB6 := hide hb6
          have HL6 := hide (HL5.out.grown hg6 (by omega) (fun g e => by injection e with e; omega))
          clear hb6 hg6
          go_roundw
          case rel => exact ⟨k + 1, _, _, _, by omega, by go_num, rfl, by omega, by omega, (by simpa using HCU), HB6, HL6⟩
          case measure => simp [intOf]; omega
    · obtain rfl : k = N := by omega
      have HE := hide (show Blk wr w.heap.size 51 (B8 (splitT gen nr b)).toArray by
        have h := HB.out
        rw [← HNN.out, laidS_end] at h
        exact h)
      go_wp2
      go_ret
      exact ⟨_, rfl, Nat.le_refl _, HE.out, HL.out⟩
#print axioms recSplit_any
end Go.Proofs.Ytmjdndhpnckeeaa
