/- RecordBack holds: for all bytes (their first 2120) and any generation and number below 2^32, what is split is as many parts as Parts says, and is joined again; one part less, or two of them changed about, are joined by nobody; no condition. -/
import Derived.Test.YtdchdmbkojnmcaaRecL
import Derived.Test.YtdchdmbkojnmcaaStepB
import Derived.Test.YtdchdmbkojnmcaaArg
import Derived.Test.YtdchdmbkojnmcaaRows
import Derived.Deep.DeepCutAuto
import Derived.Deep.CutBlock
import Derived.Deep.CutRange
namespace Go.Proofs.Ytdchdmbkojnmcaa.RecordBack
open Go.ChangeShapes Go.WideShapes Go.ChangeAt Go.RowKit Go.Proofs.Ytdchdmbkojnmcaa

theorem secAt_take {L : List UInt8} {i k : Nat} (h : i < k) : secAt (L.take (k * 64)) i = secAt L i := by
  rw [secAt, secAt, List.drop_take, List.take_take]
  congr 1
  omega
theorem take_put {C : List Value} {L s : List UInt8} {M a : Nat} (hC : C.take M = B8 L) (hs : s.length = 64) (ha : a * 64 + 64 ≤ M) (hM : M ≤ C.length) : (C.take (a * 64) ++ B8 s ++ C.drop (a * 64 + 64)).take M = B8 (putSec L a s) := by
  have hl : (C.take (a * 64) ++ B8 s).length = a * 64 + 64 := by rw [List.length_append, List.length_take, B8_length, hs]; omega
  rw [List.take_append, hl, List.take_of_length_le (by omega), ← B8_putSec, ← hC, List.take_take, List.drop_take]
  congr 3
  omega
theorem put_len {C : List Value} {s : List UInt8} {a : Nat} (hs : s.length = 64) (ha : a * 64 + 64 ≤ C.length) : (C.take (a * 64) ++ B8 s ++ C.drop (a * 64 + 64)).length = C.length := by
  rw [List.length_append, List.length_append, List.length_take, List.length_drop, B8_length, hs]
  omega
/-- The first cells of a block read as a row of sectors. -/
theorem blk_front {w : World} {g n : Nat} {T : TypeId} {C : List Value} {bs : List UInt8} (h : Blk w g T C.toArray) (hC : C.take (n * 64) = B8 bs) (hl : bs.length = n * 64) : Reads w w.heap.size 64 (some ⟨g, 0, none⟩) n (B8 bs) :=
  ⟨by rw [B8_length, hl], fun _ => ⟨_, rfl, h.lt, fun j u hu => blk_at h j u (by
    rw [← hC, List.getElem?_take] at hu
    split at hu
    · exact hu
    · cases hu)⟩⟩
/-- A sector's cells among the first cells of a block. -/
theorem front_in {C : List Value} {bs : List UInt8} {n k : Nat} (hC : C.take (n * 64) = B8 bs) (j : Nat) (v : Value) (h : (B8 (secAt bs k))[j]? = some v) : C.toArray[k * 64 + j]? = some v := by
  have h1 := sec_in j v h
  rw [List.getElem?_toArray, ← hC, List.getElem?_take] at h1
  rw [List.getElem?_toArray]
  split at h1
  · exact h1
  · cases h1
set_option maxRecDepth 100000 in
set_option maxHeartbeats 4000000 in
theorem walk (gen nr : Int) (A : Option Addr) (n c : Nat) (l : List UInt8) (at_ : Int) (w : World) (_g1 : -9223372036854775808 ≤ gen) (_g2 : gen ≤ 9223372036854775807) (_n1 : -9223372036854775808 ≤ nr) (_n2 : nr ≤ 9223372036854775807) (hr : Reads w w.heap.size 1 A n (B8 l)) (hc : n ≤ c) (hc2 : c ≤ 9223372036854775807)
    (_a1 : -9223372036854775808 ≤ at_) (_a2 : at_ ≤ 9223372036854775807) :
    Calls Try.prog 5 #[.int .i64 gen, .int .i64 nr, .slice A n c, .int .i64 at_] w fun e w' => e = .returned (.bool true) ∧ Below w.heap.size w w' := by
  have HS := hide (shown_any w)
  have HR := hide hr
  have hm1 := mask32 gen
  have hm2 := mask32 nr
  have hm5 := mask8 at_
  have HN1 := hide (num_mod gen)
  have HN2 := hide (num_mod nr)
  clear hr
  generalize gen % 4294967296 = G at *
  generalize nr % 4294967296 = R at *
  have hw0 : 0 ≤ at_ % 256 := Int.emod_nonneg _ (by omega)
  generalize at_ % 256 = T at *
  obtain ⟨i0, hi0, hz0, hz1, hz2⟩ := info_parts sec_parts
  go_enter Try.func5, Try.ntmps5
  go_upto_region 2 with (go_at_call 10; refine HS.out.mono ?_; rintro _ w1 ⟨rfl, hl1⟩)
  go_cut [2] (fun v2 wx => w1 = wx ∧ ∃ m : Nat, m ≤ n ∧ m ≤ 2120 ∧ v2 = .slice A m c)
  case first =>
    by_cases hmn : (n : Int) ≤ 2120
    · go_wp2_with fail
      go_meet
      case rel => exact ⟨rfl, n, Nat.le_refl _, by omega, rfl⟩
    · go_wp2_with fail
      go_meet
      case rel => exact ⟨rfl, 2120, by omega, by omega, rfl⟩
  case rest =>
    obtain ⟨rfl, m, hmn, hm21, rfl⟩ := hcut
    have HL1 := hide hl1
    have hh := HR.out.head (k := m) hmn
    rw [Nat.mul_one, B8_take] at hh
    obtain ⟨b, hb⟩ : ∃ b, b = l.take m := ⟨_, rfl⟩
    rw [← hb] at hh
    have hbl : b.length = m := by have := hh.1; rw [B8_length] at this; omega
    have HRB := hide hh
    have hpn := (partsN_is (n := b.length) (by omega)).1
    have hp40 := partsN_le b.length
    have HPI := hide (recParts_any (m : Int))
    rw [partsI_nat m, ← hbl] at HPI
    obtain ⟨N, hN⟩ : ∃ N, N = partsN b.length := ⟨_, rfl⟩
    have HNN := hide hN
    have hj0 := join_split (gen := G) (nr := R) (b := b) HN1.out HN2.out (by omega)
    rw [← hN] at hpn hp40 HPI hj0
    rw [hbl] at HPI
    have hN0 : ((N : Int) == 0) = false := by simp; omega
    clear hh hb hl1 hN hbl
    have HSP1 := hide (fun (w' : World) (hb : Below w.heap.size w w') => recSplit_any G R A m c b w.heap.size w' (HRB.out.below hb) hb.size (by omega) hc2 HN1.out HN2.out)
    rw [← HNN.out] at HSP1
    have hSL := split_length G R b
    rw [← HNN.out] at hSL
    obtain ⟨S, hS⟩ : ∃ S, S = splitT G R b := ⟨_, rfl⟩
    rw [← hS] at HSP1 hSL hj0
    have HS1 := hide hS
    have HSL := hide hSL
    have HJ0 := hide (fun (w' : World) (g : Nat) (hb : Blk w' g 35 (B8 S).toArray) => recJoin_any G R (some ⟨g, 0, none⟩) N N S w'.heap.size w' (blk_secs hb HSL.out) (Nat.le_refl _) (by omega))
    unfold Joined at HJ0
    rw [hj0.1, hj0.2] at HJ0
    have HJ1 := hide (fun (w' : World) (g : Nat) (hb : Blk w' g 35 (B8 S).toArray) => recJoin_any G R (some ⟨g, 0, none⟩) (N - 1) N (S.take ((N - 1) * 64)) w'.heap.size w' (by have h := (blk_secs hb HSL.out).head (k := N - 1) (by omega); rwa [B8_take] at h) (Nat.le_refl _) (by omega))
    have hj1 : joinB G R (N - 1) (S.take ((N - 1) * 64)) = false := by
      rcases Nat.eq_zero_or_pos (N - 1) with h0 | h0
      · rw [h0]; rfl
      · refine join_no (i := 0) h0 ?_
        rw [secAt_take h0, HS1.out, split_at G R b (by rw [← HNN.out]; omega)]
        exact ok_count HN1.out HN2.out (by rw [← HNN.out]; omega) (by rw [← HNN.out]; omega)
    unfold Joined at HJ1
    rw [hj1] at HJ1
    have hq1 : (0 : Int) ≤ (N : Int) - 1 := by omega
    have hq2 : (N : Int) - 1 ≤ (N : Int) := by omega
    have hq3 : ((N : Int) - 1).toNat = N - 1 := by omega
    clear hS hSL hj0 hj1
    go_wp2_with fail
    refine (HSP1.out _ HL1.out).mono ?_
    rintro _ w2 ⟨g1, rfl, hg1, hb1, hl2⟩
    have HB1 := hide hb1
    have HL2 := hide (HL1.out.trans (hl2.mono HL1.out.size))
    have hx1 := hb1.lt
    have HG1 := hide (show w.heap.size ≤ g1 from Nat.le_trans HL1.out.size hg1)
    clear hb1 hl2 hg1
    go_wp2_with fail
    refine (HJ0.out _ _ HB1.out).mono ?_
    rintro _ w3 ⟨R3, k3, d3, rfl, _, _, ho3, hl3⟩
    have hk3 := own_conv8 22 5 9 Try.underlying22 Try.underlying5 Try.underlying9 ho3
    have HL3 := hide (HL2.out.trans (hl3.mono HL2.out.size))
    have HB3 := hide (HB1.out.below hl3 hx1)
    have hkb := run_conv_reads (P := Try.prog) w3 22 5 9 Try.underlying22 Try.underlying5 Try.underlying9 _ A m c b (HRB.out.below HL3.out)
    clear ho3 hl3 HB1 HL2
    go_wp2_with (go_at_call 14; refine (HPI.out _).mono ?_; rintro _ w4 ⟨rfl, rfl⟩)
    refine (HJ1.out _ _ HB3.out).mono ?_
    rintro _ w5 ⟨R5, k5, d5, rfl, _, _, _, hl5⟩
    have HL5 := hide (HL3.out.trans (hl5.mono HL3.out.size))
    have HB5 := hide (HB3.out.below hl5 HB3.out.lt)
    clear hk3 hkb hl5 HB3 HL3
    by_cases hn2 : N < 2
    · have hi2 : decide ((N : Int) < 2) = true := by simp; omega
      go_wp2
      go_ret
      exact ⟨rfl, HL5.out⟩
    · have hi2 : decide ((N : Int) < 2) = false := by simp; omega
      obtain ⟨k, hr1, hr2⟩ : ∃ k : Nat, T.tmod ((N : Int) - 1) = (k : Int) ∧ k + 1 < N := by
        have h0 : 0 ≤ T % ((N : Int) - 1) := Int.emod_nonneg _ (by omega)
        have h1 : T % ((N : Int) - 1) < (N : Int) - 1 := Int.emod_lt_of_pos _ (by omega)
        exact ⟨(T % ((N : Int) - 1)).toNat, by rw [Int.tmod_eq_emod_of_nonneg hw0]; omega, by omega⟩
      have hr3 : T % ((N : Int) - 1) = (k : Int) := by rw [← Int.tmod_eq_emod_of_nonneg hw0]; exact hr1
      have hr4 : ((N : Int) - 1 == 0) = false := by simp; omega
      have hc1 : 0 + N ≤ maxLen := by simp only [maxLen]; omega
      have hc3 : (0 + N) * 64 ≤ 140737488355328 := by omega
      have HRS := hide (blk_secs HB5.out HSL.out)
      go_upto_region 14 with (at_builtin; refine wpList_append_any _ rfl (.tmp 87) (.tmp 88) _ rfl w5.heap.size 35 i0 _ 64 64 Try.underlying24 hi0 hz0 hz1 hz2 rfl (by omega) _ 0 [] rfl (World.ownsRow_made w5 #[] 0 (Nat.le_refl _) (Nat.zero_le _) rfl) w5.heap.size (some ⟨g1, 0, none⟩) N N (B8 S) rfl (HRS.out.alloc (Nat.le_refl _) _) (B8_one _) hc1 hc3 (le_alloc (Nat.le_refl _) _) ?_; intro v6 w6 hown6 hbel6)
      rw [List.nil_append, Nat.zero_add] at hown6
      obtain ⟨g, cap, cur, rfl, hg5, hcur, hnc, _, hcz, hct⟩ : ∃ g cap cur, v6 = .slice (some ⟨g, 0, none⟩) N cap ∧ w5.heap.size ≤ g ∧ Blk w6 g 35 cur ∧ N ≤ cap ∧ cap ≤ maxLen ∧ cur.size = cap * 64 ∧ cur.toList.take (N * 64) = B8 S := by
        rcases hown6.2 with ⟨_, h⟩ | h
        · omega
        · exact h
      have HL6 := hide (((HL5.out.alloc HL5.out.size (.cells #[] 35)).trans (hbel6.mono HL5.out.size)))
      obtain ⟨C, hC⟩ : ∃ C, C = cur.toList := ⟨_, rfl⟩
      have hCa : cur = C.toArray := by rw [hC]
      have hCl : C.length = cap * 64 := by rw [hC, Array.length_toList, hcz]
      rw [← hC] at hct
      rw [hCa] at hcur
      have HCU := hide hcur
      have HCT := hide hct
      have HCL := hide hCl
      clear hown6 hbel6 hC hCa hCl hcur hct hcz HRS
      obtain ⟨Y0, hY0⟩ : ∃ Y, Y = secAt S k := ⟨_, rfl⟩
      obtain ⟨Y1, hY1⟩ : ∃ Y, Y = secAt S (k + 1) := ⟨_, rfl⟩
      have hY0l : Y0.length = 64 := by rw [hY0]; exact secAt_length HSL.out (by omega)
      have hY1l : Y1.length = 64 := by rw [hY1]; exact secAt_length HSL.out (by omega)
      have HI0 := hide (fun (j : Nat) (v : Value) (h : (B8 Y0)[j]? = some v) => (by rw [hY0] at h; exact front_in HCT.out j v h : C.toArray[k * 64 + j]? = some v))
      have HI1 := hide (fun (j : Nat) (v : Value) (h : (B8 Y1)[j]? = some v) => (by rw [hY1] at h; exact front_in HCT.out j v h : C.toArray[(k + 1) * 64 + j]? = some v))
      have HP1 := hide (show Y1 = pieceS G R b (k + 1) by rw [hY1, HS1.out]; exact split_at G R b (by rw [← HNN.out]; omega))
      obtain ⟨U0, hU0⟩ : ∃ U, U = B8 Y0 := ⟨_, rfl⟩
      obtain ⟨U1, hU1⟩ : ∃ U, U = B8 Y1 := ⟨_, rfl⟩
      have hU0l : U0.length = 64 := by rw [hU0, B8_length, hY0l]
      have hU1l : U1.length = 64 := by rw [hU1, B8_length, hY1l]
      have HIU0 := hide (show (Try.prog.info? 35).map (·.size) = some U0.length by rw [hU0l]; kernel_rfl)
      have HIU1 := hide (show (Try.prog.info? 35).map (·.size) = some U1.length by rw [hU1l]; kernel_rfl)
      have HUO0 := hide (show ∀ v ∈ U0, v.oneCell' = true by rw [hU0]; exact B8_one _)
      have HUO1 := hide (show ∀ v ∈ U1, v.oneCell' = true by rw [hU1]; exact B8_one _)
      rw [← hU0] at HI0
      rw [← hU1] at HI1
      obtain ⟨C1, hC1⟩ : ∃ C1, C1 = C.take (k * 64) ++ U1 ++ C.drop (k * 64 + U1.length) := ⟨_, rfl⟩
      have hC1l : C1.length = cap * 64 := by rw [hC1, hU1l, hU1, put_len hY1l (by rw [HCL.out]; omega), HCL.out]
      have hC1t : C1.take (N * 64) = B8 (putSec S k Y1) := by rw [hC1, hU1l, hU1]; exact take_put HCT.out hY1l (by omega) (by rw [HCL.out]; omega)
      obtain ⟨C2, hC2⟩ : ∃ C2, C2 = C1.take ((k + 1) * 64) ++ U0 ++ C1.drop ((k + 1) * 64 + U0.length) := ⟨_, rfl⟩
      have hP1l := putSec_length (r := k) HSL.out hY1l (by omega)
      have hC2t : C2.take (N * 64) = B8 (putSec (putSec S k Y1) (k + 1) Y0) := by rw [hC2, hU0l, hU0]; exact take_put hC1t hY0l (by omega) (by rw [hC1l]; omega)
      have hZl := putSec_length (r := k + 1) hP1l hY0l (by omega)
      have hZk : secAt (putSec (putSec S k Y1) (k + 1) Y0) k = pieceS G R b (k + 1) := by
        rw [putSec_ne hP1l hY0l (by omega) (by omega), putSec_at HSL.out hY1l (by omega), HP1.out]
      have HF1 := hide (show k * 64 + U1.length ≤ C.toArray.size by rw [List.size_toArray, HCL.out, hU1l]; omega)
      have HF2 := hide (show (k + 1) * 64 + U0.length ≤ C1.toArray.size by rw [List.size_toArray, hC1l, hU0l]; omega)
      obtain ⟨Z, hZ⟩ : ∃ Z, Z = putSec (putSec S k Y1) (k + 1) Y0 := ⟨_, rfl⟩
      rw [← hZ] at hC2t hZl hZk
      have HJ2 := hide (fun (w' : World) (hb : Blk w' g 35 C2.toArray) => recJoin_any G R (some ⟨g, 0, none⟩) N cap Z w'.heap.size w' (blk_front hb hC2t hZl) (Nat.le_refl _) (by omega))
      have hj2 : joinB G R N Z = false := join_no (i := k) (by omega) (by rw [hZk]; exact ok_place HN1.out HN2.out (by rw [← HNN.out]; omega) (by omega))
      unfold Joined at HJ2
      rw [hj2] at HJ2
      have HC1 := hide hC1
      have HC2 := hide hC2
      have HGG := hide (show w.heap.size ≤ g from Nat.le_trans HL5.out.size hg5)
      have hk1 : (k : Int) + 1 < (N : Int) := by omega
      have hk0 : (k : Int) < (N : Int) := by omega
      have hkt : ((k : Int) + 1).toNat = k + 1 := by omega
      have hkw : IntKind.i64.wrap ((k : Int) + 1) = (k : Int) + 1 := by rw [IntKind.wrap_i64]; omega
      have hk2 : (0 : Int) ≤ (k : Int) + 1 := by omega
      clear hY0 hY1 hY0l hY1l hU0 hU1 hU0l hU1l hC1 hC1l hC1t hC2 hP1l hC2t hZl hZk hZ hj2 hg5
      go_cut [] (fun wx => Blk wx g 35 C2.toArray ∧ Below w.heap.size w wx)
      case first =>
        have hD : Blk w6.drew g 35 C.toArray := HCU.out
        have HLD := hide (HL6.out.drew)
        refine wp_region_held_drew (S := fun _ => True) (by kernel_rfl) trivial (fun hHeld => ?_)
        refine heldTake (i := 0) (v := ?_) rfl (by kernel_rfl) (by kernel_rfl) (by kernel_rfl) (fun _ _ _ h => h) (Or.inl ⟨by rfl, ?_⟩) (by assumption) ?_
        rotate_left
        · intro w hSw; (try dsimp only at hSw); go_simp <;> (with_reducible rfl)
        try simp only [Act.put, List.setIfInBounds_toArray, List.set_cons_zero, List.set_cons_succ]
        refine heldTake (i := 1) (v := ?_) rfl (by kernel_rfl) (by kernel_rfl) (by kernel_rfl) (fun _ _ _ h => h) (Or.inl ⟨by rfl, ?_⟩) (by assumption) ?_
        rotate_left
        · intro w hSw; (try dsimp only at hSw); go_simp <;> (with_reducible rfl)
        try simp only [Act.put, List.setIfInBounds_toArray, List.set_cons_zero, List.set_cons_succ]
        refine heldTake (i := 2) (v := ?_) rfl (by kernel_rfl) (by kernel_rfl) (by kernel_rfl) (fun _ _ _ h => h) (Or.inl ⟨by rfl, ?_⟩) (by assumption) ?_
        rotate_left
        · intro w hSw; (try dsimp only at hSw); go_simp <;> (with_reducible rfl)
        try simp only [Act.put, List.setIfInBounds_toArray, List.set_cons_zero, List.set_cons_succ]
        refine heldTake (i := 3) (v := ?_) rfl (by kernel_rfl) (by kernel_rfl) (by kernel_rfl) (fun _ _ _ h => h) (Or.inl ⟨by rfl, ?_⟩) (by assumption) ?_
        rotate_left
        · intro w hSw; (try dsimp only at hSw); go_simp <;> (with_reducible rfl)
        try simp only [Act.put, List.setIfInBounds_toArray, List.set_cons_zero, List.set_cons_succ]
        refine heldTake (i := 4) (v := ?_) rfl (by kernel_rfl) (by kernel_rfl) (by kernel_rfl) (fun _ _ _ h => h) (Or.inl ⟨by rfl, ?_⟩) (by assumption) ?_
        rotate_left
        · intro w hSw; (try dsimp only at hSw); go_simp <;> (with_reducible rfl)
        try simp only [Act.put, List.setIfInBounds_toArray, List.set_cons_zero, List.set_cons_succ]
        refine heldTake (i := 5) (v := ?_) rfl (by kernel_rfl) (by kernel_rfl) (by kernel_rfl) (fun _ _ _ h => h) (Or.inl ⟨by rfl, ?_⟩) (by assumption) ?_
        rotate_left
        · intro w hSw; (try dsimp only at hSw); go_simp <;> (with_reducible rfl)
        try simp only [Act.put, List.setIfInBounds_toArray, List.set_cons_zero, List.set_cons_succ]
        refine heldTake (i := 6) (v := ?_) rfl (by kernel_rfl) (by kernel_rfl) (by kernel_rfl) (fun _ _ _ h => h) (Or.inl ⟨by rfl, ?_⟩) (by assumption) ?_
        rotate_left
        · intro w hSw; (try dsimp only at hSw); go_simp <;> (with_reducible rfl)
        try simp only [Act.put, List.setIfInBounds_toArray, List.set_cons_zero, List.set_cons_succ]
        refine heldTake (i := 7) (v := ?_) rfl (by kernel_rfl) (by kernel_rfl) (by kernel_rfl) (fun _ _ _ h => h) (Or.inl ⟨by rfl, ?_⟩) (by assumption) ?_
        rotate_left
        · intro w hSw; (try dsimp only at hSw); go_simp <;> (with_reducible rfl)
        try simp only [Act.put, List.setIfInBounds_toArray, List.set_cons_zero, List.set_cons_succ]
        refine heldTake (i := 8) (v := ?_) rfl (by kernel_rfl) (by kernel_rfl) (by kernel_rfl) (fun _ _ _ h => h) (Or.inl ⟨by rfl, ?_⟩) (by assumption) ?_
        rotate_left
        · intro w hSw; (try dsimp only at hSw); go_simp <;> (with_reducible rfl)
        try simp only [Act.put, List.setIfInBounds_toArray, List.set_cons_zero, List.set_cons_succ]
        refine heldTake (i := 10) (v := ?_) rfl (by kernel_rfl) (by kernel_rfl) (by kernel_rfl) (fun _ _ _ h => h) (Or.inl ⟨by rfl, ?_⟩) (by assumption) ?_
        rotate_left
        · intro w hSw; (try dsimp only at hSw); go_simp <;> (with_reducible rfl)
        try simp only [Act.put, List.setIfInBounds_toArray, List.set_cons_zero, List.set_cons_succ]
        refine heldTake (i := 11) (v := ?_) rfl (by kernel_rfl) (by kernel_rfl) (by kernel_rfl) (fun _ _ _ h => h) (Or.inl ⟨by rfl, ?_⟩) (by assumption) ?_
        rotate_left
        · intro w hSw; (try dsimp only at hSw); go_simp <;> (with_reducible rfl)
        try simp only [Act.put, List.setIfInBounds_toArray, List.set_cons_zero, List.set_cons_succ]
        refine heldTake (i := 12) (v := ?_) rfl (by kernel_rfl) (by kernel_rfl) (by kernel_rfl) (fun _ _ _ h => h) (Or.inl ⟨by rfl, ?_⟩) (by assumption) ?_
        rotate_left
        · intro w hSw; (try dsimp only at hSw); go_simp <;> (with_reducible rfl)
        try simp only [Act.put, List.setIfInBounds_toArray, List.set_cons_zero, List.set_cons_succ]
        refine wpAnyH_ready (rs := [9, 13]) (by kernel_rfl) (by simp) ?_
        refine heldCons (i := 9) rfl (fun Kq hKq => ?_) (heldCons (i := 13) rfl (fun Kq hKq => ?_) AllReadyH.nil)
        · refine step_load_blk rfl 35 (.tmp 98) rfl g ((k + 1) * 64) 35 _ hD rfl U1 _ HI1.out Try.underlying35 rfl HIU1.out ?_
          refine hKq.out _ _ trivial (fun hHeld => ?_)
          clear hKq Kq
          try simp only [Act.put, List.setIfInBounds_toArray, List.set_cons_zero, List.set_cons_succ]
          refine wpAnyH_ready (rs := [13]) (by kernel_rfl) (by simp) ?_
          refine heldCons (i := 13) rfl (fun Kq hKq => ?_) AllReadyH.nil
          refine step_load_blk rfl 35 (.tmp 102) rfl g (k * 64) 35 _ hD rfl U0 _ HI0.out Try.underlying35 rfl HIU0.out ?_
          refine hKq.out _ _ trivial (fun hHeld => ?_)
          clear hKq Kq
          try simp only [Act.put, List.setIfInBounds_toArray, List.set_cons_zero, List.set_cons_succ]
          refine heldTake (i := 14) (v := ?_) rfl (by kernel_rfl) (by kernel_rfl) (by kernel_rfl) (fun _ _ _ h => h) (Or.inl ⟨by rfl, ?_⟩) (by assumption) ?_
          rotate_left
          · intro w hSw; (try dsimp only at hSw); go_simp <;> (with_reducible rfl)
          try simp only [Act.put, List.setIfInBounds_toArray, List.set_cons_zero, List.set_cons_succ]
          refine wpAnyH_ready (rs := [15]) (by kernel_rfl) (by simp) ?_
          refine heldCons (i := 15) rfl (fun Kq hKq => ?_) AllReadyH.nil
          refine step_store_blk rfl 35 (.tmp 104) (.tmp 99) rfl g (k * 64) 35 _ hD rfl U1 rfl HIU1.out HF1.out HUO1.out ?_
          intro wa hba hga hsa
          have hba2 : Blk wa g 35 C1.toArray := by rw [HC1.out]; exact hba
          have HLA := hide (HLD.out.grown hga HLD.out.size (fun g' e => by injection e with e; have := HGG.out; omega))
          clear hba hga hsa
          refine hKq.out _ _ trivial (fun hHeld => ?_)
          clear hKq Kq
          try simp only [Act.put]
          refine heldTake (i := 16) (v := ?_) rfl (by kernel_rfl) (by kernel_rfl) (by kernel_rfl) (fun _ _ _ h => h) (Or.inl ⟨by rfl, ?_⟩) (by assumption) ?_
          rotate_left
          · intro w hSw; (try dsimp only at hSw); go_simp <;> (with_reducible rfl)
          try simp only [Act.put, List.setIfInBounds_toArray, List.set_cons_zero, List.set_cons_succ]
          refine wpAnyH_ready (rs := [17]) (by kernel_rfl) (by simp) ?_
          refine heldCons (i := 17) rfl (fun Kq hKq => ?_) AllReadyH.nil
          refine step_store_blk rfl 35 (.tmp 105) (.tmp 103) rfl g ((k + 1) * 64) 35 _ hba2 rfl U0 rfl HIU0.out HF2.out HUO0.out ?_
          intro wb hbb hgb hsb
          have hbb2 : Blk wb g 35 C2.toArray := by rw [HC2.out]; exact hbb
          have HLB := hide (HLA.out.grown hgb HLA.out.size (fun g' e => by injection e with e; have := HGG.out; omega))
          clear hbb hgb hsb
          refine hKq.out _ _ trivial (fun hHeld => ?_)
          clear hKq Kq
          try simp only [Act.put]
          refine wpAnyH_done (by kernel_rfl) ?_ _
          go_wp2_with fail
          go_meet
          case rel => exact ⟨hbb2, HLB.out⟩
        · refine step_load_blk rfl 35 (.tmp 102) rfl g (k * 64) 35 _ hD rfl U0 _ HI0.out Try.underlying35 rfl HIU0.out ?_
          refine hKq.out _ _ trivial (fun hHeld => ?_)
          clear hKq Kq
          try simp only [Act.put, List.setIfInBounds_toArray, List.set_cons_zero, List.set_cons_succ]
          refine wpAnyH_ready (rs := [9]) (by kernel_rfl) (by simp) ?_
          refine heldCons (i := 9) rfl (fun Kq hKq => ?_) AllReadyH.nil
          refine step_load_blk rfl 35 (.tmp 98) rfl g ((k + 1) * 64) 35 _ hD rfl U1 _ HI1.out Try.underlying35 rfl HIU1.out ?_
          refine hKq.out _ _ trivial (fun hHeld => ?_)
          clear hKq Kq
          try simp only [Act.put, List.setIfInBounds_toArray, List.set_cons_zero, List.set_cons_succ]
          refine heldTake (i := 14) (v := ?_) rfl (by kernel_rfl) (by kernel_rfl) (by kernel_rfl) (fun _ _ _ h => h) (Or.inl ⟨by rfl, ?_⟩) (by assumption) ?_
          rotate_left
          · intro w hSw; (try dsimp only at hSw); go_simp <;> (with_reducible rfl)
          try simp only [Act.put, List.setIfInBounds_toArray, List.set_cons_zero, List.set_cons_succ]
          refine wpAnyH_ready (rs := [15]) (by kernel_rfl) (by simp) ?_
          refine heldCons (i := 15) rfl (fun Kq hKq => ?_) AllReadyH.nil
          refine step_store_blk rfl 35 (.tmp 104) (.tmp 99) rfl g (k * 64) 35 _ hD rfl U1 rfl HIU1.out HF1.out HUO1.out ?_
          intro wa hba hga hsa
          have hba2 : Blk wa g 35 C1.toArray := by rw [HC1.out]; exact hba
          have HLA := hide (HLD.out.grown hga HLD.out.size (fun g' e => by injection e with e; have := HGG.out; omega))
          clear hba hga hsa
          refine hKq.out _ _ trivial (fun hHeld => ?_)
          clear hKq Kq
          try simp only [Act.put]
          refine heldTake (i := 16) (v := ?_) rfl (by kernel_rfl) (by kernel_rfl) (by kernel_rfl) (fun _ _ _ h => h) (Or.inl ⟨by rfl, ?_⟩) (by assumption) ?_
          rotate_left
          · intro w hSw; (try dsimp only at hSw); go_simp <;> (with_reducible rfl)
          try simp only [Act.put, List.setIfInBounds_toArray, List.set_cons_zero, List.set_cons_succ]
          refine wpAnyH_ready (rs := [17]) (by kernel_rfl) (by simp) ?_
          refine heldCons (i := 17) rfl (fun Kq hKq => ?_) AllReadyH.nil
          refine step_store_blk rfl 35 (.tmp 105) (.tmp 103) rfl g ((k + 1) * 64) 35 _ hba2 rfl U0 rfl HIU0.out HF2.out HUO0.out ?_
          intro wb hbb hgb hsb
          have hbb2 : Blk wb g 35 C2.toArray := by rw [HC2.out]; exact hbb
          have HLB := hide (HLA.out.grown hgb HLA.out.size (fun g' e => by injection e with e; have := HGG.out; omega))
          clear hbb hgb hsb
          refine hKq.out _ _ trivial (fun hHeld => ?_)
          clear hKq Kq
          try simp only [Act.put]
          refine wpAnyH_done (by kernel_rfl) ?_ _
          go_wp2_with fail
          go_meet
          case rel => exact ⟨hbb2, HLB.out⟩
      case rest =>
        obtain ⟨hb7, hl7⟩ := hcut
        have HB7 := hide hb7
        have HL7 := hide hl7
        clear hb7 hl7
        go_wp2_with fail
        refine (HJ2.out _ HB7.out).mono ?_
        rintro _ w8 ⟨R8, k8, d8, rfl, _, _, _, hl8⟩
        have HL8 := hide (HL7.out.trans (hl8.mono HL7.out.size))
        clear hl8
        go_wp2
        go_ret
        exact ⟨rfl, HL8.out⟩

/-! The row's frame, by program: how the walk above proves the statement. -/
set_option maxRecDepth 100000 in
theorem lifted (os : Os) (started : os.Started) (H : Type) (enc : TypeId × Value → H) :
    ReturnsInHanded {} Try.checked os 5 .any (Rows.recordBackSpec.pre6 enc Try.prog Try.f5 Rows.recordBackRow.domain false) (Rows.recordBackSpec.post enc Try.prog Try.f5 false true false false) := by
  refine returnsInHanded_of_change (C := Try.checked) own started (by kernel_rfl) Try.func5
    (ChangeSpec.witness6 (enc := enc) (C := Try.checked) false ⟨#[], #[.int .i64 0, .int .i64 0, .slice none 0 0, .int .i64 0], []⟩ 8 (by kernel_rfl) (by kernel_rfl) (by kernel_rfl) (by kernel_rfl)) ?_
  intro W base args ds gs before hval0 hW hcnd _
  have hval : ∀ (j : Nat) t v, Try.f5.params[j]? = some t → args[j]? = some v → Value.okWide Try.prog W .any base t v := hval0
  have hW' := hW
  obtain ⟨p, q, hA0, hV, rfl, hfz, hnd⟩ := hW
  have hA : DataW.TrodAll enc Try.prog W 0 (fun _ => true) true Try.f5.params.toList args.toList ds p := hA0
  rw [Try.params5] at hA hval
  obtain ⟨v0, vs0, d0, ds0, p0, q0, hargs, rfl, rfl, h0, r0⟩ := trodAll_cons hA
  obtain ⟨v1, vs1, d1, ds1, p1, q1, rfl, rfl, rfl, h1, r1⟩ := trodAll_cons r0
  obtain ⟨v2, vs2, d2, ds2, p2, q2, rfl, rfl, rfl, h2, r2⟩ := trodAll_cons r1
  obtain ⟨v3, vs3, d3, ds3, p3, q3, rfl, rfl, rfl, h3, r3⟩ := trodAll_cons r2
  obtain ⟨rfl, rfl, rfl⟩ := trodAll_nil r3
  obtain rfl : args = #[v0, v1, v2, v3] := by cases args; simp_all
  obtain ⟨rfl, rfl⟩ := trodVars_none hV
  obtain ⟨a0, rfl, rfl, rfl, w0⟩ := open_int Try.underlying3 (hval 0 3 v0 rfl rfl) h0
  have b0 := bounds_i64 w0
  obtain ⟨a1, rfl, rfl, rfl, w1⟩ := open_int Try.underlying3 (hval 1 3 v1 rfl rfl) h1
  have b1 := bounds_i64 w1
  obtain ⟨A2, n2, c2, rfl⟩ := okWide_slice Try.underlying22 (hval 2 22 v2 rfl rfl)
  have k2 := h2
  have lt2 : ∀ x ∈ p2, x.block < W.heap.size := by obtain ⟨m, hm⟩ := k2; exact DataW.trod_lt m _ _ _ hm
  obtain ⟨l2, x2, g2, z2⟩ := arg_bytes h2
  obtain ⟨a3, rfl, rfl, rfl, w3⟩ := open_int Try.underlying3 (hval 3 3 v3 rfl rfl) h3
  have b3 := bounds_i64 w3
  clear hA0 hval0
  refine (walk a0 a1 A2 n2 c2 l2 a3 W b0.1 b0.2 b1.1 b1.2 x2 g2 z2 b3.1 b3.2).mono fun e W' ⟨he, bel⟩ => ?_
  subst he
  exact ⟨_, rfl, _, _, _, [], _, [], hW', trodAll_mk1 (shut_bool Try.underlying4 _), (trodAll_cons_mk (shut_int Try.underlying3 w0) (trodAll_cons_mk (shut_int Try.underlying3 w1) (trodAll_cons_mk (Below.trod laidOut (by kernel_rfl) (of_decide_eq_true (by kernel_rfl)) k2 bel lt2) (trodAll_cons_mk (shut_int Try.underlying3 w3) trodAll_mk0)))), rfl, bel.frame _, fun h => by cases h⟩

theorem over : Rows.recordBackRow.holds Try.pinned (OpenSpec.ofChange Rows.recordBackSpec) :=
  OpenClaim.holds_of_wide 5 Try.f5 rfl rfl rfl rfl rfl rfl rfl ⟨rfl, rfl, rfl, rfl, rfl⟩ rfl rfl rfl rfl rfl (by kernel_rfl) Try.func5 (by kernel_rfl)
    (of_decide_eq_true (by kernel_rfl)) (by unfold Func.isWrapper; first | (rw [if_pos (by decide +kernel)]; kernel_rfl) | (rw [if_neg (by decide +kernel)]; exact ⟨rfl, rfl⟩))
    (fun os started H enc _ => lifted os started H enc)

/-- The statement. -/
theorem proved : Rows.RecordBackSaid := over
#print axioms proved
end Go.Proofs.Ytdchdmbkojnmcaa.RecordBack
