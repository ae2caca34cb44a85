/- GroupPicked. -/
import Derived.Test.YtmaiikmgpeafkaaLawS
import Derived.Test.YtmaiikmgpeafkaaPkdP
import Derived.Test.YtmaiikmgpeafkaaPoke
import Derived.SizedLaws
import Derived.Test.YtmaiikmgpeafkaaArgZ
import Derived.Test.YtmaiikmgpeafkaaRows
import Derived.BigQuiet
import Derived.Deep.QuietTactic
namespace Go.Proofs.Ytmaiikmgpeafkaa.GroupPicked
open Go.ChangeShapes Go.WideShapes Go.ChangeAt Go.RowKit Go.Proofs.Ytmaiikmgpeafkaa

theorem reads_take {w : World} {B n R : Nat} {A : Option Addr} {l : List Int} (h : Reads w B 1 A n (I64 l)) (hR : R ≤ n) : Reads w B 1 A R (I64 (l.take R)) := by
  have hl : l.length = n := by have := h.1; rw [I64_length] at this; omega
  refine ⟨by rw [I64_length, List.length_take]; omega, fun hn => ?_⟩
  obtain ⟨ad, hA, hb, hc⟩ := h.2 (by omega)
  refine ⟨ad, hA, hb, fun j u hu => hc j u ?_⟩
  have e : I64 (l.take R) = (I64 l).take R := by simp [I64, List.map_take]
  rw [e, List.getElem?_take] at hu
  split at hu
  · exact hu
  · cases hu
theorem may_zero : (mayC (fun _ => false)) = #[.bool false, .bool false, .bool false, .bool false, .bool false, .bool false, .bool false, .bool false, .bool false, .bool false, .bool false, .bool false, .bool false, .bool false, .bool false, .bool false, .bool false, .bool false, .bool false, .bool false, .bool false, .bool false, .bool false, .bool false, .bool false, .bool false, .bool false, .bool false, .bool false, .bool false, .bool false, .bool false, .bool false, .bool false, .bool false, .bool false, .bool false, .bool false, .bool false, .bool false, .bool false, .bool false, .bool false, .bool false, .bool false, .bool false, .bool false, .bool false, .bool false, .bool false, .bool false, .bool false, .bool false, .bool false, .bool false, .bool false, .bool false, .bool false, .bool false, .bool false] := rfl
set_option maxRecDepth 100000 in
set_option maxHeartbeats 16000000 in
theorem walk (A0 : Option Addr) (n0 c0 : Nat) (l0 : List Int) (width : Int) (A2 : Option Addr) (n2 c2 : Nat) (l2 : List Int) (w : World) (x0 : Reads w w.heap.size 1 A0 n0 (I64 l0)) (_y0 : ∀ v ∈ l0, -9223372036854775808 ≤ v ∧ v ≤ 9223372036854775807) (g0 : n0 ≤ c0) (z0 : c0 ≤ 9223372036854775807) (_b1 : -9223372036854775808 ≤ width) (_b2 : width ≤ 9223372036854775807) (x2 : Reads w w.heap.size 1 A2 n2 (I64 l2)) (_y2 : ∀ v ∈ l2, -9223372036854775808 ≤ v ∧ v ≤ 9223372036854775807) (g2 : n2 ≤ c2) (_z2 : c2 ≤ 9223372036854775807) (s2 : c2 * 8 ≤ 140737488351232) :
    Calls Try.prog 8 #[.slice A0 n0 c0, .int .i64 width, .slice A2 n2 c2] w fun e w' => e = .returned (.bool true) ∧ Below w.heap.size w w' := by
  have HShown := hide shown_any
  obtain ⟨R, hR⟩ : ∃ R, R = min n0 60 := ⟨_, rfl⟩
  have hRn : R ≤ n0 := by omega
  have hR60 : R ≤ 60 := by omega
  have hmin : min (n0 : Int) 60 = (R : Int) := by omega
  have hRc : (R : Int) ≤ (c0 : Int) := by omega
  obtain ⟨rm, hrm⟩ : ∃ rm, rm = l0.take R := ⟨_, rfl⟩
  have hl0 : l0.length = n0 := by have := x0.1; rw [I64_length] at this; omega
  have hlen : rm.length = R := by rw [hrm, List.length_take]; omega
  have x1 : Reads w w.heap.size 1 A0 R (I64 rm) := by rw [hrm]; exact reads_take x0 hRn
  have X1 := hide x1
  have X2 := hide x2
  have HLEN := hide hlen
  have HL2 := hide (show l2.length = n2 by have := x2.1; rw [I64_length] at this; omega)
  have hn2m : n2 ≤ 9223372036854775807 := by omega
  have HCAPS := hide (show n2 ≤ maxLen ∧ n2 * 8 ≤ 140737488355328 by simp only [maxLen]; omega)
  clear x0 x1 x2 hR hrm hl0 hlen s2 g2 hRn
  go_enter Try.func8, Try.ntmps8
  go_wp2_with (first
    | (go_at_call 10; refine (HShown.out w).mono ?_; rintro _ w1 ⟨rfl, hl1⟩; have HL1 := hide hl1; clear hl1))
  have hz1 := HL1.out.size
  have hbk : Blk (w1.alloc (.cells #[.bool false, .bool false, .bool false, .bool false, .bool false, .bool false, .bool false, .bool false, .bool false, .bool false, .bool false, .bool false, .bool false, .bool false, .bool false, .bool false, .bool false, .bool false, .bool false, .bool false, .bool false, .bool false, .bool false, .bool false, .bool false, .bool false, .bool false, .bool false, .bool false, .bool false, .bool false, .bool false, .bool false, .bool false, .bool false, .bool false, .bool false, .bool false, .bool false, .bool false, .bool false, .bool false, .bool false, .bool false, .bool false, .bool false, .bool false, .bool false, .bool false, .bool false, .bool false, .bool false, .bool false, .bool false, .bool false, .bool false, .bool false, .bool false, .bool false, .bool false] 44)) w1.heap.size 44 (mayC (mayK rm l2 0)) := by
    rw [mayK_zero, may_zero]
    exact Blk.new w1 _ _
  have hl12 : Below w1.heap.size w1 (w1.alloc (.cells #[.bool false, .bool false, .bool false, .bool false, .bool false, .bool false, .bool false, .bool false, .bool false, .bool false, .bool false, .bool false, .bool false, .bool false, .bool false, .bool false, .bool false, .bool false, .bool false, .bool false, .bool false, .bool false, .bool false, .bool false, .bool false, .bool false, .bool false, .bool false, .bool false, .bool false, .bool false, .bool false, .bool false, .bool false, .bool false, .bool false, .bool false, .bool false, .bool false, .bool false, .bool false, .bool false, .bool false, .bool false, .bool false, .bool false, .bool false, .bool false, .bool false, .bool false, .bool false, .bool false, .bool false, .bool false, .bool false, .bool false, .bool false, .bool false, .bool false, .bool false] 44)) := (Below.refl _ _).alloc (Nat.le_refl _) _
  obtain ⟨w2, hw2⟩ : ∃ x, x = w1.alloc (.cells #[.bool false, .bool false, .bool false, .bool false, .bool false, .bool false, .bool false, .bool false, .bool false, .bool false, .bool false, .bool false, .bool false, .bool false, .bool false, .bool false, .bool false, .bool false, .bool false, .bool false, .bool false, .bool false, .bool false, .bool false, .bool false, .bool false, .bool false, .bool false, .bool false, .bool false, .bool false, .bool false, .bool false, .bool false, .bool false, .bool false, .bool false, .bool false, .bool false, .bool false, .bool false, .bool false, .bool false, .bool false, .bool false, .bool false, .bool false, .bool false, .bool false, .bool false, .bool false, .bool false, .bool false, .bool false, .bool false, .bool false, .bool false, .bool false, .bool false, .bool false] 44) := ⟨_, rfl⟩
  rw [← hw2] at hbk hl12 ⊢
  have hz2 : w2.heap.size = w1.heap.size + 1 := by rw [hw2, World.size_alloc]
  have hzl : w1.heap.size < w2.heap.size := by omega
  obtain ⟨b, hb⟩ : ∃ b, b = w1.heap.size := ⟨_, rfl⟩
  rw [← hb] at hbk hl12 hzl ⊢
  have HB := hide hb
  have HBK := hide hbk
  have HL12 := hide hl12
  clear hw2 hz2 hbk hl12 hb
  go_loopw [9, 10, 11] (fun q d _ wr => ∃ k : Nat, k ≤ R ∧ d = .int .i64 k ∧ q = .int .i64 (manyK rm l2 k : Nat) ∧ Hid (Blk wr b 44 (mayC (mayK rm l2 k))) ∧ Hid (Below b w1 wr)) (fun _ d _ _ => R - (intOf d).toNat)
  case atStart => exact ⟨0, Nat.zero_le _, rfl, rfl, HBK, HL12⟩
  case round =>
    clear HBK HL12
    obtain ⟨k, hk, rfl, rfl, HBK, HL⟩ := hrel
    obtain ⟨wy, hwy⟩ : ∃ x : World, x = wr := ⟨_, rfl⟩
    subst hwy
    have hmk := manyK_le rm l2 k
    have HL2w := hide (show Below w.heap.size w wy from HL1.out.trans (HL.out.mono (by rw [HB.out]; exact hz1)))
    by_cases hkn : k < R
    · obtain ⟨ad, v, hA, hab, hv, hcv⟩ := X1.out.i64_at hkn
      subst hA
      have hri : v = roomI rm k := by
        have hl := HLEN.out
        have := roomI_get (rm := rm) (d := k) (by omega)
        rw [hv] at this
        injection this
      have hcy : wy.cell? (ad.add k) = some (.int .i64 v) := (HL2w.out.cell (p := ad.add k) (by rw [block_of_add]; exact hab)).trans hcv
      have hks : k < (mayC (mayK rm l2 k)).size := by rw [mayC_size]; omega
      have HRI := hide hri
      obtain ⟨q, hq⟩ : ∃ q, q = manyK rm l2 k := ⟨_, rfl⟩
      rw [← hq] at hmk ⊢
      have HQ := hide hq
      clear hv hcv hri hq
      go_wp2_with (first
        | ((with_reducible refine at_store 36 ?_); refine wpList_poke rfl 4 (.tmp 36) (.tmp 35) rfl b k 44 (mayC (mayK rm l2 k)) HBK.out rfl (.bool (decide (0 < v))) rfl rfl (by kernel_rfl) hks ?_; intro w3 hb3 hg3 hs3; rw [mayC_put, HRI.out, mayJ_first] at hb3; have HB3 := hide hb3; have HL3 := hide (HL.out.grown hg3 (Nat.le_of_lt HBK.out.lt) (fun y e => (by injection e with e; omega))); clear hb3 hg3 hs3))
      go_loopw [11] (fun i wr => ∃ j : Nat, j ≤ n2 ∧ i = .int .i64 j ∧ Hid (Blk wr b 44 (mayC (mayJ rm l2 k j))) ∧ Hid (Below b w1 wr)) (fun i _ => n2 - (intOf i).toNat)
      case atStart => exact ⟨0, Nat.zero_le _, rfl, HB3, HL3⟩
      case round =>
        clear HB3 HL3 hcy
        obtain ⟨j, hj, rfl, HBJ, HLJ⟩ := hrel
        have HLw := hide (show Below w.heap.size w wr from HL1.out.trans (HLJ.out.mono (by rw [HB.out]; exact hz1)))
        by_cases hjn : j < n2
        · obtain ⟨ad2, u, hA2, hab2, hu, hcu⟩ := X2.out.i64_at hjn
          subst hA2
          have hcr : wr.cell? (ad2.add j) = some (.int .i64 u) := (HLw.out.cell (p := ad2.add j) (by rw [block_of_add]; exact hab2)).trans hcu
          have hnext := mayJ_next (rm := rm) (k := k) hu
          have hmay := HBJ.out.may (d := k) (by omega)
          have hjs : k < (mayC (mayJ rm l2 k j)).size := by rw [mayC_size]; omega
          obtain ⟨y, hy⟩ : ∃ y, y = mayJ rm l2 k j k := ⟨_, rfl⟩
          rw [← hy] at hnext hmay
          have HN := hide hnext
          clear hu hcu hnext hy
          cases y with
          | false =>
            rw [Bool.false_and] at HN
            go_wp2_with (first
              | ((with_reducible refine at_store 55 ?_); refine wpList_poke rfl 4 (.tmp 55) (.tmp 54) rfl b k 44 (mayC (mayJ rm l2 k j)) HBJ.out rfl (.bool false) rfl rfl (by kernel_rfl) hjs ?_; intro w4 hb4 hg4 hs4; rw [mayC_put, HN.out] at hb4; have HB4 := hide hb4; have HL4 := hide (HLJ.out.grown hg4 (Nat.le_of_lt HBJ.out.lt) (fun y e => (by injection e with e; omega))); clear hb4 hg4 hs4))
            go_roundw
            case rel => exact ⟨j + 1, by omega, by go_num, HB4, HL4⟩
            case measure => simp [intOf]; omega
          | true =>
            rw [Bool.true_and] at HN
            go_wp2_with (first
              | ((with_reducible refine at_store 55 ?_); refine wpList_poke rfl 4 (.tmp 55) (.tmp 54) rfl b k 44 (mayC (mayJ rm l2 k j)) HBJ.out rfl (.bool (u != (k : Int))) rfl rfl (by kernel_rfl) hjs ?_; intro w4 hb4 hg4 hs4; rw [mayC_put, HN.out] at hb4; have HB4 := hide hb4; have HL4 := hide (HLJ.out.grown hg4 (Nat.le_of_lt HBJ.out.lt) (fun y e => (by injection e with e; omega))); clear hb4 hg4 hs4))
            go_roundw
            case rel => exact ⟨j + 1, by omega, by go_num, HB4, HL4⟩
            case measure => simp [intOf]; omega
        · obtain rfl : j = n2 := by omega
          have hbk := HBJ.out
          rw [← HL2.out, mayJ_last] at hbk
          have HBN := hide hbk
          have hmay := hbk.may (d := k) (by omega)
          have hnext := manyK_next rm l2 k
          rw [← HQ.out] at hnext
          obtain ⟨y, hy⟩ : ∃ y, y = mayK rm l2 (k + 1) k := ⟨_, rfl⟩
          rw [← hy] at hnext hmay
          have HN := hide hnext
          clear hbk hy hnext HBJ
          cases y with
          | false =>
            go_wp2
            go_roundw
            case rel => exact ⟨k + 1, by omega, by go_num, by rw [HN.out]; rfl, HBN, HLJ⟩
            case measure => simp [intOf]; omega
          | true =>
            go_wp2
            go_roundw
            case rel => exact ⟨k + 1, by omega, by go_num, by rw [HN.out]; go_num, HBN, HLJ⟩
            case measure => simp [intOf]; omega
    · obtain rfl : k = R := by omega
      have hmany : manyK rm l2 k = (orderL rm l2).length := by rw [← HLEN.out, manyK_all]
      obtain ⟨N, hN⟩ : ∃ N, N = (orderL rm l2).length := ⟨_, rfl⟩
      rw [hmany, ← hN] at hmk
      rw [hmany, ← hN]
      have hpk := pick_any A0 c0 rm width A2 n2 c2 l2 w.heap.size wy (by rw [HLEN.out]; exact X1.out.below HL2w.out) (X2.out.below HL2w.out) HL2w.out.size (by rw [HLEN.out]; omega) HCAPS.out.1 HCAPS.out.2
      obtain ⟨PB, hPB⟩ : ∃ PB, PB = pickB rm width l2 := ⟨_, rfl⟩
      rw [HLEN.out, ← hPB] at hpk
      have HN := hide hN
      clear hmany hN
      cases PB with
      | false =>
        obtain ⟨he, hor⟩ := not_picked hPB.symm
        rw [he, List.length_nil] at hpk
        rw [← HN.out] at hor
        have HPK := hide hpk
        clear hpk he hPB
        by_cases hw1 : width < 1
        · have hd1 : decide (width < 1) = true := decide_eq_true hw1
          clear hor hw1
          go_wp2_with (first
            | (go_at_call 11; refine HPK.out.mono ?_; rintro _ w3 ⟨A3, c3, rfl, _, hl3⟩; have HL3 := hide (HL2w.out.trans (hl3.mono HL2w.out.size)); clear hl3))
          go_ret
          exact ⟨rfl, HL3.out⟩
        · have hd1 : decide (width < 1) = false := decide_eq_false hw1
          have hd2 : decide ((N : Int) < width) = true := decide_eq_true (by omega)
          clear hor hw1
          go_wp2_with (first
            | (go_at_call 11; refine HPK.out.mono ?_; rintro _ w3 ⟨A3, c3, rfl, _, hl3⟩; have HL3 := hide (HL2w.out.trans (hl3.mono HL2w.out.size)); clear hl3))
          go_ret
          exact ⟨rfl, HL3.out⟩
      | true =>
        obtain ⟨hp1, hp2, _, hp4⟩ := picked_parts hPB.symm
        rw [← HN.out] at hp2
        obtain ⟨m, hm⟩ : ∃ m, m = (pickL rm width l2).length := ⟨_, rfl⟩
        rw [← hm] at hpk hp4
        obtain rfl : width = (m : Int) := hp4.symm
        obtain ⟨PL, hPL⟩ : ∃ PL, PL = pickL rm (m : Int) l2 := ⟨_, rfl⟩
        rw [← hPL] at hpk hm
        have HPB := hide hPB.symm
        have HPK := hide hpk
        have HPL := hide hPL
        have HPM := hide hm
        have hm1 : 1 ≤ m := by omega
        have hmN : m ≤ N := by omega
        have hd1 : decide ((m : Int) < 1) = false := decide_eq_false (by omega)
        have hd1' : decide (m < 1) = false := decide_eq_false (by omega)
        have hd2 : decide (N < m) = false := decide_eq_false (by omega)
        clear hpk hp1 hp2 hp4 hPB hPL hm
        go_wp2_with (first
          | (go_at_call 11; refine HPK.out.mono ?_; rintro _ w3 ⟨A3, c3, rfl, hown3, hl3⟩; obtain ⟨g3, c3', hv3, hgb3, hgl3⟩ := hown3.form (by omega); obtain ⟨rfl, rfl⟩ : A3 = some ⟨g3, 0, none⟩ ∧ c3 = c3' := (by simp only [Value.slice.injEq] at hv3; exact ⟨hv3.1, hv3.2.2⟩); have HO3 := hide hown3; have HL3 := hide (HL2w.out.trans (hl3.mono HL2w.out.size)); have hbk3 := HBK.out.below hl3 HBK.out.lt; rw [← HLEN.out, ← mayL_zero rm l2 PL] at hbk3; have HBK3 := hide hbk3; clear hv3 hown3 hl3 hbk3))
        have hbg : b < g3 := Nat.lt_of_lt_of_le HBK.out.lt hgb3
        clear HPK HBK HL2w HL hd1 hd1' hd2 hgl3 hgb3
        go_loopw [14, 15] (fun i _ wr => ∃ j : Nat, j ≤ m ∧ i = .int .i64 j ∧ Hid (Blk wr b 44 (mayC (mayL rm l2 PL j))) ∧ Hid (wr.ownsRow wy.heap.size 3 1 (.slice (some ⟨g3, 0, none⟩) m c3) m (I64 (toI PL))) ∧ Hid (Below w.heap.size w wr)) (fun i _ _ => m - (intOf i).toNat)
        case atStart => exact ⟨0, Nat.zero_le _, rfl, HBK3, HO3, HL3⟩
        case round =>
          clear HBK3 HO3 HL3
          obtain ⟨j, hj, rfl, HBK, HO, HL⟩ := hrel
          obtain ⟨wq, hwq⟩ : ∃ x : World, x = wr := ⟨_, rfl⟩
          subst hwq
          by_cases hjm : j < m
          · obtain ⟨d, hd⟩ : ∃ d, PL[j]? = some d := ⟨_, List.getElem?_eq_getElem (by rw [← HPM.out]; exact hjm)⟩
            have hcd := own_cell HO.out (i := j) (x := (d : Int)) (by simp [toI, hd])
            obtain ⟨hdk, hmay⟩ := picked_in HPB.out (i := j) (d := d) (by rw [← HPL.out]; exact hd)
            rw [HLEN.out] at hdk
            rw [← HPL.out] at hmay
            have hcm := HBK.out.may (d := d) (by omega)
            rw [hmay] at hcm
            obtain ⟨ad, v, hA, hab, hv, hcv⟩ := X1.out.i64_at hdk
            subst hA
            have hcv := (HL.out.cell (p := ad.add d) (by rw [block_of_add]; exact hab)).trans hcv
            have hds : d < (mayC (mayL rm l2 PL j)).size := by rw [mayC_size]; omega
            have HNX := hide (mayL_next (rm := rm) (ban := l2) hd)
            have hz1 : decide ((d : Int) < 0) = false := decide_eq_false (by omega)
            have hz2 : decide (k ≤ d) = false := decide_eq_false (by omega)
            have hdk1 : (d : Int) < (k : Int) := by omega
            have hd60 : (d : Int) < 60 := by omega
            have HD := hide hd
            have HV := hide hv
            clear hmay hd hv
            by_cases hj0 : j = 0
            · have hz3 : decide ((0 : Int) < (j : Int)) = false := decide_eq_false (by omega)
              have hz4 : decide (0 < j) = false := decide_eq_false (by omega)
              clear hj0
              go_wp2
              go_quiet (fail)
              have hb0 : Below b wq (wq.drewN nq) := ⟨rfl, rfl, rfl, Nat.le_refl _, fun _ _ => rfl⟩
              have HBK4 := hide (HBK.out.drewN nq)
              have HO4 := hide (own_later HO.out (show Below wq.heap.size wq (wq.drewN nq) from ⟨rfl, rfl, rfl, Nat.le_refl _, fun _ _ => rfl⟩))
              have HL4 := hide (HL.out.trans (show Below w.heap.size wq (wq.drewN nq) from ⟨rfl, rfl, rfl, Nat.le_refl _, fun _ _ => rfl⟩))
              obtain ⟨w4, hw4⟩ : ∃ x, x = wq.drewN nq := ⟨_, rfl⟩
              rw [← hw4] at HBK4 HO4 HL4 ⊢
              clear hw4 hb0
              go_wp2_with (first
                | ((with_reducible refine at_store 164 ?_); refine wpList_poke rfl 4 (.tmp 164) (.const (.bool false)) rfl b d 44 (mayC (mayL rm l2 PL j)) HBK4.out rfl (.bool false) rfl rfl (by kernel_rfl) hds ?_; intro w5 hb5 hg5 hs5; rw [mayC_put, HNX.out] at hb5; have HBK5 := hide hb5; have HO5 := hide (HO4.out.kept hg5 (.inr (fun e => (by simp [Value.ownBlock] at e; omega)))); have HL5 := hide (HL4.out.grown hg5 HL4.out.size (fun y e => (by injection e with e; have h1 := HB.out; omega))); clear hb5 hg5 hs5))
              go_roundw
              case rel => exact ⟨j + 1, by omega, by go_num, HBK5, HO5, HL5⟩
              case measure => simp [intOf]; omega
            · obtain ⟨i, hi⟩ : ∃ i, j = i + 1 := ⟨j - 1, by omega⟩
              obtain ⟨p, hp⟩ : ∃ p, PL[i]? = some p := ⟨_, List.getElem?_eq_getElem (by rw [← HPM.out]; omega)⟩
              have hcp := own_cell HO.out (i := i) (x := (p : Int)) (by simp [toI, hp])
              have hlt := picked_order HPB.out (i := i) (a := p) (b := d) (by rw [← HPL.out]; exact hp) (by rw [← HPL.out, ← hi]; exact HD.out)
              rw [ltR_iff] at hlt
              have hpk : p < k := by
                have := (picked_in HPB.out (i := i) (d := p) (by rw [← HPL.out]; exact hp)).1
                rw [HLEN.out] at this
                exact this
              obtain ⟨ad', u, hA', hab', hu, hcu⟩ := X1.out.i64_at hpk
              injection hA' with hA'
              subst hA'
              have hcu := (HL.out.cell (p := ad.add p) (by rw [block_of_add]; exact hab')).trans hcu
              have hdv : roomI rm d = v := by
                have := roomI_get (rm := rm) (d := d) (by rw [HLEN.out]; exact hdk)
                rw [HV.out] at this
                injection this with this
                exact this.symm
              have hpu : roomI rm p = u := by
                have := roomI_get (rm := rm) (d := p) (by rw [HLEN.out]; exact hpk)
                rw [hu] at this
                injection this with this
                exact this.symm
              rw [hdv, hpu] at hlt
              have hz3 : decide (0 < j) = true := decide_eq_true (by omega)
              have hz5 : (j : Int) - 1 = (i : Int) := by omega
              have hz7 : (i : Int) < (m : Int) := by omega
              have hpk1 : (p : Int) < (k : Int) := by omega
              have HI := hide hi
              clear hp hu hdv hpu hj0 hi
              rcases hlt with hlt | ⟨rfl, hlt⟩
              · have hz8 : decide (u < v) = false := decide_eq_false (by omega)
                have hz9 : (u == v) = false := by simp; omega
                clear hlt
                go_wp2
                go_quiet (fail)
                have hb0 : Below b wq (wq.drewN nq) := ⟨rfl, rfl, rfl, Nat.le_refl _, fun _ _ => rfl⟩
                have HBK4 := hide (HBK.out.drewN nq)
                have HO4 := hide (own_later HO.out (show Below wq.heap.size wq (wq.drewN nq) from ⟨rfl, rfl, rfl, Nat.le_refl _, fun _ _ => rfl⟩))
                have HL4 := hide (HL.out.trans (show Below w.heap.size wq (wq.drewN nq) from ⟨rfl, rfl, rfl, Nat.le_refl _, fun _ _ => rfl⟩))
                obtain ⟨w4, hw4⟩ : ∃ x, x = wq.drewN nq := ⟨_, rfl⟩
                rw [← hw4] at HBK4 HO4 HL4 ⊢
                clear hw4 hb0
                go_wp2_with (first
                  | ((with_reducible refine at_store 164 ?_); refine wpList_poke rfl 4 (.tmp 164) (.const (.bool false)) rfl b d 44 (mayC (mayL rm l2 PL j)) HBK4.out rfl (.bool false) rfl rfl (by kernel_rfl) hds ?_; intro w5 hb5 hg5 hs5; rw [mayC_put, HNX.out] at hb5; have HBK5 := hide hb5; have HO5 := hide (HO4.out.kept hg5 (.inr (fun e => (by simp [Value.ownBlock] at e; omega)))); have HL5 := hide (HL4.out.grown hg5 HL4.out.size (fun y e => (by injection e with e; have h1 := HB.out; omega))); clear hb5 hg5 hs5))
                go_roundw
                case rel => exact ⟨j + 1, by omega, by go_num, HBK5, HO5, HL5⟩
                case measure => simp [intOf]; omega
              · have hz8 : decide (u < u) = false := decide_eq_false (by omega)
                have hz9 : (u == u) = true := by simp
                have hz10 : decide (d ≤ p) = false := decide_eq_false (by omega)
                clear hlt
                go_wp2
                go_quiet (fail)
                have hb0 : Below b wq (wq.drewN nq) := ⟨rfl, rfl, rfl, Nat.le_refl _, fun _ _ => rfl⟩
                have HBK4 := hide (HBK.out.drewN nq)
                have HO4 := hide (own_later HO.out (show Below wq.heap.size wq (wq.drewN nq) from ⟨rfl, rfl, rfl, Nat.le_refl _, fun _ _ => rfl⟩))
                have HL4 := hide (HL.out.trans (show Below w.heap.size wq (wq.drewN nq) from ⟨rfl, rfl, rfl, Nat.le_refl _, fun _ _ => rfl⟩))
                obtain ⟨w4, hw4⟩ : ∃ x, x = wq.drewN nq := ⟨_, rfl⟩
                rw [← hw4] at HBK4 HO4 HL4 ⊢
                clear hw4 hb0
                go_wp2_with (first
                  | ((with_reducible refine at_store 164 ?_); refine wpList_poke rfl 4 (.tmp 164) (.const (.bool false)) rfl b d 44 (mayC (mayL rm l2 PL j)) HBK4.out rfl (.bool false) rfl rfl (by kernel_rfl) hds ?_; intro w5 hb5 hg5 hs5; rw [mayC_put, HNX.out] at hb5; have HBK5 := hide hb5; have HO5 := hide (HO4.out.kept hg5 (.inr (fun e => (by simp [Value.ownBlock] at e; omega)))); have HL5 := hide (HL4.out.grown hg5 HL4.out.size (fun y e => (by injection e with e; have h1 := HB.out; omega))); clear hb5 hg5 hs5))
                go_roundw
                case rel => exact ⟨j + 1, by omega, by go_num, HBK5, HO5, HL5⟩
                case measure => simp [intOf]; omega
          · obtain rfl : j = m := by omega
            obtain ⟨m', rfl⟩ : ∃ m', j = m' + 1 := ⟨j - 1, by omega⟩
            obtain ⟨z, hz⟩ : ∃ z, PL[m']? = some z := ⟨_, List.getElem?_eq_getElem (by rw [← HPM.out]; omega)⟩
            have hcz := own_cell HO.out (i := m') (x := (z : Int)) (by simp [toI, hz])
            have hzk : z < k := by
              have := (picked_in HPB.out (i := m') (d := z) (by rw [← HPL.out]; exact hz)).1
              rw [HLEN.out] at this
              exact this
            obtain ⟨ad, vz, hA, hab, hvz, hcvz⟩ := X1.out.i64_at hzk
            subst hA
            have hcvz := (HL.out.cell (p := ad.add z) (by rw [block_of_add]; exact hab)).trans hcvz
            have hrz : roomI rm z = vz := by
              have := roomI_get (rm := rm) (d := z) (by rw [HLEN.out]; exact hzk)
              rw [hvz] at this
              injection this with this
              exact this.symm
            have HZ := hide hz
            have HRZ := hide hrz
            have HCVZ := hide hcvz
            have hzk1 : (z : Int) < (k : Int) := by omega
            clear hz hvz hrz hcvz
            go_wp2
            go_loopw [17] (fun i wr => ∃ e : Nat, e ≤ k ∧ i = .int .i64 e ∧ Hid (∃ q, wr = wq.drewN q)) (fun i _ => k - (intOf i).toNat)
            case atStart => exact ⟨0, Nat.zero_le _, rfl, hide ⟨0, rfl⟩⟩
            case round =>
              obtain ⟨e, he, rfl, HW⟩ := hrel
              obtain ⟨q0, hq0⟩ := HW.out
              by_cases hek : e < k
              · obtain ⟨y, hy⟩ : ∃ y, y = mayL rm l2 PL (m' + 1) e := ⟨_, rfl⟩
                have hcm : wr.cell? ⟨b, e, none⟩ = some (.bool y) := by rw [hq0, hy]; exact HBK.out.may (d := e) (by omega)
                obtain ⟨ad', v, hA', hab', hv, hcv⟩ := X1.out.i64_at hek
                injection hA' with hA'
                subst hA'
                have hcv : wr.cell? (ad.add e) = some (.int .i64 v) := by rw [hq0]; exact (HL.out.cell (p := ad.add e) (by rw [block_of_add]; exact hab')).trans hcv
                have hcz : wr.cell? (ad.add z) = some (.int .i64 vz) := by rw [hq0]; exact HCVZ.out
                have hre : roomI rm e = v := by
                  have := roomI_get (rm := rm) (d := e) (by rw [HLEN.out]; exact hek)
                  rw [hv] at this
                  injection this with this
                  exact this.symm
                have he60 : (e : Int) < 60 := by omega
                have hek1 : (e : Int) < (k : Int) := by omega
                have HQ := hide hq0
                have HW2' : ∀ n, Hid (∃ q, wr.drewN n = wq.drewN q) := fun n => hide ⟨q0 + n, by rw [HQ.out]; simp [World.drewN, Nat.add_assoc]⟩
                cases y with
                | false =>
                  clear hv hre hq0 hy
                  go_wp2_with fail
                  go_quiet (fail)
                  have HW2 := HW2' nq
                  clear HW2'
                  go_wp2
                  go_roundw
                  case rel => exact ⟨e + 1, by omega, by go_num, HW2⟩
                  case measure => simp [intOf]; omega
                | true =>
                  have hlt := picked_left HPB.out (m := m') (z := z) (d := e) (by rw [← HPL.out]; exact HPM.out.symm) (by rw [← HPL.out]; exact HZ.out) (by rw [HLEN.out]; exact hek) (by rw [← HPL.out]; exact hy.symm)
                  rw [ltR_iff, HRZ.out, hre] at hlt
                  clear hv hre hq0 hy
                  rcases hlt with hlt | ⟨hvv, hlt⟩
                  · have hz8 : decide (vz < v) = false := decide_eq_false (by omega)
                    have hz9 : (v == vz) = false := by simp; omega
                    clear hlt
                    go_wp2_with fail
                    go_quiet (fail)
                    have HW2 := HW2' nq
                    clear HW2'
                    go_wp2
                    go_roundw
                    case rel => exact ⟨e + 1, by omega, by go_num, HW2⟩
                    case measure => simp [intOf]; omega
                  · subst hvv
                    have hz8 : decide (vz < vz) = false := decide_eq_false (by omega)
                    have hz9 : (vz == vz) = true := by simp
                    have hz10 : decide (e < z) = false := decide_eq_false (by omega)
                    clear hlt
                    go_wp2_with fail
                    go_quiet (fail)
                    have HW2 := HW2' nq
                    clear HW2'
                    go_wp2
                    go_roundw
                    case rel => exact ⟨e + 1, by omega, by go_num, HW2⟩
                    case measure => simp [intOf]; omega
              · obtain rfl : e = k := by omega
                have hl : Below w.heap.size w wr := by rw [hq0]; exact HL.out.trans ⟨rfl, rfl, rfl, Nat.le_refl _, fun _ _ => rfl⟩
                clear hq0
                go_wp2
                go_ret
                exact ⟨rfl, hl⟩
/-! The row's frame, by program: how the walk above proves the statement. -/
set_option maxRecDepth 100000 in
theorem lifted (os : Os) (started : os.Started) (H : Type) (enc : TypeId × Value → H) :
    ReturnsInHanded {} Try.checked os 8 .any (Rows.groupPickedSpec.pre6 enc Try.prog Try.f8 Rows.groupPickedRow.domain false) (Rows.groupPickedSpec.post enc Try.prog Try.f8 false true false false) := by
  refine returnsInHanded_of_change_sized (C := Try.checked) own started (by kernel_rfl) Try.func8
    (ChangeSpec.witness6 (enc := enc) (C := Try.checked) false ⟨#[], #[.slice none 0 0, .int .i64 0, .slice none 0 0], []⟩ 8 (by kernel_rfl) (by kernel_rfl) (by kernel_rfl) (by kernel_rfl)) ?_
  intro W base args ds gs before hval0 hW hcnd hsz0 _
  have hval : ∀ (j : Nat) t v, Try.f8.params[j]? = some t → args[j]? = some v → Value.okWide Try.prog W .any base t v := hval0
  have hW' := hW
  obtain ⟨p, q, hA0, hV, rfl, hfz, hnd⟩ := hW
  have hA : DataW.TrodAll enc Try.prog W 0 (fun _ => true) true Try.f8.params.toList args.toList ds p := hA0
  have hsz : ((DataW.weightsEach Try.prog (Try.f8.params.toList ++ DataSpec.varTypes Try.prog Rows.groupPickedSpec.plain) (ds ++ gs)).all fun x => decide (x ≤ reachBytes)) = true := hsz0
  rw [Try.params8] at hA hval hsz
  obtain ⟨v0, vs0, d0, ds0, p0, q0, hargs, rfl, rfl, h0, r0⟩ := trodAll_cons hA
  obtain ⟨v1, vs1, d1, ds1, p1, q1, rfl, rfl, rfl, h1, r1⟩ := trodAll_cons r0
  obtain ⟨v2, vs2, d2, ds2, p2, q2, rfl, rfl, rfl, h2, r2⟩ := trodAll_cons r1
  obtain ⟨rfl, rfl, rfl⟩ := trodAll_nil r2
  obtain rfl : args = #[v0, v1, v2] := by cases args; simp_all
  obtain ⟨rfl, rfl⟩ := trodVars_none hV
  obtain ⟨A0, n0, c0, rfl⟩ := okWide_slice Try.underlying22 (hval 0 22 v0 rfl rfl)
  have k0 := h0
  have lt0 : ∀ x ∈ p0, x.block < W.heap.size := by obtain ⟨m, hm⟩ := k0; exact DataW.trod_lt m _ _ _ hm
  obtain ⟨l0, x0, y0, g0, z0⟩ := arg_ints h0
  obtain ⟨a1, rfl, rfl, rfl, w1⟩ := open_int Try.underlying3 (hval 1 3 v1 rfl rfl) h1
  have b1 := bounds_i64 w1
  obtain ⟨A2, n2, c2, rfl⟩ := okWide_slice Try.underlying22 (hval 2 22 v2 rfl rfl)
  have k2 := h2
  have lt2 : ∀ x ∈ p2, x.block < W.heap.size := by obtain ⟨m, hm⟩ := k2; exact DataW.trod_lt m _ _ _ hm
  obtain ⟨l2, x2, y2, g2, z2⟩ := arg_ints h2
  have s2 := arg_ints_sized hsz (j := 2) rfl rfl h2
  clear hA0 hval0
  refine (walk A0 n0 c0 l0 a1 A2 n2 c2 l2 W x0 y0 g0 z0 b1.1 b1.2 x2 y2 g2 z2 s2).mono fun e W' ⟨he, bel⟩ => ?_
  subst he
  exact ⟨_, rfl, _, _, _, [], _, [], hW', trodAll_mk1 (shut_bool Try.underlying4 _), (trodAll_cons_mk (Below.trod laidOut (by kernel_rfl) (of_decide_eq_true (by kernel_rfl)) k0 bel lt0) (trodAll_cons_mk (shut_int Try.underlying3 w1) (trodAll_cons_mk (Below.trod laidOut (by kernel_rfl) (of_decide_eq_true (by kernel_rfl)) k2 bel lt2) trodAll_mk0))), rfl, bel.frame _, fun h => by cases h⟩

theorem over : Rows.groupPickedRow.holds Try.pinned (OpenSpec.ofChange Rows.groupPickedSpec) :=
  OpenClaim.holds_of_wide 8 Try.f8 rfl rfl rfl rfl rfl rfl rfl ⟨rfl, rfl, rfl, rfl, rfl⟩ rfl rfl rfl rfl rfl (by kernel_rfl) Try.func8 (by kernel_rfl)
    (of_decide_eq_true (by kernel_rfl)) (by unfold Func.isWrapper; first | (rw [if_pos (by decide +kernel)]; kernel_rfl) | (rw [if_neg (by decide +kernel)]; exact ⟨rfl, rfl⟩))
    (fun os started H enc _ => lifted os started H enc)

/-- The statement. -/
theorem proved : Rows.GroupPickedSaid := over
#print axioms proved
end Go.Proofs.Ytmaiikmgpeafkaa.GroupPicked
