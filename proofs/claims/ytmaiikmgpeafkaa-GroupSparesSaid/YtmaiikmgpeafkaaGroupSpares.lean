/- GroupSpares. -/
import Derived.Test.YtmaiikmgpeafkaaLawS
import Derived.Test.YtmaiikmgpeafkaaLawE
import Derived.Test.YtmaiikmgpeafkaaLawC
import Derived.Test.YtmaiikmgpeafkaaSprP
import Derived.Test.YtmaiikmgpeafkaaGrpA
import Derived.Test.YtmaiikmgpeafkaaArgG
import Derived.Test.YtmaiikmgpeafkaaRows
namespace Go.Proofs.Ytmaiikmgpeafkaa.GroupSpares
open Go.ChangeShapes Go.WideShapes Go.ChangeAt Go.RowKit Go.Proofs.Ytmaiikmgpeafkaa

theorem mask16 (n : Int) : ∃ M : Nat, bits .and .i64 n 65535 = (M : Int) ∧ M ≤ 65535 := by
  have h := i64_mask n 16 (by decide)
  refine ⟨(n % 65536).toNat, ?_, by omega⟩
  have e : (65535 : Int) = 2 ^ 16 - 1 := by decide
  rw [e, h]
  have e2 : (2 : Int) ^ 16 = 65536 := by decide
  rw [e2]
  omega
theorem mask_next (n : Int) (m : Nat) : ∃ M k : Nat, bits .and .i64 n 65535 = (M : Int) ∧ (M : Int).tmod ((m : Int) + 1) = (k : Int) ∧ k ≤ m := by
  obtain ⟨M, h1, _⟩ := mask16 n
  refine ⟨M, M % (m + 1), h1, ?_, by have := Nat.mod_lt M (show 0 < m + 1 by omega); omega⟩
  rw [Int.tmod_eq_emod_of_nonneg (by omega)]
  exact (Int.natCast_emod M (m + 1)).symm
theorem mask_six (n : Int) : ∃ M k : Nat, bits .and .i64 n 65535 = (M : Int) ∧ (M : Int).tmod 6 = (k : Int) ∧ k < 6 := by
  obtain ⟨M, h1, _⟩ := mask16 n
  refine ⟨M, M % 6, h1, ?_, Nat.mod_lt _ (by decide)⟩
  rw [Int.tmod_eq_emod_of_nonneg (by omega)]
  exact (Int.natCast_emod M 6).symm
theorem six_zero (w : World) : (zeroValue 45).run Try.prog w = .ok (.agg (sixC (fun _ => false))) w := by kernel_rfl
/-- A group as it is built. -/
def SixG (g : GrV) : Prop := SixB g.ex ∧ g.n ≤ 6
theorem six_n {L : List GrV} (h : ∀ g ∈ L, SixG g) : ∀ g ∈ L, g.n ≤ 1000000 := fun g hg => by have := (h g hg).2; omega
theorem six_all {w : World} {base : Nat} {v : Value} {L : List GrV} (ho : GsOwn w base v L) (h : ∀ g ∈ L, SixG g) (hl : L.length ≤ 16) : (allD L).length ≤ 96 := by
  have h2 : ∀ g ∈ L, (dks g.ex).length ≤ 6 := fun g hg => by
    have k1 := ExOwn.len (ho.mem g hg)
    have k2 := (h g hg).2
    simp [dks]
    omega
  have : ∀ l : List GrV, (∀ g ∈ l, (dks g.ex).length ≤ 6) → (allD l).length ≤ l.length * 6 := fun l => by
    induction l with
    | nil => intro _; simp [allD]
    | cons g l ih =>
      intro hl
      have k1 := ih (fun x hx => hl x (List.mem_cons_of_mem _ hx))
      have k2 := hl g (List.mem_cons_self ..)
      unfold allD at k1 ⊢
      rw [List.flatMap_cons, List.length_append, List.length_cons]
      omega
  have := this L h2
  omega
set_option maxRecDepth 100000 in
set_option maxHeartbeats 16000000 in
theorem walk (A0 : Option Addr) (n0 c0 : Nat) (L : List GrV) (at_ : Int) (w : World) (x0 : GsIn w w.heap.size A0 n0 c0 L) (_b3 : -9223372036854775808 ≤ at_) (_b4 : at_ ≤ 9223372036854775807) :
    Calls Try.prog 9 #[.slice A0 n0 c0, .int .i64 at_] w fun e w' => e = .returned (.bool true) ∧ Below w.heap.size w w' := by
  obtain ⟨i0, hi0, hz0, hz1, hz2⟩ := info_parts ext_parts
  have HI := hide (And.intro hi0 (And.intro hz0 (And.intro hz1 hz2)))
  obtain ⟨i1, hj0, hy0, hy1, hy2⟩ := info_parts grp_parts
  have HJ := hide (And.intro hj0 (And.intro hy0 (And.intro hy1 hy2)))
  have HShown := hide shown_any
  have hnc := x0.le
  have hcm := x0.cap
  have HX := hide x0
  clear x0 hi0 hz0 hz1 hz2 hj0 hy0 hy1 hy2
  go_enter Try.func9, Try.ntmps9
  go_wp2_with (first
    | (go_at_call 10; refine (HShown.out w).mono ?_; rintro _ w1 ⟨rfl, hl1⟩; have HL1 := hide hl1; clear hl1))
  have hz1 := HL1.out.size
  go_loopw [6, 7, 8, 9, 10, 11] (fun s6 i _ _ _ _ wr => ∃ k : Nat, k ≤ n0 ∧ k ≤ 16 ∧ i = .int .i64 k ∧ Hid (∃ Lf, Lf.length = k ∧ GsOwn wr w1.heap.size s6 Lf ∧ ∀ g ∈ Lf, SixG g) ∧ Hid (Below w1.heap.size w1 wr)) (fun _ i _ _ _ _ _ => n0 - (intOf i).toNat)
  case atStart => exact ⟨0, Nat.zero_le _, Nat.zero_le _, rfl, hide ⟨[], rfl, ⟨World.ownsRow_nil _ _ _ _, fun g hg => absurd hg List.not_mem_nil, List.Pairwise.nil⟩, fun g hg => absurd hg List.not_mem_nil⟩, hide (Below.refl _ _)⟩
  case round =>
    obtain ⟨k, hk, hk16, rfl, HS, HB⟩ := hrel
    have hzr := HB.out.size
    obtain ⟨wy, hwy⟩ : ∃ x : World, x = wr := ⟨_, rfl⟩
    subst hwy
    have HLw := hide (HL1.out.trans (HB.out.mono hz1))
    by_cases hkn : k < n0
    · by_cases hk16' : k < 16
      · obtain ⟨Lf, hLf, hown, hsix⟩ := HS.out
        have HLF := hide hLf
        have HOWN := hide hown
        have HSIX := hide hsix
        obtain ⟨ad, g, hA, hab, hg, hgi, _, _, e2⟩ := (HX.out.below HLw.out).heads hkn
        subst hA
        have HGI := hide hgi
        have HE2 := hide e2
        clear hLf hown hsix hg hgi e2
        go_wp2_with (first
          | ((with_reducible refine at_slot 8 ?_); refine wpList_alloc_blk rfl 36 rfl _ (grp_zero _) ?_; intro w2 hb2 hl2 hs2; have hz2 : w2.heap.size = wy.heap.size + 1 := hs2; clear hs2)
          | ((with_reducible refine at_store 8 ?_); refine wpList_store_all rfl 36 (.tmp 8) (.tmp 29) rfl wy.heap.size 36 _ hb2 rfl (grC ⟨0, 0, none, 0, 0, []⟩) rfl grp_info rfl (grC_one _) ?_; intro w3 hb3 hg3 hs3; have hz3 : w3.heap.size = w2.heap.size := (by omega); clear hs3)
          | ((with_reducible refine at_slot 9 ?_); refine wpList_alloc_blk rfl 45 rfl _ (six_zero _) ?_; intro w4 hb4 hl4 hs4; have hz4 : w4.heap.size = w3.heap.size + 1 := hs4; clear hs4))
        have hl4' : Below wy.heap.size wy w4 := (hl2.grown hg3 hl2.size (fun y e => by injection e with e; omega)).trans (hl4.mono (by omega))
        have hB2 : Blk w4 wy.heap.size 36 #[.int .i64 0, .int .i64 0, .slice none 0 0] := hb3.below hl4 (by omega)
        obtain ⟨bs, hbs⟩ : ∃ b, b = wy.heap.size + 1 := ⟨_, rfl⟩
        have hB3 : Blk w4 bs 45 (sixC (fun _ => false)) := by rw [hbs, ← hz2, ← hz3]; exact hb4
        obtain ⟨bx, hbx⟩ : ∃ b, b = wy.heap.size := ⟨_, rfl⟩
        have hbb : bx < bs := by omega
        have hbe : (⟨wy.heap.size + 1, 0, none⟩ : Addr) = ⟨bs, 0, none⟩ := by rw [hbs]
        have hbe2 : (⟨wy.heap.size, 0, none⟩ : Addr) = ⟨bx, 0, none⟩ := by rw [hbx]
        rw [← hbx] at hB2
        have HB2 := hide hB2
        have HB3 := hide hB3
        have HL4 := hide hl4'
        have HBX := hide (show wy.heap.size ≤ bx ∧ wy.heap.size ≤ bs by omega)
        simp only [hbe, hbe2]
        clear hb2 hl2 hb3 hg3 hb4 hl4 hl4' hB2 hB3 hz2 hz3 hz4 hbs hbx hbe hbe2
        go_loopw [10, 11] (fun i _ wr => ∃ (j : Nat) (A1 : Option Addr) (c1 : Nat) (E : List Ex) (f : Nat → Bool) (e : Nat), j ≤ g.n ∧ j ≤ 6 ∧ e ≤ j ∧ i = .int .i64 j ∧ Hid (E.length = e) ∧ Hid (Blk wr bx 36 #[.int .i64 0, .int .i64 0, .slice A1 e c1]) ∧ Hid (Blk wr bs 45 (sixC f)) ∧ Hid (wr.ownsRow wy.heap.size 38 2 (.slice A1 e c1) e (exL E)) ∧ Hid (SixB E ∧ SeenB f E) ∧ Hid (Below wy.heap.size wy wr)) (fun i _ _ => 6 - (intOf i).toNat)
        case atStart => exact ⟨0, none, 0, [], fun _ => false, 0, Nat.zero_le _, Nat.zero_le _, Nat.le_refl _, rfl, hide rfl, HB2, HB3, hide (World.ownsRow_nil _ _ _ _), hide ⟨SixB.nil, SeenB.nil⟩, HL4⟩
        case round =>
          clear HB2 HB3 HL4
          obtain ⟨j, A1, c1, E, f, e, hj, hj6, hej, rfl, HEL, HB2, HB3, HO, HOK, HL4⟩ := hrel
          obtain ⟨wq, hwq⟩ : ∃ x : World, x = wr := ⟨_, rfl⟩
          subst hwq
          have hzy : w.heap.size ≤ wy.heap.size := HLw.out.size
          have c2q : wq.cell? ⟨(ad.add (k * 3)).block, (ad.add (k * 3)).off + 2, none⟩ = some (.slice g.A g.n g.c) := (HL4.out.cell (p := ⟨(ad.add (k * 3)).block, (ad.add (k * 3)).off + 2, none⟩) (by show (ad.add (k * 3)).block < _; rw [block_of_add]; omega)).trans HE2.out
          by_cases hjn : j < g.n
          · by_cases hj6' : j < 6
            · obtain ⟨ae, y, hA, hab2, hy, e0, _⟩ := ExIn.both (HGI.out.below (HL4.out.mono hzy)) hjn
              rw [hA] at c2q
              obtain ⟨M, N, hM, hN, hN6⟩ := mask_six y.1
              obtain ⟨x1, hx1⟩ : ∃ z, z = y.1 := ⟨_, rfl⟩
              rw [← hx1] at hM e0
              have hcs := HB3.out.six hN6
              have hNs : N < (sixC f).size := hN6
              have hN6i : (N : Int) < 6 := by omega
              obtain ⟨sn, hsn⟩ : ∃ sn, sn = f N := ⟨_, rfl⟩
              rw [← hsn] at hcs
              have HSN := hide hsn.symm
              clear hx1 hA hab2 hy hsn
              cases sn with
              | true =>
                go_wp2_with (first
                  | ((with_reducible refine at_store 67 ?_); refine wpList_poke rfl 4 (.tmp 67) (.const (.bool true)) rfl bs N 45 (sixC f) HB3.out rfl (.bool true) rfl rfl (by kernel_rfl) hNs ?_; intro w7 hb7 hg7 hs7; rw [sixC_put f hN6] at hb7; have HB37 := hide hb7; have HG7 := hide hg7; clear hb7 hg7 hs7))
                have HB27 := hide (HB2.out.grown HG7.out (fun e => by injection e with e; omega))
                have HO7 := hide (HO.out.kept HG7.out (by
                  cases hv : Value.ownBlock _ with
                  | none => exact .inl rfl
                  | some z => exact .inr (fun e => by
                      rw [e] at hv
                      exact blk_kind_ne HO.out HB3.out (by decide) hv)))
                have HL7 := hide (HL4.out.grown HG7.out HL4.out.size (fun z e => by injection e with e; have h1 := HBX.out; omega))
                go_roundw
                case rel => exact ⟨j + 1, A1, c1, E, putS f N true, e, by omega, by omega, by omega, by go_num, HEL, HB27, HB37, HO7, hide ⟨HOK.out.1, HOK.out.2.same hN6 HSN.out⟩, HL7⟩
                case measure => simp [intOf]; omega
              | false =>
                have hbt := ex_built (N : Int)
                have hzq := HL4.out.size
                have c1a : wq.cell? ⟨bx, 2, none⟩ = some (.slice A1 e c1) := HB2.out.cell 2
                go_upto_region 14 with (first
                  | ((with_reducible refine at_slot 64 ?_); refine wpList_append_two _ rfl (.tmp 60) (.tmp 63) _ rfl wy.heap.size 38 i0 _ 2 16 Try.underlying34 HI.out.1 HI.out.2.1 HI.out.2.2.1 HI.out.2.2.2 rfl (by decide) _ e _ rfl (HO.out.alloc _) (wq.heap.size + 1) (some ⟨wq.heap.size, 0, none⟩) 1 1 (exC ((N : Int), 0)) rfl (ex_reads wq _ ((N : Int), 0) (by omega)) (exC_one _) (by simp only [maxLen]; omega) (by omega) (le_alloc (by omega) _) ?_; intro v5 w5 hown5 hg5 hb5; obtain ⟨A2, c2, hv5, _, _⟩ := own_shape hown5; subst hv5; have HOWN2 := hide hown5; have HB2B := hide ((HB2.out.alloc _).grown hg5 (fun e => blk_kind_ne HO.out HB2.out (by decide) e.symm)); have HB3B := hide ((HB3.out.alloc _).grown hg5 (fun e => blk_kind_ne HO.out HB3.out (by decide) e.symm)); have HLB := hide ((HL4.out.alloc hzq _).grown hg5 (by rw [World.size_alloc]; omega) (fun g e => (HO.out.lt g e).1)); clear hown5 hg5 hb5)
                  | ((with_reducible refine at_store 65 ?_); refine wpList_poke rfl 34 (.tmp 65) (.tmp 64) rfl bx 2 36 _ HB2B.out rfl (.slice A2 (e + 1) c2) rfl rfl (by kernel_rfl) (by show 2 < 3; decide) ?_; intro w6 hb6 hg6 hs6; have HB6 := hide hb6; have HG6 := hide hg6; clear hb6 hg6 hs6))
                have Q1 : Hid (Blk w6 bx 36 #[.int .i64 0, .int .i64 0, .slice A2 (e + 1) c2]) := hide (by simpa using HB6.out)
                have Q2 := hide (HB3B.out.grown HG6.out (fun e => by injection e with e; omega))
                have Q3 : Hid (w6.ownsRow wy.heap.size 38 2 (.slice A2 (e + 1) c2) (e + 1) (exL (E ++ [((N : Int), 0)]))) := hide (by
                  rw [exL_append, exL_one]
                  refine HOWN2.out.kept HG6.out ?_
                  cases hob : (Value.slice A2 (e + 1) c2).ownBlock with
                  | none => exact .inl rfl
                  | some z => exact .inr (fun e => blk_kind_ne HOWN2.out HB2B.out (by decide) (hob.trans e)))
                have Q4 := hide (HLB.out.grown HG6.out HLB.out.size (fun z e => by injection e with e; have := HBX.out; omega))
                have HEL2 : Hid ((E ++ [((N : Int), 0)]).length = e + 1) := hide (by simp [HEL.out])
                go_wp2_with (first
                  | ((with_reducible refine at_store 67 ?_); refine wpList_poke rfl 4 (.tmp 67) (.const (.bool true)) rfl bs N 45 (sixC f) Q2.out rfl (.bool true) rfl rfl (by kernel_rfl) hNs ?_; intro w7 hb7 hg7 hs7; rw [sixC_put f hN6] at hb7; have HB37 := hide hb7; have HG7 := hide hg7; clear hb7 hg7 hs7))
                have HB27 := hide (Q1.out.grown HG7.out (fun e => by injection e with e; omega))
                have HO7 := hide (Q3.out.kept HG7.out (by
                  cases hv : Value.ownBlock _ with
                  | none => exact .inl rfl
                  | some z => exact .inr (fun e => by
                      rw [e] at hv
                      exact blk_kind_ne Q3.out Q2.out (by decide) hv)))
                have HL7 := hide (Q4.out.grown HG7.out Q4.out.size (fun z e => by injection e with e; have h1 := HBX.out; omega))
                go_roundw
                case rel => exact ⟨j + 1, A2, c2, E ++ [((N : Int), 0)], putS f N true, e + 1, by omega, by omega, by omega, by go_num, HEL2, HB27, HB37, HO7, hide ⟨HOK.out.1.more HOK.out.2 hN6 HSN.out 0, HOK.out.2.more 0⟩, HL7⟩
                case measure => simp [intOf]; omega
            · obtain rfl : j = 6 := by omega
              obtain ⟨g2, hg2⟩ : ∃ g2 : GrV, g2 = ⟨0, 0, A1, e, c1, E⟩ := ⟨_, rfl⟩
              obtain ⟨A3, c3, hv3, _, _⟩ := own_shape HOWN.out.row
              rw [HLF.out] at hv3
              subst hv3
              have HXO : Hid (ExOwn wq wy.heap.size g2) := hide (by rw [hg2]; exact HO.out)
              have HS6 : Hid (SixG g2) := hide (by rw [hg2]; exact ⟨HOK.out.1, by show e ≤ 6; omega⟩)
              have HC := hide (show grC g2 = [.int .i64 0, .int .i64 0, .slice A1 e c1] by rw [hg2]; rfl)
              have hlo := own_later HOWN.out.row HL4.out
              rw [HLF.out] at hlo
              have HLO := hide hlo
              have HKK : Hid (k + 1 ≤ maxLen ∧ (k + 1) * 40 ≤ 140737488355328) := hide ⟨by simp only [maxLen]; omega, by omega⟩
              have hze : w1.heap.size ≤ wq.heap.size := Nat.le_trans hzr HL4.out.size
              clear hg2 hlo
              go_wp2_with (first
                | ((with_reducible refine at_slot 69 ?_); refine wpList_load_blk rfl 36 (.tmp 8) rfl bx 0 36 _ HB2.out rfl [.int .i64 0, .int .i64 0, .slice A1 e c1] _ (fun j v hv => (by rw [Nat.zero_add]; simpa using hv)) Try.underlying36 rfl grp_info ?_)
                | ((with_reducible refine at_slot 71 ?_); refine wpList_append_two _ rfl (.tmp 68) (.tmp 70) _ rfl w1.heap.size 36 i1 _ 3 40 Try.underlying28 HJ.out.1 HJ.out.2.1 HJ.out.2.2.1 HJ.out.2.2.2 rfl (by decide) _ k _ rfl (HLO.out.alloc _) (wq.heap.size + 1) (some ⟨wq.heap.size, 0, none⟩) 1 1 (grC g2) rfl (by have h := grp_reads wq (wq.heap.size + 1) g2 (by omega); rw [HC.out] at h ⊢; exact h) (grC_one _) HKK.out.1 HKK.out.2 (le_alloc (by omega) _) ?_; intro v7 w7 hown7 hg7 hb7; have hz7 := hg7.size; rw [World.size_alloc] at hz7; have H7 := hide hown7; have HG7 := hide hg7; clear hown7 hg7 hb7))
              have HS2 : Hid (∃ Lf, Lf.length = k + 1 ∧ GsOwn w7 w1.heap.size v7 Lf ∧ ∀ g ∈ Lf, SixG g) := hide ⟨Lf ++ [g2], by simp [HLF.out], HOWN.out.more HL4.out HXO.out hzr (by have h := H7.out; rw [← HLF.out] at h; exact h) HG7.out, fun x hx => by
                rcases List.mem_append.1 hx with hx | hx
                · exact HSIX.out x hx
                · simp at hx
                  rw [hx]
                  exact HS6.out⟩
              have HB7 : Hid (Below w1.heap.size w1 w7) := hide (((HB.out.trans (HL4.out.mono hzr)).alloc hze _).grown HG7.out (by rw [World.size_alloc]; omega) (fun g e => (HLO.out.lt g e).1))
              clear hz7
              go_roundw
              case rel => exact ⟨k + 1, by omega, by omega, by go_num, HS2, HB7⟩
              case measure => simp [intOf]; omega
          · obtain rfl : j = g.n := by omega
            obtain ⟨g2, hg2⟩ : ∃ g2 : GrV, g2 = ⟨0, 0, A1, e, c1, E⟩ := ⟨_, rfl⟩
            obtain ⟨A3, c3, hv3, _, _⟩ := own_shape HOWN.out.row
            rw [HLF.out] at hv3
            subst hv3
            have HXO : Hid (ExOwn wq wy.heap.size g2) := hide (by rw [hg2]; exact HO.out)
            have HS6 : Hid (SixG g2) := hide (by rw [hg2]; exact ⟨HOK.out.1, by show e ≤ 6; omega⟩)
            have HC := hide (show grC g2 = [.int .i64 0, .int .i64 0, .slice A1 e c1] by rw [hg2]; rfl)
            have hlo := own_later HOWN.out.row HL4.out
            rw [HLF.out] at hlo
            have HLO := hide hlo
            have HKK : Hid (k + 1 ≤ maxLen ∧ (k + 1) * 40 ≤ 140737488355328) := hide ⟨by simp only [maxLen]; omega, by omega⟩
            have hze : w1.heap.size ≤ wq.heap.size := Nat.le_trans hzr HL4.out.size
            clear hg2 hlo
            go_wp2_with (first
              | ((with_reducible refine at_slot 69 ?_); refine wpList_load_blk rfl 36 (.tmp 8) rfl bx 0 36 _ HB2.out rfl [.int .i64 0, .int .i64 0, .slice A1 e c1] _ (fun j v hv => (by rw [Nat.zero_add]; simpa using hv)) Try.underlying36 rfl grp_info ?_)
              | ((with_reducible refine at_slot 71 ?_); refine wpList_append_two _ rfl (.tmp 68) (.tmp 70) _ rfl w1.heap.size 36 i1 _ 3 40 Try.underlying28 HJ.out.1 HJ.out.2.1 HJ.out.2.2.1 HJ.out.2.2.2 rfl (by decide) _ k _ rfl (HLO.out.alloc _) (wq.heap.size + 1) (some ⟨wq.heap.size, 0, none⟩) 1 1 (grC g2) rfl (by have h := grp_reads wq (wq.heap.size + 1) g2 (by omega); rw [HC.out] at h ⊢; exact h) (grC_one _) HKK.out.1 HKK.out.2 (le_alloc (by omega) _) ?_; intro v7 w7 hown7 hg7 hb7; have hz7 := hg7.size; rw [World.size_alloc] at hz7; have H7 := hide hown7; have HG7 := hide hg7; clear hown7 hg7 hb7))
            have HS2 : Hid (∃ Lf, Lf.length = k + 1 ∧ GsOwn w7 w1.heap.size v7 Lf ∧ ∀ g ∈ Lf, SixG g) := hide ⟨Lf ++ [g2], by simp [HLF.out], HOWN.out.more HL4.out HXO.out hzr (by have h := H7.out; rw [← HLF.out] at h; exact h) HG7.out, fun x hx => by
              rcases List.mem_append.1 hx with hx | hx
              · exact HSIX.out x hx
              · simp at hx
                rw [hx]
                exact HS6.out⟩
            have HB7 : Hid (Below w1.heap.size w1 w7) := hide (((HB.out.trans (HL4.out.mono hzr)).alloc hze _).grown HG7.out (by rw [World.size_alloc]; omega) (fun g e => (HLO.out.lt g e).1))
            clear hz7
            go_roundw
            case rel => exact ⟨k + 1, by omega, by omega, by go_num, HS2, HB7⟩
            case measure => simp [intOf]; omega
      · obtain rfl : k = 16 := by omega
        obtain ⟨Lf, hLf, hown, hsix⟩ := HS.out
        obtain ⟨A3, c3, hv3⟩ := hown.shape
        subst hv3
        have hl16 : Lf.length ≤ 16 := by omega
        have hall := six_all hown hsix hl16
        obtain ⟨n, hn⟩ : ∃ n, n = Lf.length := ⟨_, rfl⟩
        rw [← hn] at hown hl16 ⊢
        have hsp := spare_any A3 n c3 Lf 6 wy.heap.size wy hown.in_ (Nat.le_refl _) (by omega) (six_n hsix) (by omega) (by decide)
        have HSP := hide hsp
        have HOWN := hide hown
        have HSIX := hide hsix
        have HALL := hide hall
        clear hsp hown hsix hall hLf hn HS
        go_upto_region 20 with (first
          | (go_at_call 20; refine HSP.out.mono ?_; rintro _ w2 ⟨m, rfl, hm, hl2⟩; have HL2 := hide (HLw.out.trans (hl2.mono HLw.out.size)); have HO2 := hide (HOWN.out.later hl2); have HMX := hide hm; have hm96 : m ≤ 96 := (by rcases hm.2 with h | ⟨d, h⟩; (· omega); (· have k1 := List.count_le_length (a := d) (l := inD 6 (allD Lf)); have k2 : (inD 6 (allD Lf)).length ≤ (allD Lf).length := List.length_filter_le _ _; have k3 := HALL.out; omega)); obtain ⟨M, kk, hM, hMk, hkm⟩ := mask_next at_ m; have hne : ((m : Int) + 1 == 0) = false := (by simp; omega); clear hm hl2))
        obtain ⟨w3, hw3⟩ : ∃ x, x = w2.alloc (.cells (I64 (roomsL (kk : Int) ((m : Int) - (kk : Int)))).toArray 3) := ⟨_, rfl⟩
        obtain ⟨w4, hw4⟩ : ∃ x, x = w3.alloc (.cells (I64 (roomsL (kk : Int) ((m : Int) - (kk : Int) - 1))).toArray 3) := ⟨_, rfl⟩
        have e4 : (w2.alloc (.cells #[.int .i64 0, .int .i64 0, .int .i64 0, .int .i64 0, .int .i64 0, .int .i64 0, .int .i64 (kk : Int), .int .i64 ((m : Int) - (kk : Int))] 3)).alloc (.cells #[.int .i64 0, .int .i64 0, .int .i64 0, .int .i64 0, .int .i64 0, .int .i64 0, .int .i64 (kk : Int), .int .i64 ((m : Int) - (kk : Int) - 1)] 3) = w4 := by rw [hw4, hw3]; rfl
        rw [e4]
        have hz3 : w3.heap.size = w2.heap.size + 1 := by rw [hw3, World.size_alloc]
        obtain ⟨g6, hg6⟩ : ∃ g, g = w2.heap.size := ⟨_, rfl⟩
        obtain ⟨g7, hg7⟩ : ∃ g, g = w2.heap.size + 1 := ⟨_, rfl⟩
        have hl3 : Below w2.heap.size w2 w3 := by rw [hw3]; exact (Below.refl _ _).alloc (Nat.le_refl _) _
        have hl4 : Below w3.heap.size w3 w4 := by rw [hw4]; exact (Below.refl _ _).alloc (Nat.le_refl _) _
        have hb3 : Blk w3 g6 3 (I64 (roomsL (kk : Int) ((m : Int) - (kk : Int)))).toArray := by rw [hw3, hg6]; exact Blk.new _ _ _
        have hb4 : Blk w4 g7 3 (I64 (roomsL (kk : Int) ((m : Int) - (kk : Int) - 1))).toArray := by rw [hw4, hg7, ← hz3]; exact Blk.new _ _ _
        have HR6 := hide (own_later (own_of_blk (base := 0) hb3 (Nat.zero_le _) rfl (show 8 ≤ maxLen by decide)) hl4)
        have HR7 := hide (own_of_blk (base := 0) hb4 (Nat.zero_le _) rfl (show 8 ≤ maxLen by decide))
        have HL4 := hide ((HL2.out.trans (hl3.mono HL2.out.size)).trans (hl4.mono (HL2.out.trans (hl3.mono HL2.out.size)).size))
        have HO4 := hide ((HO2.out.later hl3).later hl4)
        have ha6 : (⟨w2.heap.size, 0, none⟩ : Addr) = ⟨g6, 0, none⟩ := by rw [hg6]
        have ha7 : (⟨w2.heap.size + 1, 0, none⟩ : Addr) = ⟨g7, 0, none⟩ := by rw [hg7]
        simp only [ha6, ha7]
        clear ha6 ha7 hb3 hb4 hl3 hl4 hz3 e4 hw3 hw4 hg6 hg7 hM hMk hne HSP HALL HOWN HLw HB hzr HL2 HO2
        obtain ⟨P, hP⟩ : ∃ P : Nat → Bool, P = fun (x : Nat) => decide (kk < m) && !safeB (roomsL (kk : Int) ((m : Int) - (kk : Int) - 1)) Lf (x : Int) := ⟨_, rfl⟩
        have HP := hide hP
        clear hP
        go_wp2
        go_loopw [16, 17] (fun s d wr => ∃ e : Nat, e ≤ 6 ∧ d = .int .i64 e ∧ s = .bool ((List.range e).any P) ∧ Hid (Below w4.heap.size w4 wr)) (fun _ d _ => 6 - (intOf d).toNat)
        case atStart => exact ⟨0, Nat.zero_le _, rfl, rfl, hide (Below.refl _ _)⟩
        case round =>
          obtain ⟨e, he, rfl, rfl, HLq⟩ := hrel
          obtain ⟨wq, hwq⟩ : ∃ x : World, x = wr := ⟨_, rfl⟩
          subst hwq
          obtain ⟨b, hb⟩ : ∃ b, b = (List.range e).any P := ⟨_, rfl⟩
          by_cases he6 : e < 6
          · obtain ⟨S2, hS2⟩ : ∃ S2, S2 = safeB (roomsL (kk : Int) ((m : Int) - (kk : Int) - 1)) Lf (e : Int) := ⟨_, rfl⟩
            have HS2 := hide hS2
            have hstep : (List.range (e + 1)).any P = (b || (decide (kk < m) && !S2)) := by
              rw [List.range_succ, List.any_append, ← hb]
              simp [HP.out, hS2]
            have HSTEP := hide hstep
            rw [← hb]
            have hc1 := safe_any A3 n c3 Lf (some ⟨g6, 0, none⟩) 8 (roomsL (kk : Int) ((m : Int) - (kk : Int))) (e : Int) wq.heap.size wq (HO4.out.later HLq.out).in_ (Reads.of_own (own_later HR6.out HLq.out)) (Nat.le_refl _) (by omega) (six_n HSIX.out) (by show 8 ≤ 1000000; decide)
            rw [spares_safe (fun g hg => (HSIX.out g hg).1) HMX.out hkm, show (roomsL (kk : Int) ((m : Int) - (kk : Int))).length = 8 from rfl] at hc1
            have HC1 := hide hc1
            clear hc1 hstep hS2 hb
            by_cases hkm1 : kk < m
            · have hd1 : decide (kk < m) = true := decide_eq_true hkm1
              rw [hd1, Bool.true_and] at HSTEP
              cases S2 with
              | false =>
                go_wp2_with (first
                  | (go_at_call 16; refine HC2.out.mono ?_; rintro _ w6 ⟨rfl, _, hl6⟩; have HL6 := hide (HL5.out.trans (hl6.mono HL5.out.size)); clear hl6)
                  | (go_at_call 16; refine HC1.out.mono ?_; rintro _ w5 ⟨rfl, _, hl5⟩; have HL5 := hide (HLq.out.trans (hl5.mono HLq.out.size)); have hc2 := safe_any A3 n c3 Lf (some ⟨g7, 0, none⟩) 8 (roomsL (kk : Int) ((m : Int) - (kk : Int) - 1)) (e : Int) w5.heap.size w5 ((HO4.out.later HLq.out).later hl5).in_ (Reads.of_own (own_later (own_later HR7.out HLq.out) hl5)) (Nat.le_refl _) (by omega) (six_n HSIX.out) (by show 8 ≤ 1000000; decide); rw [← HS2.out, show (roomsL (kk : Int) ((m : Int) - (kk : Int) - 1)).length = 8 from rfl] at hc2; have HC2 := hide hc2; clear hl5 hc2))
                go_roundw
                case rel => exact ⟨e + 1, by omega, by go_num, by rw [HSTEP.out]; simp, HL6⟩
                case measure => simp [intOf]; omega
              | true =>
                go_wp2_with (first
                  | (go_at_call 16; refine HC2.out.mono ?_; rintro _ w6 ⟨rfl, _, hl6⟩; have HL6 := hide (HL5.out.trans (hl6.mono HL5.out.size)); clear hl6)
                  | (go_at_call 16; refine HC1.out.mono ?_; rintro _ w5 ⟨rfl, _, hl5⟩; have HL5 := hide (HLq.out.trans (hl5.mono HLq.out.size)); have hc2 := safe_any A3 n c3 Lf (some ⟨g7, 0, none⟩) 8 (roomsL (kk : Int) ((m : Int) - (kk : Int) - 1)) (e : Int) w5.heap.size w5 ((HO4.out.later HLq.out).later hl5).in_ (Reads.of_own (own_later (own_later HR7.out HLq.out) hl5)) (Nat.le_refl _) (by omega) (six_n HSIX.out) (by show 8 ≤ 1000000; decide); rw [← HS2.out, show (roomsL (kk : Int) ((m : Int) - (kk : Int) - 1)).length = 8 from rfl] at hc2; have HC2 := hide hc2; clear hl5 hc2))
                go_roundw
                case rel => exact ⟨e + 1, by omega, by go_num, by rw [HSTEP.out]; simp, HL6⟩
                case measure => simp [intOf]; omega
            · have hd1 : decide (kk < m) = false := decide_eq_false hkm1
              rw [hd1, Bool.false_and, Bool.or_false] at HSTEP
              go_wp2_with (first
                | (go_at_call 16; refine HC1.out.mono ?_; rintro _ w5 ⟨rfl, _, hl5⟩; have HL5 := hide (HLq.out.trans (hl5.mono HLq.out.size)); have hc2 := safe_any A3 n c3 Lf (some ⟨g7, 0, none⟩) 8 (roomsL (kk : Int) ((m : Int) - (kk : Int) - 1)) (e : Int) w5.heap.size w5 ((HO4.out.later HLq.out).later hl5).in_ (Reads.of_own (own_later (own_later HR7.out HLq.out) hl5)) (Nat.le_refl _) (by omega) (six_n HSIX.out) (by show 8 ≤ 1000000; decide); rw [← HS2.out, show (roomsL (kk : Int) ((m : Int) - (kk : Int) - 1)).length = 8 from rfl] at hc2; have HC2 := hide hc2; clear hl5 hc2))
              go_roundw
              case rel => exact ⟨e + 1, by omega, by go_num, by rw [HSTEP.out], HL5⟩
              case measure => simp [intOf]; omega
          · obtain rfl : e = 6 := by omega
            have HLz := hide (HL4.out.trans (HLq.out.mono HL4.out.size))
            by_cases hm0 : m = 0
            · have h0 : ((m : Int) == 0) = true := by simp [hm0]
              clear hm0 hb
              go_wp2
              go_ret
              exact ⟨rfl, HLz.out⟩
            · have h0 : ((m : Int) == 0) = false := by simp [hm0]
              have h0' : (m == 0) = false := by simp [hm0]
              by_cases hkm1 : kk = m
              · subst hkm1
                clear hm0 hb
                go_wp2
                go_ret
                exact ⟨rfl, HLz.out⟩
              · have h1 : ((kk : Int) == (m : Int)) = false := by simp; omega
                have h1' : (kk == m) = false := by simp; omega
                have hs : (List.range 6).any P = true := by
                  obtain ⟨d, hd, hsd⟩ := spares_less (fun g hg => (HSIX.out g hg).1) HMX.out (show kk < m by omega)
                  rw [List.any_eq_true]
                  refine ⟨d, List.mem_range.2 hd, ?_⟩
                  rw [HP.out]
                  show (decide (kk < m) && !safeB (roomsL (kk : Int) ((m : Int) - (kk : Int) - 1)) Lf (d : Int)) = true
                  rw [hsd, decide_eq_true (show kk < m by omega)]
                  rfl
                rw [hs]
                clear hm0 hb hkm1 hs
                go_wp2
                go_ret
                exact ⟨rfl, HLz.out⟩
    · obtain rfl : k = n0 := by omega
      obtain ⟨Lf, hLf, hown, hsix⟩ := HS.out
      obtain ⟨A3, c3, hv3⟩ := hown.shape
      subst hv3
      have hl16 : Lf.length ≤ 16 := by omega
      have hall := six_all hown hsix hl16
      obtain ⟨n, hn⟩ : ∃ n, n = Lf.length := ⟨_, rfl⟩
      rw [← hn] at hown hl16 ⊢
      have hsp := spare_any A3 n c3 Lf 6 wy.heap.size wy hown.in_ (Nat.le_refl _) (by omega) (six_n hsix) (by omega) (by decide)
      have HSP := hide hsp
      have HOWN := hide hown
      have HSIX := hide hsix
      have HALL := hide hall
      clear hsp hown hsix hall hLf hn HS
      go_upto_region 20 with (first
        | (go_at_call 20; refine HSP.out.mono ?_; rintro _ w2 ⟨m, rfl, hm, hl2⟩; have HL2 := hide (HLw.out.trans (hl2.mono HLw.out.size)); have HO2 := hide (HOWN.out.later hl2); have HMX := hide hm; have hm96 : m ≤ 96 := (by rcases hm.2 with h | ⟨d, h⟩; (· omega); (· have k1 := List.count_le_length (a := d) (l := inD 6 (allD Lf)); have k2 : (inD 6 (allD Lf)).length ≤ (allD Lf).length := List.length_filter_le _ _; have k3 := HALL.out; omega)); obtain ⟨M, kk, hM, hMk, hkm⟩ := mask_next at_ m; have hne : ((m : Int) + 1 == 0) = false := (by simp; omega); clear hm hl2))
      obtain ⟨w3, hw3⟩ : ∃ x, x = w2.alloc (.cells (I64 (roomsL (kk : Int) ((m : Int) - (kk : Int)))).toArray 3) := ⟨_, rfl⟩
      obtain ⟨w4, hw4⟩ : ∃ x, x = w3.alloc (.cells (I64 (roomsL (kk : Int) ((m : Int) - (kk : Int) - 1))).toArray 3) := ⟨_, rfl⟩
      have e4 : (w2.alloc (.cells #[.int .i64 0, .int .i64 0, .int .i64 0, .int .i64 0, .int .i64 0, .int .i64 0, .int .i64 (kk : Int), .int .i64 ((m : Int) - (kk : Int))] 3)).alloc (.cells #[.int .i64 0, .int .i64 0, .int .i64 0, .int .i64 0, .int .i64 0, .int .i64 0, .int .i64 (kk : Int), .int .i64 ((m : Int) - (kk : Int) - 1)] 3) = w4 := by rw [hw4, hw3]; rfl
      rw [e4]
      have hz3 : w3.heap.size = w2.heap.size + 1 := by rw [hw3, World.size_alloc]
      obtain ⟨g6, hg6⟩ : ∃ g, g = w2.heap.size := ⟨_, rfl⟩
      obtain ⟨g7, hg7⟩ : ∃ g, g = w2.heap.size + 1 := ⟨_, rfl⟩
      have hl3 : Below w2.heap.size w2 w3 := by rw [hw3]; exact (Below.refl _ _).alloc (Nat.le_refl _) _
      have hl4 : Below w3.heap.size w3 w4 := by rw [hw4]; exact (Below.refl _ _).alloc (Nat.le_refl _) _
      have hb3 : Blk w3 g6 3 (I64 (roomsL (kk : Int) ((m : Int) - (kk : Int)))).toArray := by rw [hw3, hg6]; exact Blk.new _ _ _
      have hb4 : Blk w4 g7 3 (I64 (roomsL (kk : Int) ((m : Int) - (kk : Int) - 1))).toArray := by rw [hw4, hg7, ← hz3]; exact Blk.new _ _ _
      have HR6 := hide (own_later (own_of_blk (base := 0) hb3 (Nat.zero_le _) rfl (show 8 ≤ maxLen by decide)) hl4)
      have HR7 := hide (own_of_blk (base := 0) hb4 (Nat.zero_le _) rfl (show 8 ≤ maxLen by decide))
      have HL4 := hide ((HL2.out.trans (hl3.mono HL2.out.size)).trans (hl4.mono (HL2.out.trans (hl3.mono HL2.out.size)).size))
      have HO4 := hide ((HO2.out.later hl3).later hl4)
      have ha6 : (⟨w2.heap.size, 0, none⟩ : Addr) = ⟨g6, 0, none⟩ := by rw [hg6]
      have ha7 : (⟨w2.heap.size + 1, 0, none⟩ : Addr) = ⟨g7, 0, none⟩ := by rw [hg7]
      simp only [ha6, ha7]
      clear ha6 ha7 hb3 hb4 hl3 hl4 hz3 e4 hw3 hw4 hg6 hg7 hM hMk hne HSP HALL HOWN HLw HB hzr HL2 HO2
      obtain ⟨P, hP⟩ : ∃ P : Nat → Bool, P = fun (x : Nat) => decide (kk < m) && !safeB (roomsL (kk : Int) ((m : Int) - (kk : Int) - 1)) Lf (x : Int) := ⟨_, rfl⟩
      have HP := hide hP
      clear hP
      go_wp2
      go_loopw [16, 17] (fun s d wr => ∃ e : Nat, e ≤ 6 ∧ d = .int .i64 e ∧ s = .bool ((List.range e).any P) ∧ Hid (Below w4.heap.size w4 wr)) (fun _ d _ => 6 - (intOf d).toNat)
      case atStart => exact ⟨0, Nat.zero_le _, rfl, rfl, hide (Below.refl _ _)⟩
      case round =>
        obtain ⟨e, he, rfl, rfl, HLq⟩ := hrel
        obtain ⟨wq, hwq⟩ : ∃ x : World, x = wr := ⟨_, rfl⟩
        subst hwq
        obtain ⟨b, hb⟩ : ∃ b, b = (List.range e).any P := ⟨_, rfl⟩
        by_cases he6 : e < 6
        · obtain ⟨S2, hS2⟩ : ∃ S2, S2 = safeB (roomsL (kk : Int) ((m : Int) - (kk : Int) - 1)) Lf (e : Int) := ⟨_, rfl⟩
          have HS2 := hide hS2
          have hstep : (List.range (e + 1)).any P = (b || (decide (kk < m) && !S2)) := by
            rw [List.range_succ, List.any_append, ← hb]
            simp [HP.out, hS2]
          have HSTEP := hide hstep
          rw [← hb]
          have hc1 := safe_any A3 n c3 Lf (some ⟨g6, 0, none⟩) 8 (roomsL (kk : Int) ((m : Int) - (kk : Int))) (e : Int) wq.heap.size wq (HO4.out.later HLq.out).in_ (Reads.of_own (own_later HR6.out HLq.out)) (Nat.le_refl _) (by omega) (six_n HSIX.out) (by show 8 ≤ 1000000; decide)
          rw [spares_safe (fun g hg => (HSIX.out g hg).1) HMX.out hkm, show (roomsL (kk : Int) ((m : Int) - (kk : Int))).length = 8 from rfl] at hc1
          have HC1 := hide hc1
          clear hc1 hstep hS2 hb
          by_cases hkm1 : kk < m
          · have hd1 : decide (kk < m) = true := decide_eq_true hkm1
            rw [hd1, Bool.true_and] at HSTEP
            cases S2 with
            | false =>
              go_wp2_with (first
                | (go_at_call 16; refine HC2.out.mono ?_; rintro _ w6 ⟨rfl, _, hl6⟩; have HL6 := hide (HL5.out.trans (hl6.mono HL5.out.size)); clear hl6)
                | (go_at_call 16; refine HC1.out.mono ?_; rintro _ w5 ⟨rfl, _, hl5⟩; have HL5 := hide (HLq.out.trans (hl5.mono HLq.out.size)); have hc2 := safe_any A3 n c3 Lf (some ⟨g7, 0, none⟩) 8 (roomsL (kk : Int) ((m : Int) - (kk : Int) - 1)) (e : Int) w5.heap.size w5 ((HO4.out.later HLq.out).later hl5).in_ (Reads.of_own (own_later (own_later HR7.out HLq.out) hl5)) (Nat.le_refl _) (by omega) (six_n HSIX.out) (by show 8 ≤ 1000000; decide); rw [← HS2.out, show (roomsL (kk : Int) ((m : Int) - (kk : Int) - 1)).length = 8 from rfl] at hc2; have HC2 := hide hc2; clear hl5 hc2))
              go_roundw
              case rel => exact ⟨e + 1, by omega, by go_num, by rw [HSTEP.out]; simp, HL6⟩
              case measure => simp [intOf]; omega
            | true =>
              go_wp2_with (first
                | (go_at_call 16; refine HC2.out.mono ?_; rintro _ w6 ⟨rfl, _, hl6⟩; have HL6 := hide (HL5.out.trans (hl6.mono HL5.out.size)); clear hl6)
                | (go_at_call 16; refine HC1.out.mono ?_; rintro _ w5 ⟨rfl, _, hl5⟩; have HL5 := hide (HLq.out.trans (hl5.mono HLq.out.size)); have hc2 := safe_any A3 n c3 Lf (some ⟨g7, 0, none⟩) 8 (roomsL (kk : Int) ((m : Int) - (kk : Int) - 1)) (e : Int) w5.heap.size w5 ((HO4.out.later HLq.out).later hl5).in_ (Reads.of_own (own_later (own_later HR7.out HLq.out) hl5)) (Nat.le_refl _) (by omega) (six_n HSIX.out) (by show 8 ≤ 1000000; decide); rw [← HS2.out, show (roomsL (kk : Int) ((m : Int) - (kk : Int) - 1)).length = 8 from rfl] at hc2; have HC2 := hide hc2; clear hl5 hc2))
              go_roundw
              case rel => exact ⟨e + 1, by omega, by go_num, by rw [HSTEP.out]; simp, HL6⟩
              case measure => simp [intOf]; omega
          · have hd1 : decide (kk < m) = false := decide_eq_false hkm1
            rw [hd1, Bool.false_and, Bool.or_false] at HSTEP
            go_wp2_with (first
              | (go_at_call 16; refine HC1.out.mono ?_; rintro _ w5 ⟨rfl, _, hl5⟩; have HL5 := hide (HLq.out.trans (hl5.mono HLq.out.size)); have hc2 := safe_any A3 n c3 Lf (some ⟨g7, 0, none⟩) 8 (roomsL (kk : Int) ((m : Int) - (kk : Int) - 1)) (e : Int) w5.heap.size w5 ((HO4.out.later HLq.out).later hl5).in_ (Reads.of_own (own_later (own_later HR7.out HLq.out) hl5)) (Nat.le_refl _) (by omega) (six_n HSIX.out) (by show 8 ≤ 1000000; decide); rw [← HS2.out, show (roomsL (kk : Int) ((m : Int) - (kk : Int) - 1)).length = 8 from rfl] at hc2; have HC2 := hide hc2; clear hl5 hc2))
            go_roundw
            case rel => exact ⟨e + 1, by omega, by go_num, by rw [HSTEP.out], HL5⟩
            case measure => simp [intOf]; omega
        · obtain rfl : e = 6 := by omega
          have HLz := hide (HL4.out.trans (HLq.out.mono HL4.out.size))
          by_cases hm0 : m = 0
          · have h0 : ((m : Int) == 0) = true := by simp [hm0]
            clear hm0 hb
            go_wp2
            go_ret
            exact ⟨rfl, HLz.out⟩
          · have h0 : ((m : Int) == 0) = false := by simp [hm0]
            have h0' : (m == 0) = false := by simp [hm0]
            by_cases hkm1 : kk = m
            · subst hkm1
              clear hm0 hb
              go_wp2
              go_ret
              exact ⟨rfl, HLz.out⟩
            · have h1 : ((kk : Int) == (m : Int)) = false := by simp; omega
              have h1' : (kk == m) = false := by simp; omega
              have hs : (List.range 6).any P = true := by
                obtain ⟨d, hd, hsd⟩ := spares_less (fun g hg => (HSIX.out g hg).1) HMX.out (show kk < m by omega)
                rw [List.any_eq_true]
                refine ⟨d, List.mem_range.2 hd, ?_⟩
                rw [HP.out]
                show (decide (kk < m) && !safeB (roomsL (kk : Int) ((m : Int) - (kk : Int) - 1)) Lf (d : Int)) = true
                rw [hsd, decide_eq_true (show kk < m by omega)]
                rfl
              rw [hs]
              clear hm0 hb hkm1 hs
              go_wp2
              go_ret
              exact ⟨rfl, HLz.out⟩
/-! The row's frame, by program: how the walk above proves the statement. -/
set_option maxRecDepth 100000 in
theorem lifted (os : Os) (started : os.Started) (H : Type) (enc : TypeId × Value → H) :
    ReturnsInHanded {} Try.checked os 9 .any (Rows.groupSparesSpec.pre6 enc Try.prog Try.f9 Rows.groupSparesRow.domain false) (Rows.groupSparesSpec.post enc Try.prog Try.f9 false true false false) := by
  refine returnsInHanded_of_change (C := Try.checked) own started (by kernel_rfl) Try.func9
    (ChangeSpec.witness6 (enc := enc) (C := Try.checked) false ⟨#[], #[.slice none 0 0, .int .i64 0], []⟩ 8 (by kernel_rfl) (by kernel_rfl) (by kernel_rfl) (by kernel_rfl)) ?_
  intro W base args ds gs before hval0 hW hcnd _
  have hval : ∀ (j : Nat) t v, Try.f9.params[j]? = some t → args[j]? = some v → Value.okWide Try.prog W .any base t v := hval0
  have hW' := hW
  obtain ⟨p, q, hA0, hV, rfl, hfz, hnd⟩ := hW
  have hA : DataW.TrodAll enc Try.prog W 0 (fun _ => true) true Try.f9.params.toList args.toList ds p := hA0
  rw [Try.params9] at hA hval
  obtain ⟨v0, vs0, d0, ds0, p0, q0, hargs, rfl, rfl, h0, r0⟩ := trodAll_cons hA
  obtain ⟨v1, vs1, d1, ds1, p1, q1, rfl, rfl, rfl, h1, r1⟩ := trodAll_cons r0
  obtain ⟨rfl, rfl, rfl⟩ := trodAll_nil r1
  obtain rfl : args = #[v0, v1] := by cases args; simp_all
  obtain ⟨rfl, rfl⟩ := trodVars_none hV
  obtain ⟨A0, n0, c0, rfl⟩ := okWide_slice Try.underlying28 (hval 0 28 v0 rfl rfl)
  have k0 := h0
  have lt0 : ∀ x ∈ p0, x.block < W.heap.size := by obtain ⟨m, hm⟩ := k0; exact DataW.trod_lt m _ _ _ hm
  obtain ⟨l0, x0⟩ := arg_groups h0
  obtain ⟨a1, rfl, rfl, rfl, w1⟩ := open_int Try.underlying3 (hval 1 3 v1 rfl rfl) h1
  have b1 := bounds_i64 w1
  clear hA0 hval0
  refine (walk A0 n0 c0 l0 a1 W x0 b1.1 b1.2).mono fun e W' ⟨he, bel⟩ => ?_
  subst he
  exact ⟨_, rfl, _, _, _, [], _, [], hW', trodAll_mk1 (shut_bool Try.underlying4 _), (trodAll_cons_mk (Below.trod laidOut (by kernel_rfl) (of_decide_eq_true (by kernel_rfl)) k0 bel lt0) (trodAll_cons_mk (shut_int Try.underlying3 w1) trodAll_mk0)), rfl, bel.frame _, fun h => by cases h⟩

theorem over : Rows.groupSparesRow.holds Try.pinned (OpenSpec.ofChange Rows.groupSparesSpec) :=
  OpenClaim.holds_of_wide 9 Try.f9 rfl rfl rfl rfl rfl rfl rfl ⟨rfl, rfl, rfl, rfl, rfl⟩ rfl rfl rfl rfl rfl (by kernel_rfl) Try.func9 (by kernel_rfl)
    (of_decide_eq_true (by kernel_rfl)) (by unfold Func.isWrapper; first | (rw [if_pos (by decide +kernel)]; kernel_rfl) | (rw [if_neg (by decide +kernel)]; exact ⟨rfl, rfl⟩))
    (fun os started H enc _ => lifted os started H enc)

/-- The statement. -/
theorem proved : Rows.GroupSparesSaid := over
#print axioms proved
end Go.Proofs.Ytmaiikmgpeafkaa.GroupSpares
