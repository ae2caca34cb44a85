/- The law's few. -/
import Derived.Test.YtmaiikmgpeafkaaLawE
namespace Go.Proofs.Ytmaiikmgpeafkaa
open Go.RowKit
set_option maxRecDepth 100000 in
set_option maxHeartbeats 16000000 in
theorem few_any (A : Option Addr) (n c : Nat) (L : List GrV) (B0 : Nat) (w : World) (hr : GsIn w B0 A n c L) (hB0 : B0 ≤ w.heap.size) :
    Calls Try.prog 14 #[.slice A n c] w fun e w' => ∃ v Lf, e = .returned v ∧ GsOwn w' w.heap.size v Lf ∧ Lf.map GrV.dat = (L.take 16).map fewD ∧ Below w.heap.size w w' := by
  obtain ⟨i0, hi0, hz0, hz1, hz2⟩ := info_parts ext_parts
  have HI := hide (And.intro hi0 (And.intro hz0 (And.intro hz1 hz2)))
  obtain ⟨i1, hj0, hy0, hy1, hy2⟩ := info_parts grp_parts
  have HJ := hide (And.intro hj0 (And.intro hy0 (And.intro hy1 hy2)))
  have HR := hide hr
  have HL := hide hr.len
  have hnc := hr.le
  have hcm := hr.cap
  clear hr hi0 hz0 hz1 hz2 hj0 hy0 hy1 hy2
  go_enter Try.func14, Try.ntmps14
  go_wp2
  have hl1 : Below w.heap.size w (w.alloc (.cells #[] 36)) := (Below.refl _ _).alloc (Nat.le_refl _) _
  have hrow : (w.alloc (.cells #[] 36)).ownsRow w.heap.size 36 3 (.slice (some ⟨w.heap.size, 0, none⟩) 0 0) 0 (grL []) := World.ownsRow_made w #[] 0 (Nat.le_refl _) (Nat.zero_le _) rfl
  obtain ⟨w1, hw1⟩ : ∃ w1, w1 = w.alloc (.cells #[] 36) := ⟨_, rfl⟩
  rw [← hw1] at hl1 hrow ⊢
  have H1 : Hid (∃ Lf, Lf.length = 0 ∧ GsOwn w1 w.heap.size (.slice (some ⟨w.heap.size, 0, none⟩) 0 0) Lf ∧ Lf.map GrV.dat = (L.take 0).map fewD) := hide ⟨[], rfl, ⟨hrow, fun g hg => absurd hg List.not_mem_nil, List.Pairwise.nil⟩, rfl⟩
  have HL1 := hide hl1
  clear hw1 hrow hl1
  go_loopw [3, 4] (fun s3 i wr => ∃ k : Nat, k ≤ n ∧ k ≤ 16 ∧ i = .int .i64 k ∧ Hid (∃ Lf, Lf.length = k ∧ GsOwn wr w.heap.size s3 Lf ∧ Lf.map GrV.dat = (L.take k).map fewD) ∧ Hid (Below w.heap.size w wr)) (fun _ i _ => n - (intOf i).toNat)
  case atStart => exact ⟨0, Nat.zero_le _, Nat.zero_le _, rfl, H1, HL1⟩
  case round =>
    clear H1 HL1
    obtain ⟨k, hk, hk16, rfl, HS, HB⟩ := hrel
    have hzr := HB.out.size
    obtain ⟨wy, hwy⟩ : ∃ x : World, x = wr := ⟨_, rfl⟩
    subst hwy
    by_cases hkn : k < n
    · by_cases hk16' : k < 16
      · obtain ⟨Lf, hLf, hown, hdat⟩ := HS.out
        have HLF := hide hLf
        clear hLf
        obtain ⟨ad, g, rfl, hab, hg, hgi, c0, c1, c2⟩ := (HR.out.below (HB.out.mono hB0)).heads hkn
        have hin : ∀ o : Obj, GsIn (wy.alloc o) B0 (some ad) n c L := fun o => HR.out.below ((HB.out.mono hB0).alloc (Nat.le_trans hB0 hzr) o)
        have c0a : wy.drew.cell? (ad.add (k * 3)) = some (.int .i64 g.id) := c0
        have c1a : wy.drew.cell? ⟨(ad.add (k * 3)).block, (ad.add (k * 3)).off + 1, none⟩ = some (.int .i64 g.kind) := c1
        have hfar : ∀ (o : Obj) (p : Addr), p.block = ad.block → (wy.alloc o).drew.cell? p = wy.cell? p := fun o p hp => World.cell?_alloc_lt wy o p (by rw [hp]; omega)
        have c0b : (wy.alloc (.cells #[.int .i64 0, .int .i64 0, .slice none 0 0] 36)).drew.cell? (ad.add (k * 3)) = some (.int .i64 g.id) := (hfar _ _ (by rw [block_of_add])).trans c0
        have c1b : (wy.alloc (.cells #[.int .i64 0, .int .i64 0, .slice none 0 0] 36)).drew.cell? ⟨(ad.add (k * 3)).block, (ad.add (k * 3)).off + 1, none⟩ = some (.int .i64 g.kind) := (hfar _ _ (by show (ad.add (k * 3)).block = _; rw [block_of_add])).trans c1
        have hbt := grp_built g.id g.kind
        have HFAR := hide hfar
        have HIN := hide hin
        have HG := hide hg
        have HGI := hide hgi
        have HOWN := hide hown
        have HDAT := hide hdat
        have HC2 := hide c2
        clear hown hdat hg hgi hin hfar c0 c1 c2
        go_wp2
        go_region
        obtain ⟨w2, hw2⟩ : ∃ w2, w2 = (wy.alloc (.cells #[.int .i64 g.id, .int .i64 g.kind, .slice none 0 0] 36)).drew := ⟨_, rfl⟩
        have hB2 : Blk w2 wy.heap.size 36 #[.int .i64 g.id, .int .i64 g.kind, .slice none 0 0] := by rw [hw2]; exact (Blk.new wy _ _).drew
        have hl2 : Below wy.heap.size wy w2 := by rw [hw2]; exact ((Below.refl _ _).alloc (Nat.le_refl _) _).drew
        rw [← hw2]
        have HB2 := hide hB2
        have HL2 := hide hl2
        clear hw2 hB2 hl2 hbt
        go_wp2
        obtain ⟨b5, hb5⟩ : ∃ b, b = wy.heap.size := ⟨_, rfl⟩
        rw [← hb5] at HB2 ⊢
        have HBE := hide hb5
        clear hb5
        simp only [show decide ((k : Int) < 16) = true from decide_eq_true (by omega)]
        go_loopw [6] (fun i wr => ∃ (j : Nat) (A1 : Option Addr) (c1 : Nat), j ≤ g.n ∧ j ≤ 6 ∧ i = .int .i64 j ∧ Hid (Blk wr b5 36 #[.int .i64 g.id, .int .i64 g.kind, .slice A1 j c1]) ∧ Hid (wr.ownsRow wy.heap.size 38 2 (.slice A1 j c1) j (exL ((g.ex.take j).map fewX))) ∧ Hid (Below wy.heap.size wy wr)) (fun i _ => 6 - (intOf i).toNat)
        case atStart => exact ⟨0, none, 0, Nat.zero_le _, Nat.zero_le _, rfl, HB2, hide (World.ownsRow_nil _ _ _ _), HL2⟩
        case round =>
          clear HB2 HL2
          obtain ⟨j, A1, c1, hj, hj6, rfl, HB5, HO, HL4⟩ := hrel
          have hzq := HL4.out.size
          obtain ⟨wq, hwq⟩ : ∃ x : World, x = wr := ⟨_, rfl⟩
          subst hwq
          have hbq : Below w.heap.size w wq := HB.out.trans (HL4.out.mono hzr)
          have c2q : wq.cell? ⟨(ad.add (k * 3)).block, (ad.add (k * 3)).off + 2, none⟩ = some (.slice g.A g.n g.c) := (HL4.out.cell (p := ⟨(ad.add (k * 3)).block, (ad.add (k * 3)).off + 2, none⟩) (by show (ad.add (k * 3)).block < _; rw [block_of_add]; omega)).trans HC2.out
          by_cases hjn : j < g.n
          · by_cases hj6' : j < 6
            · obtain ⟨ae, x, hA, hab2, hx, e0, e1⟩ := ExIn.both (HGI.out.below (HL4.out.mono (Nat.le_trans hB0 hzr))) hjn
              rw [hA] at c2q
              obtain ⟨M, N, hM, hN, hmn, hN9⟩ := m9_bits x.1
              obtain ⟨x1, hx1⟩ : ∃ y, y = x.1 := ⟨_, rfl⟩
              obtain ⟨x2, hx2⟩ : ∃ y, y = x.2 := ⟨_, rfl⟩
              have hfx : fewX x = ((N : Int), x2) := by rw [fewX, hmn, hx2]
              have HFM := hide (show (g.ex.take (j + 1)).map fewX = (g.ex.take j).map fewX ++ [((N : Int), x2)] by rw [fewX_more hx, hfx])
              rw [← hx1] at hM e0
              rw [← hx2] at e1
              have c2d : wq.drew.cell? ⟨(ad.add (k * 3)).block, (ad.add (k * 3)).off + 2, none⟩ = some (.slice (some ae) g.n g.c) := c2q
              have e0d : wq.drew.cell? (ae.add (j * 2)) = some (.int .i64 x1) := e0
              have e1d : wq.drew.cell? ⟨(ae.add (j * 2)).block, (ae.add (j * 2)).off + 1, none⟩ = some (.int .i64 x2) := e1
              have hbt := ex_built2 (N : Int) x2
              obtain ⟨wa, hwa⟩ : ∃ wa, wa = (wq.alloc (.cells #[.int .i64 (N : Int), .int .i64 x2] 38)).drew := ⟨_, rfl⟩
              have hga : wq.grownBy wa none := by rw [hwa]; exact grown_drew (World.grownBy_alloc _ _ _)
              have hrowa : wa.ownsRow wy.heap.size 38 2 (.slice A1 j c1) j (exL ((g.ex.take j).map fewX)) := HO.out.kept hga (by cases (Value.slice A1 j c1).ownBlock <;> simp)
              have hza := hga.size
              obtain ⟨v', wb, hrun, hown, hgb, hvb⟩ := run_append_any (P := Try.prog) wa wy.heap.size 34 34 38 i0 _ 2 16 Try.underlying34 HI.out.1 HI.out.2.1 HI.out.2.2.1 HI.out.2.2.2 rfl (by decide) _ _ _ hrowa (wq.heap.size + 1) (some ⟨wq.heap.size, 0, none⟩) 1 1 (exC ((N : Int), x2)) (by rw [hwa]; exact (ex_reads wq _ ((N : Int), x2) (by omega)).drew) (exC_one _) (by simp only [maxLen]; omega) (by omega) (by omega)
              have hB5b : Blk wb b5 36 #[.int .i64 g.id, .int .i64 g.kind, .slice A1 j c1] := (HB5.out.grown hga (by simp)).grown hgb (fun e => blk_kind_ne HO.out HB5.out (by decide) e.symm)
              have c1a : wq.drew.cell? ⟨b5, 2, none⟩ = some (.slice A1 j c1) := HB5.out.drew.cell 2
              have c1b : (wq.alloc (.cells #[.int .i64 (N : Int), .int .i64 x2] 38)).drew.cell? ⟨b5, 2, none⟩ = some (.slice A1 j c1) := (HB5.out.alloc _).drew.cell 2
              have c1c : wb.cell? ⟨b5, 2, none⟩ = some (.slice A1 j c1) := hB5b.cell 2
              have f1c : wb.frozen? ⟨b5, 2, none⟩ = false := hB5b.frozen 2
              have hlb : Below wy.heap.size wy wb := ((HL4.out.alloc hzq _).drew).grown (by rw [← hwa]; exact hgb) (by rw [← hwa]; omega) (fun g e => (HO.out.lt g e).1)
              obtain ⟨A2, c2, hv', _, _⟩ := own_shape hown
              have HOWN2 := hide hown
              have HB5B := hide hB5b
              have HLB := hide hlb
              have hgs : wb.grownBy (wb.setCell ⟨b5, 2, none⟩ v') (some b5) := grown_set (grown_refl wb _) ⟨b5, 2, none⟩ rfl _
              have q1 : Blk (wb.setCell ⟨b5, 2, none⟩ v') b5 36 #[.int .i64 g.id, .int .i64 g.kind, v'] := by
                have h := hB5b.set_ 2 v'
                simpa using h
              have q2 : (wb.setCell ⟨b5, 2, none⟩ v').ownsRow wy.heap.size 38 2 v' (j + 1) (exL ((g.ex.take (j + 1)).map fewX)) := by
                rw [HFM.out, exL_append, exL_one]
                refine hown.kept hgs ?_
                cases hob : v'.ownBlock with
                | none => exact .inl rfl
                | some y => exact .inr (fun e => blk_kind_ne hown hB5b (by decide) (hob.trans e))
              have q3 : Below wy.heap.size wy (wb.setCell ⟨b5, 2, none⟩ v') := hlb.grown hgs (by have := hlb.size; exact this) (fun y e => by injection e with e; rw [HBE.out] at e; omega)
              subst hv'
              have Q1 := hide q1
              have Q2 := hide q2
              have Q3 := hide q3
              rw [hwa] at hrun
              clear q1 q2 q3 hgs HOWN2 HB5B HLB HFM
              clear hown hB5b hlb hgb hvb hrowa hga hza hwa hbq hx1 hx2 hfx hmn hA hab2 hx e0 e1
              go_wp2
              have HQ := hide (And.intro Q1.out (And.intro Q2.out Q3.out))
              clear Q1 Q2 Q3 HB HL4 HO HB5 HGI HG HOWN HDAT HC2 HFAR HIN HLF HBE HS HL HR HI HJ
              refine wp_region_as (fun a => ((((((((((((((((((((((((((a.put (some 43) (.pointer (some ⟨b5, 2, none⟩))).put (some 44) (.slice A1 j c1)).put (some 45) (.slice (some ad) n c)).put (some 46) (.int .i64 (k : Int))).put (some 47) (.pointer (some (ad.add (k * 3))))).put (some 48) (.pointer (some ⟨(ad.add (k * 3)).block, (ad.add (k * 3)).off + 2, none⟩))).put (some 49) (.slice (some ae) g.n g.c)).put (some 50) (.int .i64 (j : Int))).put (some 51) (.pointer (some (ae.add (j * 2))))).put (some 52) (.pointer (some (ae.add (j * 2))))).put (some 53) (.int .i64 x1)).put (some 54) (.int .i64 (M : Int))).put (some 55) (.int .i64 (N : Int))).put (some 56) (.slice (some ad) n c)).put (some 57) (.int .i64 (k : Int))).put (some 58) (.pointer (some (ad.add (k * 3))))).put (some 59) (.pointer (some ⟨(ad.add (k * 3)).block, (ad.add (k * 3)).off + 2, none⟩))).put (some 60) (.slice (some ae) g.n g.c)).put (some 61) (.int .i64 (j : Int))).put (some 62) (.pointer (some (ae.add (j * 2))))).put (some 63) (.pointer (some ⟨(ae.add (j * 2)).block, (ae.add (j * 2)).off + 1, none⟩))).put (some 64) (.int .i64 x2)).put (some 65) (.agg #[.int .i64 (N : Int), .int .i64 x2])).put (some 66) (.slice (some ⟨wq.heap.size, 0, none⟩) 1 1)).put (some 67) (.slice A2 (j + 1) c2)).put (some 68) (.pointer (some ⟨b5, 2, none⟩)))) (wb.setCell ⟨b5, 2, none⟩ (.slice A2 (j + 1) c2)) ?first ?rest
              case first =>
                go_region_law (first
                  | (refine step_known rfl (.tmp 44) (.tmp 66) 34 rfl (.slice A1 j c1) (.slice (some ⟨wq.heap.size, 0, none⟩) 1 1) (by simp [Act.eval]) (by simp [Act.eval]) _ wb hrun ?_))
                all_goals exact ⟨by simp [Act.put] <;> omega, rfl⟩
              case rest =>
                go_wp2
                go_roundw
                case rel => exact ⟨j + 1, A2, c2, by omega, by omega, by go_num, hide HQ.out.1, hide HQ.out.2.1, hide HQ.out.2.2⟩
                case measure => simp [intOf]; omega
            · obtain rfl : j = 6 := by omega
              have HFE := hide (fewX_end (l := g.ex) (k := 6) (.inr rfl))
              obtain ⟨g2, hg2⟩ : ∃ g2 : GrV, g2 = ⟨g.id, g.kind, A1, 6, c1, (g.ex.take 6).map fewX⟩ := ⟨_, rfl⟩
              obtain ⟨A3, c3, hv3, _, _⟩ := own_shape HOWN.out.row
              rw [HLF.out] at hv3
              subst hv3
              have HFD := hide (show (Lf ++ [g2]).map GrV.dat = (L.take (k + 1)).map fewD by
                rw [fewD_more HG.out, List.map_append, HDAT.out, hg2]
                simp [GrV.dat, fewD])
              have HXO : Hid (ExOwn wq wy.heap.size g2) := hide (by rw [hg2]; exact HO.out)
              have HC := hide (show grC g2 = [.int .i64 g.id, .int .i64 g.kind, .slice A1 6 c1] by rw [hg2]; rfl)
              have hlo := own_later HOWN.out.row HL4.out
              rw [HLF.out] at hlo
              have HLO := hide hlo
              have HKK : Hid (k + 1 ≤ maxLen ∧ (k + 1) * 40 ≤ 140737488355328) := hide ⟨by simp only [maxLen]; omega, by omega⟩
              have hze : w.heap.size ≤ wq.heap.size := Nat.le_trans hzr hzq
              clear hg2 hlo
              go_wp2_with (first
                | ((with_reducible refine at_slot 70 ?_); refine wpList_load_blk rfl 36 (.tmp 5) rfl b5 0 36 _ HB5.out rfl [.int .i64 g.id, .int .i64 g.kind, .slice A1 6 c1] _ (fun j v hv => (by rw [Nat.zero_add]; simpa using hv)) Try.underlying36 rfl grp_info ?_)
                | ((with_reducible refine at_slot 72 ?_); refine wpList_append_two _ rfl (.tmp 69) (.tmp 71) _ rfl w.heap.size 36 i1 _ 3 40 Try.underlying28 HJ.out.1 HJ.out.2.1 HJ.out.2.2.1 HJ.out.2.2.2 rfl (by decide) _ k _ rfl (HLO.out.alloc _) (wq.heap.size + 1) (some ⟨wq.heap.size, 0, none⟩) 1 1 (grC g2) rfl (by have h := grp_reads wq (wq.heap.size + 1) g2 (by omega); rw [HC.out] at h ⊢; exact h) (grC_one _) HKK.out.1 HKK.out.2 (le_alloc (by omega) _) ?_; intro v7 w7 hown7 hg7 hb7; have hz7 := hg7.size; rw [World.size_alloc] at hz7; have H7 := hide hown7; have HG7 := hide hg7; clear hown7 hg7 hb7))
              have HS2 : Hid (∃ Lf, Lf.length = k + 1 ∧ GsOwn w7 w.heap.size v7 Lf ∧ Lf.map GrV.dat = (L.take (k + 1)).map fewD) := hide ⟨Lf ++ [g2], by simp [HLF.out], HOWN.out.more HL4.out HXO.out hzr (by have h := H7.out; rw [← HLF.out] at h; exact h) HG7.out, HFD.out⟩
              have HB7 : Hid (Below w.heap.size w w7) := hide (((HB.out.trans (HL4.out.mono hzr)).alloc hze _).grown HG7.out (by rw [World.size_alloc]; omega) (fun g e => (HLO.out.lt g e).1))
              clear hz7
              go_roundw
              case rel => exact ⟨k + 1, by omega, by omega, by go_num, HS2, HB7⟩
              case measure => simp [intOf]; omega
          · obtain rfl : j = g.n := by omega
            have HFE := hide (fewX_end (l := g.ex) (k := g.n) (.inl ⟨hj6, (ExIn.len HGI.out).symm⟩))
            obtain ⟨g2, hg2⟩ : ∃ g2 : GrV, g2 = ⟨g.id, g.kind, A1, g.n, c1, (g.ex.take g.n).map fewX⟩ := ⟨_, rfl⟩
            obtain ⟨A3, c3, hv3, _, _⟩ := own_shape HOWN.out.row
            rw [HLF.out] at hv3
            subst hv3
            have HFD := hide (show (Lf ++ [g2]).map GrV.dat = (L.take (k + 1)).map fewD by
              rw [fewD_more HG.out, List.map_append, HDAT.out, hg2]
              simp [GrV.dat, fewD, HFE.out])
            have HXO : Hid (ExOwn wq wy.heap.size g2) := hide (by rw [hg2]; exact HO.out)
            have HC := hide (show grC g2 = [.int .i64 g.id, .int .i64 g.kind, .slice A1 g.n c1] by rw [hg2]; rfl)
            have hlo := own_later HOWN.out.row HL4.out
            rw [HLF.out] at hlo
            have HLO := hide hlo
            have HKK : Hid (k + 1 ≤ maxLen ∧ (k + 1) * 40 ≤ 140737488355328) := hide ⟨by simp only [maxLen]; omega, by omega⟩
            have hze : w.heap.size ≤ wq.heap.size := Nat.le_trans hzr hzq
            clear hg2 hlo
            go_wp2_with (first
              | ((with_reducible refine at_slot 70 ?_); refine wpList_load_blk rfl 36 (.tmp 5) rfl b5 0 36 _ HB5.out rfl [.int .i64 g.id, .int .i64 g.kind, .slice A1 g.n c1] _ (fun j v hv => (by rw [Nat.zero_add]; simpa using hv)) Try.underlying36 rfl grp_info ?_)
              | ((with_reducible refine at_slot 72 ?_); refine wpList_append_two _ rfl (.tmp 69) (.tmp 71) _ rfl w.heap.size 36 i1 _ 3 40 Try.underlying28 HJ.out.1 HJ.out.2.1 HJ.out.2.2.1 HJ.out.2.2.2 rfl (by decide) _ k _ rfl (HLO.out.alloc _) (wq.heap.size + 1) (some ⟨wq.heap.size, 0, none⟩) 1 1 (grC g2) rfl (by have h := grp_reads wq (wq.heap.size + 1) g2 (by omega); rw [HC.out] at h ⊢; exact h) (grC_one _) HKK.out.1 HKK.out.2 (le_alloc (by omega) _) ?_; intro v7 w7 hown7 hg7 hb7; have hz7 := hg7.size; rw [World.size_alloc] at hz7; have H7 := hide hown7; have HG7 := hide hg7; clear hown7 hg7 hb7))
            have HS2 : Hid (∃ Lf, Lf.length = k + 1 ∧ GsOwn w7 w.heap.size v7 Lf ∧ Lf.map GrV.dat = (L.take (k + 1)).map fewD) := hide ⟨Lf ++ [g2], by simp [HLF.out], HOWN.out.more HL4.out HXO.out hzr (by have h := H7.out; rw [← HLF.out] at h; exact h) HG7.out, HFD.out⟩
            have HB7 : Hid (Below w.heap.size w w7) := hide (((HB.out.trans (HL4.out.mono hzr)).alloc hze _).grown HG7.out (by rw [World.size_alloc]; omega) (fun g e => (HLO.out.lt g e).1))
            clear hz7
            go_roundw
            case rel => exact ⟨k + 1, by omega, by omega, by go_num, HS2, HB7⟩
            case measure => simp [intOf]; omega
      · obtain rfl : k = 16 := by omega
        obtain ⟨Lf, hLf, hown, hdat⟩ := HS.out
        have HOWN := hide hown
        have HDAT := hide hdat
        clear hown hdat
        go_wp2
        go_ret
        exact ⟨_, Lf, rfl, HOWN.out, HDAT.out, HB.out⟩
    · obtain rfl : k = n := by omega
      obtain ⟨Lf, hLf, hown, hdat⟩ := HS.out
      rw [fewD_end (.inl ⟨hk16, HL.out.symm⟩)] at hdat
      have HOWN := hide hown
      have HDAT := hide hdat
      clear hown hdat
      go_wp2
      go_ret
      exact ⟨_, Lf, rfl, HOWN.out, HDAT.out, HB.out⟩
#print axioms few_any
end Go.Proofs.Ytmaiikmgpeafkaa
