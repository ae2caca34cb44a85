/- The small case that each law of quorum begins with: it works. -/
import Derived.Test.YtjdfeidakmkchaaChoose
import Derived.Test.YtjdfeidakmkchaaLostF
import Derived.Test.YtjdfeidakmkchaaCut5
namespace Go.Proofs.Ytjdfeidakmkchaa
open Go.RowKit

def L5 : Lab := ⟨9, 5, 0, 16, [(0, 200, 0), (1, 300, 0), (2, 160, 1)]⟩
theorem three_right0 : rightB (threeL 4 0) = true := by decide +kernel
theorem three_right1 : rightB (threeL 4 1) = true := by decide +kernel
theorem two_rights : rightsL [threeL 4 0, threeL 4 1] = [threeL 4 0, threeL 4 1] := by simp [rightsL, three_right0, three_right1]
theorem one_rights : rightsL [threeL 4 0] = [threeL 4 0] := by simp [rightsL, three_right0]
theorem two_chosenE : chosenE [threeL 4 0, threeL 4 1] = 0 := by rw [chosenE, two_rights]; decide +kernel
theorem one_chosenE : chosenE [threeL 4 0] = 5 := by rw [chosenE, one_rights]; decide +kernel
theorem two_chosenL : chosenL [threeL 4 0, threeL 4 1] = threeL 4 0 := by rw [chosenL, two_chosenE, two_rights]; rfl
theorem two_chosenM : chosenM [threeL 4 0, threeL 4 1] = [2] := by rw [chosenM, two_chosenE, two_rights]; decide +kernel
theorem three_lostE : lostE (threeL 4 0) 2 = 0 := by decide +kernel
theorem three_lostL : lostL (threeL 4 0) 2 = L5 := by rw [lostL, three_lostE]; rfl
theorem three_lit (gen member : Int) (w : World) :
    Calls Try.prog 14 #[.int .i64 gen, .int .i64 member] w fun e w' => (∃ A c, e = .returned (.agg #[.int .i64 9, .int .i64 gen, .int .i64 member, .int .i64 16, .slice A 3 c]) ∧ Gave (threeL gen member) w w' A 3 c) ∧ Below w.heap.size w w' := three_any gen member w
theorem labs_new {w : World} {L : List LabV} (h : ∀ x ∈ L, LvIn w w.heap.size x) (hn : L.length ≤ 100) : LbIn (w.alloc (.cells (lvL L).toArray 24)) (w.heap.size + 1) (some ⟨w.heap.size, 0, none⟩) L.length L.length L :=
  ⟨Reads.fresh w (lvL L) 24 (w.heap.size + 1) 5 L.length (by omega) (lvL_length L), Nat.le_refl _, by omega, fun x hx => ((h x hx).below ((Below.refl _ _).alloc (Nat.le_refl _) _)).more (by omega)⟩
theorem choose_two (A1 A2 : Option Addr) (c1 c2 : Nat) (w : World) (h1 : MbIn w w.heap.size A1 3 c1 (threeL 4 0).members) (h2 : MbIn w w.heap.size A2 3 c2 (threeL 4 1).members) :
    Calls Try.prog 12 #[.slice (some ⟨w.heap.size, 0, none⟩) 2 2] (w.alloc (.cells #[.int .i64 9, .int .i64 4, .int .i64 0, .int .i64 16, .slice A1 3 c1, .int .i64 9, .int .i64 4, .int .i64 1, .int .i64 16, .slice A2 3 c2] 24)) fun e w' =>
      (∃ A n c ad d, e = .returned (.tuple #[.agg #[.int .i64 9, .int .i64 4, .int .i64 0, .int .i64 16, .slice A n c], .slice (some ad) 1 d, .int .i64 0]) ∧ ad.block < w'.heap.size ∧ w'.cell? ad = some (.int .i64 2)) ∧ Below w.heap.size w w' := by
  have hl := labs_new (w := w) (L := [(threeL 4 0, A1, 3, c1), (threeL 4 1, A2, 3, c2)]) (by
    intro x hx
    simp at hx
    rcases hx with rfl | rfl
    · exact h1
    · exact h2) (by simp)
  refine (choose_any (some ⟨w.heap.size, 0, none⟩) 2 2 _ _ _ hl (by rw [World.size_alloc]; omega) (by decide)).mono ?_
  rintro e w' ⟨⟨A, n, c, M, m, d, he, _, hM, _, _⟩, hb⟩
  have hb2 : Below w.heap.size w w' := ((Below.refl w.heap.size w).alloc (Nat.le_refl _) _).trans (hb.mono (by rw [World.size_alloc]; omega))
  change e = .returned (.tuple #[labV (chosenL [threeL 4 0, threeL 4 1]) A n c, .slice M m d, .int .i64 (chosenE [threeL 4 0, threeL 4 1])]) at he
  change Reads w' w'.heap.size 1 M m (I64 (chosenM [threeL 4 0, threeL 4 1])) at hM
  rw [two_chosenL, two_chosenE] at he
  rw [two_chosenM] at hM
  have hm : m = 1 := by have := hM.1; simp [I64] at this; omega
  subst hm
  obtain ⟨ad, rfl, hlt, hc⟩ := hM.2 (by omega)
  have h0 := hc 0 (.int .i64 2) rfl
  have e0 : ad.add 0 = ad := by unfold Addr.add; split <;> simp_all
  rw [e0] at h0
  exact ⟨⟨A, n, c, ad, d, he, hlt, h0⟩, hb2⟩
theorem choose_one (A1 : Option Addr) (c1 : Nat) (w : World) (h1 : MbIn w w.heap.size A1 3 c1 (threeL 4 0).members) :
    Calls Try.prog 12 #[.slice (some ⟨w.heap.size, 0, none⟩) 1 1] (w.alloc (.cells #[.int .i64 9, .int .i64 4, .int .i64 0, .int .i64 16, .slice A1 3 c1] 24)) fun e w' =>
      (∃ A n c M m d, e = .returned (.tuple #[.agg (labC Lab.none_ A n c).toArray, .slice M m d, .int .i64 5])) ∧ Below w.heap.size w w' := by
  have hl := labs_new (w := w) (L := [(threeL 4 0, A1, 3, c1)]) (by
    intro x hx
    simp at hx
    subst hx
    exact h1) (by simp)
  refine (choose_any (some ⟨w.heap.size, 0, none⟩) 1 1 _ _ _ hl (by rw [World.size_alloc]; omega) (by decide)).mono ?_
  rintro e w' ⟨⟨A, n, c, M, m, d, he, hG, _⟩, hb⟩
  have hb2 : Below w.heap.size w w' := ((Below.refl w.heap.size w).alloc (Nat.le_refl _) _).trans (hb.mono (by rw [World.size_alloc]; omega))
  change e = .returned (.tuple #[labV (chosenL [threeL 4 0]) A n c, .slice M m d, .int .i64 (chosenE [threeL 4 0])]) at he
  have h5 : chosenL [threeL 4 0] = Lab.none_ := by rw [chosenL, one_chosenE]; rfl
  rw [h5, one_chosenE] at he
  exact ⟨⟨A, n, c, M, m, d, he⟩, hb2⟩
theorem lost_three (A : Option Addr) (c : Nat) (w : World) (h : MbIn w w.heap.size A 3 c (threeL 4 0).members) :
    Calls Try.prog 11 #[.agg #[.int .i64 9, .int .i64 4, .int .i64 0, .int .i64 16, .slice A 3 c], .int .i64 2] w fun e w' =>
      (∃ ad d, e = .returned (.tuple #[.agg (labC L5 (some ad) 3 d).toArray, .int .i64 0]) ∧ ad.block < w'.heap.size ∧ w'.cell? ((ad.add (2 * 3)).add 2) = some (.int .i64 1)) ∧ Below w.heap.size w w' := by
  refine (lost_any (threeL 4 0) 2 A 3 c w.heap.size w h (Nat.le_refl _) (by decide)).mono ?_
  rintro e w' ⟨⟨B, n, d, he, hG⟩, hb⟩
  rw [three_lostE, three_lostL] at he
  rw [three_lostL] at hG
  have hn : n = 3 := by have := hG.1.len; simp [L5] at this; omega
  subst hn
  obtain ⟨ad, m, rfl, hlt, hm, hc⟩ := hG.1.at_ (k := 2) (by omega)
  have e2 : m = (2, 160, 1) := by simp [L5] at hm; exact hm.symm
  subst e2
  exact ⟨⟨ad, d, he, hlt, hc 2 _ rfl⟩, hb⟩
set_option maxRecDepth 100000 in
set_option maxHeartbeats 4000000 in
theorem shown5_any (w : World) : Calls Try.prog 8 #[] w fun e w' => e = .returned (.bool true) ∧ Below w.heap.size w w' := by
  have HT := hide three_lit
  have H2 := hide choose_two
  have H1 := hide choose_one
  have HL := hide lost_three
  go_enter Try.func8, Try.ntmps8
  go_wp2_with fail
  refine (HT.out 4 0 w).mono ?_
  rintro _ w1 ⟨⟨A1, c1, rfl, hG1⟩, hl1⟩
  go_wp2_with fail
  refine (HT.out 4 1 w1).mono ?_
  rintro _ w2 ⟨⟨A2, c2, rfl, hG2⟩, hl2⟩
  have HG1 := hide (hG1.later hl2)
  have HG2 := hide hG2
  have hz1 := hl1.size
  have hz2 := hl2.size
  have HL2 := hide (hl1.trans (hl2.mono hz1))
  clear hG1 hG2 hl1 hl2
  go_wp2_with fail
  refine (H2.out A1 A2 c1 c2 w2 HG1.out.1 HG2.out.1).mono ?_
  rintro _ w3 ⟨⟨A3, n3, c3, ad3, d3, rfl, hlt3, hc3⟩, hl3⟩
  have hz3 := hl3.size
  have HL3 := hide (HL2.out.trans (hl3.mono (by omega)))
  clear hl3
  go_wp2_with (first
    | (refine wpList_alloc_blk (o := ⟨some 1, _, _, _, _, _⟩) rfl 24 rfl _ (lab_zero _) ?_; intro w4 hb4 hl4 hs4; clear hs4)
    | (refine wpList_store_all (o := ⟨_, .store _ (.tmp 1) _, _, _, _, _⟩) rfl 24 (.tmp 1) (.tmp 14) rfl w3.heap.size 24 _ hb4 rfl (labC (threeL 4 0) A3 n3 c3) rfl lab_info rfl (labC_one _ _ _ _) ?_; intro w5 hb5 hg5 hs5; clear hs5))
  have hz4 := hb4.lt
  have hl35 : Below w3.heap.size w3 w5 := hl4.grown hg5 hl4.size (fun g e => by injection e with e; omega)
  have hz5 := hl35.size
  have HL5 := hide (HL3.out.trans (hl35.mono (by omega)))
  have HB5 := hide hb5
  have hlt5 := hb5.lt
  have hc5 := (hl35.cell (p := ad3) hlt3).trans hc3
  clear hb4 hl4 hb5 hg5 hl35 hc3
  refine (HT.out 4 0 w5).mono ?_
  rintro _ w6 ⟨⟨A6, c6, rfl, hG6⟩, hl6⟩
  have hz6 := hl6.size
  have HG6 := hide hG6
  have HL6 := hide (HL5.out.trans (hl6.mono (by omega)))
  have HB6 := hide (HB5.out.below hl6 hlt5)
  have hc6 := (hl6.cell (p := ad3) (by omega)).trans hc5
  clear hl6 hc5 hG6
  go_wp2_with fail
  refine (H1.out A6 c6 w6 HG6.out.1).mono ?_
  rintro _ w7 ⟨⟨A7, n7, c7, M7, m7, d7, rfl⟩, hl7⟩
  have hz7 := hl7.size
  have HL7 := hide (HL6.out.trans (hl7.mono (by omega)))
  have HB7 := hide (HB6.out.below hl7 (by omega))
  have hc7 := (hl7.cell (p := ad3) (by omega)).trans hc6
  clear hl7 hc6
  go_wp2_with (first
    | (refine wpList_alloc_blk (o := ⟨some 4, _, _, _, _, _⟩) rfl 24 rfl _ (lab_zero _) ?_; intro w8 hb8 hl8 hs8; clear hs8)
    | (refine wpList_store_all rfl 24 (.tmp 4) (.tmp 21) rfl w7.heap.size 24 _ hb8 rfl (labC Lab.none_ A7 n7 c7) rfl lab_info rfl (labC_one _ _ _ _) ?_; intro w9 hb9 hg9 hs9; clear hs9))
  have hl79 : Below w7.heap.size w7 w9 := hl8.grown hg9 hl8.size (fun g e => by injection e with e; omega)
  have hz9 := hl79.size
  have HL9 := hide (HL7.out.trans (hl79.mono (by omega)))
  have HB9 := hide (HB7.out.below hl79 (by omega))
  have hc9 := (hl79.cell (p := ad3) (by omega)).trans hc7
  clear hb8 hl8 hb9 hg9 hl79 hc7
  refine (HT.out 4 0 w9).mono ?_
  rintro _ w10 ⟨⟨A10, c10, rfl, hG10⟩, hl10⟩
  have hz10 := hl10.size
  have HG10 := hide hG10
  have HL10 := hide (HL9.out.trans (hl10.mono (by omega)))
  have HB10 := hide (HB9.out.below hl10 (by omega))
  have hc10 := (hl10.cell (p := ad3) (by omega)).trans hc9
  clear hl10 hc9 hG10
  go_wp2_with fail
  refine (HL.out A10 c10 w10 HG10.out.1).mono ?_
  rintro _ w11 ⟨⟨ad11, d11, rfl, hlt11, hc11⟩, hl11⟩
  have hz11 := hl11.size
  have HL11 := hide (HL10.out.trans (hl11.mono (by omega)))
  have HB11 := hide (HB10.out.below hl11 (by omega))
  have hcm11 := (hl11.cell (p := ad3) (by omega)).trans hc10
  clear hl11 hc10
  go_wp2_with (first
    | (refine wpList_alloc_blk (o := ⟨some 7, _, _, _, _, _⟩) rfl 24 rfl _ (lab_zero _) ?_; intro w12 hb12 hl12 hs12; clear hs12)
    | (refine wpList_store_all rfl 24 (.tmp 7) (.tmp 27) rfl w11.heap.size 24 _ hb12 rfl (labC L5 (some ad11) 3 d11) rfl lab_info rfl (labC_one _ _ _ _) ?_; intro w13 hb13 hg13 hs13; clear hs13; have hl1113 : Below w11.heap.size w11 w13 := hl12.grown hg13 hl12.size (fun g e => by injection e with e; omega); have HL13 := hide (HL11.out.trans (hl1113.mono (by omega))); have hB13 := HB11.out.below hl1113 (by omega); have x1 : w13.cell? ⟨w3.heap.size, 1, none⟩ = some (.int .i64 4) := lab_c1 hB13; have y1 : w13.cell? ⟨w11.heap.size, 1, none⟩ = some (.int .i64 5) := lab_c1 hb13; have y4 : w13.cell? ⟨w11.heap.size, 4, none⟩ = some (.slice (some ad11) 3 d11) := lab_c4 hb13; have z0 := (hl1113.cell (p := ad3) (by omega)).trans hcm11; have z1 : w13.cell? ((ad11.add (2 * 3)).add 2) = some (.int .i64 1) := (hl1113.cell (p := (ad11.add (2 * 3)).add 2) (by rw [block_of_add, block_of_add]; exact hlt11)).trans hc11; have z2 : w13.cell? ⟨ad11.block, ad11.off + 6 + 2, none⟩ = some (.int .i64 1) := z1; have z3 : w13.cell? ⟨ad11.block, ad11.off + 8, none⟩ = some (.int .i64 1) := z1; clear hcm11 hc11 hb12 hl12 hb13 hg13 hl1113 hB13))
  go_ret
  exact ⟨rfl, HL13.out⟩
#print axioms shown5_any
#print axioms choose_two
#print axioms lost_three
end Go.Proofs.Ytjdfeidakmkchaa
