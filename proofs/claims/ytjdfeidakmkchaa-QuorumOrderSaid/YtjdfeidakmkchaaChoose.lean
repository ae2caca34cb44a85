/- Which configuration counts: what quorum.Choose answers, over whatever labels come in. -/
import Derived.Test.YtjdfeidakmkchaaMaxF
import Derived.Test.YtjdfeidakmkchaaOwnL
namespace Go.Proofs.Ytjdfeidakmkchaa
open Go.RowKit

/-- What Choose hands back. -/
def Chose (l : List Lab) (w : World) (e : Ending) (w' : World) : Prop :=
  (∃ A n c M m d, e = .returned (.tuple #[labV (chosenL l) A n c, .slice M m d, .int .i64 (chosenE l)]) ∧ Gave (chosenL l) w w' A n c ∧ Reads w' w'.heap.size 1 M m (I64 (chosenM l)) ∧ m ≤ d ∧ d ≤ maxLen) ∧ Below w.heap.size w w'
theorem rights_map (L : List LabV) : rightsL (L.map (fun x => x.1)) = (L.filter (fun x => rightB x.1)).map (fun x => x.1) := by
  rw [rightsL, List.filter_map]
  rfl
theorem chose_bad {l : List Lab} {k : Int} (h : chosenE l = k) (hk : k ≠ 0) : chosenL l = Lab.none_ ∧ chosenM l = [] := by
  rw [chosenL, chosenM, h, if_neg hk, if_neg hk]
  exact ⟨rfl, rfl⟩
set_option maxRecDepth 100000 in
set_option maxHeartbeats 4000000 in
theorem choose_any (A : Option Addr) (n c : Nat) (L : List LabV) (B0 : Nat) (w : World) (hr : LbIn w B0 A n c L) (hB0 : B0 ≤ w.heap.size) (h1000 : n ≤ 1000) :
    Calls Try.prog 12 #[.slice A n c] w (Chose (L.map (fun x => x.1)) w) := by
  have hmf : ∀ (fn : Fn) (first cap : Array Value) (w : World), (Instr.makeFunc fn first cap).run Try.prog w = .ok (.func fn first cap) w := fun _ _ _ _ => rfl
  have HRO := hide (fun (w1 : World) (hl : Below w.heap.size w w1) => rightOnes_any A n c L B0 w1 (hr.below (hl.mono hB0)) (Nat.le_trans hB0 hl.size) h1000)
  have hrm := rights_map L
  have hlenR : (L.filter (fun x => rightB x.1)).length ≤ n := by rw [← hr.len]; exact List.length_filter_le _ _
  have hrt : ∀ x ∈ L.filter (fun x => rightB x.1), rightB x.1 = true := fun x hx => (List.mem_filter.1 hx).2
  obtain ⟨l, hl0⟩ : ∃ l, l = L.map (fun x => x.1) := ⟨_, rfl⟩
  obtain ⟨R, hR0⟩ : ∃ R, R = L.filter (fun x => rightB x.1) := ⟨_, rfl⟩
  rw [← hR0] at HRO hrm hlenR hrt
  rw [← hl0] at hrm ⊢
  clear hR0 hl0 hr
  cases R with
  | nil =>
    have hE : chosenE l = 8 := by rw [chosenE, hrm]; rfl
    obtain ⟨e1, e2⟩ := chose_bad hE (by decide)
    have HE := hide hE
    have H1 := hide e1
    have H2 := hide e2
    clear hE e1 e2 hrm hrt hlenR
    go_enter Try.func12, Try.ntmps12
    go_wp2_with (refine wpList_alloc_blk rfl 24 rfl _ (lab_zero _) ?_; intro w1 hb1 hl1 hs1; clear hs1)
    refine (HRO.out w1 hl1).mono ?_
    rintro _ w2 ⟨⟨A2, n2, c2, rfl, hR2⟩, hl2⟩
    have hn2 := hR2.len
    obtain rfl : n2 = 0 := by simpa using hn2.symm
    have hz1 := hb1.lt
    have hb2 := hb1.below hl2 hz1
    clear hn2 hR2
    go_wp2_with (first
      | (refine wpList_build_is rfl 24 #[] rfl [] rfl _ built_lab0 ?_)
      | (refine wpList_store_all rfl 24 (.tmp 2) (.tmp 14) rfl w.heap.size 24 _ hb2 rfl (labC Lab.none_ none 0 0) rfl lab_info rfl (labC_one _ _ _ _) ?_; intro w3 hb3 hg3 hs3; clear hs3))
    exact ret_cell_two rfl w.heap.size 24 (labC Lab.none_ none 0 0) _ hb3 rfl Try.underlying24 rfl lab_info (.slice none 0 0) (.int .i64 8) rfl rfl rfl
      ⟨⟨none, 0, 0, none, 0, 0, by rw [H1.out, HE.out]; rfl, by rw [H1.out]; exact Gave.none_, by rw [H2.out]; exact Reads.none_, Nat.le_refl _, Nat.zero_le _⟩, (hl1.trans (hl2.mono (by omega))).grown hg3 (by have := hl2.size; omega) (fun g e => by injection e with e; omega)⟩
  | cons x0 R =>
    obtain ⟨N, hN⟩ : ∃ N, N = maxV x0 R := ⟨_, rfl⟩
    have hNm : N ∈ x0 :: R := by rw [hN]; exact maxV_mem R x0
    have hNr : rightB N.1 = true := hrt N hNm
    have hNew : newL (rightsL l) = N.1 := by rw [hrm, hN, maxV_lab]; rfl
    have hne : rightsL l ≠ [] := by rw [hrm]; simp
    have hAny : (rightsL l).any (anotherB (newL (rightsL l))) = (x0 :: R).any (fun y => anotherB N.1 y.1) := by rw [hNew, hrm, List.any_map]; rfl
    have hMis : missL (rightsL l) (newL (rightsL l)) = missL ((x0 :: R).map (fun x => x.1)) N.1 := by rw [hNew, hrm]
    have hmem12 := (right_parts hNr).2.2.2.1
    obtain ⟨mm, hmm⟩ : ∃ mm, mm = missL ((x0 :: R).map (fun x => x.1)) N.1 := ⟨_, rfl⟩
    have hmlen : mm.length ≤ 12 := by
      rw [hmm, missL, List.length_map]
      exact Nat.le_trans (List.length_filter_le _ _) hmem12.2
    have HMax := hide (fun (w1 : World) (A2 : Option Addr) (n2 c2 : Nat) (hr2 : LbIn w1 w1.heap.size A2 n2 c2 (x0 :: R)) => maxFunc_any A2 n2 c2 x0 R w1.heap.size w1 hr2 (Nat.le_refl _))
    rw [← hN] at HMax
    have HCon := hide (fun (w1 : World) (A2 : Option Addr) (n2 c2 g B : Nat) (hr2 : LbIn w1 B A2 n2 c2 (x0 :: R)) (hB : B ≤ w1.heap.size) (hg : Blk w1 g 24 (lvC N).toArray) (hNi : LvIn w1 B N) => contains_other A2 n2 c2 (x0 :: R) N g B w1 hr2 hB hg hNi)
    have HMissF := hide (fun (w1 : World) (A2 : Option Addr) (n2 c2 B : Nat) (hr2 : LbIn w1 B A2 n2 c2 (x0 :: R)) (hB : B ≤ w1.heap.size) (hNi : MbIn w1 B N.2.1 N.2.2.1 N.2.2.2 N.1.members) => missingOf_any N.1 N.2.1 N.2.2.1 N.2.2.2 A2 n2 c2 (x0 :: R) B w1 hNi hr2 hB (by have := hNi.len; omega))
    rw [← hmm] at HMissF
    have HOwn := hide (fun (w1 : World) (B : Nat) (hB : B ≤ w1.heap.size) (hNi : MbIn w1 B N.2.1 N.2.2.1 N.2.2.2 N.1.members) => ownCopy_any N.1 N.2.1 N.2.2.1 N.2.2.2 B w1 hNi hB (by have := hNi.len; omega))
    have HNm := hide hNm
    have HNew := hide hNew
    rw [← hmm] at hMis
    have HMis := hide hMis
    have HAny := hide hAny
    have HNe := hide hne
    clear hN hNm hNr hNew hne hAny hMis hmem12 hmm hrt hrm
    cases hcase : (x0 :: R).any (fun y => anotherB N.1 y.1) with
    | true =>
      have HCase := hide hcase
      have hE : chosenE l = 2 := by rw [chosenE, if_neg HNe.out, HAny.out, hcase]; rfl
      obtain ⟨e1, e2⟩ := chose_bad hE (by decide)
      have HE := hide hE
      have H1 := hide e1
      have H2 := hide e2
      clear hE e1 e2 hcase
      go_enter Try.func12, Try.ntmps12
      go_wp2_with (refine wpList_alloc_blk (o := ⟨some 2, _, _, _, _, _⟩) rfl 24 rfl _ (lab_zero _) ?_; intro w1 hb1 hl1 hs1; clear hs1)
      refine (HRO.out w1 hl1).mono ?_
      rintro _ w2 ⟨⟨A2, n2, c2, rfl, hR2⟩, hl2⟩
      have hn2 := hR2.len
      have hn20 : ((n2 : Int) == 0) = false := by rw [← hn2]; simp; omega
      have hz1 := hb1.lt
      have hz2 := hl2.size
      have HR2 := hide hR2
      have HB2 := hide (hb1.below hl2 hz1)
      have HL2 := hide (hl1.trans (hl2.mono (by omega)))
      have HNi2 := hide (hR2.mem N HNm.out)
      clear hn2 hR2 hb1 hl1 hl2
      go_wp2_with (first
        | (go_at_call 24; refine (HMax.out w2 A2 n2 c2 HR2.out).mono ?_; rintro _ w3 ⟨rfl, hl3⟩)
        | (refine wpList_alloc_blk (o := ⟨some 6, _, _, _, _, _⟩) rfl 24 rfl _ (lab_zero _) ?_; intro w4 hb4 hl4 hs4; clear hs4)
        | (refine wpList_store_all (o := ⟨_, .store _ (.tmp 6) _, _, _, _, _⟩) rfl 24 (.tmp 6) (.tmp 16) rfl w3.heap.size 24 _ hb4 rfl (lvC N) rfl lab_info rfl (lvC_cell _) ?_; intro w5 hb5 hg5 hs5; clear hs5; have hz3 := hl3.size; have hz4 := hl4.size; have hl25 : Below w2.heap.size w2 w5 := (hl3.trans (hl4.mono hz3)).grown hg5 (by omega) (fun g e => by injection e with e; omega); have hz5 := hl25.size; have hlt5 := hb5.lt; have HB5 := hide hb5; have HR5 := hide (HR2.out.below hl25); have HNi5 := hide (HNi2.out.below hl25); have HG5 := hide (HB2.out.below hl25 (by omega)); have HL5 := hide (HL2.out.trans (hl25.mono (by omega))); clear hl3 hb4 hl4 hb5 hg5)
        | (go_at_call 29; refine (HCon.out w5 A2 n2 c2 w3.heap.size w2.heap.size HR5.out (by omega) HB5.out HNi5.out).mono ?_; rw [HCase.out]; rintro _ w6 ⟨rfl, hl6⟩; have hz6 := hl6.size; have HG6 := hide (HG5.out.below hl6 (by omega)); have HB6 := hide (HB5.out.below hl6 HB5.out.lt); have HR6 := hide ((HR5.out.more (by omega)).below hl6); have HNi6 := hide ((HNi5.out.more (by omega)).below hl6); have HL6 := hide (HL5.out.trans (hl6.mono (by omega))); clear hl6)
        | (refine wpList_build_is rfl 24 #[] rfl [] rfl _ built_lab0 ?_)
        | (refine wpList_store_all rfl 24 (.tmp 2) (.tmp 21) rfl w.heap.size 24 _ HG6.out rfl (labC Lab.none_ none 0 0) rfl lab_info rfl (labC_one _ _ _ _) ?_; intro w7 hb7 hg7 hs7; clear hs7))
      exact ret_cell_two rfl w.heap.size 24 (labC Lab.none_ none 0 0) _ hb7 rfl Try.underlying24 rfl lab_info (.slice none 0 0) (.int .i64 2) rfl rfl rfl
        ⟨⟨none, 0, 0, none, 0, 0, by rw [H1.out, HE.out]; rfl, by rw [H1.out]; exact Gave.none_, by rw [H2.out]; exact Reads.none_, Nat.le_refl _, Nat.zero_le _⟩, HL6.out.grown hg7 (by omega) (fun g e => by injection e with e; omega)⟩
    | false =>
      have HCase := hide hcase
      have hE0 : chosenE l = if 1 < mm.length then 5 else 0 := by rw [chosenE, if_neg HNe.out, HAny.out, hcase, HMis.out]; rfl
      by_cases hlen : 1 < mm.length
      · have hE : chosenE l = 5 := by rw [hE0, if_pos hlen]
        obtain ⟨e1, e2⟩ := chose_bad hE (by decide)
        have HE := hide hE
        have H1 := hide e1
        have H2 := hide e2
        have hlenI : (1 : Int) < (mm.length : Int) := by omega
        have HLen := hide hlenI
        clear hE e1 e2 hcase hE0 hlen hlenI
        go_enter Try.func12, Try.ntmps12
        go_wp2_with (refine wpList_alloc_blk (o := ⟨some 2, _, _, _, _, _⟩) rfl 24 rfl _ (lab_zero _) ?_; intro w1 hb1 hl1 hs1; clear hs1)
        refine (HRO.out w1 hl1).mono ?_
        rintro _ w2 ⟨⟨A2, n2, c2, rfl, hR2⟩, hl2⟩
        have hn2 := hR2.len
        have hn20 : ((n2 : Int) == 0) = false := by rw [← hn2]; simp; omega
        have hz1 := hb1.lt
        have hz2 := hl2.size
        have HR2 := hide hR2
        have HB2 := hide (hb1.below hl2 hz1)
        have HL2 := hide (hl1.trans (hl2.mono (by omega)))
        have HNi2 := hide (hR2.mem N HNm.out)
        clear hn2 hR2 hb1 hl1 hl2
        go_wp2_with (first
          | (go_at_call 24; refine (HMax.out w2 A2 n2 c2 HR2.out).mono ?_; rintro _ w3 ⟨rfl, hl3⟩)
          | (refine wpList_alloc_blk (o := ⟨some 6, _, _, _, _, _⟩) rfl 24 rfl _ (lab_zero _) ?_; intro w4 hb4 hl4 hs4; clear hs4)
          | (refine wpList_store_all (o := ⟨_, .store _ (.tmp 6) _, _, _, _, _⟩) rfl 24 (.tmp 6) (.tmp 16) rfl w3.heap.size 24 _ hb4 rfl (lvC N) rfl lab_info rfl (lvC_cell _) ?_; intro w5 hb5 hg5 hs5; clear hs5; have hz3 := hl3.size; have hz4 := hl4.size; have hl25 : Below w2.heap.size w2 w5 := (hl3.trans (hl4.mono hz3)).grown hg5 (by omega) (fun g e => by injection e with e; omega); have hz5 := hl25.size; have hlt5 := hb5.lt; have HB5 := hide hb5; have HR5 := hide (HR2.out.below hl25); have HNi5 := hide (HNi2.out.below hl25); have HG5 := hide (HB2.out.below hl25 (by omega)); have HL5 := hide (HL2.out.trans (hl25.mono (by omega))); clear hl3 hb4 hl4 hb5 hg5)
          | (go_at_call 29; refine (HCon.out w5 A2 n2 c2 w3.heap.size w2.heap.size HR5.out (by omega) HB5.out HNi5.out).mono ?_; rw [HCase.out]; rintro _ w6 ⟨rfl, hl6⟩; have hz6 := hl6.size; have HG6 := hide (HG5.out.below hl6 (by omega)); have HB6 := hide (HB5.out.below hl6 HB5.out.lt); have HR6 := hide ((HR5.out.more (by omega)).below hl6); have HNi6 := hide ((HNi5.out.more (by omega)).below hl6); have HL6 := hide (HL5.out.trans (hl6.mono (by omega))); clear hl6)
          | (refine wpList_load_blk (o := ⟨some 22, _, _, _, _, _⟩) rfl 24 (.tmp 6) rfl w3.heap.size 0 24 _ HB6.out rfl (lvC N) _ (fun j v hj => by rw [Nat.zero_add]; simpa using hj) Try.underlying24 rfl lab_info ?_))
        refine (HMissF.out w6 A2 n2 c2 w5.heap.size HR6.out hz6 HNi6.out).mono ?_
        rintro _ w7 ⟨M, nm, cm, rfl, hnm, hcm, hown, hl7⟩
        have hz7 := hl7.size
        have hnmm := own_len64 hown
        have HG7 := hide (HG6.out.below hl7 (by omega))
        have HB7 := hide (HB6.out.below hl7 (by omega))
        have HNi7 := hide ((HNi6.out.more hz6).below hl7)
        have HL7 := hide (HL6.out.trans (hl7.mono (by omega)))
        have HMR := hide (Reads.of_own hown)
        have HFrom := hide (fun g e => (hown.lt g e).1)
        have hgt : (1 : Int) < (nm : Int) := by
          have hll := HLen.out
          omega
        clear hown hl7 hnmm
        go_wp2_with (first
          | (refine wpList_build_is rfl 24 #[] rfl [] rfl _ built_lab0 ?_)
          | (refine wpList_store_all rfl 24 (.tmp 2) (.tmp 28) rfl w.heap.size 24 _ HG7.out rfl (labC Lab.none_ none 0 0) rfl lab_info rfl (labC_one _ _ _ _) ?_; intro w8 hb8 hg8 hs8; clear hs8))
        exact ret_cell_two rfl w.heap.size 24 (labC Lab.none_ none 0 0) _ hb8 rfl Try.underlying24 rfl lab_info (.slice none 0 0) (.int .i64 5) rfl rfl rfl
          ⟨⟨none, 0, 0, none, 0, 0, by rw [H1.out, HE.out]; rfl, by rw [H1.out]; exact Gave.none_, by rw [H2.out]; exact Reads.none_, Nat.le_refl _, Nat.zero_le _⟩, HL7.out.grown hg8 (by omega) (fun g e => by injection e with e; omega)⟩
      · have hE : chosenE l = 0 := by rw [hE0, if_neg hlen]
        have e1 : chosenL l = N.1 := by rw [chosenL, hE, HNew.out]; rfl
        have e2 : chosenM l = mm := by rw [chosenM, hE, HMis.out]; rfl
        have HE := hide hE
        have H1 := hide e1
        have H2 := hide e2
        have hlenI : ¬ (1 : Int) < (mm.length : Int) := by omega
        have HLen := hide hlenI
        clear hE e1 e2 hcase hE0 hlen hlenI
        go_enter Try.func12, Try.ntmps12
        go_wp2_with (refine wpList_alloc_blk (o := ⟨some 2, _, _, _, _, _⟩) rfl 24 rfl _ (lab_zero _) ?_; intro w1 hb1 hl1 hs1; clear hs1)
        refine (HRO.out w1 hl1).mono ?_
        rintro _ w2 ⟨⟨A2, n2, c2, rfl, hR2⟩, hl2⟩
        have hn2 := hR2.len
        have hn20 : ((n2 : Int) == 0) = false := by rw [← hn2]; simp; omega
        have hz1 := hb1.lt
        have hz2 := hl2.size
        have HR2 := hide hR2
        have HB2 := hide (hb1.below hl2 hz1)
        have HL2 := hide (hl1.trans (hl2.mono (by omega)))
        have HNi2 := hide (hR2.mem N HNm.out)
        clear hn2 hR2 hb1 hl1 hl2
        go_wp2_with (first
          | (go_at_call 24; refine (HMax.out w2 A2 n2 c2 HR2.out).mono ?_; rintro _ w3 ⟨rfl, hl3⟩)
          | (refine wpList_alloc_blk (o := ⟨some 6, _, _, _, _, _⟩) rfl 24 rfl _ (lab_zero _) ?_; intro w4 hb4 hl4 hs4; clear hs4)
          | (refine wpList_store_all (o := ⟨_, .store _ (.tmp 6) _, _, _, _, _⟩) rfl 24 (.tmp 6) (.tmp 16) rfl w3.heap.size 24 _ hb4 rfl (lvC N) rfl lab_info rfl (lvC_cell _) ?_; intro w5 hb5 hg5 hs5; clear hs5; have hz3 := hl3.size; have hz4 := hl4.size; have hl25 : Below w2.heap.size w2 w5 := (hl3.trans (hl4.mono hz3)).grown hg5 (by omega) (fun g e => by injection e with e; omega); have hz5 := hl25.size; have hlt5 := hb5.lt; have HB5 := hide hb5; have HR5 := hide (HR2.out.below hl25); have HNi5 := hide (HNi2.out.below hl25); have HG5 := hide (HB2.out.below hl25 (by omega)); have HL5 := hide (HL2.out.trans (hl25.mono (by omega))); clear hl3 hb4 hl4 hb5 hg5)
          | (go_at_call 29; refine (HCon.out w5 A2 n2 c2 w3.heap.size w2.heap.size HR5.out (by omega) HB5.out HNi5.out).mono ?_; rw [HCase.out]; rintro _ w6 ⟨rfl, hl6⟩; have hz6 := hl6.size; have HG6 := hide (HG5.out.below hl6 (by omega)); have HB6 := hide (HB5.out.below hl6 HB5.out.lt); have HR6 := hide ((HR5.out.more (by omega)).below hl6); have HNi6 := hide ((HNi5.out.more (by omega)).below hl6); have HL6 := hide (HL5.out.trans (hl6.mono (by omega))); clear hl6)
          | (refine wpList_load_blk (o := ⟨some 22, _, _, _, _, _⟩) rfl 24 (.tmp 6) rfl w3.heap.size 0 24 _ HB6.out rfl (lvC N) _ (fun j v hj => by rw [Nat.zero_add]; simpa using hj) Try.underlying24 rfl lab_info ?_))
        refine (HMissF.out w6 A2 n2 c2 w5.heap.size HR6.out hz6 HNi6.out).mono ?_
        rintro _ w7 ⟨M, nm, cm, rfl, hnm, hcm, hown, hl7⟩
        have hz7 := hl7.size
        have hnmm := own_len64 hown
        have HG7 := hide (HG6.out.below hl7 (by omega))
        have HB7 := hide (HB6.out.below hl7 (by omega))
        have HNi7 := hide ((HNi6.out.more hz6).below hl7)
        have HL7 := hide (HL6.out.trans (hl7.mono (by omega)))
        have HMR := hide (Reads.of_own hown)
        have HFrom := hide (fun g e => (hown.lt g e).1)
        have hgt : ¬ (1 : Int) < (nm : Int) := by
          have hll := HLen.out
          omega
        clear hown hl7 hnmm
        go_wp2_with (first
          | (refine wpList_load_blk (o := ⟨some 29, _, _, _, _, _⟩) rfl 24 (.tmp 6) rfl w3.heap.size 0 24 _ HB7.out rfl (lvC N) _ (fun j v hj => by rw [Nat.zero_add]; simpa using hj) Try.underlying24 rfl lab_info ?_)
          | (go_at_call 22; refine (HOwn.out w7 w6.heap.size (by omega) HNi7.out).mono ?_; rintro _ w8 ⟨⟨A8, n8, c8, rfl, hn8, hc8, hown8⟩, hl8⟩; have hz8 := hl8.size; have HG8 := hide (HG7.out.below hl8 (by omega)); have HL8 := hide (HL7.out.trans (hl8.mono (by omega))); have HMR8 := hide (HMR.out.later hl8); have HO8 := hide hown8; clear hown8 hl8)
          | (refine wpList_store_all rfl 24 (.tmp 2) (.tmp 30) rfl w.heap.size 24 _ HG8.out rfl (labC N.1 A8 n8 c8) rfl lab_info rfl (labC_one _ _ _ _) ?_; intro w9 hb9 hg9 hs9; clear hs9))
        have ho9 : w9.ownsRow w7.heap.size 28 3 (.slice A8 n8 c8) n8 (mbL N.1.members) := HO8.out.kept hg9 (.inr (fun e => by have := (HO8.out.lt _ e).1; omega))
        have hm9 : Reads w9 w9.heap.size 1 M nm (I64 mm) := by
          refine ⟨HMR8.out.1, fun h0 => ?_⟩
          obtain ⟨ad, e, hb, hc⟩ := HMR8.out.2 h0
          refine ⟨ad, e, Nat.lt_of_lt_of_le hb hg9.size, fun j u hu => ?_⟩
          have hbl : (ad.add j).block = ad.block := block_of_add _ _
          have hge : w6.heap.size ≤ ad.block := by
            subst e
            exact HFrom.out ad.block rfl
          exact (World.cell?_of_block (hg9.block _ (by rw [hbl]; exact hb) (fun e2 => by rw [hbl] at e2; injection e2 with e2; omega))).trans (hc j u hu)
        exact ret_cell_two rfl w.heap.size 24 (labC N.1 A8 n8 c8) _ hb9 rfl Try.underlying24 rfl lab_info (.slice M nm cm) (.int .i64 0) rfl rfl rfl
          ⟨⟨A8, n8, c8, M, nm, cm, by rw [H1.out, HE.out]; rfl, by rw [H1.out]; exact own_gave hn8 hc8 (own_base ho9 (by omega)), by rw [H2.out]; exact hm9, hnm, hcm⟩, HL8.out.grown hg9 (by omega) (fun g e => by injection e with e; omega)⟩
#print axioms choose_any
end Go.Proofs.Ytjdfeidakmkchaa
