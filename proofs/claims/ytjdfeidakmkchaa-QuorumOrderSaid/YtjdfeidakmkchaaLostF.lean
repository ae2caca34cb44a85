/- The next configuration: what quorum.Lost answers, over whatever label and number come in. -/
import Derived.Test.YtjdfeidakmkchaaOwnL
import Derived.Test.YtjdfeidakmkchaaQuorL
import Derived.Deep.Cut
namespace Go.Proofs.Ytjdfeidakmkchaa
open Go.RowKit

theorem mbC_set (m : Mb) (s : Int) : (mbC m).set 2 (.int .i64 s) = mbC (m.1, m.2.1, s) := rfl
theorem mbL_set : ∀ {l : List Mb} {k : Nat} {m : Mb} (s : Int), l[k]? = some m → (mbL l).set (k * 3 + 2) (.int .i64 s) = mbL (l.set k (m.1, m.2.1, s))
  | [], k, m, s, h => by simp at h
  | x :: l, 0, m, s, h => by
    simp at h
    subst h
    rw [mbL_cons, List.set_append_left _ _ (by simp [mbC]), List.set_cons_zero, mbL_cons]
    rfl
  | x :: l, k + 1, m, s, h => by
    rw [mbL_cons, List.set_append_right _ _ (by simp [mbC]; omega), List.set_cons_succ, mbL_cons]
    have e : (k + 1) * 3 + 2 - (mbC x).length = k * 3 + 2 := by simp [mbC]; omega
    rw [e, mbL_set s (by simpa using h)]
/-- A row of members of the call's own: one member's state is written over. -/
theorem own_poke {w : World} {base g n cap k : Nat} {l : List Mb} {m : Mb} (s : Int) (h : w.ownsRow base 28 3 (.slice (some ⟨g, 0, none⟩) n cap) n (mbL l)) (hk : l[k]? = some m) :
    (w.setCell ⟨g, k * 3 + 2, none⟩ (.int .i64 s)).ownsRow base 28 3 (.slice (some ⟨g, 0, none⟩) n cap) n (mbL (l.set k (m.1, m.2.1, s))) := by
  rcases h with ⟨h1, ⟨h2, _⟩ | ⟨g2, cap2, cur, hv, hg, hb, h3, h4, h5, h6⟩⟩
  · cases h2
  · injection hv with e1 e2 e3
    injection e1 with e1
    injection e1 with e1 _ _
    subst e1 e3
    refine ⟨by rw [mbL_length] at h1 ⊢; rw [List.length_set]; exact h1, .inr ⟨g, cap, cur.setIfInBounds (k * 3 + 2) (.int .i64 s), rfl, hg, (show Blk w g 28 cur from hb).set_ _ _, h3, h4, by rw [Array.size_setIfInBounds]; exact h5, ?_⟩⟩
    rw [Array.toList_setIfInBounds, List.take_set, h6, mbL_set s hk]
theorem own_at {w : World} {base g n cap k : Nat} {l : List Mb} {m : Mb} (h : w.ownsRow base 28 3 (.slice (some ⟨g, 0, none⟩) n cap) n (mbL l)) (hk : l[k]? = some m) :
    w.cell? ⟨g, k * 3 + 2, none⟩ = some (.int .i64 m.2.2) ∧ w.frozen? ⟨g, k * 3 + 2, none⟩ = false := by
  rcases h with ⟨h1, ⟨h2, _⟩ | ⟨g2, cap2, cur, hv, hg, hb, h3, h4, h5, h6⟩⟩
  · cases h2
  · injection hv with e1 e2 e3
    injection e1 with e1
    injection e1 with e1 _ _
    subst e1 e3
    have hB : Blk w g 28 cur := hb
    refine ⟨?_, hB.frozen _⟩
    rw [hB.cell]
    have h7 := mbL_at hk 2 (by omega)
    rw [← h6, List.getElem?_take] at h7
    split at h7
    · simpa [mbC] using h7
    · simp [mbC] at h7
theorem own_some {w : World} {base n : Nat} {A : Option Addr} {c : Nat} {l : List Mb} (h : w.ownsRow base 28 3 (.slice A n c) n (mbL l)) (hn : 0 < n) : ∃ g, A = some ⟨g, 0, none⟩ ∧ base ≤ g ∧ g < w.heap.size := by
  rcases h with ⟨h1, ⟨h2, h3⟩ | ⟨g2, cap2, cur, hv, hg, hb, _⟩⟩
  · omega
  · injection hv with e1 e2 e3
    have hB : Blk w g2 28 cur := hb
    exact ⟨g2, e1, hg, hB.lt⟩
theorem some_ne {a b : Nat} (h : a ≠ b) : some a ≠ some b := fun e => h (by injection e)
theorem idx_place (l : List Mb) (id : Int) : idxI (fun y : Mb => y.1 == id) l = if placeL l id < l.length then (placeL l id : Int) else -1 := rfl
/-- What Lost hands back. -/
def LostR (l : Lab) (id : Int) (w : World) (e : Ending) (w' : World) : Prop :=
  (∃ A n c, e = .returned (.tuple #[labV (lostL l id) A n c, .int .i64 (lostE l id)]) ∧ Gave (lostL l id) w w' A n c) ∧ Below w.heap.size w w'
theorem lost_bad {l : Lab} {id k : Int} (h : lostE l id = k) (hk : k ≠ 0) : lostL l id = Lab.none_ := by rw [lostL, h, if_neg hk]
set_option maxRecDepth 100000 in
set_option maxHeartbeats 16000000 in
theorem lost_any (l : Lab) (id : Int) (A : Option Addr) (n c : Nat) (B0 : Nat) (w : World) (hm : MbIn w B0 A n c l.members) (hB0 : B0 ≤ w.heap.size) (h1000 : n ≤ 1000) :
    Calls Try.prog 11 #[labV l A n c, .int .i64 id] w (LostR l id w) := by
  have hmf : ∀ (fn : Fn) (first cap : Array Value) (w : World), (Instr.makeFunc fn first cap).run Try.prog w = .ok (.func fn first cap) w := fun _ _ _ _ => rfl
  have hlen := hm.len
  have hnc := hm.2
  have HI := hide (fun (w1 : World) (g : Nat) (hl : Below w.heap.size w w1) (hg : g < w1.heap.size) (hc : w1.cell? ⟨g, 0, none⟩ = some (.int .i64 id)) => index_id A n c l.members id g B0 w1 (hm.below (hl.mono hB0)) (Nat.le_trans hB0 hl.size) hg hc)
  have HR := hide (fun (w1 : World) (hl : Below w.heap.size w w1) => right_any l A n c B0 w1 (hm.below (hl.mono hB0)) (Nat.le_trans hB0 hl.size))
  have HFd := hide (fun (w1 : World) (hl : Below w.heap.size w w1) => contains_failed A n c l.members B0 w1 (hm.below (hl.mono hB0)) (Nat.le_trans hB0 hl.size))
  have HOw := hide (fun (w1 : World) (hl : Below w.heap.size w w1) => ownCopy_any l A n c B0 w1 (hm.below (hl.mono hB0)) (Nat.le_trans hB0 hl.size) h1000)
  obtain ⟨k, hk⟩ : ∃ k, k = placeL l.members id := ⟨_, rfl⟩
  have hidx := idx_place l.members id
  rw [← hk, hlen] at hidx
  by_cases hkn : k < n
  · rw [if_pos hkn] at hidx
    rw [hidx] at HI
    obtain ⟨ad, m, rfl, hab, hx, hcs⟩ := hm.at_ hkn
    have HCS := hide (fun (w1 : World) (hl : Below w.heap.size w w1) (j : Nat) v (hj : (mbC m)[j]? = some v) => (hl.cell (p := (ad.add (k * 3)).add j) (by rw [block_of_add, block_of_add]; omega)).trans (hcs j v hj))
    have hnle : ¬ l.members.length ≤ k := by omega
    cases hrt : rightB l with
    | false =>
      have hE : lostE l id = 1 := by rw [lostE, ← hk, if_neg hnle, if_pos hrt]
      have HE := hide hE
      have H1 := hide (lost_bad hE (by decide))
      have HRt := hide hrt
      clear hidx hk hE HFd HOw hrt hnle
      go_enter Try.func11, Try.ntmps11
      go_wp2_with (first
        | (refine wpList_box_blk rfl 24 (.tmp 0) rfl (.agg (labC l (some ad) n c).toArray) rfl ?_; intro w1 hb1q hl1 hs1; clear hs1; have hb1 : Blk w1 w.heap.size 24 (labC l (some ad) n c).toArray := hb1q; clear hb1q)
        | (refine wpList_box_blk rfl 3 (.tmp 1) rfl (.int .i64 id) rfl ?_; intro w2 hb2 hl2 hs2; clear hs2)
        | (refine wpList_alloc_blk (o := ⟨some 4, _, _, _, _, _⟩) rfl 24 rfl _ (lab_zero _) ?_; intro w3 hb3 hl3 hs3; clear hs3; have hz1 := hb1.lt; have hz2 := hb2.lt; have hz3 := hb3.lt; have hl23 : Below w1.heap.size w1 w3 := hl2.trans (hl3.mono (by omega)); have HB3 := hide (hb1.below hl23 hz1); have hid3 : w3.cell? ⟨w1.heap.size, 0, none⟩ = some (.int .i64 id) := (hb2.below hl3 hz2).cell 0; have HL3 := hide (hl1.trans (hl23.mono (by omega))); have HG3 := hide hb3; have x4 := lab_c4 HB3.out; clear hb1 hl1 hb2 hl2 hb3 hl3 hl23)
        | (go_at_call 19; refine (HI.out w3 w1.heap.size HL3.out (by omega) hid3).mono ?_; rintro _ w4 ⟨rfl, hl4⟩; have hz4 := hl4.size; have HB4 := hide (HB3.out.below hl4 (by omega)); have HG4 := hide (HG3.out.below hl4 (by omega)); have HL4 := hide (HL3.out.trans (hl4.mono (by omega))); have x4 := lab_c4 HB4.out; clear hl4 hid3)
        | (refine when_load rfl 24 (.tmp 2) rfl w.heap.size 0 24 _ HB4.out rfl (labC l (some ad) n c) _ (fun j v hj => by rw [Nat.zero_add]; simpa using hj) Try.underlying24 rfl lab_info ?_)
        | (go_at_call 10; refine (HR.out w4 HL4.out).mono ?_; rw [HRt.out]; rintro _ w5 ⟨rfl, hl5⟩; have hz5 := hl5.size; have HB5 := hide (HB4.out.below hl5 (by omega)); have HG5 := hide (HG4.out.below hl5 (by omega)); have HL5 := hide (HL4.out.trans (hl5.mono (by omega))); have x4 := lab_c4 HB5.out; clear hl5)
        | (refine wpList_build_is rfl 24 #[] rfl [] rfl _ built_lab0 ?_)
        | (refine wpList_store_all rfl 24 (.tmp 4) (.tmp 19) rfl w2.heap.size 24 _ HG5.out rfl (labC Lab.none_ none 0 0) rfl lab_info rfl (labC_one _ _ _ _) ?_; intro w6 hb6 hg6 hs6; clear hs6))
      exact ret_cell_tmp rfl w2.heap.size 24 (labC Lab.none_ none 0 0) _ hb6 rfl Try.underlying24 rfl lab_info (.int .i64 1) rfl rfl ⟨⟨none, 0, 0, by rw [H1.out, HE.out]; rfl, by rw [H1.out]; exact Gave.none_⟩, HL5.out.grown hg6 (by omega) (fun g e => by injection e with e; omega)⟩
    | true =>
      have HRt := hide hrt
      have h12 := (right_parts hrt).2.2.2.1
      have hget : l.members[placeL l.members id]?.getD (0, 0, 0) = m := by rw [← hk, hx]; rfl
      have hE0 : lostE l id = if m.2.2 ≠ 0 then 9 else if l.members.any (fun m => m.2.2 == 1) then 5 else if rightB (failL l k) = false then 3 else 0 := by rw [lostE, hget, ← hk, if_neg hnle, if_neg (by rw [hrt]; decide)]
      have HX := hide hx
      have HK := hide hk
      have HAB := hide hab
      clear hidx hk hrt hnle hget hx hcs
      cases hst : (m.2.2 != 0) with
      | true =>
        have hst' : m.2.2 ≠ 0 := by simpa using hst
        have hE : lostE l id = 9 := by rw [hE0, if_pos hst']
        have HE := hide hE
        have H1 := hide (lost_bad hE (by decide))
        clear hE hE0 HFd HOw hst'
        go_enter Try.func11, Try.ntmps11
        go_wp2_with (first
          | (refine wpList_box_blk rfl 24 (.tmp 0) rfl (.agg (labC l (some ad) n c).toArray) rfl ?_; intro w1 hb1q hl1 hs1; clear hs1; have hb1 : Blk w1 w.heap.size 24 (labC l (some ad) n c).toArray := hb1q; clear hb1q)
          | (refine wpList_box_blk rfl 3 (.tmp 1) rfl (.int .i64 id) rfl ?_; intro w2 hb2 hl2 hs2; clear hs2)
          | (refine wpList_alloc_blk (o := ⟨some 4, _, _, _, _, _⟩) rfl 24 rfl _ (lab_zero _) ?_; intro w3 hb3 hl3 hs3; clear hs3; have hz1 := hb1.lt; have hz2 := hb2.lt; have hz3 := hb3.lt; have hl23 : Below w1.heap.size w1 w3 := hl2.trans (hl3.mono (by omega)); have HB3 := hide (hb1.below hl23 hz1); have hid3 : w3.cell? ⟨w1.heap.size, 0, none⟩ = some (.int .i64 id) := (hb2.below hl3 hz2).cell 0; have HL3 := hide (hl1.trans (hl23.mono (by omega))); have HG3 := hide hb3; have x4 := lab_c4 HB3.out; clear hb1 hl1 hb2 hl2 hb3 hl3 hl23)
          | (go_at_call 19; refine (HI.out w3 w1.heap.size HL3.out (by omega) hid3).mono ?_; rintro _ w4 ⟨rfl, hl4⟩; have hz4 := hl4.size; have HB4 := hide (HB3.out.below hl4 (by omega)); have HG4 := hide (HG3.out.below hl4 (by omega)); have HL4 := hide (HL3.out.trans (hl4.mono (by omega))); have x4 := lab_c4 HB4.out; clear hl4 hid3)
          | (refine when_load rfl 24 (.tmp 2) rfl w.heap.size 0 24 _ HB4.out rfl (labC l (some ad) n c) _ (fun j v hj => by rw [Nat.zero_add]; simpa using hj) Try.underlying24 rfl lab_info ?_)
          | (go_at_call 10; refine (HR.out w4 HL4.out).mono ?_; rw [HRt.out]; rintro _ w5 ⟨rfl, hl5⟩; have hz5 := hl5.size; have HB5 := hide (HB4.out.below hl5 (by omega)); have HG5 := hide (HG4.out.below hl5 (by omega)); have HL5 := hide (HL4.out.trans (hl5.mono (by omega))); have x4 := lab_c4 HB5.out; have y2 : w5.cell? ⟨(ad.add (k * 3)).block, (ad.add (k * 3)).off + 2, none⟩ = some (.int .i64 m.2.2) := HCS.out w5 HL5.out 2 _ rfl; clear hl5)
          | (refine wpList_build_is rfl 24 #[] rfl [] rfl _ built_lab0 ?_)
          | (refine wpList_store_all rfl 24 (.tmp 4) (.tmp 27) rfl w2.heap.size 24 _ HG5.out rfl (labC Lab.none_ none 0 0) rfl lab_info rfl (labC_one _ _ _ _) ?_; intro w6 hb6 hg6 hs6; clear hs6))
        exact ret_cell_tmp rfl w2.heap.size 24 (labC Lab.none_ none 0 0) _ hb6 rfl Try.underlying24 rfl lab_info (.int .i64 9) rfl rfl ⟨⟨none, 0, 0, by rw [H1.out, HE.out]; rfl, by rw [H1.out]; exact Gave.none_⟩, HL5.out.grown hg6 (by omega) (fun g e => by injection e with e; omega)⟩
      | false =>
        have hst' : ¬ m.2.2 ≠ 0 := by simpa using hst
        rw [if_neg hst'] at hE0
        cases hfd : l.members.any (fun y => y.2.2 == 1) with
        | true =>
          have hE : lostE l id = 5 := by rw [hE0, if_pos hfd]
          have HE := hide hE
          have H1 := hide (lost_bad hE (by decide))
          have HFv := hide hfd
          clear hE hE0 HOw hst' hfd
          go_enter Try.func11, Try.ntmps11
          go_wp2_with (first
            | (refine wpList_box_blk rfl 24 (.tmp 0) rfl (.agg (labC l (some ad) n c).toArray) rfl ?_; intro w1 hb1q hl1 hs1; clear hs1; have hb1 : Blk w1 w.heap.size 24 (labC l (some ad) n c).toArray := hb1q; clear hb1q)
            | (refine wpList_box_blk rfl 3 (.tmp 1) rfl (.int .i64 id) rfl ?_; intro w2 hb2 hl2 hs2; clear hs2)
            | (refine wpList_alloc_blk (o := ⟨some 4, _, _, _, _, _⟩) rfl 24 rfl _ (lab_zero _) ?_; intro w3 hb3 hl3 hs3; clear hs3; have hz1 := hb1.lt; have hz2 := hb2.lt; have hz3 := hb3.lt; have hl23 : Below w1.heap.size w1 w3 := hl2.trans (hl3.mono (by omega)); have HB3 := hide (hb1.below hl23 hz1); have hid3 : w3.cell? ⟨w1.heap.size, 0, none⟩ = some (.int .i64 id) := (hb2.below hl3 hz2).cell 0; have HL3 := hide (hl1.trans (hl23.mono (by omega))); have HG3 := hide hb3; have x4 := lab_c4 HB3.out; clear hb1 hl1 hb2 hl2 hb3 hl3 hl23)
            | (go_at_call 19; refine (HI.out w3 w1.heap.size HL3.out (by omega) hid3).mono ?_; rintro _ w4 ⟨rfl, hl4⟩; have hz4 := hl4.size; have HB4 := hide (HB3.out.below hl4 (by omega)); have HG4 := hide (HG3.out.below hl4 (by omega)); have HL4 := hide (HL3.out.trans (hl4.mono (by omega))); have x4 := lab_c4 HB4.out; clear hl4 hid3)
            | (refine when_load rfl 24 (.tmp 2) rfl w.heap.size 0 24 _ HB4.out rfl (labC l (some ad) n c) _ (fun j v hj => by rw [Nat.zero_add]; simpa using hj) Try.underlying24 rfl lab_info ?_)
            | (go_at_call 10; refine (HR.out w4 HL4.out).mono ?_; rw [HRt.out]; rintro _ w5 ⟨rfl, hl5⟩; have hz5 := hl5.size; have HB5 := hide (HB4.out.below hl5 (by omega)); have HG5 := hide (HG4.out.below hl5 (by omega)); have HL5 := hide (HL4.out.trans (hl5.mono (by omega))); have x4 := lab_c4 HB5.out; have y2 : w5.cell? ⟨(ad.add (k * 3)).block, (ad.add (k * 3)).off + 2, none⟩ = some (.int .i64 m.2.2) := HCS.out w5 HL5.out 2 _ rfl; clear hl5)
            | (go_at_call 17; refine (HFd.out w5 HL5.out).mono ?_; rw [HFv.out]; rintro _ w6 ⟨rfl, hl6⟩; have hz6 := hl6.size; have HB6 := hide (HB5.out.below hl6 (by omega)); have HG6 := hide (HG5.out.below hl6 (by omega)); have HL6 := hide (HL5.out.trans (hl6.mono (by omega))); clear hl6)
            | (refine wpList_build_is rfl 24 #[] rfl [] rfl _ built_lab0 ?_)
            | (refine wpList_store_all rfl 24 (.tmp 4) (.tmp 31) rfl w2.heap.size 24 _ HG6.out rfl (labC Lab.none_ none 0 0) rfl lab_info rfl (labC_one _ _ _ _) ?_; intro w7 hb7 hg7 hs7; clear hs7))
          exact ret_cell_tmp rfl w2.heap.size 24 (labC Lab.none_ none 0 0) _ hb7 rfl Try.underlying24 rfl lab_info (.int .i64 5) rfl rfl ⟨⟨none, 0, 0, by rw [H1.out, HE.out]; rfl, by rw [H1.out]; exact Gave.none_⟩, HL6.out.grown hg7 (by omega) (fun g e => by injection e with e; omega)⟩
        | false =>
          have HFv := hide hfd
          rw [if_neg (by rw [hfd]; decide)] at hE0
          clear hst' hfd
          have hgen := (right_parts HRt.out).2.1
          have hP : (failL l k).members = l.members.set k (m.1, m.2.1, 1) := fail_at HX.out
          have HP := hide hP
          have HR2 := hide (fun (w1 : World) (A2 : Option Addr) (n2 c2 : Nat) (hi : MbIn w1 w1.heap.size A2 n2 c2 (failL l k).members) => right_any (failL l k) A2 n2 c2 w1.heap.size w1 hi (Nat.le_refl _))
          clear hP
          cases hr2 : rightB (failL l k) with
          | false =>
            have hE : lostE l id = 3 := by rw [hE0, if_pos hr2]
            have HE := hide hE
            have H1 := hide (lost_bad hE (by decide))
            rw [hr2] at HR2
            obtain ⟨hgen1, hgen2⟩ := hgen
            clear hE hE0 hr2
            go_enter Try.func11, Try.ntmps11
            go_upto_region 9 with (first
              | (refine wpList_box_blk rfl 24 (.tmp 0) rfl (.agg (labC l (some ad) n c).toArray) rfl ?_; intro w1 hb1q hl1 hs1; clear hs1; have hb1 : Blk w1 w.heap.size 24 (labC l (some ad) n c).toArray := hb1q; clear hb1q)
              | (refine wpList_box_blk rfl 3 (.tmp 1) rfl (.int .i64 id) rfl ?_; intro w2 hb2 hl2 hs2; clear hs2)
              | (refine wpList_alloc_blk (o := ⟨some 4, _, _, _, _, _⟩) rfl 24 rfl _ (lab_zero _) ?_; intro w3 hb3 hl3 hs3; clear hs3; have hz1 := hb1.lt; have hz2 := hb2.lt; have hz3 := hb3.lt; have hl23 : Below w1.heap.size w1 w3 := hl2.trans (hl3.mono (by omega)); have HB3 := hide (hb1.below hl23 hz1); have hid3 : w3.cell? ⟨w1.heap.size, 0, none⟩ = some (.int .i64 id) := (hb2.below hl3 hz2).cell 0; have HL3 := hide (hl1.trans (hl23.mono (by omega))); have HG3 := hide hb3; have x4 := lab_c4 HB3.out; clear hb1 hl1 hb2 hl2 hb3 hl3 hl23)
              | (go_at_call 19; refine (HI.out w3 w1.heap.size HL3.out (by omega) hid3).mono ?_; rintro _ w4 ⟨rfl, hl4⟩; have hz4 := hl4.size; have HB4 := hide (HB3.out.below hl4 (by omega)); have HG4 := hide (HG3.out.below hl4 (by omega)); have HL4 := hide (HL3.out.trans (hl4.mono (by omega))); have x4 := lab_c4 HB4.out; clear hl4 hid3)
              | (refine when_load rfl 24 (.tmp 2) rfl w.heap.size 0 24 _ HB4.out rfl (labC l (some ad) n c) _ (fun j v hj => by rw [Nat.zero_add]; simpa using hj) Try.underlying24 rfl lab_info ?_)
              | (go_at_call 10; refine (HR.out w4 HL4.out).mono ?_; rw [HRt.out]; rintro _ w5 ⟨rfl, hl5⟩; have hz5 := hl5.size; have HB5 := hide (HB4.out.below hl5 (by omega)); have HG5 := hide (HG4.out.below hl5 (by omega)); have HL5 := hide (HL4.out.trans (hl5.mono (by omega))); have x4 := lab_c4 HB5.out; have y2 : w5.cell? ⟨(ad.add (k * 3)).block, (ad.add (k * 3)).off + 2, none⟩ = some (.int .i64 m.2.2) := HCS.out w5 HL5.out 2 _ rfl; clear hl5)
              | (go_at_call 17; refine (HFd.out w5 HL5.out).mono ?_; rw [HFv.out]; rintro _ w6 ⟨rfl, hl6⟩; have hz6 := hl6.size; have HB6 := hide (HB5.out.below hl6 (by omega)); have HG6 := hide (HG5.out.below hl6 (by omega)); have HL6 := hide (HL5.out.trans (hl6.mono (by omega))); clear hl6)
              | (refine wpList_load_blk (o := ⟨some 32, _, _, _, _, _⟩) rfl 24 (.tmp 2) rfl w.heap.size 0 24 _ HB6.out rfl (labC l (some ad) n c) _ (fun j v hj => by rw [Nat.zero_add]; simpa using hj) Try.underlying24 rfl lab_info ?_)
              | (go_at_call 22; refine (HOw.out w6 HL6.out).mono ?_; rintro _ w7 ⟨⟨A7, n7, c7, rfl, hn7, hc7, hown7⟩, hl7⟩; have hz7 := hl7.size; have HG7 := hide (HG6.out.below hl7 (by omega)); have HL7 := hide (HL6.out.trans (hl7.mono (by omega))); have HO7 := hide hown7; clear hown7 hl7)
              | (refine wpList_alloc_blk (o := ⟨some 7, _, _, _, _, _⟩) rfl 24 rfl _ (lab_zero _) ?_; intro w8 hb8 hl8 hs8; clear hs8)
              | (refine wpList_store_all rfl 24 (.tmp 7) (.tmp 33) rfl w7.heap.size 24 _ hb8 rfl (labC l A7 n7 c7) rfl lab_info rfl (labC_one _ _ _ _) ?_; intro w9 hb9 hg9 hs9; clear hs9))
            have hO7 := HO7.out
            have hl7n := hO7.1
            rw [mbL_length, hlen] at hl7n
            obtain rfl : n7 = n := (by omega)
            obtain ⟨g, rfl, hgb, hgs⟩ := own_some hO7 (by omega)
            have hne1 : g ≠ w7.heap.size := (by omega)
            have hne2 : w7.heap.size ≠ g := (by omega)
            have ho9 := (own_later hO7 hl8).kept hg9 (.inr (some_ne (show g ≠ w7.heap.size by omega)))
            obtain ⟨y9, f9⟩ := own_at ho9 HX.out
            have x1 := lab_c1 hb9
            have x4 := lab_c4 hb9
            have f1 := hb9.frozen 1
            have ho10 : (((w9.setCell ⟨w7.heap.size, 1, none⟩ (.int .i64 (l.gen + 1))).setCell ⟨g, k * 3 + 2, none⟩ (.int .i64 1))).ownsRow w6.heap.size 28 3 (.slice (some ⟨g, 0, none⟩) n7 c7) n7 (mbL (failL l k).members) := (by rw [HP.out]; exact own_poke 1 (ho9.kept (grown_set (grown_refl w9 (some w7.heap.size)) ⟨w7.heap.size, 1, none⟩ rfl _) (.inr (some_ne (show g ≠ w7.heap.size by omega)))) HX.out)
            have hB10 : Blk ((w9.setCell ⟨w7.heap.size, 1, none⟩ (.int .i64 (l.gen + 1))).setCell ⟨g, k * 3 + 2, none⟩ (.int .i64 1)) w7.heap.size 24 (labC (failL l k) (some ⟨g, 0, none⟩) n7 c7).toArray := (hb9.set_ 1 _).far (p := ⟨g, k * 3 + 2, none⟩) (by show w7.heap.size ≠ g; omega) _
            have hG10 : Blk ((w9.setCell ⟨w7.heap.size, 1, none⟩ (.int .i64 (l.gen + 1))).setCell ⟨g, k * 3 + 2, none⟩ (.int .i64 1)) w2.heap.size 24 (labC Lab.none_ none 0 0).toArray := ((((HG7.out.below hl8 (by omega)).grown hg9 (fun e => by injection e with e; omega))).far (p := ⟨w7.heap.size, 1, none⟩) (by show w2.heap.size ≠ w7.heap.size; omega) _).far (p := ⟨g, k * 3 + 2, none⟩) (by show w2.heap.size ≠ g; omega) _
            have hz8 := hl8.size
            have hz9 := hg9.size
            have hL10 : Below w.heap.size w ((w9.setCell ⟨w7.heap.size, 1, none⟩ (.int .i64 (l.gen + 1))).setCell ⟨g, k * 3 + 2, none⟩ (.int .i64 1)) := (((HL7.out.trans (hl8.mono (by omega))).grown hg9 (by omega) (fun g e => by injection e with e; omega)).setCell (p := ⟨w7.heap.size, 1, none⟩) (by show w.heap.size ≤ w7.heap.size; omega) _).setCell (p := ⟨g, k * 3 + 2, none⟩) (by show w.heap.size ≤ g; omega) _
            have HO10 := hide ho10
            have HB10 := hide hB10
            have HG10 := hide hG10
            have HL10 := hide hL10
            have hsz := hL10.size
            clear ho9 ho10 hB10 hG10 hL10 hb8 hl8 hb9 hg9 hO7 hl7n
            go_upto_region 10 with fail
            go_upto_region 11 with fail
            generalize ((w9.setCell ⟨w7.heap.size, 1, none⟩ (.int .i64 (l.gen + 1))).setCell ⟨g, k * 3 + 2, none⟩ (.int .i64 1)) = w10 at HO10 HB10 HG10 HL10 hsz ⊢
            clear y9 f9 x1 x4 f1 y2 hne1 hne2 HCS
            go_wp2_with (first
              | (refine wpList_load_blk (o := ⟨some 43, _, _, _, _, _⟩) rfl 24 (.tmp 7) rfl w7.heap.size 0 24 _ HB10.out rfl (labC (failL l k) (some ⟨g, 0, none⟩) n7 c7) _ (fun j v hj => by rw [Nat.zero_add]; simpa using hj) Try.underlying24 rfl lab_info ?_))
            refine (HR2.out w10 (some ⟨g, 0, none⟩) n7 c7 ⟨Reads.of_own HO10.out, hn7, by simpa [maxLen] using hc7⟩).mono ?_
            rintro _ w11 ⟨rfl, hl11⟩
            have hz11 := hl11.size
            have hlg := HG10.out.lt
            have hlb := HB10.out.lt
            have HG11 := hide (HG10.out.below hl11 hlg)
            have HB11 := hide (HB10.out.below hl11 hlb)
            have HL11 := hide (HL10.out.trans (hl11.mono hsz))
            have HO11 := hide (own_later HO10.out hl11)
            clear hl11
            go_wp2_with (first
              | (refine wpList_build_is rfl 24 #[] rfl [] rfl _ built_lab0 ?_)
              | (refine wpList_store_all rfl 24 (.tmp 4) (.tmp 46) rfl w2.heap.size 24 _ HG11.out rfl (labC Lab.none_ none 0 0) rfl lab_info rfl (labC_one _ _ _ _) ?_; intro w12 hb12 hg12 hs12; clear hs12))
            exact ret_cell_tmp rfl w2.heap.size 24 (labC Lab.none_ none 0 0) _ hb12 rfl Try.underlying24 rfl lab_info (.int .i64 3) rfl rfl ⟨⟨none, 0, 0, by rw [H1.out, HE.out]; rfl, by rw [H1.out]; exact Gave.none_⟩, HL11.out.grown hg12 (by omega) (fun g e => by injection e with e; omega)⟩
          | true =>
            have hE : lostE l id = 0 := by rw [hE0, if_neg (by rw [hr2]; decide)]
            have HE := hide hE
            have H1 := hide (show lostL l id = failL l k by rw [lostL, hE, if_pos rfl, ← HK.out])
            rw [hr2] at HR2
            obtain ⟨hgen1, hgen2⟩ := hgen
            clear hE hE0 hr2
            go_enter Try.func11, Try.ntmps11
            go_upto_region 9 with (first
              | (refine wpList_box_blk rfl 24 (.tmp 0) rfl (.agg (labC l (some ad) n c).toArray) rfl ?_; intro w1 hb1q hl1 hs1; clear hs1; have hb1 : Blk w1 w.heap.size 24 (labC l (some ad) n c).toArray := hb1q; clear hb1q)
              | (refine wpList_box_blk rfl 3 (.tmp 1) rfl (.int .i64 id) rfl ?_; intro w2 hb2 hl2 hs2; clear hs2)
              | (refine wpList_alloc_blk (o := ⟨some 4, _, _, _, _, _⟩) rfl 24 rfl _ (lab_zero _) ?_; intro w3 hb3 hl3 hs3; clear hs3; have hz1 := hb1.lt; have hz2 := hb2.lt; have hz3 := hb3.lt; have hl23 : Below w1.heap.size w1 w3 := hl2.trans (hl3.mono (by omega)); have HB3 := hide (hb1.below hl23 hz1); have hid3 : w3.cell? ⟨w1.heap.size, 0, none⟩ = some (.int .i64 id) := (hb2.below hl3 hz2).cell 0; have HL3 := hide (hl1.trans (hl23.mono (by omega))); have HG3 := hide hb3; have x4 := lab_c4 HB3.out; clear hb1 hl1 hb2 hl2 hb3 hl3 hl23)
              | (go_at_call 19; refine (HI.out w3 w1.heap.size HL3.out (by omega) hid3).mono ?_; rintro _ w4 ⟨rfl, hl4⟩; have hz4 := hl4.size; have HB4 := hide (HB3.out.below hl4 (by omega)); have HG4 := hide (HG3.out.below hl4 (by omega)); have HL4 := hide (HL3.out.trans (hl4.mono (by omega))); have x4 := lab_c4 HB4.out; clear hl4 hid3)
              | (refine when_load rfl 24 (.tmp 2) rfl w.heap.size 0 24 _ HB4.out rfl (labC l (some ad) n c) _ (fun j v hj => by rw [Nat.zero_add]; simpa using hj) Try.underlying24 rfl lab_info ?_)
              | (go_at_call 10; refine (HR.out w4 HL4.out).mono ?_; rw [HRt.out]; rintro _ w5 ⟨rfl, hl5⟩; have hz5 := hl5.size; have HB5 := hide (HB4.out.below hl5 (by omega)); have HG5 := hide (HG4.out.below hl5 (by omega)); have HL5 := hide (HL4.out.trans (hl5.mono (by omega))); have x4 := lab_c4 HB5.out; have y2 : w5.cell? ⟨(ad.add (k * 3)).block, (ad.add (k * 3)).off + 2, none⟩ = some (.int .i64 m.2.2) := HCS.out w5 HL5.out 2 _ rfl; clear hl5)
              | (go_at_call 17; refine (HFd.out w5 HL5.out).mono ?_; rw [HFv.out]; rintro _ w6 ⟨rfl, hl6⟩; have hz6 := hl6.size; have HB6 := hide (HB5.out.below hl6 (by omega)); have HG6 := hide (HG5.out.below hl6 (by omega)); have HL6 := hide (HL5.out.trans (hl6.mono (by omega))); clear hl6)
              | (refine wpList_load_blk (o := ⟨some 32, _, _, _, _, _⟩) rfl 24 (.tmp 2) rfl w.heap.size 0 24 _ HB6.out rfl (labC l (some ad) n c) _ (fun j v hj => by rw [Nat.zero_add]; simpa using hj) Try.underlying24 rfl lab_info ?_)
              | (go_at_call 22; refine (HOw.out w6 HL6.out).mono ?_; rintro _ w7 ⟨⟨A7, n7, c7, rfl, hn7, hc7, hown7⟩, hl7⟩; have hz7 := hl7.size; have HG7 := hide (HG6.out.below hl7 (by omega)); have HL7 := hide (HL6.out.trans (hl7.mono (by omega))); have HO7 := hide hown7; clear hown7 hl7)
              | (refine wpList_alloc_blk (o := ⟨some 7, _, _, _, _, _⟩) rfl 24 rfl _ (lab_zero _) ?_; intro w8 hb8 hl8 hs8; clear hs8)
              | (refine wpList_store_all rfl 24 (.tmp 7) (.tmp 33) rfl w7.heap.size 24 _ hb8 rfl (labC l A7 n7 c7) rfl lab_info rfl (labC_one _ _ _ _) ?_; intro w9 hb9 hg9 hs9; clear hs9))
            have hO7 := HO7.out
            have hl7n := hO7.1
            rw [mbL_length, hlen] at hl7n
            obtain rfl : n7 = n := (by omega)
            obtain ⟨g, rfl, hgb, hgs⟩ := own_some hO7 (by omega)
            have hne1 : g ≠ w7.heap.size := (by omega)
            have hne2 : w7.heap.size ≠ g := (by omega)
            have ho9 := (own_later hO7 hl8).kept hg9 (.inr (some_ne (show g ≠ w7.heap.size by omega)))
            obtain ⟨y9, f9⟩ := own_at ho9 HX.out
            have x1 := lab_c1 hb9
            have x4 := lab_c4 hb9
            have f1 := hb9.frozen 1
            have ho10 : (((w9.setCell ⟨w7.heap.size, 1, none⟩ (.int .i64 (l.gen + 1))).setCell ⟨g, k * 3 + 2, none⟩ (.int .i64 1))).ownsRow w6.heap.size 28 3 (.slice (some ⟨g, 0, none⟩) n7 c7) n7 (mbL (failL l k).members) := (by rw [HP.out]; exact own_poke 1 (ho9.kept (grown_set (grown_refl w9 (some w7.heap.size)) ⟨w7.heap.size, 1, none⟩ rfl _) (.inr (some_ne (show g ≠ w7.heap.size by omega)))) HX.out)
            have hB10 : Blk ((w9.setCell ⟨w7.heap.size, 1, none⟩ (.int .i64 (l.gen + 1))).setCell ⟨g, k * 3 + 2, none⟩ (.int .i64 1)) w7.heap.size 24 (labC (failL l k) (some ⟨g, 0, none⟩) n7 c7).toArray := (hb9.set_ 1 _).far (p := ⟨g, k * 3 + 2, none⟩) (by show w7.heap.size ≠ g; omega) _
            have hG10 : Blk ((w9.setCell ⟨w7.heap.size, 1, none⟩ (.int .i64 (l.gen + 1))).setCell ⟨g, k * 3 + 2, none⟩ (.int .i64 1)) w2.heap.size 24 (labC Lab.none_ none 0 0).toArray := ((((HG7.out.below hl8 (by omega)).grown hg9 (fun e => by injection e with e; omega))).far (p := ⟨w7.heap.size, 1, none⟩) (by show w2.heap.size ≠ w7.heap.size; omega) _).far (p := ⟨g, k * 3 + 2, none⟩) (by show w2.heap.size ≠ g; omega) _
            have hz8 := hl8.size
            have hz9 := hg9.size
            have hL10 : Below w.heap.size w ((w9.setCell ⟨w7.heap.size, 1, none⟩ (.int .i64 (l.gen + 1))).setCell ⟨g, k * 3 + 2, none⟩ (.int .i64 1)) := (((HL7.out.trans (hl8.mono (by omega))).grown hg9 (by omega) (fun g e => by injection e with e; omega)).setCell (p := ⟨w7.heap.size, 1, none⟩) (by show w.heap.size ≤ w7.heap.size; omega) _).setCell (p := ⟨g, k * 3 + 2, none⟩) (by show w.heap.size ≤ g; omega) _
            have HO10 := hide ho10
            have HB10 := hide hB10
            have HG10 := hide hG10
            have HL10 := hide hL10
            have hsz := hL10.size
            clear ho9 ho10 hB10 hG10 hL10 hb8 hl8 hb9 hg9 hO7 hl7n
            go_upto_region 10 with fail
            go_upto_region 11 with fail
            generalize ((w9.setCell ⟨w7.heap.size, 1, none⟩ (.int .i64 (l.gen + 1))).setCell ⟨g, k * 3 + 2, none⟩ (.int .i64 1)) = w10 at HO10 HB10 HG10 HL10 hsz ⊢
            clear y9 f9 x1 x4 f1 y2 hne1 hne2 HCS
            go_wp2_with (first
              | (refine wpList_load_blk (o := ⟨some 43, _, _, _, _, _⟩) rfl 24 (.tmp 7) rfl w7.heap.size 0 24 _ HB10.out rfl (labC (failL l k) (some ⟨g, 0, none⟩) n7 c7) _ (fun j v hj => by rw [Nat.zero_add]; simpa using hj) Try.underlying24 rfl lab_info ?_))
            refine (HR2.out w10 (some ⟨g, 0, none⟩) n7 c7 ⟨Reads.of_own HO10.out, hn7, by simpa [maxLen] using hc7⟩).mono ?_
            rintro _ w11 ⟨rfl, hl11⟩
            have hz11 := hl11.size
            have hlg := HG10.out.lt
            have hlb := HB10.out.lt
            have HG11 := hide (HG10.out.below hl11 hlg)
            have HB11 := hide (HB10.out.below hl11 hlb)
            have HL11 := hide (HL10.out.trans (hl11.mono hsz))
            have HO11 := hide (own_later HO10.out hl11)
            clear hl11
            go_wp2_with (first
              | (refine wpList_load_blk (o := ⟨some 47, _, _, _, _, _⟩) rfl 24 (.tmp 7) rfl w7.heap.size 0 24 _ HB11.out rfl (labC (failL l k) (some ⟨g, 0, none⟩) n7 c7) _ (fun j v hj => by rw [Nat.zero_add]; simpa using hj) Try.underlying24 rfl lab_info ?_)
              | (refine wpList_store_all rfl 24 (.tmp 4) (.tmp 47) rfl w2.heap.size 24 _ HG11.out rfl (labC (failL l k) (some ⟨g, 0, none⟩) n7 c7) rfl lab_info rfl (labC_one _ _ _ _) ?_; intro w12 hb12 hg12 hs12; clear hs12))
            have ho12 := HO11.out.kept hg12 (.inr (some_ne (show g ≠ w2.heap.size by omega)))
            exact ret_cell_tmp rfl w2.heap.size 24 (labC (failL l k) (some ⟨g, 0, none⟩) n7 c7) _ hb12 rfl Try.underlying24 rfl lab_info (.int .i64 0) rfl rfl ⟨⟨_, _, _, by rw [H1.out, HE.out]; rfl, by rw [H1.out]; exact own_gave hn7 hc7 (own_base ho12 (by omega))⟩, HL11.out.grown hg12 (by omega) (fun g e => by injection e with e; omega)⟩
  · rw [if_neg hkn] at hidx
    rw [hidx] at HI
    have hE : lostE l id = 1 := by rw [lostE, if_pos (by omega)]
    have HE := hide hE
    have H1 := hide (lost_bad hE (by decide))
    clear hidx hk hE HR HFd HOw
    go_enter Try.func11, Try.ntmps11
    go_wp2_with (first
      | (refine wpList_box_blk rfl 24 (.tmp 0) rfl (.agg (labC l A n c).toArray) rfl ?_; intro w1 hb1q hl1 hs1; clear hs1; have hb1 : Blk w1 w.heap.size 24 (labC l A n c).toArray := hb1q; clear hb1q)
      | (refine wpList_box_blk rfl 3 (.tmp 1) rfl (.int .i64 id) rfl ?_; intro w2 hb2 hl2 hs2; clear hs2)
      | (refine wpList_alloc_blk (o := ⟨some 4, _, _, _, _, _⟩) rfl 24 rfl _ (lab_zero _) ?_; intro w3 hb3 hl3 hs3; clear hs3; have hz1 := hb1.lt; have hz2 := hb2.lt; have hz3 := hb3.lt; have hl23 : Below w1.heap.size w1 w3 := hl2.trans (hl3.mono (by omega)); have HB3 := hide (hb1.below hl23 hz1); have hid3 : w3.cell? ⟨w1.heap.size, 0, none⟩ = some (.int .i64 id) := (hb2.below hl3 hz2).cell 0; have HL3 := hide (hl1.trans (hl23.mono (by omega))); have HG3 := hide hb3; have x4 := lab_c4 HB3.out; clear hb1 hl1 hb2 hl2 hb3 hl3 hl23)
      | (go_at_call 19; refine (HI.out w3 w1.heap.size HL3.out (by omega) hid3).mono ?_; rintro _ w4 ⟨rfl, hl4⟩; have hz4 := hl4.size; have HB4 := hide (HB3.out.below hl4 (by omega)); have HG4 := hide (HG3.out.below hl4 (by omega)); have HL4 := hide (HL3.out.trans (hl4.mono (by omega))); have x4 := lab_c4 HB4.out; clear hl4 hid3)
      | (refine wpList_build_is rfl 24 #[] rfl [] rfl _ built_lab0 ?_)
      | (refine wpList_store_all rfl 24 (.tmp 4) (.tmp 19) rfl w2.heap.size 24 _ HG4.out rfl (labC Lab.none_ none 0 0) rfl lab_info rfl (labC_one _ _ _ _) ?_; intro w6 hb6 hg6 hs6; clear hs6))
    exact ret_cell_tmp rfl w2.heap.size 24 (labC Lab.none_ none 0 0) _ hb6 rfl Try.underlying24 rfl lab_info (.int .i64 1) rfl rfl ⟨⟨none, 0, 0, by rw [H1.out, HE.out]; rfl, by rw [H1.out]; exact Gave.none_⟩, HL4.out.grown hg6 (by omega) (fun g e => by injection e with e; omega)⟩
#print axioms lost_any
end Go.Proofs.Ytjdfeidakmkchaa
