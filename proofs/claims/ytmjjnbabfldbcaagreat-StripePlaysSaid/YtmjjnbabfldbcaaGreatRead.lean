/- What the calls that only read a bank answer. -/
import Derived.Test.YtmjjnbabfldbcaaGreatUpd
namespace Go.Proofs.YtmjjnbabfldbcaaGreat
open Go.RowKit

/-- What holder hands back. -/
def holdV (L : Lay) (S : Bank) (d k : Nat) : Value := .tuple #[.pointer (if S.place d k = 0 then some ⟨L.mb, d * 5, none⟩ else none), .int .i64 (S.place d k : Int)]
theorem may_lt {S : Bank} {d : Nat} (h : S.may d = 0) : d < S.n ∧ S.dead d = false ∧ S.down = false := by
  unfold Bank.may at h
  split at h
  · cases h
  · rename_i h1
    split at h
    · cases h
    · rename_i h2
      split at h
      · cases h
      · rename_i h3
        exact ⟨by omega, by simpa using h2, by simpa using h3⟩
section
variable {w : World} {b : Nat} {L : Lay} {S : Bank}
set_option maxRecDepth 100000 in
theorem holder_any (h : BankIn w b L S) (d k : Nat) :
    Calls Tryz.prog 47 #[.pointer (some ⟨b, 0, none⟩), .agg #[.int .i64 (d : Int), .int .i64 (k : Int)]] w fun e w' => e = .returned (holdV L S d k) ∧ Below w.heap.size w w' := by
  have HB := hide h
  unfold holdV
  by_cases hm : S.may d = 0
  · obtain ⟨hd, _, _⟩ := may_lt hm
    have hw : workV L S d = .tuple #[.pointer (some ⟨L.mb, d * 5, none⟩), .int .i64 0] := by unfold workV; rw [if_pos hm, hm]; rfl
    have hml := h.mlt hd
    obtain ⟨m0, _⟩ := h.m hd
    by_cases hk : k < S.size d
    · have hp : S.place d k = 0 := by unfold Bank.place; rw [if_pos hm, if_pos hk]
      rw [if_pos hp, hp]
      clear hp hm h
      have HWK := hide hw
      clear hw
      go_enter Tryz.func47, Tryz.ntmps47
      go_wp2_with (first
        | (refine wpList_box_blk rfl 47 (.tmp 1) rfl (.agg #[.int .i64 (d : Int), .int .i64 (k : Int)]) rfl ?_; intro w1 hb1 hl1 hs1; clear hs1; have p0 : w1.cell? ⟨w.heap.size, 0, none⟩ = some (.int .i64 (d : Int)) := hb1.cell 0; have p1 : w1.cell? ⟨w.heap.size, 1, none⟩ = some (.int .i64 (k : Int)) := hb1.cell 1; have m01 := (hl1.cell (p := ⟨L.mb, d * 5, none⟩) hml).trans m0)
        | (go_at_call 84; refine (working_any (HB.out.later hl1) d).mono ?_; rw [HWK.out]; rintro _ _ ⟨rfl, rfl⟩))
      go_quiet (first | (go_at_call 87; exact quiet_as (has_yes k (S.size d) m01 hk)))
      go_wp2
      go_ret2
      exact ⟨rfl, hl1.trans ⟨rfl, rfl, rfl, Nat.le_refl _, fun _ _ => rfl⟩⟩
    · have hp : S.place d k = 3 := by unfold Bank.place; rw [if_pos hm, if_neg hk]
      rw [hp, if_neg (by decide)]
      clear hp hm h
      have HWK := hide hw
      clear hw
      go_enter Tryz.func47, Tryz.ntmps47
      go_wp2_with (first
        | (refine wpList_box_blk rfl 47 (.tmp 1) rfl (.agg #[.int .i64 (d : Int), .int .i64 (k : Int)]) rfl ?_; intro w1 hb1 hl1 hs1; clear hs1; have p0 : w1.cell? ⟨w.heap.size, 0, none⟩ = some (.int .i64 (d : Int)) := hb1.cell 0; have p1 : w1.cell? ⟨w.heap.size, 1, none⟩ = some (.int .i64 (k : Int)) := hb1.cell 1; have m01 := (hl1.cell (p := ⟨L.mb, d * 5, none⟩) hml).trans m0)
        | (go_at_call 84; refine (working_any (HB.out.later hl1) d).mono ?_; rw [HWK.out]; rintro _ _ ⟨rfl, rfl⟩))
      go_quiet (first | (go_at_call 87; exact quiet_as (has_no k (S.size d) m01 (by omega))))
      go_wp2
      go_ret2
      exact ⟨rfl, hl1.trans ⟨rfl, rfl, rfl, Nat.le_refl _, fun _ _ => rfl⟩⟩
  · have hp : S.place d k = S.may d := by unfold Bank.place; rw [if_neg hm]
    have hw : workV L S d = .tuple #[.pointer none, .int .i64 (S.may d : Int)] := by unfold workV; rw [if_neg hm]
    have hne : ¬ ((S.may d : Int) = 0) := by omega
    rw [hp, if_neg hm]
    clear hp h
    generalize S.may d = y at hm hw hne ⊢
    have HWK := hide hw
    clear hw
    go_enter Tryz.func47, Tryz.ntmps47
    go_wp2_with (first
      | (refine wpList_box_blk rfl 47 (.tmp 1) rfl (.agg #[.int .i64 (d : Int), .int .i64 (k : Int)]) rfl ?_; intro w1 hb1 hl1 hs1; clear hs1; have p0 : w1.cell? ⟨w.heap.size, 0, none⟩ = some (.int .i64 (d : Int)) := hb1.cell 0)
      | (go_at_call 84; refine (working_any (HB.out.later hl1) d).mono ?_; rw [HWK.out]; rintro _ _ ⟨rfl, rfl⟩))
    go_quiet (first | fail)
    go_wp2
    go_ret2
    exact ⟨rfl, hl1.trans ⟨rfl, rfl, rfl, Nat.le_refl _, fun _ _ => rfl⟩⟩
theorem up_any (h : BankIn w b L S) :
    Calls Tryz.prog 11 #[.pointer (some ⟨b, 0, none⟩)] w fun e w' => e = .returned (.bool (!S.down)) ∧ w = w' := by
  have c1 := h.c1
  go_enter Tryz.func11, Tryz.ntmps11
  go_wp2
  go_ret
  exact ⟨rfl, rfl⟩
theorem writes_any (h : BankIn w b L S) :
    Calls Tryz.prog 10 #[.pointer (some ⟨b, 0, none⟩)] w fun e w' => e = .returned (.int .i64 (S.writes : Int)) ∧ w = w' := by
  have c2 := h.c2
  go_enter Tryz.func10, Tryz.ntmps10
  go_wp2
  go_ret
  exact ⟨rfl, rfl⟩
/-- What Read answers. -/
def readV (S : Bank) (d k : Nat) : Value := .tuple #[secV (if S.place d k = 0 then S.newest d k else zeroSec), .int .i64 (S.place d k : Int)]
set_option maxRecDepth 100000 in
theorem read_any (h : BankIn w b L S) (hok : S.Ok) (d k : Nat) :
    Calls Tryz.prog 13 #[.pointer (some ⟨b, 0, none⟩), .agg #[.int .i64 (d : Int), .int .i64 (k : Int)]] w fun e w' => e = .returned (readV S d k) ∧ Below w.heap.size w w' := by
  have HB := hide h
  unfold readV
  obtain ⟨U, hU⟩ : ∃ U, U = secL (if S.place d k = 0 then S.newest d k else zeroSec) := ⟨_, rfl⟩
  have hUs : secV (if S.place d k = 0 then S.newest d k else zeroSec) = .agg U.toArray := by rw [hU]; rfl
  have hUl : U.length = 64 := by rw [hU, secL_length]
  have hUo : ∀ v ∈ U, v.oneCell' = true := by rw [hU]; exact secL_one _
  have hiU : (Tryz.prog.info? 43).map (·.size) = some U.length := by rw [hUl]; exact sec_info
  rw [hUs]
  by_cases hp : S.place d k = 0
  · have hm : S.may d = 0 := by
      unfold Bank.place at hp
      by_cases hm : S.may d = 0
      · exact hm
      · rw [if_neg hm] at hp; exact hp
    obtain ⟨hd, hdead, _⟩ := may_lt hm
    have hkl : k < S.size d := by
      unfold Bank.place at hp
      rw [if_pos hm] at hp
      by_cases hk : k < S.size d
      · exact hk
      · rw [if_neg hk] at hp; cases hp
    have hsz := (hok.size_le d hd).2
    rw [if_pos hp] at hU hUs
    obtain ⟨x, f, hx, hmx, hfl⟩ := h.flat d hd hdead
    obtain ⟨l, hl, hml⟩ := h.loose d hd hdead
    have hN := newIs_of L hok hfl k
    have hnew : ∀ w' : World, Below w.heap.size w w' → Calls Tryz.prog 48 #[.pointer (some ⟨L.mb, d * 5, none⟩), .int .i64 (k : Int)] w' fun e w'' => e = .returned (.agg U.toArray) ∧ Below w'.heap.size w' w'' := by
      intro w' hb
      have h' := h.later hb
      obtain ⟨_, _, m2, m3, _⟩ := h'.m hd
      rw [hx] at m2
      rw [hl] at m3
      rw [← hUs]
      exact newest_any (o := d * 5) k _ (by omega) (h'.mlt hd) m3 (hml.below hb hml.lt) m2 (hmx.below hb hmx.lt) hN
    have hw : holdV L S d k = .tuple #[.pointer (some ⟨L.mb, d * 5, none⟩), .int .i64 0] := by unfold holdV; rw [if_pos hp, hp]; rfl
    rw [hp]
    have HWK := hide hw
    have HNEW := hide hnew
    have HUl := hide hUl
    have HUO := hide hUo
    have HIU := hide hiU
    clear hU hUs hUl hUo hiU hw hnew hN hfl hmx hml hx hl hp hm h
    go_enter Tryz.func13, Tryz.ntmps13
    go_wp2_with (first
      | (refine wpList_box_blk rfl 47 (.tmp 1) rfl (.agg #[.int .i64 (d : Int), .int .i64 (k : Int)]) rfl ?_; intro w1 hb1 hl1 hs1; clear hs1)
      | (refine wpList_alloc_blk rfl 43 rfl _ (sec_zero _) ?_; intro w2 hb2 hl2 hs2; clear hs2; have hb12 := hb1.below hl2 hb1.lt; have p0 : w2.cell? ⟨w.heap.size, 0, none⟩ = some (.int .i64 (d : Int)) := hb12.cell 0; have p1 : w2.cell? ⟨w.heap.size, 1, none⟩ = some (.int .i64 (k : Int)) := hb12.cell 1; have hl02 : Below w.heap.size w w2 := hl1.trans (hl2.mono hl1.size))
      | (go_at_call 47; refine (holder_any (HB.out.later hl02) d k).mono ?_; rw [HWK.out]; rintro _ w3 ⟨rfl, hl3⟩; have hb13 := hb12.below hl3 hb12.lt; have hb23 := hb2.below hl3 hb2.lt; have p13 : w3.cell? ⟨w.heap.size, 1, none⟩ = some (.int .i64 (k : Int)) := hb13.cell 1; have hl03 : Below w.heap.size w w3 := hl02.trans (hl3.mono hl02.size)))
    have p14 : w3.drew.cell? ⟨w.heap.size, 1, none⟩ = some (.int .i64 (k : Int)) := p13
    refine wp_region_still_tail 5 (by kernel_rfl) (by kernel_rfl) ?_
    change wpStill _ _ w3.drew _ _ _
    simp only [List.take_succ_cons, List.take_zero, List.drop_succ_cons, List.drop_zero]
    iterate 5 still_step
    refine wpStill_nil ?_
    change wpList _ _ _ _ _ w3.drew
    have hl03d : Below w.heap.size w w3.drew := hl03.drew
    have hb23d := hb23.drew
    go_wp2_with (first
      | (go_at_call 48; refine (HNEW.out _ hl03d).mono ?_; rintro _ w4 ⟨rfl, hl4⟩; have hb24 := hb23d.below hl4 hb23d.lt)
      | (refine wpList_store_all rfl 43 (.tmp 4) (.tmp 23) rfl w1.heap.size 43 _ hb24 rfl U rfl HIU.out (HUl.out.trans (secL_length zeroSec).symm) HUO.out ?_; intro w5 hb5 hg5 hs5; clear hs5))
    refine ret_cell_tmp rfl w1.heap.size 43 U _ hb5 rfl Tryz.underlying43 rfl HIU.out _ rfl rfl ⟨rfl, ?_⟩
    exact (hl03d.trans (hl4.mono hl03d.size)).grown hg5 (hl03d.trans (hl4.mono hl03d.size)).size (fun g e => by injection e with e; have := hl1.size; omega)
  · rw [if_neg hp] at hU hUs
    have hUz : Tryz.prog.built 43 [] = some U.toArray := by rw [hU]; exact built_zero
    have hw : holdV L S d k = .tuple #[.pointer none, .int .i64 (S.place d k : Int)] := by unfold holdV; rw [if_neg hp]
    have hne : ¬ ((S.place d k : Int) = 0) := by omega
    generalize S.place d k = y at hp hw hne ⊢
    have HWK := hide hw
    have HUZ := hide hUz
    have HUl := hide hUl
    have HUO := hide hUo
    have HIU := hide hiU
    clear hU hUs hUl hUo hiU hw h hUz
    go_enter Tryz.func13, Tryz.ntmps13
    go_wp2_with (first
      | (refine wpList_box_blk rfl 47 (.tmp 1) rfl (.agg #[.int .i64 (d : Int), .int .i64 (k : Int)]) rfl ?_; intro w1 hb1 hl1 hs1; clear hs1)
      | (refine wpList_alloc_blk rfl 43 rfl _ (sec_zero _) ?_; intro w2 hb2 hl2 hs2; clear hs2; have hb12 := hb1.below hl2 hb1.lt; have p0 : w2.cell? ⟨w.heap.size, 0, none⟩ = some (.int .i64 (d : Int)) := hb12.cell 0; have p1 : w2.cell? ⟨w.heap.size, 1, none⟩ = some (.int .i64 (k : Int)) := hb12.cell 1; have hl02 : Below w.heap.size w w2 := hl1.trans (hl2.mono hl1.size))
      | (go_at_call 47; refine (holder_any (HB.out.later hl02) d k).mono ?_; rw [HWK.out]; rintro _ w3 ⟨rfl, hl3⟩; have hb23 := hb2.below hl3 hb2.lt; have hl03 : Below w.heap.size w w3 := hl02.trans (hl3.mono hl02.size))
      | (refine wpList_build_is rfl 43 #[] rfl [] (by simp) _ HUZ.out ?_)
      | (refine wpList_store_all rfl 43 (.tmp 4) (.tmp 16) rfl w1.heap.size 43 _ hb23 rfl U rfl HIU.out (HUl.out.trans (secL_length zeroSec).symm) HUO.out ?_; intro w5 hb5 hg5 hs5; clear hs5))
    refine ret_cell_tmp rfl w1.heap.size 43 U _ hb5 rfl Tryz.underlying43 rfl HIU.out _ rfl rfl ⟨rfl, ?_⟩
    exact hl03.grown hg5 hl03.size (fun g e => by injection e with e; have := hl1.size; omega)
end
end Go.Proofs.YtmjjnbabfldbcaaGreat
