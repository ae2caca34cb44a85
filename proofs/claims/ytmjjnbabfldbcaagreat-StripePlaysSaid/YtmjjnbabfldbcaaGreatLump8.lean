/- Texts of the proof laid one behind the other: RefK RefKA NegR. -/
import Derived.Test.YtmjjnbabfldbcaaGreatBank
import Derived.Test.YtmjjnbabfldbcaaGreatRowS
import Derived.Test.YtmjjnbabfldbcaaGreatSort
import Derived.Deep.RegionLaw
import Derived.Deep.AppendLies
import Derived.Laws.MakeOwn
import Derived.Test.YtmjjnbabfldbcaaGreatWriteB
import Derived.StillTailTactics
import Derived.Test.YtmjjnbabfldbcaaGreatOrder
import Derived.Test.YtmjjnbabfldbcaaGreatWhenQ
import Derived.Test.YtmjjnbabfldbcaaGreatCalls
import Derived.Test.YtmjjnbabfldbcaaGreatNegP
namespace Go.Proofs.YtmjjnbabfldbcaaGreat
open Go.RowKit
set_option linter.unusedVariables false
/-! ### The bank -/
structure RLay where
  mb : Nat
  cap : Nat
  la : Option Addr
  lc : Nat
  dk : Nat → Nat
  fl : Nat → Nat
  nw : Nat → Nat
def RLay.ad (R : RLay) (n : Nat) : Option Addr := if n = 0 then none else some ⟨R.mb, 0, none⟩
theorem RLay.ad_pos (R : RLay) {n i : Nat} (hi : i < n) : R.ad n = some ⟨R.mb, 0, none⟩ := by unfold RLay.ad; rw [if_neg (by omega)]
def looseV (R : RLay) (S : Bank) : Value := .slice R.la S.order.length R.lc
structure RefIn (w : World) (r : Nat) (R : RLay) (S : Bank) : Prop where
  head : Blk w r 41 #[.slice (R.ad S.n) S.n R.cap, .slice R.la S.order.length R.lc, .bool S.down, .int .i64 (S.writes : Int), .int .i64 (S.armed : Int), .int .u64 (S.mask : Int)]
  cap : S.n ≤ R.cap ∧ R.cap ≤ maxLen ∧ (S.n = 0 → R.cap = 0)
  row : 0 < S.n → ∃ cs : Array Value, Blk w R.mb 61 cs ∧ cs.size = R.cap ∧ ∀ i, i < S.n → cs[i]? = some (.pointer (some ⟨R.dk i, 0, none⟩))
  loose : w.ownsRow 0 47 2 (.slice R.la S.order.length R.lc) S.order.length (flatP S.order)
  disk : ∀ i, i < S.n → Blk w (R.dk i) 63 #[.slice (some ⟨R.fl i, 0, none⟩) (S.size i) (S.size i), .slice (some ⟨R.nw i, 0, none⟩) (S.size i) (S.size i), .bool (S.dead i), .int .i64 (S.failAt i : Int)]
  flu : ∀ i, i < S.n → Blk w (R.fl i) 43 (rowS (S.flushed i) (S.size i)).toArray
  new : ∀ i, i < S.n → Blk w (R.nw i) 43 (rowS (S.newest i) (S.size i)).toArray
  inj1 : ∀ i j, i < S.n → j < S.n → R.dk i = R.dk j → i = j
  inj2 : ∀ i j, i < S.n → j < S.n → R.fl i = R.fl j → i = j
  inj3 : ∀ i j, i < S.n → j < S.n → R.nw i = R.nw j → i = j
  inj4 : ∀ i j, i < S.n → j < S.n → R.fl i ≠ R.nw j
/-- The blocks that it takes. -/
def RFoot (r : Nat) (R : RLay) (S : Bank) : Nat → Prop := fun x => x = r ∨ (0 < S.n ∧ x = R.mb) ∨ (Value.slice R.la S.order.length R.lc).ownBlock = some x ∨ ∃ i, i < S.n ∧ (x = R.dk i ∨ x = R.fl i ∨ x = R.nw i)
theorem Blk.apart {w : World} {g h : Nat} {t u : TypeId} {cs ds : Array Value} (h1 : Blk w g t cs) (h2 : Blk w h u ds) (hn : t ≠ u) : g ≠ h := by
  rintro rfl
  unfold Blk at h1 h2
  rw [h1] at h2
  injection h2 with h2
  injection h2 with _ h2
  exact hn h2
section
variable {w w' : World} {r : Nat} {R : RLay} {S : Bank}
theorem RefIn.foot_lt (h : RefIn w r R S) : ∀ x, RFoot r R S x → x < w.heap.size := by
  rintro x (rfl | ⟨h0, rfl⟩ | hx | ⟨i, hi, rfl | rfl | rfl⟩)
  · exact h.head.lt
  · obtain ⟨cs, hb, _⟩ := h.row h0
    exact hb.lt
  · exact (h.loose.lt x hx).2
  · exact (h.disk i hi).lt
  · exact (h.flu i hi).lt
  · exact (h.new i hi).lt
theorem own_of_block {v : Value} {base n size : Nat} {e : TypeId} {xs : List Value} (h : w.ownsRow base e size v n xs) (hk : ∀ g, v.ownBlock = some g → w'.heap[g]? = w.heap[g]?) : w'.ownsRow base e size v n xs := by
  refine ⟨h.1, ?_⟩
  rcases h.2 with h1 | ⟨g, cap, cur, rfl, h6, hb, h7⟩
  · exact .inl h1
  · exact .inr ⟨g, cap, cur, rfl, h6, (hk g rfl).trans hb, h7⟩
theorem RefIn.kept (h : RefIn w r R S) (hk : ∀ x, RFoot r R S x → w'.heap[x]? = w.heap[x]?) : RefIn w' r R S := by
  refine { h with head := h.head.of_block (hk r (.inl rfl)), row := fun h0 => ?_, loose := own_of_block h.loose (fun g hg => hk g (.inr (.inr (.inl hg)))), disk := fun i hi => (h.disk i hi).of_block (hk _ (.inr (.inr (.inr ⟨i, hi, .inl rfl⟩)))), flu := fun i hi => (h.flu i hi).of_block (hk _ (.inr (.inr (.inr ⟨i, hi, .inr (.inl rfl)⟩)))), new := fun i hi => (h.new i hi).of_block (hk _ (.inr (.inr (.inr ⟨i, hi, .inr (.inr rfl)⟩)))) }
  obtain ⟨cs, hb, h2⟩ := h.row h0
  exact ⟨cs, hb.of_block (hk _ (.inr (.inl ⟨h0, rfl⟩))), h2⟩
theorem RefIn.later (h : RefIn w r R S) (hb : Below w.heap.size w w') : RefIn w' r R S := h.kept fun x hx => hb.block x (h.foot_lt x hx)
theorem RefIn.drew (h : RefIn w r R S) : RefIn w.drew r R S := h.kept fun _ _ => rfl
theorem RefIn.drewN (h : RefIn w r R S) (n : Nat) : RefIn (w.drewN n) r R S := h.kept fun _ _ => rfl
theorem RefIn.c0 (h : RefIn w r R S) : w.cell? ⟨r, 0, none⟩ = some (.slice (R.ad S.n) S.n R.cap) := h.head.cell 0
theorem RefIn.c1 (h : RefIn w r R S) : w.cell? ⟨r, 1, none⟩ = some (.slice R.la S.order.length R.lc) := h.head.cell 1
theorem RefIn.c2 (h : RefIn w r R S) : w.cell? ⟨r, 2, none⟩ = some (.bool S.down) := h.head.cell 2
theorem RefIn.c3 (h : RefIn w r R S) : w.cell? ⟨r, 3, none⟩ = some (.int .i64 (S.writes : Int)) := h.head.cell 3
theorem RefIn.c4 (h : RefIn w r R S) : w.cell? ⟨r, 4, none⟩ = some (.int .i64 (S.armed : Int)) := h.head.cell 4
theorem RefIn.c5 (h : RefIn w r R S) : w.cell? ⟨r, 5, none⟩ = some (.int .u64 (S.mask : Int)) := h.head.cell 5
theorem RefIn.p (h : RefIn w r R S) {i : Nat} (hi : i < S.n) : w.cell? ⟨R.mb, i, none⟩ = some (.pointer (some ⟨R.dk i, 0, none⟩)) := by
  obtain ⟨cs, hb, _, hc⟩ := h.row (by omega)
  exact (hb.cell i).trans (hc i hi)
theorem RefIn.d0 (h : RefIn w r R S) {i : Nat} (hi : i < S.n) : w.cell? ⟨R.dk i, 0, none⟩ = some (.slice (some ⟨R.fl i, 0, none⟩) (S.size i) (S.size i)) := (h.disk i hi).cell 0
theorem RefIn.d1 (h : RefIn w r R S) {i : Nat} (hi : i < S.n) : w.cell? ⟨R.dk i, 1, none⟩ = some (.slice (some ⟨R.nw i, 0, none⟩) (S.size i) (S.size i)) := (h.disk i hi).cell 1
theorem RefIn.d2 (h : RefIn w r R S) {i : Nat} (hi : i < S.n) : w.cell? ⟨R.dk i, 2, none⟩ = some (.bool (S.dead i)) := (h.disk i hi).cell 2
theorem RefIn.d3 (h : RefIn w r R S) {i : Nat} (hi : i < S.n) : w.cell? ⟨R.dk i, 3, none⟩ = some (.int .i64 (S.failAt i : Int)) := (h.disk i hi).cell 3

set_option maxHeartbeats 400000 in
theorem rmay_any (h : RefIn w r R S) (d : Nat) :
    Calls Tryz.prog 86 #[.pointer (some ⟨r, 0, none⟩), .int .i64 (d : Int)] w fun e w' => e = .returned (.int .i64 (S.may d : Int)) ∧ w = w' := by
  have c0 := h.c0
  by_cases hd : d < S.n
  · have hm : ¬ S.n ≤ d := by omega
    have c2 := h.c2
    have d2 := h.d2 hd
    have p := h.p hd
    rw [R.ad_pos hd] at c0
    have hdw : (d : Int) < (S.n : Int) := by omega
    have hdg : decide ((S.n : Int) ≤ (d : Int)) = false := by simp; omega
    cases hdead : S.dead d with
    | true =>
      have hmay : S.may d = 7 := by unfold Bank.may; rw [if_neg hm, if_pos hdead]
      rw [hdead] at d2
      rw [hmay]
      clear hmay hm h
      go_enter Tryz.func86, Tryz.ntmps86
      go_wp2
      go_ret
      exact ⟨rfl, rfl⟩
    | false =>
      rw [hdead] at d2
      cases hdown : S.down with
      | true =>
        have hmay : S.may d = 6 := by unfold Bank.may; rw [if_neg hm, hdead, hdown]; rfl
        rw [hdown] at c2
        rw [hmay]
        clear hmay hm h
        go_enter Tryz.func86, Tryz.ntmps86
        go_wp2
        go_ret
        exact ⟨rfl, rfl⟩
      | false =>
        have hmay : S.may d = 0 := by unfold Bank.may; rw [if_neg hm, hdead, hdown]; rfl
        rw [hdown] at c2
        rw [hmay]
        clear hmay hm h
        go_enter Tryz.func86, Tryz.ntmps86
        go_wp2
        go_ret
        exact ⟨rfl, rfl⟩
  · have hm : S.may d = 8 := by unfold Bank.may; rw [if_pos (by omega)]
    have hdg : decide ((S.n : Int) ≤ (d : Int)) = true := by simp; omega
    rw [hm]
    clear hm h
    go_enter Tryz.func86, Tryz.ntmps86
    go_wp2
    go_ret
    exact ⟨rfl, rfl⟩
end
theorem rplace_info : (Tryz.prog.info? 47).map (·.size) = some 2 := by kernel_rfl
section
variable {w w' : World} {r : Nat} {R : RLay} {S : Bank}
theorem may_zero {d : Nat} (hm : S.may d = 0) : d < S.n := by
  rcases Nat.lt_or_ge d S.n with h | h
  · exact h
  · unfold Bank.may at hm
    rw [if_pos h] at hm
    cases hm
theorem rplace_zero {d k : Nat} (hp : S.place d k = 0) : S.may d = 0 ∧ d < S.n ∧ k < S.size d := by
  unfold Bank.place at hp
  by_cases hm : S.may d = 0
  · rw [if_pos hm] at hp
    refine ⟨hm, may_zero hm, ?_⟩
    rcases Nat.lt_or_ge k (S.size d) with h | h
    · exact h
    · rw [if_neg (by omega)] at hp
      cases hp
  · rw [if_neg hm] at hp
    exact absurd hp hm
theorem sec_cells {g z k : Nat} {T : Nat → Sec} (h : Blk w g 43 (rowS T z).toArray) (hk : k < z) {U : List Value} (hU : U = secL (T k)) : ∀ (j : Nat) (v : Value), U[j]? = some v → w.cell? ((⟨g, k * 64, none⟩ : Addr).add j) = some v := by
  intro j v hj
  have hj64 : j < 64 := by
    have := (List.getElem?_eq_some_iff.1 hj).1
    rw [hU, secL_length] at this
    exact this
  have hadd : (⟨g, k * 64, none⟩ : Addr).add j = ⟨g, k * 64 + j, none⟩ := by unfold Addr.add; split <;> simp_all
  rw [hadd, h.cell, List.getElem?_toArray, rowS_at T z k j hk hj64, ← hU]
  exact hj
set_option maxRecDepth 100000 in
set_option maxHeartbeats 1000000 in
theorem rplace_any (h : RefIn w r R S) (d k : Nat) :
    Calls Tryz.prog 49 #[.pointer (some ⟨r, 0, none⟩), .agg #[.int .i64 (d : Int), .int .i64 (k : Int)]] w fun e w' => e = .returned (.int .i64 (S.place d k : Int)) ∧ Below w.heap.size w w' := by
  have HM := hide (fun w1 (h1 : RefIn w1 r R S) => rmay_any h1 d)
  have HB := hide h
  clear h
  by_cases hm : S.may d = 0
  · have hd := may_zero hm
    rw [hm] at HM
    have hdg : decide ((k : Int) < 0) = false := by simp
    by_cases hk : k < S.size d
    · have hp : S.place d k = 0 := by unfold Bank.place; rw [if_pos hm, if_pos hk]
      have hkg : decide ((S.size d : Int) ≤ (k : Int)) = false := by simp; omega
      rw [hp]
      clear hp hm
      go_enter Tryz.func49, Tryz.ntmps49
      go_wp2_with (first
        | (refine wpList_box_blk rfl 47 (.tmp 1) rfl (.agg #[.int .i64 (d : Int), .int .i64 (k : Int)]) rfl ?_; intro w1 hb1 hl1 hs1; clear hs1; have hB1 := HB.out.later hl1; have q0 : w1.cell? ⟨w.heap.size, 0, none⟩ = some (.int .i64 (d : Int)) := hb1.cell 0; have q1 : w1.cell? ⟨w.heap.size, 1, none⟩ = some (.int .i64 (k : Int)) := hb1.cell 1; have c0 := hB1.c0; rw [R.ad_pos hd] at c0; have p0 := hB1.p hd; have d1 := hB1.d1 hd; have HB1 := hide hB1; clear hB1)
        | (go_at_call 86; refine (HM.out _ HB1.out).mono ?_; rintro _ w2 ⟨rfl, rfl⟩))
      go_quiet (fail)
      go_wp2
      go_ret
      exact ⟨rfl, below_drewN hl1 _⟩
    · have hp : S.place d k = 3 := by unfold Bank.place; rw [if_pos hm, if_neg hk]
      have hkg : decide ((S.size d : Int) ≤ (k : Int)) = true := by simp; omega
      rw [hp]
      clear hp hm
      go_enter Tryz.func49, Tryz.ntmps49
      go_wp2_with (first
        | (refine wpList_box_blk rfl 47 (.tmp 1) rfl (.agg #[.int .i64 (d : Int), .int .i64 (k : Int)]) rfl ?_; intro w1 hb1 hl1 hs1; clear hs1; have hB1 := HB.out.later hl1; have q0 : w1.cell? ⟨w.heap.size, 0, none⟩ = some (.int .i64 (d : Int)) := hb1.cell 0; have q1 : w1.cell? ⟨w.heap.size, 1, none⟩ = some (.int .i64 (k : Int)) := hb1.cell 1; have c0 := hB1.c0; rw [R.ad_pos hd] at c0; have p0 := hB1.p hd; have d1 := hB1.d1 hd; have HB1 := hide hB1; clear hB1)
        | (go_at_call 86; refine (HM.out _ HB1.out).mono ?_; rintro _ w2 ⟨rfl, rfl⟩))
      go_quiet (fail)
      go_wp2
      go_ret
      exact ⟨rfl, below_drewN hl1 _⟩
  · have hp : S.place d k = S.may d := by unfold Bank.place; rw [if_neg hm]
    have hne : ((S.may d : Int) != 0) = true := by simp; omega
    rw [hp]
    clear hp hm
    go_enter Tryz.func49, Tryz.ntmps49
    go_wp2_with (first
      | (refine wpList_box_blk rfl 47 (.tmp 1) rfl (.agg #[.int .i64 (d : Int), .int .i64 (k : Int)]) rfl ?_; intro w1 hb1 hl1 hs1; clear hs1; have hB1 := HB.out.later hl1; have q0 : w1.cell? ⟨w.heap.size, 0, none⟩ = some (.int .i64 (d : Int)) := hb1.cell 0; have HB1 := hide hB1; clear hB1)
      | (go_at_call 86; refine (HM.out _ HB1.out).mono ?_; rintro _ w2 ⟨rfl, rfl⟩))
    go_ret
    exact ⟨rfl, hl1⟩
set_option maxRecDepth 100000 in
set_option maxHeartbeats 1000000 in
theorem rread_any (h : RefIn w r R S) (d k : Nat) :
    Calls Tryz.prog 14 #[.pointer (some ⟨r, 0, none⟩), .agg #[.int .i64 (d : Int), .int .i64 (k : Int)]] w fun e w' => e = .returned (readV S d k) ∧ Below w.heap.size w w' := by
  have HP := hide (fun w1 (h1 : RefIn w1 r R S) => rplace_any h1 d k)
  have HB := hide h
  clear h
  unfold readV
  obtain ⟨U, hU⟩ : ∃ U, U = secL (if S.place d k = 0 then S.newest d k else zeroSec) := ⟨_, rfl⟩
  have hUl : U.length = 64 := by rw [hU, secL_length]
  have hUo : ∀ v ∈ U, v.oneCell' = true := by rw [hU]; exact secL_one _
  have hiU : (Tryz.prog.info? 43).map (·.size) = some U.length := by rw [hUl]; exact sec_info
  have hs : secV (if S.place d k = 0 then S.newest d k else zeroSec) = .agg U.toArray := by rw [hU]; rfl
  rw [hs]
  have HUl := hide hUl
  have HUO := hide hUo
  have HIU := hide hiU
  have HU := hide hU
  clear hUl hUo hiU hs hU
  by_cases hp : S.place d k = 0
  · obtain ⟨_, hd, hk⟩ := rplace_zero hp
    have HUN := hide (show U = secL (S.newest d k) by rw [HU.out, if_pos hp])
    rw [hp] at HP ⊢
    clear hp
    have hkw : (k : Int) < (S.size d : Int) := by omega
    have hdw : (d : Int) < (S.n : Int) := by omega
    go_enter Tryz.func14, Tryz.ntmps14
    go_wp2_with (first
      | (refine wpList_box_blk rfl 47 (.tmp 1) rfl (.agg #[.int .i64 (d : Int), .int .i64 (k : Int)]) rfl ?_; intro w1 hb1q hl1 hs1; clear hs1; have hb1 : Blk w1 w.heap.size 47 [.int .i64 (d : Int), .int .i64 (k : Int)].toArray := hb1q; clear hb1q)
      | (refine wpList_alloc_blk rfl 43 rfl _ (sec_zero w1) ?_; intro w2 hb2 hl2 hs2; clear hs2; have hz1 := hb1.lt; have hb12 := hb1.below hl2 hz1)
      | (refine wpList_load_blk rfl 47 (.tmp 3) rfl w.heap.size 0 47 _ hb12 rfl [.int .i64 (d : Int), .int .i64 (k : Int)] _ (fun j v hj => by rw [Nat.zero_add]; simpa using hj) Tryz.underlying47 rfl rplace_info ?_)
      | (go_at_call 49; refine (HP.out w2 (HB.out.later (hl1.trans (hl2.mono hl1.size)))).mono ?_; rintro _ w3 ⟨rfl, hl3⟩))
    have hz2 := hb2.lt
    have hl03 : Below w.heap.size w w3 := (hl1.trans (hl2.mono hl1.size)).trans (hl3.mono (by omega))
    have hB3 := HB.out.later hl03
    have hb13 := hb12.below hl3 (by omega)
    have hb23 := hb2.below hl3 hz2
    have q0 : w3.drew.cell? ⟨w.heap.size, 0, none⟩ = some (.int .i64 (d : Int)) := hb13.cell 0
    have q1 : w3.drew.cell? ⟨w.heap.size, 1, none⟩ = some (.int .i64 (k : Int)) := hb13.cell 1
    have c0 : w3.drew.cell? ⟨r, 0, none⟩ = _ := hB3.c0
    rw [R.ad_pos hd] at c0
    have p0 : w3.drew.cell? ⟨R.mb, d, none⟩ = _ := hB3.p hd
    have d1 : w3.drew.cell? ⟨R.dk d, 1, none⟩ = _ := hB3.d1 hd
    have HSC := hide (sec_cells (w := w3.drew) ((hB3.new d hd).drew) hk HUN.out)
    have HB2 := hide hb23.drew
    have HL := hide hl03.drew
    clear hb13 hb23 hB3 hl03 hl3 hl2 hl1 hb1 hb2 hb12 
    refine wp_region_still_tail 15 (by kernel_rfl) (by kernel_rfl) ?_
    change wpStill _ _ w3.drew _ _ _
    simp only [List.take_succ_cons, List.take_zero, List.drop_succ_cons, List.drop_zero]
    iterate 14 still_step
    refine still_load_at rfl 43 (.tmp 27) rfl ⟨R.nw d, k * 64, none⟩ rfl U _ HSC.out Tryz.underlying43 rfl HIU.out ?_
    refine wpStill_nil ?_
    change wpList _ _ _ _ _ w3.drew
    go_wp2_with (first
      | (refine wpList_store_all rfl 43 (.tmp 4) (.tmp 28) rfl w1.heap.size 43 _ HB2.out rfl U rfl HIU.out (HUl.out.trans (secL_length zeroSec).symm) HUO.out ?_; intro w4 hb4 hg4 hs4; clear hs4))
    exact ret_cell_tmp rfl w1.heap.size 43 U _ hb4 rfl Tryz.underlying43 rfl HIU.out (.int .i64 0) rfl rfl ⟨rfl, HL.out.grown hg4 HL.out.size (fun g e => by injection e with e; omega)⟩
  · have HUN := hide (show U = secL zeroSec by rw [HU.out, if_neg hp])
    have hne : ((S.place d k : Int) != 0) = true := by simp; omega
    have HBZ := hide (show Tryz.prog.built 43 [] = some U.toArray by rw [HUN.out]; exact sec_none)
    clear hp
    go_enter Tryz.func14, Tryz.ntmps14
    go_wp2_with (first
      | (refine wpList_box_blk rfl 47 (.tmp 1) rfl (.agg #[.int .i64 (d : Int), .int .i64 (k : Int)]) rfl ?_; intro w1 hb1q hl1 hs1; clear hs1; have hb1 : Blk w1 w.heap.size 47 [.int .i64 (d : Int), .int .i64 (k : Int)].toArray := hb1q; clear hb1q)
      | (refine wpList_alloc_blk rfl 43 rfl _ (sec_zero w1) ?_; intro w2 hb2 hl2 hs2; clear hs2; have hz1 := hb1.lt; have hb12 := hb1.below hl2 hz1)
      | (refine wpList_load_blk rfl 47 (.tmp 3) rfl w.heap.size 0 47 _ hb12 rfl [.int .i64 (d : Int), .int .i64 (k : Int)] _ (fun j v hj => by rw [Nat.zero_add]; simpa using hj) Tryz.underlying47 rfl rplace_info ?_)
      | (go_at_call 49; refine (HP.out w2 (HB.out.later (hl1.trans (hl2.mono hl1.size)))).mono ?_; rintro _ w3 ⟨rfl, hl3⟩; have hz2 := hb2.lt; have hl03 : Below w.heap.size w w3 := (hl1.trans (hl2.mono hl1.size)).trans (hl3.mono (by omega)); have hb23 := hb2.below hl3 hz2)
      | (refine wpList_build_is rfl 43 #[] rfl [] (by simp) U.toArray HBZ.out ?_)
      | (refine wpList_store_all rfl 43 (.tmp 4) (.tmp 12) rfl w1.heap.size 43 _ hb23 rfl U rfl HIU.out (HUl.out.trans (secL_length zeroSec).symm) HUO.out ?_; intro w4 hb4 hg4 hs4; clear hs4))
    exact ret_cell_tmp rfl w1.heap.size 43 U _ hb4 rfl Tryz.underlying43 rfl HIU.out (.int .i64 (S.place d k : Int)) rfl rfl ⟨rfl, hl03.grown hg4 hl03.size (fun g e => by injection e with e; omega)⟩
end
/-- A sector is flushed, or what is newest in it is lost. -/
def Bank.setl (S : Bank) (keep : Bool) (d k : Nat) : Bank := if keep then { S with flushed := upd2 S.flushed d k (S.newest d k) } else { S with newest := upd2 S.newest d k (S.flushed d k) }
section
variable {w w' : World} {r : Nat} {R : RLay} {S : Bank}
theorem RefIn.flu_set (h : RefIn w r R S) {d k : Nat} (hd : d < S.n) (s : Sec) (hb : Blk w' (R.fl d) 43 (rowS (upd (S.flushed d) k s) (S.size d)).toArray) (hg : w.grownBy w' (some (R.fl d))) : RefIn w' r R { S with flushed := upd2 S.flushed d k s } := by
  have hx := h.flu d hd
  have hne : ∀ {g : Nat} {t : TypeId} {cs : Array Value}, Blk w g t cs → t ≠ 43 → w'.heap[g]? = w.heap[g]? := fun hq ht => hg.block _ hq.lt (fun e => by injection e with e; exact (hq.apart hx ht) e)
  refine { head := h.head.of_block (hne h.head (by decide)), cap := h.cap, row := fun h0 => ?_, loose := ?_, disk := fun i hi => (h.disk i hi).of_block (hne (h.disk i hi) (by decide)), flu := fun i hi => ?_, new := fun i hi => (h.new i hi).grown hg (fun e => by injection e with e; exact h.inj4 d i hd hi e.symm), inj1 := h.inj1, inj2 := h.inj2, inj3 := h.inj3, inj4 := h.inj4 }
  · obtain ⟨cs, hb, h2⟩ := h.row h0
    exact ⟨cs, hb.of_block (hne hb (by decide)), h2⟩
  · refine own_of_block h.loose (fun g hgo => ?_)
    rcases h.loose.2 with ⟨hv, _⟩ | ⟨g', cap, cur, hv, _, hbk, _⟩
    · rw [hv] at hgo
      cases hgo
    · rw [hv] at hgo
      injection hgo with hgo
      subst hgo
      exact hne (show Blk w g' 47 cur from hbk) (by decide)
  · show Blk w' (R.fl i) 43 (rowS (upd2 S.flushed d k s i) (S.size i)).toArray
    by_cases e : i = d
    · subst e
      rw [upd2_col]
      exact hb
    · rw [upd2_row _ _ e]
      exact (h.flu i hi).grown hg (fun e2 => by injection e2 with e2; exact e (h.inj2 i d hi hd e2))
theorem RefIn.new_set (h : RefIn w r R S) {d k : Nat} (hd : d < S.n) (s : Sec) (hb : Blk w' (R.nw d) 43 (rowS (upd (S.newest d) k s) (S.size d)).toArray) (hg : w.grownBy w' (some (R.nw d))) : RefIn w' r R { S with newest := upd2 S.newest d k s } := by
  have hx := h.new d hd
  have hne : ∀ {g : Nat} {t : TypeId} {cs : Array Value}, Blk w g t cs → t ≠ 43 → w'.heap[g]? = w.heap[g]? := fun hq ht => hg.block _ hq.lt (fun e => by injection e with e; exact (hq.apart hx ht) e)
  refine { head := h.head.of_block (hne h.head (by decide)), cap := h.cap, row := fun h0 => ?_, loose := ?_, disk := fun i hi => (h.disk i hi).of_block (hne (h.disk i hi) (by decide)), new := fun i hi => ?_, flu := fun i hi => (h.flu i hi).grown hg (fun e => by injection e with e; exact h.inj4 i d hi hd e), inj1 := h.inj1, inj2 := h.inj2, inj3 := h.inj3, inj4 := h.inj4 }
  · obtain ⟨cs, hb, h2⟩ := h.row h0
    exact ⟨cs, hb.of_block (hne hb (by decide)), h2⟩
  · refine own_of_block h.loose (fun g hgo => ?_)
    rcases h.loose.2 with ⟨hv, _⟩ | ⟨g', cap, cur, hv, _, hbk, _⟩
    · rw [hv] at hgo
      cases hgo
    · rw [hv] at hgo
      injection hgo with hgo
      subst hgo
      exact hne (show Blk w g' 47 cur from hbk) (by decide)
  · show Blk w' (R.nw i) 43 (rowS (upd2 S.newest d k s i) (S.size i)).toArray
    by_cases e : i = d
    · subst e
      rw [upd2_col]
      exact hb
    · rw [upd2_row _ _ e]
      exact (h.new i hi).grown hg (fun e2 => by injection e2 with e2; exact e (h.inj3 i d hi hd e2))
set_option maxRecDepth 100000 in
set_option maxHeartbeats 1000000 in
theorem rsettle_any (h : RefIn w r R S) (d k : Nat) (hd : d < S.n) (hk : k < S.size d) (keep : Bool) :
    Calls Tryz.prog 83 #[.pointer (some ⟨r, 0, none⟩), .agg #[.int .i64 (d : Int), .int .i64 (k : Int)], .bool keep] w fun e w' => e = .returned (.tuple #[]) ∧ RefIn w' r R (S.setl keep d k) ∧ Turn (fun x => x = R.fl d ∨ x = R.nw d) w w' := by
  have HB := hide h
  clear h
  have hkw : (k : Int) < (S.size d : Int) := by omega
  have hdw : (d : Int) < (S.n : Int) := by omega
  cases keep with
  | true =>
    obtain ⟨U, hU⟩ : ∃ U, U = secL (S.newest d k) := ⟨_, rfl⟩
    have hUl : U.length = 64 := by rw [hU, secL_length]
    have hUo : ∀ v ∈ U, v.oneCell' = true := by rw [hU]; exact secL_one _
    have hiU : (Tryz.prog.info? 43).map (·.size) = some U.length := by rw [hUl]; exact sec_info
    have HUl := hide hUl
    have HUO := hide hUo
    have HIU := hide hiU
    have HU := hide hU
    clear hUl hUo hiU hU
    go_enter Tryz.func83, Tryz.ntmps83
    go_wp2_with (first
      | (refine wpList_box_blk rfl 47 (.tmp 1) rfl (.agg #[.int .i64 (d : Int), .int .i64 (k : Int)]) rfl ?_; intro w1 hb1 hl1 hs1; clear hs1; have hB1 := HB.out.later hl1; have q0 : w1.cell? ⟨w.heap.size, 0, none⟩ = some (.int .i64 (d : Int)) := hb1.cell 0; have q1 : w1.cell? ⟨w.heap.size, 1, none⟩ = some (.int .i64 (k : Int)) := hb1.cell 1; have c0 := hB1.c0; rw [R.ad_pos hd] at c0; have p0 := hB1.p hd; have d0 := hB1.d0 hd; have d1 := hB1.d1 hd; have HB1 := hide hB1; clear hB1))
    go_quiet (fail)
    go_wp2

    obtain ⟨w3, hw3⟩ : ∃ w3, w3 = w1.drewN nq := ⟨_, rfl⟩
    have hl3 : Below w.heap.size w w3 := by rw [hw3]; exact below_drewN hl1 _
    have hB3 : RefIn w3 r R S := by rw [hw3]; exact HB1.out.drewN nq
    rw [← hw3]
    have e1 : w3.drew.cell? ⟨w.heap.size, 1, none⟩ = some (.int .i64 (k : Int)) := by rw [hw3]; exact q1
    have e2 : w3.drew.cell? ⟨R.dk d, 0, none⟩ = some (.slice (some ⟨R.fl d, 0, none⟩) (S.size d) (S.size d)) := by rw [hw3]; exact d0
    have e3 : w3.drew.cell? ⟨R.dk d, 1, none⟩ = some (.slice (some ⟨R.nw d, 0, none⟩) (S.size d) (S.size d)) := by rw [hw3]; exact d1
    have HSC := hide (sec_cells (w := w3.drew) ((hB3.new d hd).drew) hk HU.out)
    have HF := hide (hB3.flu d hd).drew
    have HL3 := hide hl3.drew
    have HB3 := hide hB3.drew
    have hkz : k * 64 + 64 ≤ S.size d * 64 := by omega
    clear hw3 q0 q1 c0 p0 d0 d1 HB1 hl1 hb1 hl3 hB3
    refine wp_region_still_tail 15 (by kernel_rfl) (by kernel_rfl) ?_
    change wpStill _ _ w3.drew _ _ _
    simp only [List.take_succ_cons, List.take_zero, List.drop_succ_cons, List.drop_zero]
    iterate 13 still_step
    refine still_load_at rfl 43 (.tmp 28) rfl ⟨R.nw d, k * 64, none⟩ rfl U _ HSC.out Tryz.underlying43 rfl HIU.out ?_
    still_step
    refine wpStill_nil ?_
    change wpList _ _ _ _ _ w3.drew
    go_wp2_with (first
      | (refine wpList_store_blk rfl 43 (.tmp 30) (.tmp 29) rfl (R.fl d) (k * 64) 43 _ HF.out rfl U rfl HIU.out (by rw [HUl.out, rowS_size]; exact hkz) HUO.out ?_; intro w4 hb4 hg4 hs4; clear hs4))
    go_end0
    refine ⟨rfl, ?_, (Turn.of_below HL3.out).grown hg4 (fun g e => by injection e with e; exact .inl (.inl e.symm))⟩
    refine HB3.out.flu_set hd (S.newest d k) ?_ hg4
    have h5 := hb4
    rw [HU.out] at h5
    rw [← rowS_put (S.flushed d) (S.newest d k) k (S.size d) hk]
    exact h5
  | false =>
    obtain ⟨U, hU⟩ : ∃ U, U = secL (S.flushed d k) := ⟨_, rfl⟩
    have hUl : U.length = 64 := by rw [hU, secL_length]
    have hUo : ∀ v ∈ U, v.oneCell' = true := by rw [hU]; exact secL_one _
    have hiU : (Tryz.prog.info? 43).map (·.size) = some U.length := by rw [hUl]; exact sec_info
    have HUl := hide hUl
    have HUO := hide hUo
    have HIU := hide hiU
    have HU := hide hU
    clear hUl hUo hiU hU
    go_enter Tryz.func83, Tryz.ntmps83
    go_wp2_with (first
      | (refine wpList_box_blk rfl 47 (.tmp 1) rfl (.agg #[.int .i64 (d : Int), .int .i64 (k : Int)]) rfl ?_; intro w1 hb1 hl1 hs1; clear hs1; have hB1 := HB.out.later hl1; have q0 : w1.cell? ⟨w.heap.size, 0, none⟩ = some (.int .i64 (d : Int)) := hb1.cell 0; have q1 : w1.cell? ⟨w.heap.size, 1, none⟩ = some (.int .i64 (k : Int)) := hb1.cell 1; have c0 := hB1.c0; rw [R.ad_pos hd] at c0; have p0 := hB1.p hd; have d0 := hB1.d0 hd; have d1 := hB1.d1 hd; have HB1 := hide hB1; clear hB1))
    go_quiet (fail)
    go_wp2

    obtain ⟨w3, hw3⟩ : ∃ w3, w3 = w1.drewN nq := ⟨_, rfl⟩
    have hl3 : Below w.heap.size w w3 := by rw [hw3]; exact below_drewN hl1 _
    have hB3 : RefIn w3 r R S := by rw [hw3]; exact HB1.out.drewN nq
    rw [← hw3]
    have e1 : w3.drew.cell? ⟨w.heap.size, 1, none⟩ = some (.int .i64 (k : Int)) := by rw [hw3]; exact q1
    have e2 : w3.drew.cell? ⟨R.dk d, 0, none⟩ = some (.slice (some ⟨R.fl d, 0, none⟩) (S.size d) (S.size d)) := by rw [hw3]; exact d0
    have e3 : w3.drew.cell? ⟨R.dk d, 1, none⟩ = some (.slice (some ⟨R.nw d, 0, none⟩) (S.size d) (S.size d)) := by rw [hw3]; exact d1
    have HSC := hide (sec_cells (w := w3.drew) ((hB3.flu d hd).drew) hk HU.out)
    have HF := hide (hB3.new d hd).drew
    have HL3 := hide hl3.drew
    have HB3 := hide hB3.drew
    have hkz : k * 64 + 64 ≤ S.size d * 64 := by omega
    clear hw3 q0 q1 c0 p0 d0 d1 HB1 hl1 hb1 hl3 hB3
    refine wp_region_still_tail 15 (by kernel_rfl) (by kernel_rfl) ?_
    change wpStill _ _ w3.drew _ _ _
    simp only [List.take_succ_cons, List.take_zero, List.drop_succ_cons, List.drop_zero]
    iterate 13 still_step
    refine still_load_at rfl 43 (.tmp 43) rfl ⟨R.fl d, k * 64, none⟩ rfl U _ HSC.out Tryz.underlying43 rfl HIU.out ?_
    still_step
    refine wpStill_nil ?_
    change wpList _ _ _ _ _ w3.drew
    go_wp2_with (first
      | (refine wpList_store_blk rfl 43 (.tmp 45) (.tmp 44) rfl (R.nw d) (k * 64) 43 _ HF.out rfl U rfl HIU.out (by rw [HUl.out, rowS_size]; exact hkz) HUO.out ?_; intro w4 hb4 hg4 hs4; clear hs4))
    go_end0
    refine ⟨rfl, ?_, (Turn.of_below HL3.out).grown hg4 (fun g e => by injection e with e; exact .inl (.inr e.symm))⟩
    refine HB3.out.new_set hd (S.flushed d k) ?_ hg4
    have h5 := hb4
    rw [HU.out] at h5
    rw [← rowS_put (S.newest d) (S.flushed d k) k (S.size d) hk]
    exact h5
end
theorem Bank.eq {S T : Bank} (h1 : S.n = T.n) (h2 : S.size = T.size) (h3 : S.dead = T.dead) (h4 : S.flushed = T.flushed) (h5 : S.newest = T.newest) (h6 : S.order = T.order) (h7 : S.down = T.down) (h8 : S.writes = T.writes) (h9 : S.failAt = T.failAt) (h10 : S.armed = T.armed) (h11 : S.mask = T.mask) : S = T := by
  cases S
  cases T
  simp at h1 h2 h3 h4 h5 h6 h7 h8 h9 h10 h11
  subst h1 h2 h3 h4 h5 h6 h7 h8 h9 h10 h11
  rfl
/-- Of these sectors those of disk d are settled. -/
def Bank.sets (S : Bank) (keep : Bool) (d : Nat) (l : List (Nat × Nat)) : Bank := l.foldl (fun T p => if p.1 = d then T.setl keep p.1 p.2 else T) S
theorem sets_snoc (S : Bank) (keep : Bool) (d : Nat) (l : List (Nat × Nat)) (p : Nat × Nat) : S.sets keep d (l ++ [p]) = if p.1 = d then (S.sets keep d l).setl keep p.1 p.2 else S.sets keep d l := by
  unfold Bank.sets
  rw [List.foldl_append]
  rfl
/-- What settling leaves as it was. -/
structure Bank.Alike (S T : Bank) : Prop where
  n : T.n = S.n
  size : T.size = S.size
  dead : T.dead = S.dead
  order : T.order = S.order
  down : T.down = S.down
  writes : T.writes = S.writes
  failAt : T.failAt = S.failAt
  armed : T.armed = S.armed
  mask : T.mask = S.mask
theorem alike_setl (S : Bank) (keep : Bool) (d k : Nat) : S.Alike (S.setl keep d k) := by
  unfold Bank.setl
  cases keep <;> exact ⟨rfl, rfl, rfl, rfl, rfl, rfl, rfl, rfl, rfl⟩
theorem Bank.Alike.refl (S : Bank) : S.Alike S := ⟨rfl, rfl, rfl, rfl, rfl, rfl, rfl, rfl, rfl⟩
theorem Bank.Alike.trans {S T U : Bank} (h : S.Alike T) (k : T.Alike U) : S.Alike U :=
  ⟨k.n.trans h.n, k.size.trans h.size, k.dead.trans h.dead, k.order.trans h.order, k.down.trans h.down, k.writes.trans h.writes, k.failAt.trans h.failAt, k.armed.trans h.armed, k.mask.trans h.mask⟩
theorem alike_sets (keep : Bool) (d : Nat) : ∀ (l : List (Nat × Nat)) (S : Bank), S.Alike (S.sets keep d l)
  | [], S => Bank.Alike.refl S
  | p :: l, S => by
    show S.Alike ((if p.1 = d then S.setl keep p.1 p.2 else S).sets keep d l)
    split
    · exact (alike_setl S keep p.1 p.2).trans (alike_sets keep d l _)
    · exact alike_sets keep d l S
theorem sets_flu (d : Nat) : ∀ (l : List (Nat × Nat)) (S : Bank), (S.sets true d l).newest = S.newest ∧ ∀ i j, (S.sets true d l).flushed i j = if i = d ∧ (i, j) ∈ l then S.newest i j else S.flushed i j
  | [], S => ⟨rfl, fun i j => by rw [if_neg (by simp)]; rfl⟩
  | p :: l, S => by
    show ((if p.1 = d then S.setl true p.1 p.2 else S).sets true d l).newest = S.newest ∧ ∀ i j, ((if p.1 = d then S.setl true p.1 p.2 else S).sets true d l).flushed i j = _
    obtain ⟨p1, p2⟩ := p
    by_cases hp : p1 = d
    · subst hp
      rw [if_pos rfl]
      obtain ⟨h1, h2⟩ := sets_flu p1 l (S.setl true p1 p2)
      refine ⟨h1, fun i j => ?_⟩
      rw [h2]
      show (if i = p1 ∧ (i, j) ∈ l then S.newest i j else upd2 S.flushed p1 p2 (S.newest p1 p2) i j) = _
      by_cases e1 : i = p1
      · subst e1
        by_cases e2 : j = p2
        · subst e2
          rw [upd2_self, if_pos (c := i = i ∧ (i, j) ∈ (i, j) :: l) ⟨rfl, List.mem_cons_self⟩]
          split <;> rfl
        · rw [upd2_ne _ _ (fun h => e2 h.2)]
          by_cases e3 : (i, j) ∈ l
          · rw [if_pos ⟨rfl, e3⟩, if_pos ⟨rfl, List.mem_cons_of_mem _ e3⟩]
          · rw [if_neg (fun h => e3 h.2), if_neg (fun h => by rcases List.mem_cons.1 h.2 with h | h; · injection h with _ h; exact e2 h
                                                              · exact e3 h)]
      · rw [if_neg (fun h => e1 h.1), if_neg (fun h => e1 h.1), upd2_ne _ _ (fun h => e1 h.1)]
    · rw [if_neg hp]
      obtain ⟨h1, h2⟩ := sets_flu d l S
      refine ⟨h1, fun i j => ?_⟩
      rw [h2]
      by_cases e1 : i = d
      · subst e1
        have : ((i, j) ∈ (p1, p2) :: l) ↔ (i, j) ∈ l := ⟨fun h => by rcases List.mem_cons.1 h with h | h; · injection h with h; exact absurd h.symm hp
                                                                     · exact h, List.mem_cons_of_mem _⟩
        simp only [this]
      · rw [if_neg (fun h => e1 h.1), if_neg (fun h => e1 h.1)]
theorem sets_new (d : Nat) : ∀ (l : List (Nat × Nat)) (S : Bank), (S.sets false d l).flushed = S.flushed ∧ ∀ i j, (S.sets false d l).newest i j = if i = d ∧ (i, j) ∈ l then S.flushed i j else S.newest i j
  | [], S => ⟨rfl, fun i j => by rw [if_neg (by simp)]; rfl⟩
  | p :: l, S => by
    show ((if p.1 = d then S.setl false p.1 p.2 else S).sets false d l).flushed = S.flushed ∧ ∀ i j, ((if p.1 = d then S.setl false p.1 p.2 else S).sets false d l).newest i j = _
    obtain ⟨p1, p2⟩ := p
    by_cases hp : p1 = d
    · subst hp
      rw [if_pos rfl]
      obtain ⟨h1, h2⟩ := sets_new p1 l (S.setl false p1 p2)
      refine ⟨h1, fun i j => ?_⟩
      rw [h2]
      show (if i = p1 ∧ (i, j) ∈ l then S.flushed i j else upd2 S.newest p1 p2 (S.flushed p1 p2) i j) = _
      by_cases e1 : i = p1
      · subst e1
        by_cases e2 : j = p2
        · subst e2
          rw [upd2_self, if_pos (c := i = i ∧ (i, j) ∈ (i, j) :: l) ⟨rfl, List.mem_cons_self⟩]
          split <;> rfl
        · rw [upd2_ne _ _ (fun h => e2 h.2)]
          by_cases e3 : (i, j) ∈ l
          · rw [if_pos ⟨rfl, e3⟩, if_pos ⟨rfl, List.mem_cons_of_mem _ e3⟩]
          · rw [if_neg (fun h => e3 h.2), if_neg (fun h => by rcases List.mem_cons.1 h.2 with h | h; · injection h with _ h; exact e2 h
                                                              · exact e3 h)]
      · rw [if_neg (fun h => e1 h.1), if_neg (fun h => e1 h.1), upd2_ne _ _ (fun h => e1 h.1)]
    · rw [if_neg hp]
      obtain ⟨h1, h2⟩ := sets_new d l S
      refine ⟨h1, fun i j => ?_⟩
      rw [h2]
      by_cases e1 : i = d
      · subst e1
        have : ((i, j) ∈ (p1, p2) :: l) ↔ (i, j) ∈ l := ⟨fun h => by rcases List.mem_cons.1 h with h | h; · injection h with h; exact absurd h.symm hp
                                                                     · exact h, List.mem_cons_of_mem _⟩
        simp only [this]
      · rw [if_neg (fun h => e1 h.1), if_neg (fun h => e1 h.1)]
def restOf (d : Nat) (l : List (Nat × Nat)) : List (Nat × Nat) := l.filter fun p => p.1 != d
theorem rest_snoc_ne {d : Nat} {l : List (Nat × Nat)} {p : Nat × Nat} (h : p.1 ≠ d) : restOf d (l ++ [p]) = restOf d l ++ [p] := by
  unfold restOf
  rw [List.filter_append]
  simp [h]
theorem rest_snoc_eq {d : Nat} {l : List (Nat × Nat)} {p : Nat × Nat} (h : p.1 = d) : restOf d (l ++ [p]) = restOf d l := by
  unfold restOf
  rw [List.filter_append]
  simp [h]
/-- The bank behind 'settled'. -/
def Bank.settled (S : Bank) (keep : Bool) (d : Nat) : Bank := { S.sets keep d S.order with order := restOf d S.order }
theorem settled_flush {S : Bank} (hok : ∀ d k, (d, k) ∉ S.order → S.newest d k = S.flushed d k) (d : Nat) : S.settled true d = S.flush d := by
  obtain ⟨h1, h2⟩ := sets_flu d S.order S
  have ha := alike_sets true d S.order S
  have hf : (S.sets true d S.order).flushed = upd S.flushed d (S.newest d) := by
    funext i j
    rw [h2]
    by_cases e : i = d
    · subst e
      rw [upd_self]
      by_cases hm : (i, j) ∈ S.order
      · rw [if_pos ⟨rfl, hm⟩]
      · rw [if_neg (fun h => hm h.2), hok i j hm]
    · rw [if_neg (fun h => e h.1), upd_ne _ _ e]
  exact Bank.eq ha.n ha.size ha.dead hf h1 rfl ha.down ha.writes ha.failAt ha.armed ha.mask
theorem settled_fail {S : Bank} (hok : ∀ d k, (d, k) ∉ S.order → S.newest d k = S.flushed d k) (d : Nat) : ({ S with dead := upd S.dead d true } : Bank).settled false d = S.fail d := by
  obtain ⟨h1, h2⟩ := sets_new d S.order { S with dead := upd S.dead d true }
  have ha := alike_sets false d S.order { S with dead := upd S.dead d true }
  have hf : (({ S with dead := upd S.dead d true } : Bank).sets false d S.order).newest = upd S.newest d (S.flushed d) := by
    funext i j
    rw [h2]
    show (if i = d ∧ (i, j) ∈ S.order then S.flushed i j else S.newest i j) = _
    by_cases e : i = d
    · subst e
      rw [upd_self]
      by_cases hm : (i, j) ∈ S.order
      · rw [if_pos ⟨rfl, hm⟩]
      · rw [if_neg (fun h => hm h.2), hok i j hm]
    · rw [if_neg (fun h => e h.1), upd_ne _ _ e]
  exact Bank.eq ha.n ha.size ha.dead h1 hf rfl ha.down ha.writes ha.failAt ha.armed ha.mask
theorem take_snoc {l : List (Nat × Nat)} {i : Nat} {p : Nat × Nat} (h : l[i]? = some p) : l.take (i + 1) = l.take i ++ [p] := by
  obtain ⟨hi, hp⟩ := List.getElem?_eq_some_iff.1 h
  rw [List.take_add_one, h]
  rfl
section
variable {w w' : World} {r : Nat} {R : RLay} {S : Bank}
/-- The row of loose ones, by its cells. -/
theorem RefIn.loose_at (h : RefIn w r R S) {i : Nat} {p : Nat × Nat} (hp : S.order[i]? = some p) : ∃ g, R.la = some ⟨g, 0, none⟩ ∧ w.cell? ⟨g, i * 2, none⟩ = some (.int .i64 (p.1 : Int)) ∧ w.cell? ⟨g, i * 2 + 1, none⟩ = some (.int .i64 (p.2 : Int)) := by
  obtain ⟨hi, _⟩ := List.getElem?_eq_some_iff.1 hp
  rcases h.loose.2 with ⟨_, hx⟩ | ⟨g, cap, cur, hv, _⟩
  · omega
  · injection hv with hv _ _
    have hc := h.loose.cells (g := g) (by rw [hv]; rfl)
    have e : ∀ j : Nat, (⟨g, 0, none⟩ : Addr).add j = ⟨g, j, none⟩ := fun j => by unfold Addr.add; split <;> simp_all
    refine ⟨g, hv, ?_, ?_⟩
    · rw [← e]
      exact hc _ _ ((flatP_at S.order i 0 p hp (by decide)).trans rfl)
    · rw [← e]
      exact hc _ _ ((flatP_at S.order i 1 p hp (by decide)).trans rfl)
/-- The row of loose ones is another one. -/
theorem RefIn.loose_set {T : Bank} (h : RefIn w r R S) {A : Option Addr} {c : Nat} (hT : S.n = T.n ∧ S.size = T.size ∧ S.dead = T.dead ∧ S.flushed = T.flushed ∧ S.newest = T.newest ∧ S.failAt = T.failAt ∧ S.down = T.down ∧ S.writes = T.writes ∧ S.armed = T.armed ∧ S.mask = T.mask)
    (hl : w.ownsRow 0 47 2 (.slice A T.order.length c) T.order.length (flatP T.order)) : RefIn (w.setCell ⟨r, 1, none⟩ (.slice A T.order.length c)) r { R with la := A, lc := c } T := by
  obtain ⟨t1, t2, t3, t4, t5, t6, t7, t8, t9, t10⟩ := hT
  have hne : ∀ {g : Nat} {t : TypeId} {cs : Array Value}, Blk w g t cs → t ≠ 41 → Blk (w.setCell ⟨r, 1, none⟩ (.slice A T.order.length c)) g t cs := fun hq ht => hq.far (hq.apart h.head ht) _
  refine { head := ?_, cap := by rw [← t1]; exact h.cap, row := fun h0 => ?_, loose := ?_, disk := fun i hi => ?_, flu := fun i hi => ?_, new := fun i hi => ?_, inj1 := fun i j hi hj => h.inj1 i j (by rw [t1]; exact hi) (by rw [t1]; exact hj), inj2 := fun i j hi hj => h.inj2 i j (by rw [t1]; exact hi) (by rw [t1]; exact hj), inj3 := fun i j hi hj => h.inj3 i j (by rw [t1]; exact hi) (by rw [t1]; exact hj), inj4 := fun i j hi hj => h.inj4 i j (by rw [t1]; exact hi) (by rw [t1]; exact hj) }
  · have h2 := h.head.set_ 1 (.slice A T.order.length c)
    rw [t1, t7, t8, t9, t10] at h2
    exact h2
  · obtain ⟨cs, hb, h2⟩ := h.row (by rw [t1]; exact h0)
    rw [t1] at h2
    exact ⟨cs, hne hb (by decide), h2⟩
  · refine own_of_block hl (fun g hg => ?_)
    rcases hl.2 with ⟨hv, _⟩ | ⟨g', cap, cur, hv, _, hbk, _⟩
    · rw [hv] at hg
      cases hg
    · rw [hv] at hg
      injection hg with hg
      subst hg
      exact Below.heap_setCell _ _ _ _ ((show Blk w g' 47 cur from hbk).apart h.head (by decide))
  · have h2 := h.disk i (by rw [t1]; exact hi)
    rw [t2, t3, t6] at h2
    exact hne h2 (by decide)
  · have h2 := h.flu i (by rw [t1]; exact hi)
    rw [t2, t4] at h2
    exact hne h2 (by decide)
  · have h2 := h.new i (by rw [t1]; exact hi)
    rw [t2, t5] at h2
    exact hne h2 (by decide)
end
section
variable {w w' : World} {r : Nat} {R : RLay} {S : Bank}
/-- .. as cells behind an address. -/
theorem RefIn.loose_cells (h : RefIn w r R S) {i : Nat} {p : Nat × Nat} (hp : S.order[i]? = some p) : ∃ g, R.la = some ⟨g, 0, none⟩ ∧ ∀ (j : Nat) (v : Value), (placeL p)[j]? = some v → w.cell? ((⟨g, i * 2, none⟩ : Addr).add j) = some v := by
  obtain ⟨g, h1, h2, h3⟩ := h.loose_at hp
  refine ⟨g, h1, fun j v hj => ?_⟩
  have e : (⟨g, i * 2, none⟩ : Addr).add j = ⟨g, i * 2 + j, none⟩ := by unfold Addr.add; split <;> simp_all
  rw [e]
  match j, hj with
  | 0, hj => exact h2.trans (by simpa [placeL] using hj)
  | 1, hj => exact h3.trans (by simpa [placeL] using hj)
  | j + 2, hj => simp [placeL] at hj
set_option maxRecDepth 100000 in
set_option maxHeartbeats 2000000 in
theorem rsettled_any (h : RefIn w r R S) (hnd : S.order.Nodup) (hq : ∀ ps : List (Nat × Nat), ps.Nodup → (∀ p ∈ ps, p ∈ S.order) → ps.length ≤ 131072) (hloose : ∀ p ∈ S.order, p.1 < S.n ∧ p.2 < S.size p.1) (d : Nat) (keep : Bool) :
    Calls Tryz.prog 78 #[.pointer (some ⟨r, 0, none⟩), .int .i64 (d : Int), .bool keep] w fun e w' => e = .returned (.tuple #[]) ∧ ∃ A c, RefIn w' r { R with la := A, lc := c } (S.settled keep d) ∧ (∀ g, (Value.slice A (restOf d S.order).length c).ownBlock = some g → w.heap.size ≤ g) ∧ Turn (fun x => x = r ∨ (d < S.n ∧ (x = R.fl d ∨ x = R.nw d))) w w' := by
  obtain ⟨pi, hi0, hz0, hz1, hz2⟩ := place_info
  have HI0 := hide hi0
  have HZ0 := hide hz0
  have HZ1 := hide hz1
  have HZ2 := hide hz2
  have HZP := hide place_zero
  have HB := hide h
  have HND := hide hnd
  have HOQ := hide hq
  have HLO := hide hloose
  have hlen := hide (hq S.order hnd (fun _ hp => hp))
  clear h hnd hq hloose hi0 hz0 hz1 hz2
  have hrlt := HB.out.head.lt
  go_enter Tryz.func78, Tryz.ntmps78
  go_wp2_with fail
  go_loopw [6, 7, 8] (fun s6 s7 _ wr => ∃ (i : Nat) (A : Option Addr) (c : Nat), s7 = .int .i64 (i : Int) ∧ i ≤ S.order.length ∧ s6 = .slice A (restOf d (S.order.take i)).length c ∧ Hid (wr.ownsRow w.heap.size 47 2 (.slice A (restOf d (S.order.take i)).length c) (restOf d (S.order.take i)).length (flatP (restOf d (S.order.take i)))) ∧ Hid (RefIn wr r R (S.sets keep d (S.order.take i))) ∧ Hid (Turn (fun x => d < S.n ∧ (x = R.fl d ∨ x = R.nw d)) w wr)) (fun _ s7 _ _ => S.order.length - (intOf s7).toNat)
  case atStart =>
    refine ⟨0, _, _, rfl, Nat.zero_le _, rfl, ?_, HB.out.later ((Below.refl _ _).alloc (Nat.le_refl _) _), Turn.of_below ((Below.refl _ _).alloc (Nat.le_refl _) _)⟩
    exact World.ownsRow_made w #[] 0 (Nat.le_refl _) (Nat.zero_le _) rfl
  case round =>
    obtain ⟨i, A, c, rfl, hi, rfl, hrow, hB, hT⟩ := hrel
    obtain ⟨wo, rfl⟩ : ∃ wo, wo = wr := ⟨_, rfl⟩
    have ha := alike_sets keep d (S.order.take i) S
    have c1 := hB.out.c1
    rw [ha.order] at c1
    have hszo := hT.out.size
    have hrw0 := hB.out.head.lt
    have hlen2 := hlen.out
    by_cases hil : i < S.order.length
    · have hg1 : (i : Int) < (S.order.length : Int) := by omega
      obtain ⟨p, hp⟩ : ∃ p, S.order[i]? = some p := ⟨_, List.getElem?_eq_getElem hil⟩
      have hpT : (S.sets keep d (S.order.take i)).order[i]? = some p := by rw [ha.order]; exact hp
      obtain ⟨g, hla, hcs⟩ := hB.out.loose_cells hpT
      rw [hla] at c1
      obtain ⟨hp1, hp2⟩ := HLO.out p (List.mem_of_getElem? hp)
      have HPL := hide hcs
      have HTK := hide (take_snoc hp)
      have hsub : ∀ q ∈ restOf d (S.order.take (i + 1)), q ∈ S.order := fun q hq => List.mem_of_mem_take (List.mem_filter.1 hq).1
      have hql := HOQ.out (restOf d (S.order.take (i + 1))) ((HND.out.sublist (List.take_sublist _ _)).filter _) hsub
      have HQL := hide hql
      clear hcs hpT hp hsub hql ha
      by_cases hpd : p.1 = d
      · have hc1 : ((p.1 : Int) != (d : Int)) = false := by simp; omega
        have HR1 := hide (show restOf d (S.order.take (i + 1)) = restOf d (S.order.take i) by rw [HTK.out]; exact rest_snoc_eq hpd)
        have HS1 := hide (show S.sets keep d (S.order.take (i + 1)) = (S.sets keep d (S.order.take i)).setl keep p.1 p.2 by rw [HTK.out, sets_snoc, if_pos hpd])
        have hal := alike_sets keep d (S.order.take i) S
        have HSE := hide (fun w1 (h1 : RefIn w1 r R (S.sets keep d (S.order.take i))) => rsettle_any h1 p.1 p.2 (by rw [hal.n]; exact hp1) (by rw [hal.size]; exact hp2) keep)
        have hdn : d < S.n := by omega
        have HPD := hide hpd
        clear hal
        go_wp2_with (first
          | (refine wpList_load_at rfl 47 (.tmp 24) rfl ⟨g, i * 2, none⟩ rfl (placeL p) _ HPL.out Tryz.underlying47 rfl rplace_info ?_)
          | (refine wpList_alloc_blk rfl 47 rfl _ (place_zero wo) ?_; intro w1 hb1 hl1 hs1; clear hs1)
          | (refine wpList_store_all rfl 47 (.tmp 8) (.tmp 25) rfl wo.heap.size 47 _ hb1 rfl (placeL p) rfl rplace_info rfl (placeL_one _) ?_; intro w2 hb2 hg2 hs2; clear hs2; have q0 : w2.cell? ⟨wo.heap.size, 0, none⟩ = some (.int .i64 (p.1 : Int)) := hb2.cell 0)
          | (refine wpList_load_blk rfl 47 (.tmp 8) rfl wo.heap.size 0 47 _ hb2 rfl (placeL p) _ (fun j v hj => by rw [Nat.zero_add]; simpa using hj) Tryz.underlying47 rfl rplace_info ?_))
        have hl02 : Below wo.heap.size wo w2 := hl1.grown hg2 (by have := hl1.size; omega) (fun g e => by injection e with e; omega)
        refine (HSE.out w2 (hB.out.later hl02)).mono ?_
        rintro _ w3 ⟨rfl, hB3, hT3⟩
        have hrow3 : w3.ownsRow w.heap.size 47 2 (.slice A (restOf d (S.order.take i)).length c) (restOf d (S.order.take i)).length (flatP (restOf d (S.order.take i))) := by
          refine own_of_block (own_later hrow.out hl02) (fun g hg => hT3.block g ?_ (fun hf => ?_))
          · have := (hrow.out.lt g hg).2
            have := hl02.size
            omega
          · have h1 := (hrow.out.lt g hg).1
            have h2 := HB.out.foot_lt _ (.inr (.inr (.inr ⟨d, hdn, .inr (.inl rfl)⟩)))
            have h3 := HB.out.foot_lt _ (.inr (.inr (.inr ⟨d, hdn, .inr (.inr rfl)⟩)))
            rw [HPD.out] at hf
            rcases hf with rfl | rfl <;> omega
        have HROW3 := hide hrow3
        have HB3 := hide hB3
        have HT3 : Hid (Turn (fun x => d < S.n ∧ (x = R.fl d ∨ x = R.nw d)) w w3) := (hT.out.below hl02).trans (hT3.wider (fun x hx => ⟨hdn, by rw [← HPD.out]; exact hx⟩))
        clear hrow3 hB3 hT3 hl02 hg2 hl1 hb1 hb2 q0
        go_wp2_with fail
        go_roundw
        case rel => exact ⟨i + 1, A, c, by go_num, by omega, by rw [HR1.out], by rw [HR1.out]; exact HROW3, by rw [HS1.out]; exact HB3, HT3⟩
        case measure => simp [intOf]; omega
      · have hc1 : ((p.1 : Int) != (d : Int)) = true := by simp; omega
        have HR1 := hide (show restOf d (S.order.take (i + 1)) = restOf d (S.order.take i) ++ [p] by rw [HTK.out]; exact rest_snoc_ne hpd)
        have HS1 := hide (show S.sets keep d (S.order.take (i + 1)) = S.sets keep d (S.order.take i) by rw [HTK.out, sets_snoc, if_neg hpd])
        have hq := HQL.out
        rw [HR1.out, List.length_append, List.length_singleton] at hq
        have HQ := hide (show (restOf d (S.order.take i)).length + 1 ≤ maxLen ∧ ((restOf d (S.order.take i)).length + 1) * 16 ≤ 140737488355328 from ⟨by simp only [maxLen]; omega, by omega⟩)
        clear hq hpd
        go_wp2_with (first
          | (refine wpList_load_at rfl 47 (.tmp 24) rfl ⟨g, i * 2, none⟩ rfl (placeL p) _ HPL.out Tryz.underlying47 rfl rplace_info ?_)
          | (refine wpList_alloc_blk rfl 47 rfl _ (place_zero wo) ?_; intro w1 hb1 hl1 hs1; clear hs1)
          | (refine wpList_store_all rfl 47 (.tmp 8) (.tmp 25) rfl wo.heap.size 47 _ hb1 rfl (placeL p) rfl rplace_info rfl (placeL_one _) ?_; intro w2 hb2 hg2 hs2; clear hs2; have q0 : w2.cell? ⟨wo.heap.size, 0, none⟩ = some (.int .i64 (p.1 : Int)) := hb2.cell 0; have hl02 : Below wo.heap.size wo w2 := hl1.grown hg2 (by have := hl1.size; omega) (fun g e => by injection e with e; omega); have hrow2 := own_later hrow.out hl02; have hsz2 : w.heap.size ≤ w2.heap.size := Nat.le_trans hszo hl02.size; have HLUMP := hide (Reads.lump (w := w2) (placeL p) 47 (w2.heap.size + 1) 2 (by omega) rfl))
          | (refine wpList_load_blk rfl 47 (.tmp 8) rfl wo.heap.size 0 47 _ hb2 rfl (placeL p) _ (fun j v hj => by rw [Nat.zero_add]; simpa using hj) Tryz.underlying47 rfl rplace_info ?_)
          | (refine wpList_build_agg w2 rfl (.tmp 31) 39 rfl 47 pi _ 2 Tryz.underlying39 HI0.out (HZP.out _) HZ1.out (by decide) (by decide) (placeL p).toArray rfl rfl ?_)
          | (refine wpList_append_row rfl (.tmp 30) (.tmp 32) 39 rfl w.heap.size 47 pi _ 2 16 Tryz.underlying39 HI0.out HZ0.out HZ1.out HZ2.out rfl (by decide) _ _ _ rfl (hrow2.alloc _) (w2.heap.size + 1) (some ⟨w2.heap.size, 0, none⟩) 1 1 (placeL p) rfl HLUMP.out (placeL_one _) HQ.out.1 HQ.out.2 (le_alloc hsz2 _) ?_; intro v5 w5 hown5 hg5))
        obtain ⟨A5, c5, rfl, _, _⟩ := own_shape hown5
        have hl25 : Below wo.heap.size wo (w2.alloc (.cells (placeL p).toArray 47)) := hl02.alloc hl02.size _
        have hk : ∀ x, x < wo.heap.size → x < w.heap.size ∨ x = r ∨ RFoot r R (S.sets keep d (S.order.take i)) x → some x ≠ (Value.slice A (restOf d (S.order.take i)).length c).ownBlock → w5.heap[x]? = wo.heap[x]? := fun x hx _ hne => (hg5.block x (by have := hl25.size; omega) hne).trans (hl25.block x hx)
        have hnr : ∀ x, x < w.heap.size → some x ≠ (Value.slice A (restOf d (S.order.take i)).length c).ownBlock := fun x hx e => by have := (hrow.out.lt x e.symm).1; omega
        have hrf : ∀ x, RFoot r R (S.sets keep d (S.order.take i)) x → x < w.heap.size := fun x hx => by
          have hal := alike_sets keep d (S.order.take i) S
          refine HB.out.foot_lt x ?_
          unfold RFoot at hx ⊢
          rw [hal.n, hal.order] at hx
          exact hx
        have HB5 : Hid (RefIn w5 r R (S.sets keep d (S.order.take i))) := hB.out.kept (fun x hx => hk x (hB.out.foot_lt x hx) (.inr (.inr hx)) (hnr x (hrf x hx)))
        have HT5 : Hid (Turn (fun x => d < S.n ∧ (x = R.fl d ∨ x = R.nw d)) w w5) := (hT.out.below hl25).grown hg5 (fun g hg => .inr (hrow.out.lt g hg.symm.symm).1)
        have HROW5 : Hid (w5.ownsRow w.heap.size 47 2 (.slice A5 ((restOf d (S.order.take i)).length + 1) c5) ((restOf d (S.order.take i)).length + 1) (flatP (restOf d (S.order.take i)) ++ placeL p)) := hown5
        have HLN := hide (show (restOf d (S.order.take (i + 1))).length = (restOf d (S.order.take i)).length + 1 by rw [HR1.out, List.length_append, List.length_singleton])
        have HFL := hide (show flatP (restOf d (S.order.take (i + 1))) = flatP (restOf d (S.order.take i)) ++ placeL p by rw [HR1.out, flatP_append]; simp [flatP])
        clear hown5 hg5 hk hnr hrf hl25 hl02 hg2 hl1 hb1 hb2 q0 hrow2
        go_roundw
        case rel => exact ⟨i + 1, A5, c5, by go_num, by omega, by rw [HLN.out], by rw [HLN.out, HFL.out]; exact HROW5, by rw [HS1.out]; exact HB5, HT5⟩
        case measure => simp [intOf]; omega
    · obtain rfl : i = S.order.length := by omega
      have hnl : ¬ ((S.order.length : Int) < (S.order.length : Int)) := by omega
      rw [List.take_length] at hrow hB
      rw [List.take_length]
      have f1 := hB.out.head.frozen 1
      go_wp2_with fail
      go_end0
      have hal := alike_sets keep d S.order S
      refine ⟨rfl, A, c, ?_, fun g hg => (hrow.out.lt g hg).1, (hT.out.wider (fun x hx => .inr hx)).set ⟨r, 1, none⟩ (.inl (.inl rfl)) _⟩
      exact hB.out.loose_set (T := S.settled keep d) ⟨rfl, rfl, rfl, rfl, rfl, rfl, rfl, rfl, rfl, rfl⟩ ⟨hrow.out.1, hrow.out.2.imp id (fun ⟨g, cap, cur, a1, _, a3⟩ => ⟨g, cap, cur, a1, Nat.zero_le _, a3⟩)⟩
end
/-- Block r is the reference's bank S, all of which lies in the blocks of G. -/
def RefOn (w : World) (r : Nat) (G : Nat → Prop) (S : Bank) : Prop := (∀ x, G x → x < w.heap.size) ∧ S.Ok ∧ ∃ R, RefIn w r R S ∧ ∀ x, RFoot r R S x → G x
/-- .. and new ones. -/
abbrev More (G : Nat → Prop) (w w' : World) : Nat → Prop := fun x => G x ∨ (w.heap.size ≤ x ∧ x < w'.heap.size)
section
variable {w w' : World} {r : Nat} {R : RLay} {S : Bank} {G : Nat → Prop}
theorem RefOn.kept {F : Nat → Prop} (h : RefOn w r G S) (hu : Turn F w w') (ha : ∀ x, G x → ¬ F x) : RefOn w' r G S := by
  obtain ⟨h1, h2, R, h3, h4⟩ := h
  exact ⟨fun x hx => Nat.lt_of_lt_of_le (h1 x hx) hu.size, h2, R, h3.kept fun x hx => hu.block x (h3.foot_lt x hx) (ha x (h4 x hx)), h4⟩
theorem RefOn.later (h : RefOn w r G S) (hb : Below w.heap.size w w') : RefOn w' r G S := by
  obtain ⟨h1, h2, R, h3, h4⟩ := h
  exact ⟨fun x hx => Nat.lt_of_lt_of_le (h1 x hx) hb.size, h2, R, h3.later hb, h4⟩
theorem RefOn.ok (h : RefOn w r G S) : S.Ok := h.2.1
theorem RefOn.wider {G' : Nat → Prop} (h : RefOn w r G S) (hG : ∀ x, G x → G' x) (hl : ∀ x, G' x → x < w.heap.size) : RefOn w r G' S := by
  obtain ⟨h1, h2, R, h3, h4⟩ := h
  exact ⟨hl, h2, R, h3, fun x hx => hG x (h4 x hx)⟩
/-- The bank's own row turned, but for the row of disks and the loose ones. -/
theorem RefIn.head_set (h : RefIn w r R S) (down : Bool) (writes armed mask : Nat) (hb : Blk w' r 41 #[.slice (R.ad S.n) S.n R.cap, .slice R.la S.order.length R.lc, .bool down, .int .i64 (writes : Int), .int .i64 (armed : Int), .int .u64 (mask : Int)]) (hk : ∀ x, x ≠ r → w'.heap[x]? = w.heap[x]?) : RefIn w' r R { S with down := down, writes := writes, armed := armed, mask := mask } := by
  have hne : ∀ {g : Nat} {t : TypeId} {cs : Array Value}, Blk w g t cs → t ≠ 41 → w'.heap[g]? = w.heap[g]? := fun hq ht => hk _ (hq.apart h.head ht)
  refine { head := hb, cap := h.cap, row := fun h0 => ?_, loose := ?_, disk := fun i hi => (h.disk i hi).of_block (hne (h.disk i hi) (by decide)), flu := fun i hi => (h.flu i hi).of_block (hne (h.flu i hi) (by decide)), new := fun i hi => (h.new i hi).of_block (hne (h.new i hi) (by decide)), inj1 := h.inj1, inj2 := h.inj2, inj3 := h.inj3, inj4 := h.inj4 }
  · obtain ⟨cs, hbr, h2⟩ := h.row h0
    exact ⟨cs, hbr.of_block (hne hbr (by decide)), h2⟩
  · refine own_of_block h.loose (fun g hg => ?_)
    rcases h.loose.2 with ⟨hv, _⟩ | ⟨g', cap, cur, hv, _, hbk, _⟩
    · rw [hv] at hg
      cases hg
    · rw [hv] at hg
      injection hg with hg
      subst hg
      exact hne (show Blk w g' 47 cur from hbk) (by decide)
/-- A disk's own row turned. -/
theorem RefIn.disk_set (h : RefIn w r R S) {d : Nat} (hd : d < S.n) (dead : Bool) (fa : Nat) (hb : Blk w' (R.dk d) 63 #[.slice (some ⟨R.fl d, 0, none⟩) (S.size d) (S.size d), .slice (some ⟨R.nw d, 0, none⟩) (S.size d) (S.size d), .bool dead, .int .i64 (fa : Int)]) (hk : ∀ x, x ≠ R.dk d → w'.heap[x]? = w.heap[x]?) : RefIn w' r R { S with dead := upd S.dead d dead, failAt := upd S.failAt d fa } := by
  have hx := h.disk d hd
  have hne : ∀ {g : Nat} {t : TypeId} {cs : Array Value}, Blk w g t cs → t ≠ 63 → w'.heap[g]? = w.heap[g]? := fun hq ht => hk _ (hq.apart hx ht)
  refine { head := h.head.of_block (hne h.head (by decide)), cap := h.cap, row := fun h0 => ?_, loose := ?_, disk := fun i hi => ?_, flu := fun i hi => (h.flu i hi).of_block (hne (h.flu i hi) (by decide)), new := fun i hi => (h.new i hi).of_block (hne (h.new i hi) (by decide)), inj1 := h.inj1, inj2 := h.inj2, inj3 := h.inj3, inj4 := h.inj4 }
  · obtain ⟨cs, hbr, h2⟩ := h.row h0
    exact ⟨cs, hbr.of_block (hne hbr (by decide)), h2⟩
  · refine own_of_block h.loose (fun g hg => ?_)
    rcases h.loose.2 with ⟨hv, _⟩ | ⟨g', cap, cur, hv, _, hbk, _⟩
    · rw [hv] at hg
      cases hg
    · rw [hv] at hg
      injection hg with hg
      subst hg
      exact hne (show Blk w g' 47 cur from hbk) (by decide)
  · show Blk w' (R.dk i) 63 #[.slice (some ⟨R.fl i, 0, none⟩) (S.size i) (S.size i), .slice (some ⟨R.nw i, 0, none⟩) (S.size i) (S.size i), .bool (upd S.dead d dead i), .int .i64 ((upd S.failAt d fa i : Nat) : Int)]
    by_cases e : i = d
    · subst e
      rw [upd_self, upd_self]
      exact hb
    · rw [upd_ne _ _ e, upd_ne _ _ e]
      exact (h.disk i hi).of_block (hk _ (fun e2 => e (h.inj1 i d hi hd e2)))
theorem upd_same {α : Type} (f : Nat → α) (d : Nat) : upd f d (f d) = f := by
  funext i
  by_cases e : i = d
  · subst e; rw [upd_self]
  · rw [upd_ne _ _ e]
/-- What 'settled' leaves, over a set of blocks. -/
theorem settled_on {T : Bank} {A : Option Addr} {c d : Nat} {keep : Bool} (hG : ∀ x, RFoot r R S x → G x) (hl : ∀ x, G x → x < w.heap.size) (hn : T.n = S.n) (ho : T.order = S.order) (hB : RefIn w' r { R with la := A, lc := c } (T.settled keep d)) (hg : ∀ g, (Value.slice A (restOf d T.order).length c).ownBlock = some g → w.heap.size ≤ g) (hT : Turn (fun x => x = r ∨ (d < T.n ∧ (x = R.fl d ∨ x = R.nw d))) w w') :
    (∀ x, RFoot r { R with la := A, lc := c } (T.settled keep d) x → More G w w' x) ∧ Turn G w w' ∧ ∀ x, More G w w' x → x < w'.heap.size := by
  have hs := hT.size
  have hn2 : (T.settled keep d).n = S.n := (alike_sets keep d T.order T).n.trans hn
  refine ⟨fun x hx => ?_, hT.wider (fun x hx => ?_), fun x hx => ?_⟩
  · rcases hx with rfl | ⟨h0, rfl⟩ | hx | ⟨i, hi, hx⟩
    · exact .inl (hG _ (.inl rfl))
    · exact .inl (hG _ (.inr (.inl ⟨by rw [← hn2]; exact h0, rfl⟩)))
    · exact .inr ⟨hg x hx, hB.foot_lt x (.inr (.inr (.inl hx)))⟩
    · exact .inl (hG _ (.inr (.inr (.inr ⟨i, by rw [← hn2]; exact hi, hx⟩))))
  · rcases hx with rfl | ⟨hd, rfl | rfl⟩
    · exact hG _ (.inl rfl)
    · exact hG _ (.inr (.inr (.inr ⟨d, by rw [← hn]; exact hd, .inr (.inl rfl)⟩)))
    · exact hG _ (.inr (.inr (.inr ⟨d, by rw [← hn]; exact hd, .inr (.inr rfl)⟩)))
  · rcases hx with hx | hx
    · have := hl x hx
      omega
    · exact hx.2
set_option maxRecDepth 100000 in
theorem rOn_flush (h : RefOn w r G S) (d : Nat) :
    Calls Tryz.prog 46 #[.pointer (some ⟨r, 0, none⟩), .int .i64 (d : Int)] w fun e w' => e = .returned (.int .i64 (S.may d : Int)) ∧ RefOn w' r (More G w w') (if S.may d = 0 then S.flush d else S) ∧ Turn G w w' := by
  obtain ⟨h1, h2, R, h3, h4⟩ := h
  have HM := hide (rmay_any h3 d)
  have HS := hide (rsettled_any h3 h2.nodup (order_le S h2) (fun p hp => ⟨(h2.loose p hp).1, (h2.loose p hp).2.1⟩) d true)
  have HB := hide h3
  have HOK := hide h2
  have HG := hide h4
  have HL := hide h1
  clear h1 h2 h3 h4
  by_cases hm : S.may d = 0
  · rw [hm, if_pos rfl]
    rw [hm] at HM
    clear hm
    go_enter Tryz.func46, Tryz.ntmps46
    go_wp2_with (first
      | (go_at_call 86; refine HM.out.mono ?_; rintro _ _ ⟨rfl, rfl⟩)
      | (go_at_call 78; refine HS.out.mono ?_; rintro _ w1 ⟨rfl, A, c, hB1, hg1, hT1⟩))
    go_ret
    obtain ⟨a1, a2, a3⟩ := settled_on HG.out HL.out rfl rfl hB1 hg1 hT1
    rw [settled_flush HOK.out.same] at hB1 a1
    exact ⟨rfl, ⟨a3, HOK.out.flush d, _, hB1, a1⟩, a2⟩
  · rw [if_neg hm]
    have hne : ((S.may d : Int) == 0) = false := by simp; omega
    clear hm
    go_enter Tryz.func46, Tryz.ntmps46
    go_wp2_with (first
      | (go_at_call 86; refine HM.out.mono ?_; rintro _ _ ⟨rfl, rfl⟩))
    go_ret
    exact ⟨rfl, ⟨fun x hx => hx.elim (HL.out x) (fun h => by omega), HOK.out, R, HB.out, fun x hx => .inl (HG.out x hx)⟩, Turn.refl _ _⟩
set_option maxRecDepth 100000 in
theorem rOn_start (h : RefOn w r G S) :
    Calls Tryz.prog 44 #[.pointer (some ⟨r, 0, none⟩)] w fun e w' => e = .returned (.tuple #[]) ∧ RefOn w' r (More G w w') S.start ∧ Turn G w w' := by
  obtain ⟨h1, h2, R, h3, h4⟩ := h
  have c2 := h3.c2
  have f2 := h3.head.frozen 2
  have HB := hide h3
  have HOK := hide h2
  have HG := hide h4
  have HL := hide h1
  clear h1 h2 h3 h4
  go_enter Tryz.func44, Tryz.ntmps44
  go_wp2
  go_end0
  have hsz : (w.setCell ⟨r, 2, none⟩ (.bool false)).heap.size = w.heap.size := by simp [World.setCell]
  refine ⟨rfl, ⟨fun x hx => ?_, HOK.out.start, R, HB.out.head_set false S.writes S.armed S.mask (HB.out.head.set_ 2 (.bool false)) (fun x hx => Below.heap_setCell _ _ _ x hx), fun x hx => .inl (HG.out x hx)⟩, (Turn.refl _ _).set ⟨r, 2, none⟩ (.inl (HG.out r (.inl rfl))) _⟩
  rcases hx with hx | hx
  · rw [hsz]; exact HL.out x hx
  · exact hx.2
set_option maxRecDepth 100000 in
theorem rOn_arm (h : RefOn w r G S) (n : Int) (a m : Nat) (ha : (a : Int) = if 0 < n then n else 0) (ha2 : a < 9223372036854775808) (hm : m < 18446744073709551616) :
    Calls Tryz.prog 40 #[.pointer (some ⟨r, 0, none⟩), .int .i64 n, .int .u64 (m : Int)] w fun e w' => e = .returned (.tuple #[]) ∧ RefOn w' r (More G w w') (S.arm a m) ∧ Turn G w w' := by
  obtain ⟨h1, h2, R, h3, h4⟩ := h
  have c4 := h3.c4
  have c5 := h3.c5
  have f4 := h3.head.frozen 4
  have f5 := h3.head.frozen 5
  have HB := hide h3
  have HOK := hide h2
  have HG := hide h4
  have HL := hide h1
  have HA := hide ha
  clear h1 h2 h3 h4 ha
  have hfin : ∀ w', w' = (w.setCell ⟨r, 4, none⟩ (.int .i64 (a : Int))).setCell ⟨r, 5, none⟩ (.int .u64 (m : Int)) → RefOn w' r (More G w w') (S.arm a m) ∧ Turn G w w' := by
    rintro w' rfl
    have hsz : ((w.setCell ⟨r, 4, none⟩ (.int .i64 (a : Int))).setCell ⟨r, 5, none⟩ (.int .u64 (m : Int))).heap.size = w.heap.size := by simp [World.setCell]
    refine ⟨⟨fun x hx => ?_, HOK.out.arm ha2 hm, R, HB.out.head_set S.down S.writes a m ((HB.out.head.set_ 4 _).set_ 5 _) (fun x hx => (Below.heap_setCell _ _ _ x hx).trans (Below.heap_setCell _ _ _ x hx)), fun x hx => .inl (HG.out x hx)⟩, ((Turn.refl _ _).set ⟨r, 4, none⟩ (.inl (HG.out r (.inl rfl))) _).set ⟨r, 5, none⟩ (.inl (HG.out r (.inl rfl))) _⟩
    rcases hx with hx | hx
    · rw [hsz]; exact HL.out x hx
    · exact hx.2
  have HFIN := hide hfin
  clear hfin
  by_cases hn : 0 < n
  · have hA := HA.out
    rw [if_pos hn] at hA
    subst hA
    go_enter Tryz.func40, Tryz.ntmps40
    go_wp2
    go_end0
    exact ⟨rfl, HFIN.out _ rfl⟩
  · have ha0 : a = 0 := by have hA := HA.out; rw [if_neg hn] at hA; omega
    subst ha0
    by_cases h0 : n = 0
    · subst h0
      go_enter Tryz.func40, Tryz.ntmps40
      go_wp2
      go_end0
      exact ⟨rfl, HFIN.out _ rfl⟩
    · have h1 : n < 0 := by omega
      go_enter Tryz.func40, Tryz.ntmps40
      go_wp2
      go_end0
      exact ⟨rfl, HFIN.out _ (by rw [show max n 0 = 0 by omega]; rfl)⟩
set_option maxRecDepth 100000 in
theorem rOn_fail (h : RefOn w r G S) (d : Nat) (hd : d < S.n) :
    Calls Tryz.prog 36 #[.pointer (some ⟨r, 0, none⟩), .int .i64 (d : Int)] w fun e w' => e = .returned (.int .i64 0) ∧ RefOn w' r (More G w w') (S.fail d) ∧ Turn G w w' := by
  obtain ⟨h1, h2, R, h3, h4⟩ := h
  have c0 := h3.c0
  rw [R.ad_pos hd] at c0
  have p0 := h3.p hd
  have d2 := h3.d2 hd
  have g2 := (h3.disk d hd).frozen 2
  have hdw : (d : Int) < (S.n : Int) := by omega
  have hdg : decide ((S.n : Int) ≤ (d : Int)) = false := by simp; omega
  have hdn : decide ((d : Int) < 0) = false := by simp
  have HB := hide h3
  have HOK := hide h2
  have HG := hide h4
  have HL := hide h1
  clear h1 h2 h3 h4
  have hset : ∀ w1, w1 = w.setCell ⟨R.dk d, 2, none⟩ (.bool true) → RefIn w1 r R { S with dead := upd S.dead d true } ∧ Turn G w w1 ∧ w1.heap.size = w.heap.size := by
    rintro w1 rfl
    refine ⟨?_, (Turn.refl _ _).set ⟨R.dk d, 2, none⟩ (.inl (HG.out _ (.inr (.inr (.inr ⟨d, hd, .inl rfl⟩))))) _, by simp [World.setCell]⟩
    have h := HB.out.disk_set (w' := w.setCell ⟨R.dk d, 2, none⟩ (.bool true)) hd true (S.failAt d) ((HB.out.disk d hd).set_ 2 (.bool true)) (fun x hx => Below.heap_setCell _ _ _ x hx)
    rw [upd_same] at h
    exact h
  have HSET := hide hset
  clear hset
  go_enter Tryz.func36, Tryz.ntmps36
  go_wp2_with fail
  obtain ⟨w1, hw1⟩ : ∃ w1, w1 = w.setCell ⟨R.dk d, 2, none⟩ (.bool true) := ⟨_, rfl⟩
  obtain ⟨hB1, hT1, hz1⟩ := HSET.out w1 hw1
  rw [← hw1]
  refine (rsettled_any hB1 HOK.out.nodup (order_le S HOK.out) (fun p hp => ⟨(HOK.out.loose p hp).1, (HOK.out.loose p hp).2.1⟩) d false).mono ?_
  rintro _ w2 ⟨rfl, A, c, hB2, hg2, hT2⟩
  go_wp2
  go_ret
  obtain ⟨a1, a2, a3⟩ := settled_on (S := S) (T := { S with dead := upd S.dead d true }) (w := w1) HG.out (fun x hx => by rw [hz1]; exact HL.out x hx) rfl rfl hB2 hg2 hT2
  have hmore : ∀ x, More G w1 w2 x → More G w w2 x := fun x hx => hx.imp id (fun h => by omega)
  rw [settled_fail HOK.out.same] at hB2 a1
  exact ⟨rfl, ⟨fun x hx => by
    rcases hx with hx | hx
    · exact a3 x (.inl hx)
    · exact hx.2, HOK.out.fail d, _, hB2, fun x hx => hmore x (a1 x hx)⟩, hT1.trans a2⟩
end
/-- The first i loose ones settled, each as the mask says. -/
def Bank.crTo (S : Bank) (m : Nat) : Nat → Bank
  | 0 => S
  | i + 1 => match S.order[i]? with
    | some p => (S.crTo m i).setl (m.testBit (i % 64)) p.1 p.2
    | none => S.crTo m i
theorem crTo_succ {S : Bank} {m i : Nat} {p : Nat × Nat} (h : S.order[i]? = some p) : S.crTo m (i + 1) = (S.crTo m i).setl (m.testBit (i % 64)) p.1 p.2 := by
  rw [Bank.crTo, h]
theorem alike_crTo (S : Bank) (m : Nat) : ∀ i, S.Alike (S.crTo m i)
  | 0 => Bank.Alike.refl S
  | i + 1 => by
    rw [Bank.crTo]
    split
    · exact (alike_crTo S m i).trans (alike_setl _ _ _ _)
    · exact alike_crTo S m i
theorem crTo_is {S : Bank} (hnd : S.order.Nodup) (m : Nat) : ∀ i, i ≤ S.order.length → (S.crTo m i).flushed = (S.upTo m i).flushed ∧ ∀ a c, (S.crTo m i).newest a c = if (a, c) ∈ S.order.take i then (S.upTo m i).flushed a c else S.newest a c
  | 0, _ => ⟨rfl, fun a c => by rw [List.take_zero, if_neg (by simp)]; rfl⟩
  | i + 1, hi => by
    obtain ⟨h1, h2⟩ := crTo_is hnd m i (by omega)
    obtain ⟨p, hp⟩ : ∃ p, S.order[i]? = some p := ⟨_, List.getElem?_eq_getElem (by omega)⟩
    have hni : p ∉ S.order.take i := by
      intro hm
      obtain ⟨j, hj, he⟩ := List.mem_take_iff_getElem.1 hm
      obtain ⟨hlt, hp2⟩ := List.getElem?_eq_some_iff.1 hp
      exact List.pairwise_iff_getElem.1 hnd j i (by omega) hlt (by omega) (he.trans hp2.symm)
    have htk := take_snoc hp
    rw [crTo_succ hp, Bank.upTo_succ S m i p hp, htk]
    obtain ⟨p1, p2⟩ := p
    have hup : ∀ a c, (a, c) ∉ S.order.take i → True := fun _ _ _ => trivial
    cases hb : m.testBit (i % 64) with
    | true =>
      simp only [Bank.setl, if_true]
      have hnew : (S.crTo m i).newest p1 p2 = S.newest p1 p2 := by rw [h2, if_neg hni]
      refine ⟨by rw [h1, hnew], fun a c => ?_⟩
      show (S.crTo m i).newest a c = if (a, c) ∈ S.order.take i ++ [(p1, p2)] then upd2 (S.upTo m i).flushed p1 p2 (S.newest p1 p2) a c else S.newest a c
      rw [h2]
      by_cases e : a = p1 ∧ c = p2
      · obtain ⟨rfl, rfl⟩ := e
        rw [if_neg hni, if_pos (by simp), upd2_self]
      · rw [upd2_ne _ _ e]
        have hiff : ((a, c) ∈ S.order.take i ++ [(p1, p2)]) ↔ (a, c) ∈ S.order.take i := by
          rw [List.mem_append, List.mem_singleton]
          exact ⟨fun h => h.elim id (fun h => by injection h with x y; exact absurd ⟨x, y⟩ e), .inl⟩
        simp only [hiff]
    | false =>
      simp only [Bank.setl, if_false, Bool.false_eq_true]
      refine ⟨h1, fun a c => ?_⟩
      show upd2 (S.crTo m i).newest p1 p2 ((S.crTo m i).flushed p1 p2) a c = if (a, c) ∈ S.order.take i ++ [(p1, p2)] then (S.upTo m i).flushed a c else S.newest a c
      by_cases e : a = p1 ∧ c = p2
      · obtain ⟨rfl, rfl⟩ := e
        rw [upd2_self, if_pos (by simp), h1]
      · rw [upd2_ne _ _ e, h2]
        have hiff : ((a, c) ∈ S.order.take i ++ [(p1, p2)]) ↔ (a, c) ∈ S.order.take i := by
          rw [List.mem_append, List.mem_singleton]
          exact ⟨fun h => h.elim id (fun h => by injection h with x y; exact absurd ⟨x, y⟩ e), .inl⟩
        simp only [hiff]
theorem upTo_out {S : Bank} (m : Nat) : ∀ i, i ≤ S.order.length → ∀ a c, (a, c) ∉ S.order → (S.upTo m i).flushed a c = S.flushed a c
  | 0, _, _, _, _ => rfl
  | i + 1, hi, a, c, hn => by
    obtain ⟨p, hp⟩ : ∃ p, S.order[i]? = some p := ⟨_, List.getElem?_eq_getElem (by omega)⟩
    rw [Bank.upTo_succ S m i p hp]
    have ih := upTo_out m i (by omega) a c hn
    split
    · show upd2 (S.upTo m i).flushed p.1 p.2 (S.newest p.1 p.2) a c = _
      rw [upd2_ne _ _ (fun e => hn (by obtain ⟨e1, e2⟩ := e; rw [e1, e2]; exact List.mem_of_getElem? hp))]
      exact ih
    · exact ih
theorem crTo_all {S : Bank} (hok : S.Ok) (m : Nat) : (S.crTo m S.order.length).flushed = S.kept m ∧ (S.crTo m S.order.length).newest = S.kept m := by
  obtain ⟨h1, h2⟩ := crTo_is hok.nodup m S.order.length (Nat.le_refl _)
  have hk : (S.upTo m S.order.length).flushed = S.kept m := by rw [Bank.upTo_all]
  refine ⟨h1.trans hk, ?_⟩
  funext a c
  rw [h2, List.take_length]
  by_cases hm : (a, c) ∈ S.order
  · rw [if_pos hm, hk]
  · rw [if_neg hm, hok.same a c hm, ← upTo_out m S.order.length (Nat.le_refl _) a c hm, hk]
theorem mod_test (m k : Nat) : (((m : Int) / 2 ^ k).tmod 2 == 1) = m.testBit k := by
  have e : (m : Int) / 2 ^ k = ((m / 2 ^ k : Nat) : Int) := by rw [Int.natCast_ediv, Int.natCast_pow]; rfl
  rw [e, Int.tmod_eq_emod_of_nonneg (Int.natCast_nonneg _), Nat.testBit_eq_decide_div_mod_eq, Bool.eq_iff_iff, beq_iff_eq, decide_eq_true_iff]
  omega
section
variable {w w' : World} {r : Nat} {R : RLay} {S : Bank} {G : Nat → Prop}
set_option maxRecDepth 100000 in
set_option maxHeartbeats 2000000 in
theorem rcrash_any (h : RefIn w r R S) (hok : S.Ok) (hlen : S.order.length ≤ 131072) (m : Nat) (hm64 : m < 18446744073709551616) (hup : S.down = false) :
    Calls Tryz.prog 42 #[.pointer (some ⟨r, 0, none⟩), .int .u64 (m : Int)] w fun e w' => e = .returned (.tuple #[]) ∧ RefIn w' r { R with la := none, lc := 0 } (S.crash m) ∧ Turn (RFoot r R S) w w' := by
  have HB := hide h
  have HOK := hide hok
  have c2 := h.c2
  rw [hup] at c2
  have HUP := hide hup
  clear h hok hup
  go_enter Tryz.func42, Tryz.ntmps42
  go_wp2_with fail
  go_loopw [4] (fun s4 wr => ∃ i : Nat, s4 = .int .i64 (i : Int) ∧ i ≤ S.order.length ∧ Hid (RefIn wr r R (S.crTo m i)) ∧ Hid (Turn (RFoot r R S) w wr)) (fun s4 _ => S.order.length - (intOf s4).toNat)
  case atStart => exact ⟨0, rfl, Nat.zero_le _, HB, Turn.refl _ _⟩
  case round =>
    obtain ⟨i, rfl, hi, hB, hT⟩ := hrel
    obtain ⟨wo, rfl⟩ : ∃ wo, wo = wr := ⟨_, rfl⟩
    have ha := alike_crTo S m i
    have c1 := hB.out.c1
    rw [ha.order] at c1
    by_cases hil : i < S.order.length
    · have hg1 : (i : Int) < (S.order.length : Int) := by omega
      obtain ⟨p, hp⟩ : ∃ p, S.order[i]? = some p := ⟨_, List.getElem?_eq_getElem hil⟩
      have hpT : (S.crTo m i).order[i]? = some p := by rw [ha.order]; exact hp
      obtain ⟨g, hla, hcs⟩ := hB.out.loose_cells hpT
      rw [hla] at c1
      obtain ⟨hp1, hp2, _⟩ := HOK.out.loose p (List.mem_of_getElem? hp)
      have HPL := hide hcs
      have HSU := hide (crTo_succ (m := m) hp)
      have hbt := mod_test m (i % 64)
      obtain ⟨β, hβ⟩ : ∃ β, β = m.testBit (i % 64) := ⟨_, rfl⟩
      rw [← hβ] at hbt HSU
      have HSE := hide (fun w1 (h1 : RefIn w1 r R (S.crTo m i)) => rsettle_any h1 p.1 p.2 (by rw [ha.n]; exact hp1) (by rw [ha.size]; exact hp2) β)
      clear hcs hpT hp ha hβ
      go_wp2_with (first
        | (refine wpList_load_at rfl 47 (.tmp 24) rfl ⟨g, i * 2, none⟩ rfl (placeL p) _ HPL.out Tryz.underlying47 rfl rplace_info ?_))
      refine (HSE.out wo hB.out).mono ?_
      rintro _ w1 ⟨rfl, hB1, hT1⟩
      have hpm := HOK.out.loose p
      have HB1 := hide hB1
      have HT1 : Hid (Turn (RFoot r R S) w w1) := hT.out.trans (hT1.wider (fun x hx => .inr (.inr (.inr ⟨p.1, hp1, .inr hx⟩))))
      clear hB1 hT1 hpm
      go_wp2_with fail
      go_roundw
      case rel => exact ⟨i + 1, by go_num, by omega, by rw [HSU.out]; exact HB1, HT1⟩
      case measure => simp [intOf]; omega
    · obtain rfl : i = S.order.length := by omega
      have hnl : ¬ ((S.order.length : Int) < (S.order.length : Int)) := by omega
      have f1 := hB.out.head.frozen 1
      have f2 := hB.out.head.frozen 2
      have f4 := hB.out.head.frozen 4
      have x2 := hB.out.c2
      have x4 := hB.out.c4
      obtain ⟨k1, k2⟩ := crTo_all HOK.out m
      have HK := hide (And.intro k1 k2)
      have HC : Hid (S.crash m = { S with flushed := S.kept m, newest := S.kept m, order := [], down := true, armed := 0 }) := by show _ = _; unfold Bank.crash; rw [if_neg (by rw [HUP.out]; decide)]
      clear k1 k2
      go_wp2_with fail
      go_end0
      rw [HC.out]
      have h1 := hB.out.loose_set (T := { S.crTo m S.order.length with order := [] }) (A := none) (c := 0) ⟨rfl, rfl, rfl, rfl, rfl, rfl, rfl, rfl, rfl, rfl⟩ (World.ownsRow_nil _ _ _ _)
      have h2 := h1.head_set (w' := ((wo.setCell ⟨r, 1, none⟩ (.slice none 0 0)).setCell ⟨r, 2, none⟩ (.bool true)).setCell ⟨r, 4, none⟩ (.int .i64 0)) true (S.crTo m S.order.length).writes 0 (S.crTo m S.order.length).mask ((h1.head.set_ 2 (.bool true)).set_ 4 (.int .i64 0)) (fun x hx => (Below.heap_setCell _ _ _ x hx).trans (Below.heap_setCell _ _ _ x hx))
      refine ⟨rfl, ?_, ((hT.out.set ⟨r, 1, none⟩ (.inl (.inl rfl)) _).set ⟨r, 2, none⟩ (.inl (.inl rfl)) _).set ⟨r, 4, none⟩ (.inl (.inl rfl)) _⟩
      have he : ({ ({ S.crTo m S.order.length with order := [] } : Bank) with down := true, writes := (S.crTo m S.order.length).writes, armed := 0, mask := (S.crTo m S.order.length).mask } : Bank) = { S with flushed := S.kept m, newest := S.kept m, order := [], down := true, armed := 0 } :=
        Bank.eq ha.n ha.size ha.dead HK.out.1 HK.out.2 rfl rfl ha.writes ha.failAt rfl ha.mask
      rw [← he]
      exact h2
set_option maxRecDepth 100000 in
theorem rOn_crash (h : RefOn w r G S) (m : Nat) (hm : m < 18446744073709551616) :
    Calls Tryz.prog 42 #[.pointer (some ⟨r, 0, none⟩), .int .u64 (m : Int)] w fun e w' => e = .returned (.tuple #[]) ∧ RefOn w' r (More G w w') (S.crash m) ∧ Turn G w w' := by
  obtain ⟨h1, h2, R, h3, h4⟩ := h
  cases hd : S.down with
  | false =>
    refine (rcrash_any h3 h2 (order_le S h2 S.order h2.nodup (fun _ hp => hp)) m hm hd).mono fun e w' ⟨he, hB, hT⟩ => ?_
    have hn : (S.crash m).n = S.n := by unfold Bank.crash; rw [if_neg (by rw [hd]; decide)]
    have hs := hT.size
    refine ⟨he, ⟨fun x hx => ?_, h2.crash m, _, hB, fun x hx => .inl (h4 x ?_)⟩, hT.wider h4⟩
    · rcases hx with hx | hx
      · have := h1 x hx
        omega
      · exact hx.2
    · rcases hx with rfl | ⟨h0, rfl⟩ | hx | ⟨i, hi, hx⟩
      · exact .inl rfl
      · exact .inr (.inl ⟨by rw [← hn]; exact h0, rfl⟩)
      · cases hx
      · exact .inr (.inr (.inr ⟨i, by rw [← hn]; exact hi, hx⟩))
  | true =>
    have hc : S.crash m = S := by unfold Bank.crash; rw [if_pos hd]
    rw [hc]
    have c2 := h3.c2
    rw [hd] at c2
    go_enter Tryz.func42, Tryz.ntmps42
    go_wp2
    exact bodyPost_ret (results_none rfl _ _ _) rfl ⟨rfl, ⟨fun x hx => hx.elim (h1 x) (fun h => by omega), h2, R, h3, fun x hx => .inl (h4 x hx)⟩, Turn.refl _ _⟩
end
end Go.Proofs.YtmjjnbabfldbcaaGreat
namespace Go.Proofs.YtmjjnbabfldbcaaGreat
open Go.RowKit
set_option linter.unusedVariables false
theorem pl_guard : Tryz.prog.eqGuardType Tryz.prog.depth 47 = false := by kernel_rfl
theorem pl_fields : Tryz.prog.underlying 47 = some (.struct (Tryz.prog.fieldsOf 47)) := by kernel_rfl
theorem pl_stood : Tryz.prog.stoodInHeld 47 = false := by kernel_rfl
theorem pl_fieldsL : (Tryz.prog.fieldsOf 47).toList.map (fun f => (f.name, f.type, f.offset)) = [("Disk", 3, 0), ("At", 3, 1)] := by kernel_rfl
set_option maxRecDepth 100000 in
theorem run_eql_pl (a b : Nat × Nat) (w : World) : (binOp .eql 47 (.agg (placeL a).toArray) (.agg (placeL b).toArray)).run Tryz.prog w = .ok (.bool (decide (a = b))) w := by
  obtain ⟨a1, a2⟩ := a
  obtain ⟨b1, b2⟩ := b
  have h := run_equalIn_struct (P := Tryz.prog) w 9999 47 (placeL (a1, a2)).toArray (placeL (b1, b2)).toArray pl_fields pl_stood
  have hl := pl_fieldsL
  generalize (Tryz.prog.fieldsOf 47).toList = fs at h hl
  rcases fs with _ | ⟨f0, _ | ⟨f1, _ | ⟨f2, fs⟩⟩⟩ <;> simp at hl
  obtain ⟨⟨n0, t0, o0⟩, n1, t1, o1⟩ := hl
  have p0 : ∀ (x y : Nat), (part f0.type (placeL (x, y)).toArray f0.offset).run Tryz.prog w = .ok (.int .i64 (x : Int)) w := fun x y => by rw [t0, o0]; exact run_part_plain (P := Tryz.prog) w (by kernel_rfl) (xs := (placeL (x, y)).toArray) (off := 0) (v := .int .i64 (x : Int)) rfl
  have p1 : ∀ (x y : Nat), (part f1.type (placeL (x, y)).toArray f1.offset).run Tryz.prog w = .ok (.int .i64 (y : Int)) w := fun x y => by rw [t1, o1]; exact run_part_plain (P := Tryz.prog) w (by kernel_rfl) (xs := (placeL (x, y)).toArray) (off := 1) (v := .int .i64 (y : Int)) rfl
  have e0 : ∀ x y : Int, (Op.equalIn 9999 f0.type (.int .i64 x) (.int .i64 y)).run Tryz.prog w = .ok (x == y) w := fun x y => by rw [t0]; exact run_equalIn_int (P := Tryz.prog) w 9998 3 .i64 .i64 x y Tryz.underlying3
  have e1 : ∀ x y : Int, (Op.equalIn 9999 f1.type (.int .i64 x) (.int .i64 y)).run Tryz.prog w = .ok (x == y) w := fun x y => by rw [t1]; exact run_equalIn_int (P := Tryz.prog) w 9998 3 .i64 .i64 x y Tryz.underlying3
  rw [run_eql_struct, h]
  simp only [Op.eqFields]
  by_cases h1 : a1 = b1 <;> by_cases h2 : a2 = b2 <;> simp [n0, n1, p0, p1, e0, e1, h1, h2] <;> omega
theorem quiet_eql_pl {ops : Array Oper} {C : World → Prop} {Q : Act → Prop} {o : Oper} {rest : List Oper} {a : Act} (hgd : o.guard = none) (p q : Operand) (tr : TypeId) (ho : o.op = .binOp .eql 47 p q tr)
    (x y : Nat × Nat) (hp : a.eval p = .agg (placeL x).toArray) (hq : a.eval q = .agg (placeL y).toArray) (β : Bool) (hβ : decide (x = y) = β)
    (h : wpQuiet Tryz.prog ops C Q rest (a.put o.dst (.bool β))) : wpQuiet Tryz.prog ops C Q (o :: rest) a :=
  quiet_gives hgd _ (fun w _ => by
    unfold execOp
    simp only [ho, hp, hq, Sem.run_bind, run_eqGuard_agg w .eql 47 p q _ _ pl_guard, Result.andThen_ok, run_eql_pl x y w, Sem.run_pure, hβ]) h
theorem Turn.trans_more {G : Nat → Prop} {a b c : World} (h : Turn G a b) (k : Turn (More G a b) b c) : Turn G a c :=
  ⟨k.os.trans h.os, k.tape.trans h.tape, k.output.trans h.output, Nat.le_trans h.size k.size, fun i hi hn => (k.block i (Nat.lt_of_lt_of_le hi h.size) (fun hm => hm.elim hn (fun h => by omega))).trans (h.block i hi hn)⟩
section
variable {w w' : World} {r : Nat} {R : RLay} {S : Bank} {G : Nat → Prop}
/-- The bank as it goes: its rows are in G, or new. -/
def RefGo (w0 w : World) (r : Nat) (G : Nat → Prop) (S : Bank) : Prop := S.Ok ∧ (∃ R, RefIn w r R S ∧ ∀ x, RFoot r R S x → G x ∨ w0.heap.size ≤ x) ∧ Turn G w0 w
theorem RefGo.on {w0 : World} (h : RefGo w0 w r G S) (hl : ∀ x, G x → x < w0.heap.size) : RefOn w r (More G w0 w) S := by
  obtain ⟨h1, ⟨R, h2, h3⟩, h4⟩ := h
  refine ⟨fun x hx => ?_, h1, R, h2, fun x hx => (h3 x hx).imp id (fun h => ⟨h, h2.foot_lt x hx⟩)⟩
  rcases hx with hx | hx
  · exact Nat.lt_of_lt_of_le (hl x hx) h4.size
  · exact hx.2
theorem RefGo.step {w0 : World} {T : Bank} (h : RefGo w0 w r G S) (hB : RefOn w' r (More (More G w0 w) w w') T) (hT : Turn (More G w0 w) w w') : RefGo w0 w' r G T := by
  obtain ⟨_, _, h4⟩ := h
  obtain ⟨_, k1, R, k2, k3⟩ := hB
  have hs := h4.size
  refine ⟨k1, ⟨R, k2, fun x hx => ?_⟩, h4.trans_more hT⟩
  rcases k3 x hx with (h | h) | h
  · exact .inl h
  · exact .inr h.1
  · exact .inr (by omega)
theorem RefGo.later {w0 : World} (h : RefGo w0 w r G S) (hb : Below w.heap.size w w') : RefGo w0 w' r G S := by
  obtain ⟨h1, ⟨R, h2, h3⟩, h4⟩ := h
  exact ⟨h1, ⟨R, h2.later hb, h3⟩, h4.below hb⟩
theorem RefGo.fin {w0 wb : World} (h : RefGo w0 w r G S) (hb : Below wb.heap.size wb w0) (hl : ∀ x, G x → x < wb.heap.size) : RefOn w r (More G wb w) S ∧ Turn G wb w := by
  obtain ⟨h1, ⟨R, h2, h3⟩, h4⟩ := h
  have hs := hb.size
  have hs4 := h4.size
  refine ⟨⟨fun x hx => ?_, h1, R, h2, fun x hx => (h3 x hx).imp id (fun h => ⟨by omega, h2.foot_lt x hx⟩)⟩, (Turn.of_below hb).trans h4⟩
  rcases hx with hx | hx
  · have := hl x hx
    omega
  · exact hx.2
theorem RefIn.no_own (h : RefIn w r R S) {g : Nat} {t : TypeId} {cs : Array Value} (hb : Blk w g t cs) (ht : t ≠ 47) : (Value.slice R.la S.order.length R.lc).ownBlock ≠ some g := by
  intro e
  rcases h.loose.2 with ⟨hv, _⟩ | ⟨g', cap, cur, hv, _, hbk, _⟩
  · rw [hv] at e
    cases e
  · rw [hv] at e
    injection e with e
    subst e
    exact hb.apart (show Blk w g' 47 cur from hbk) ht rfl
/-- One more is loose: the row of them may have grown where it lay, or lie anew. -/
theorem RefIn.loose_new {T : Bank} {w9 : World} (h : RefIn w r R S) {A : Option Addr} {c : Nat} (hT : S.n = T.n ∧ S.size = T.size ∧ S.dead = T.dead ∧ S.flushed = T.flushed ∧ S.newest = T.newest ∧ S.failAt = T.failAt ∧ S.down = T.down ∧ S.writes = T.writes ∧ S.armed = T.armed ∧ S.mask = T.mask)
    (hk : ∀ x, x < w.heap.size → (Value.slice R.la S.order.length R.lc).ownBlock ≠ some x → w9.heap[x]? = w.heap[x]?)
    (hl : w9.ownsRow 0 47 2 (.slice A T.order.length c) T.order.length (flatP T.order)) : RefIn (w9.setCell ⟨r, 1, none⟩ (.slice A T.order.length c)) r { R with la := A, lc := c } T := by
  obtain ⟨t1, t2, t3, t4, t5, t6, t7, t8, t9, t10⟩ := hT
  have h9 : ∀ {g : Nat} {t : TypeId} {cs : Array Value}, Blk w g t cs → t ≠ 47 → Blk w9 g t cs := fun hq ht => hq.of_block (hk _ hq.lt (h.no_own hq ht))
  have hh := h9 h.head (by decide)
  have hne : ∀ {g : Nat} {t : TypeId} {cs : Array Value}, Blk w g t cs → t ≠ 47 → t ≠ 41 → Blk (w9.setCell ⟨r, 1, none⟩ (.slice A T.order.length c)) g t cs := fun hq ht ht2 => (h9 hq ht).far (hq.apart h.head ht2) _
  refine { head := ?_, cap := by rw [← t1]; exact h.cap, row := fun h0 => ?_, loose := ?_, disk := fun i hi => ?_, flu := fun i hi => ?_, new := fun i hi => ?_, inj1 := fun i j hi hj => h.inj1 i j (by rw [t1]; exact hi) (by rw [t1]; exact hj), inj2 := fun i j hi hj => h.inj2 i j (by rw [t1]; exact hi) (by rw [t1]; exact hj), inj3 := fun i j hi hj => h.inj3 i j (by rw [t1]; exact hi) (by rw [t1]; exact hj), inj4 := fun i j hi hj => h.inj4 i j (by rw [t1]; exact hi) (by rw [t1]; exact hj) }
  · have h2 := hh.set_ 1 (.slice A T.order.length c)
    rw [t1, t7, t8, t9, t10] at h2
    exact h2
  · obtain ⟨cs, hb, h2⟩ := h.row (by rw [t1]; exact h0)
    rw [t1] at h2
    exact ⟨cs, hne hb (by decide) (by decide), h2⟩
  · refine own_of_block hl (fun g hg => ?_)
    rcases hl.2 with ⟨hv, _⟩ | ⟨g', cap, cur, hv, _, hbk, _⟩
    · rw [hv] at hg
      cases hg
    · rw [hv] at hg
      injection hg with hg
      subst hg
      exact Below.heap_setCell _ _ _ _ ((show Blk w9 g' 47 cur from hbk).apart hh (by decide))
  · have h2 := h.disk i (by rw [t1]; exact hi)
    rw [t2, t3, t6] at h2
    exact hne h2 (by decide) (by decide)
  · have h2 := h.flu i (by rw [t1]; exact hi)
    rw [t2, t4] at h2
    exact hne h2 (by decide) (by decide)
  · have h2 := h.new i (by rw [t1]; exact hi)
    rw [t2, t5] at h2
    exact hne h2 (by decide) (by decide)
theorem write_down {d k : Nat} {s : Sec} (hd : S.down = true) : S.write d k s = (S.place d k, S) ∧ S.place d k ≠ 0 := by
  have hm : S.may d ≠ 0 := by
    unfold Bank.may
    rw [hd]
    split
    · decide
    · split <;> decide
  have hp : S.place d k ≠ 0 := by unfold Bank.place; rw [if_neg hm]; exact hm
  refine ⟨?_, hp⟩
  unfold Bank.write Bank.count
  rw [if_pos hd]
  show (if S.place d k = 0 then _ else _) = _
  rw [if_neg hp]
theorem write_up {d k : Nat} {s : Sec} {V : Bank} (hc : S.count = (false, V)) : S.write d k s = if V.place d k = 0 then (0, V.put d k s) else (V.place d k, V) := by
  unfold Bank.write
  rw [hc]
  rfl
set_option maxRecDepth 100000 in
set_option maxHeartbeats 8000000 in
theorem rOn_write (h : RefOn w r G S) (hw62 : S.writes < 4611686018427387904) (d k : Nat) (s : Sec) :
    Calls Tryz.prog 35 #[.pointer (some ⟨r, 0, none⟩), .agg #[.int .i64 (d : Int), .int .i64 (k : Int)], secV s] w fun e w' => e = .returned (.int .i64 ((S.write d k s).1 : Int)) ∧ RefOn w' r (More G w w') (S.write d k s).2 ∧ Turn G w w' := by
  obtain ⟨h1, h2, R, h3, h4⟩ := h
  obtain ⟨U, hU⟩ : ∃ U, U = secL s := ⟨_, rfl⟩
  have hUl : U.length = 64 := by rw [hU, secL_length]
  have hUo : ∀ v ∈ U, v.oneCell' = true := by rw [hU]; exact secL_one _
  have hiU : (Tryz.prog.info? 43).map (·.size) = some U.length := by rw [hUl]; exact sec_info
  have hs : secV s = .agg U.toArray := by rw [hU]; rfl
  rw [hs]
  have HUl := hide hUl
  have HUO := hide hUo
  have HIU := hide hiU
  have HU := hide hU
  have HB := hide h3
  have HOK := hide h2
  have HG := hide h4
  have HL := hide h1
  clear hUl hUo hiU hs hU h1 h2 h3 h4
  cases hdn : S.down with
  | true =>
    obtain ⟨e1, e2⟩ := write_down (S := S) (d := d) (k := k) (s := s) hdn
    have HE := hide e1
    have hne : ((S.place d k : Int) != 0) = true := by simp; omega
    have HDN := hide hdn
    clear e1 e2 hdn
    go_enter Tryz.func35, Tryz.ntmps35
    go_wp2_with (first
      | (refine wpList_box_blk rfl 47 (.tmp 1) rfl (.agg #[.int .i64 (d : Int), .int .i64 (k : Int)]) rfl ?_; intro w1 hb1q hl1 hs1; clear hs1; have hb1 : Blk w1 w.heap.size 47 (placeL (d, k)).toArray := hb1q; clear hb1q)
      | (refine wpList_box_blk rfl 43 (.tmp 2) rfl (.agg U.toArray) rfl ?_; intro w2 hb2q hl2 hs2; clear hs2; have hb2 : Blk w2 w1.heap.size 43 U.toArray := hb2q; clear hb2q; have hz1 := hb1.lt; have hz2 := hb2.lt; have hl02 : Below w.heap.size w w2 := hl1.trans (hl2.mono (by omega)); have hb12 := hb1.below hl2 hz1; have hgo : RefGo w2 w2 r G S := ⟨HOK.out, ⟨R, HB.out.later hl02, fun x hx => .inl (HG.out x hx)⟩, Turn.refl _ _⟩; have hI2 := HB.out.later hl02; have x2 := hI2.c2; rw [HDN.out] at x2; have HGO := hide hgo; have HX := hide hb12; have HL02 := hide hl02; have hP := hide (rplace_any hI2 d k); clear hgo hb12 hl02 hb1 hb2 hl1 hl2 hI2)
      | (refine wpList_load_blk rfl 47 (.tmp 4) rfl w.heap.size 0 47 _ HX.out rfl (placeL (d, k)) _ (fun j v hj => by rw [Nat.zero_add]; simpa using hj) Tryz.underlying47 rfl rplace_info ?_)
      | (go_at_call 49; refine hP.out.mono ?_; rintro _ w3 ⟨rfl, hl3⟩))
    go_ret
    rw [HE.out]
    have hf := (HGO.out.later hl3).fin HL02.out HL.out
    exact ⟨rfl, hf.1, hf.2⟩
  | false =>
    have hcn : S.writes + 1 < 9223372036854775808 := by omega
    have hn32 := HOK.out.n_le
    have HDN := hide hdn
    obtain ⟨W0, hW0⟩ : ∃ T, T = S.wrote := ⟨_, rfl⟩
    have HW0 := hide hW0
    have hnW : W0.n = S.n := by rw [hW0]; rfl
    have hok0 : W0.Ok := by rw [hW0]; exact HOK.out.wrote
    have HOK0 := hide hok0
    clear hdn hW0 hok0
    go_enter Tryz.func35, Tryz.ntmps35
    go_wp2_with (first
      | (refine wpList_box_blk rfl 47 (.tmp 1) rfl (.agg #[.int .i64 (d : Int), .int .i64 (k : Int)]) rfl ?_; intro w1 hb1q hl1 hs1; clear hs1; have hb1 : Blk w1 w.heap.size 47 (placeL (d, k)).toArray := hb1q; clear hb1q)
      | (refine wpList_box_blk rfl 43 (.tmp 2) rfl (.agg U.toArray) rfl ?_; intro w2 hb2q hl2 hs2; clear hs2; have hb2 : Blk w2 w1.heap.size 43 U.toArray := hb2q; clear hb2q; have hz1 := hb1.lt; have hz2 := hb2.lt; have hl02 : Below w.heap.size w w2 := hl1.trans (hl2.mono (by omega)); have hb12 := hb1.below hl2 hz1; have hgo : RefGo w2 w2 r G S := ⟨HOK.out, ⟨R, HB.out.later hl02, fun x hx => .inl (HG.out x hx)⟩, Turn.refl _ _⟩; have hI2 := HB.out.later hl02; have x2 := hI2.c2; rw [HDN.out] at x2; have x3 := hI2.c3; have fx3 := hI2.head.frozen 3; have HGO := hide hgo; have HI2 := hide hI2; have HX := hide hb12; have HY := hide hb2; have HL02 := hide hl02; clear hgo hb12 hl02 hb1 hb2 hl1 hl2 hI2))
    have hrG := HG.out r (.inl rfl)
    have hrlt := HL.out r hrG
    have hg0 : RefGo w2 (w2.setCell ⟨r, 3, none⟩ (.int .i64 ((S.writes : Int) + 1))) r G W0 := by
      refine ⟨HOK0.out, ⟨R, ?_, fun x hx => .inl (HG.out x ?_)⟩, (Turn.refl _ _).set ⟨r, 3, none⟩ (.inl hrG) _⟩
      · rw [HW0.out]
        exact HI2.out.head_set (w' := w2.setCell ⟨r, 3, none⟩ (.int .i64 ((S.writes : Int) + 1))) S.down (S.writes + 1) S.armed S.mask (HI2.out.head.set_ 3 _) (fun x hx => Below.heap_setCell _ _ _ x hx)
      · rw [HW0.out] at hx
        exact hx
    have HG0 := hide hg0
    have hzz2 := HY.out.lt
    have hxx2 := HX.out.lt
    clear hg0 x2 x3 fx3 HI2 HB HG
    go_loopw [7] (fun s7 wr => ∃ j : Nat, s7 = .int .i64 (j : Int) ∧ j ≤ S.n ∧ Hid (RefGo w2 wr r G (W0.tick j))) (fun s7 _ => S.n - (intOf s7).toNat)
    case atStart => exact ⟨0, rfl, Nat.zero_le _, HG0⟩
    case round =>
      obtain ⟨j, rfl, hj, hgo⟩ := hrel
      obtain ⟨wo, rfl⟩ : ∃ wo, wo = wr := ⟨_, rfl⟩
      obtain ⟨hok1, ⟨R1, hI1, hF1⟩, hT1⟩ := hgo.out
      obtain ⟨k1, k2, k3, k4, k5, k6⟩ := tick_keeps W0 j
      have hnj : (W0.tick j).n = S.n := k1.trans hnW
      have c0 := hI1.c0
      rw [hnj] at c0
      by_cases hjn : j < S.n
      · have hg1 : (j : Int) < (S.n : Int) := by omega
        have hjT : j < (W0.tick j).n := by omega
        rw [R1.ad_pos hjn] at c0
        have p0 := hI1.p hjT
        have d3 := hI1.d3 hjT
        have fd3 := (hI1.disk j hjT).frozen 3
        have hfl := hok1.fail_le j
        have HOK1 := hide hok1
        have HI1 := hide hI1
        have HF1 := hide hF1
        clear hok1 hI1 hF1 k1 k2 k3 k4 k5 k6
        obtain ⟨f, hf⟩ : ∃ f, f = (W0.tick j).failAt j := ⟨_, rfl⟩
        rw [← hf] at d3 hfl
        by_cases h0 : f = 0
        · have HT := hide (tick_zero W0 j (by rw [← hf]; exact h0))
          subst h0
          clear hf
          go_wp2_with fail
          go_roundw
          case rel => exact ⟨j + 1, by go_num, by omega, by rw [HT.out]; exact hgo⟩
          case measure => simp [intOf]; omega
        · have hf0 : (0 : Int) < (f : Int) := by omega
          have hsub : (f : Int) - 1 = ((f - 1 : Nat) : Int) := by omega
          have hset : ∀ v : Int, v = (f : Int) - 1 → ∀ w4, w4 = wo.setCell ⟨R1.dk j, 3, none⟩ (.int .i64 v) → RefGo w2 w4 r G { W0.tick j with failAt := upd (W0.tick j).failAt j ((W0.tick j).failAt j - 1) } ∧ w4.cell? ⟨r, 0, none⟩ = some (.slice (some ⟨R1.mb, 0, none⟩) S.n R1.cap) ∧ w4.cell? ⟨R1.mb, j, none⟩ = some (.pointer (some ⟨R1.dk j, 0, none⟩)) ∧ w4.cell? ⟨R1.dk j, 3, none⟩ = some (.int .i64 v) := by
            rintro v hv w4 rfl
            have hv2 : v = ((f - 1 : Nat) : Int) := by omega
            have hI4 : RefIn (wo.setCell ⟨R1.dk j, 3, none⟩ (.int .i64 v)) r R1 { W0.tick j with failAt := upd (W0.tick j).failAt j ((W0.tick j).failAt j - 1) } := by
              have h := HI1.out.disk_set (w' := wo.setCell ⟨R1.dk j, 3, none⟩ (.int .i64 v)) hjT ((W0.tick j).dead j) ((W0.tick j).failAt j - 1) (by rw [← hf, ← hv2]; exact (HI1.out.disk j hjT).set_ 3 _) (fun x hx => Below.heap_setCell _ _ _ x hx)
              rw [upd_same] at h
              exact h
            have c04 := hI4.c0
            have hn4 : ({ W0.tick j with failAt := upd (W0.tick j).failAt j ((W0.tick j).failAt j - 1) } : Bank).n = S.n := hnj
            rw [hn4, R1.ad_pos hjn] at c04
            refine ⟨⟨HOK1.out.setFail j (by rw [← hf]; omega), ⟨R1, hI4, HF1.out⟩, (hgo.out.2.2).set ⟨R1.dk j, 3, none⟩ ?_ _⟩, c04, hI4.p hjT, ?_⟩
            · exact HF1.out _ (.inr (.inr (.inr ⟨j, hjT, .inl rfl⟩)))
            · have h := hI4.d3 hjT
              have e : ({ W0.tick j with failAt := upd (W0.tick j).failAt j ((W0.tick j).failAt j - 1) } : Bank).failAt j = f - 1 := by show upd (W0.tick j).failAt j ((W0.tick j).failAt j - 1) j = _; rw [upd_self, hf]
              rw [e, ← hv2] at h
              exact h
          have HSET := hide hset
          clear hset
          by_cases h1 : f = 1
          · have HT := hide (tick_one W0 j (by rw [← hf]; exact h1))
            have HNJ := hide hnj
            obtain ⟨hg4, c04, p04, d34⟩ := HSET.out 0 (by omega) _ rfl
            have HG4 := hide hg4
            subst h1
            clear hf hg4 hsub
            have hd1 : wo.cell? ⟨R1.dk j, 3, none⟩ = some (.int .i64 1) := d3
            clear d3
            go_wp2_with fail
            have hfl := rOn_fail (HG4.out.on (fun x hx => by have := HL.out x hx; omega)) j (by show j < (W0.tick j).n; omega)
            refine hfl.mono ?_
            rintro _ w5 ⟨rfl, hB5, hT5⟩
            have HG5 := hide (HG4.out.step hB5 hT5)
            clear hB5 hT5 c04 p04 d34 hd1
            go_wp2_with fail
            go_roundw
            case rel => exact ⟨j + 1, by go_num, by omega, by rw [HT.out]; exact HG5⟩
            case measure => simp [intOf]; omega
          · have HT := hide (tick_more W0 j (by rw [← hf]; exact h0) (by rw [← hf]; exact h1))
            obtain ⟨hg4, c04, p04, d34⟩ := HSET.out ((f : Int) - 1) rfl _ rfl
            have HG4 := hide hg4
            have hne1 : ¬ ((f : Int) - 1 = 0) := by omega
            clear hf hg4 hsub h1
            go_wp2_with fail
            go_roundw
            case rel => exact ⟨j + 1, by go_num, by omega, by rw [HT.out]; exact HG4⟩
            case measure => simp [intOf]; omega
      · obtain rfl : j = S.n := by omega
        have hnl : ¬ ((S.n : Int) < (S.n : Int)) := by omega
        obtain ⟨T, hT⟩ : ∃ T, T = W0.tick S.n := ⟨_, rfl⟩
        rw [← hT] at hgo hI1 hF1 hok1
        have HGT := hide hgo.out
        have HTK := hide (show S.ticked = T by rw [hT, HW0.out]; rfl)
        have c4 := hI1.c4
        have f4 := hI1.head.frozen 4
        have HI1 := hide hI1
        have HF1 := hide hF1
        have HOT := hide hok1
        have hal := HOT.out.armed_le
        clear hgo hI1 hF1 hok1 hT k1 k2 k3 k4 k5 k6 hnj hT1
        by_cases ha0 : T.armed = 0
        · have HE := hide (show S.write d k s = if T.place d k = 0 then (0, T.put d k s) else (T.place d k, T) from write_up (by
            unfold Bank.count
            rw [if_neg (by rw [HDN.out]; decide), HTK.out]
            simp only
            rw [if_pos ha0]))
          rw [ha0] at c4
          clear ha0
          obtain ⟨okV, ⟨R5, hI5, hF5⟩, hT5⟩ := HGT.out
          have HX5 := hide (HX.out.turned hT5 (fun hf => by have := HL.out _ hf; omega))
          have HY5 := hide (HY.out.turned hT5 (fun hf => by have := HL.out _ hf; omega))
          have hsz5 := hT5.size
          have hP := hide (rplace_any hI5 d k)
          have HI5 := hide hI5
          have HF5 := hide hF5
          have HT5 := hide hT5
          have HOV := hide okV
          clear hI5 hF5 hT5 okV
          by_cases hp : T.place d k = 0
          · obtain ⟨_, hdV, hkV⟩ := rplace_zero hp
            have HE2 := hide (show S.write d k s = (0, T.put d k s) by rw [HE.out, if_pos hp])
            have HPZ := hide hp
            rw [hp] at hP
            have hkw : (k : Int) < (T.size d : Int) := by omega
            have hdw : (d : Int) < (T.n : Int) := by omega
            have hkz : k * 64 + 64 ≤ T.size d * 64 := by omega
            clear hp
            go_wp2_with (first
              | (refine wpList_load_blk rfl 47 (.tmp 4) rfl w.heap.size 0 47 _ HX5.out rfl (placeL (d, k)) _ (fun j v hj => by rw [Nat.zero_add]; simpa using hj) Tryz.underlying47 rfl rplace_info ?_)
              | (go_at_call 49; refine hP.out.mono ?_; rintro _ w6 ⟨rfl, hl6⟩))
            have hsz6 := hl6.size
            have hI6 := HI5.out.later hl6
            have HX6 := hide (HX5.out.below hl6 HX5.out.lt)
            have HY6 := hide (HY5.out.below hl6 HY5.out.lt)
            have q0 : w6.drew.cell? ⟨w.heap.size, 0, none⟩ = some (.int .i64 (d : Int)) := HX6.out.cell 0
            have q1 : w6.drew.cell? ⟨w.heap.size, 1, none⟩ = some (.int .i64 (k : Int)) := HX6.out.cell 1
            have c0 : w6.drew.cell? ⟨r, 0, none⟩ = _ := hI6.c0
            rw [R5.ad_pos hdV] at c0
            have p0 : w6.drew.cell? ⟨R5.mb, d, none⟩ = _ := hI6.p hdV
            have d1 : w6.drew.cell? ⟨R5.dk d, 1, none⟩ = _ := hI6.d1 hdV
            have HN6 := hide (hI6.new d hdV).drew
            have HI6 := hide hI6.drew
            have HT6 := hide (HT5.out.below hl6).drew
            have HYC : Hid (∀ (j : Nat) (v : Value), U[j]? = some v → w6.drew.cell? ((⟨w1.heap.size, 0, none⟩ : Addr).add j) = some v) := fun j v hj => by
              have hadd : (⟨w1.heap.size, 0, none⟩ : Addr).add j = ⟨w1.heap.size, j, none⟩ := by unfold Addr.add; split <;> simp_all
              rw [hadd, HY6.out.drew.cell j]
              simpa using hj
            clear hI6 hl6 HX5 HY5 HI5 HT5
            refine wp_region_still_tail 15 (by kernel_rfl) (by kernel_rfl) ?_
            change wpStill _ _ w6.drew _ _ _
            simp only [List.take_succ_cons, List.take_zero, List.drop_succ_cons, List.drop_zero]
            iterate 13 still_step
            refine still_load_at rfl 43 (.tmp 5) rfl ⟨w1.heap.size, 0, none⟩ rfl U _ HYC.out Tryz.underlying43 rfl HIU.out ?_
            still_step
            refine wpStill_nil ?_
            change wpList _ _ _ _ _ w6.drew
            go_wp2_with (first
              | (refine wpList_store_blk rfl 43 (.tmp 112) (.tmp 111) rfl (R5.nw d) (k * 64) 43 _ HN6.out rfl U rfl HIU.out (by rw [HUl.out, rowS_size]; exact hkz) HUO.out ?_; intro w7 hb7 hg7 hs7; clear hs7))
            have hI7 : RefIn w7 r R5 { T with newest := upd2 T.newest d k s } := by
              refine HI6.out.new_set hdV s ?_ hg7
              have h5 := hb7
              rw [HU.out] at h5
              rw [← rowS_put (T.newest d) s k (T.size d) hkV]
              exact h5
            have hnwG := HF5.out _ (.inr (.inr (.inr ⟨d, hdV, .inr (.inr rfl)⟩)))
            have HT7 : Hid (Turn G w2 w7) := HT6.out.grown hg7 (fun g e => by injection e with e; subst e; exact hnwG)
            have hX7 : Blk w7 w.heap.size 47 (placeL (d, k)).toArray := HX6.out.drew.grown hg7 (fun e => by injection e with e; exact hnwG.elim (fun h => by have := HL.out _ h; omega) (fun h => by omega))
            have HX7 := hide hX7
            have HI7 := hide hI7
            have hsz7 := HT7.out.size
            have hlen := hide (order_le T HOV.out T.order HOV.out.nodup (fun _ hp => hp))
            clear hX7 hI7 hb7 hg7 HI6 HN6 HT6 HX6 HY6 HYC q0 q1 c0 p0 d1
            go_loopw [9] (fun s9 wr => ∃ i q : Nat, s9 = .int .i64 (i : Int) ∧ i ≤ T.order.length ∧ wr = w7.drewN q ∧ Hid (∀ j p, j < i → T.order[j]? = some p → p ≠ (d, k))) (fun s9 _ => T.order.length - (intOf s9).toNat)
            case atStart => exact ⟨0, 0, rfl, Nat.zero_le _, rfl, fun j p hj => absurd hj (Nat.not_lt_zero j)⟩
            case round =>
              obtain ⟨i, q, rfl, hi, rfl, hall⟩ := hrel
              have hl2 := hlen.out
              have hI8 : RefIn (w7.drewN q) r R5 { T with newest := upd2 T.newest d k s } := HI7.out.drewN q
              have c1 : w7.cell? ⟨r, 1, none⟩ = some (.slice R5.la T.order.length R5.lc) := hI8.c1
              by_cases hil : i < T.order.length
              · have hg1 : (i : Int) < (T.order.length : Int) := by omega
                obtain ⟨p, hp⟩ : ∃ p, T.order[i]? = some p := ⟨_, List.getElem?_eq_getElem hil⟩
                obtain ⟨g, hla, hcs⟩ := hI8.loose_cells hp
                rw [hla] at c1
                have HCS := hide hcs
                have HX8 := hide (HX7.out.drewN q)
                have HP := hide hp
                have HI8 := hide hI8
                clear hcs hp hI8
                cases hdec : decide (p = (d, k)) with
                | true =>
                  have hpe : p = (d, k) := of_decide_eq_true hdec
                  have HMEM := hide (show (d, k) ∈ T.order by rw [← hpe]; exact List.mem_of_getElem? HP.out)
                  have HD := hide hdec
                  clear hdec hpe
                  go_wp2_with fail
                  refine wp_region_quiet_lit (by kernel_rfl) (by kernel_rfl) ?_
                  iterate 6 (go_big_quiet_step (fail))
                  refine quiet_load_at rfl 47 (.tmp 127) rfl ⟨g, i * 2, none⟩ rfl (placeL p) _ (by rintro w1 ⟨q1, rfl⟩; exact HCS.out) Tryz.underlying47 rfl rplace_info ?_
                  simp only [Act.put, List.setIfInBounds_toArray, List.set_cons_succ, List.set_cons_zero]
                  refine quiet_when_load rfl 47 (.tmp 4) rfl w.heap.size 0 47 _ (by rintro w1 ⟨q1, rfl⟩; exact HX8.out.drewN _) rfl (placeL (d, k)) _ (fun j v hj => by rw [Nat.zero_add]; simpa using hj) Tryz.underlying47 rfl rplace_info ?_
                  simp only [Act.put, List.setIfInBounds_toArray, List.set_cons_succ, List.set_cons_zero]
                  refine quiet_eql_pl rfl (.tmp 128) (.tmp 129) _ rfl p (d, k) rfl rfl true HD.out ?_
                  simp only [Act.put, List.setIfInBounds_toArray, List.set_cons_succ, List.set_cons_zero]
                  refine wpQuiet_nil ?_
                  rintro w11 ⟨q1, rfl⟩
                  go_wp2
                  go_ret
                  have hput : T.put d k s = { T with newest := upd2 T.newest d k s } := by unfold Bank.put; rw [if_pos HMEM.out]
                  have hfin := (show RefGo w2 ((w7.drewN q).drewN q1) r G (T.put d k s) from ⟨HOV.out.put HPZ.out s, ⟨R5, by rw [hput]; exact HI8.out.drewN q1, by rw [hput]; exact HF5.out⟩, (HT7.out.drewN q).drewN q1⟩).fin HL02.out HL.out
                  rw [HE2.out]
                  exact ⟨rfl, hfin.1, hfin.2⟩
                | false =>
                  have hpe : p ≠ (d, k) := of_decide_eq_false hdec
                  have HALL : Hid (∀ j p, j < i + 1 → T.order[j]? = some p → p ≠ (d, k)) := fun j p' hj hp' => by
                    rcases Nat.lt_or_ge j i with h | h
                    · exact hall.out j p' h hp'
                    · obtain rfl : j = i := by omega
                      rw [HP.out] at hp'
                      injection hp' with hp'
                      rw [← hp']
                      exact hpe
                  have HD := hide hdec
                  clear hdec hpe
                  go_wp2_with fail
                  refine wp_region_quiet_lit (by kernel_rfl) (by kernel_rfl) ?_
                  iterate 6 (go_big_quiet_step (fail))
                  refine quiet_load_at rfl 47 (.tmp 127) rfl ⟨g, i * 2, none⟩ rfl (placeL p) _ (by rintro w1 ⟨q1, rfl⟩; exact HCS.out) Tryz.underlying47 rfl rplace_info ?_
                  simp only [Act.put, List.setIfInBounds_toArray, List.set_cons_succ, List.set_cons_zero]
                  refine quiet_when_load rfl 47 (.tmp 4) rfl w.heap.size 0 47 _ (by rintro w1 ⟨q1, rfl⟩; exact HX8.out.drewN _) rfl (placeL (d, k)) _ (fun j v hj => by rw [Nat.zero_add]; simpa using hj) Tryz.underlying47 rfl rplace_info ?_
                  simp only [Act.put, List.setIfInBounds_toArray, List.set_cons_succ, List.set_cons_zero]
                  refine quiet_eql_pl rfl (.tmp 128) (.tmp 129) _ rfl p (d, k) rfl rfl false HD.out ?_
                  simp only [Act.put, List.setIfInBounds_toArray, List.set_cons_succ, List.set_cons_zero]
                  refine wpQuiet_nil ?_
                  rintro w11 ⟨q1, rfl⟩
                  go_wp2
                  go_roundw
                  case rel => exact ⟨i + 1, q + q1, by go_num, by omega, by first | rfl | exact World.drewN_drewN _ _ _, HALL⟩
                  case measure => simp [intOf]; omega
              · obtain rfl : i = T.order.length := by omega
                have hnl : ¬ ((T.order.length : Int) < (T.order.length : Int)) := by omega
                have HNM : Hid ((d, k) ∉ T.order) := fun hm => by
                  obtain ⟨j, hj, he⟩ := List.mem_iff_getElem.1 hm
                  exact hall.out j (d, k) hj (by rw [List.getElem?_eq_getElem hj, he]) rfl
                have hput : T.put d k s = { T with newest := upd2 T.newest d k s, order := T.order ++ [(d, k)] } := by unfold Bank.put; rw [if_neg HNM.out]
                have hokP := HOV.out.put HPZ.out s
                have HOP := hide hokP
                have HPUT := hide hput
                clear hput hokP
                obtain ⟨w8, hw8⟩ : ∃ w8, w8 = w7.drewN q := ⟨_, rfl⟩
                rw [← hw8] at hI8 ⊢
                have c18 : w8.cell? ⟨r, 1, none⟩ = some (.slice R5.la T.order.length R5.lc) := by rw [hw8]; exact c1
                clear c1
                have HT8 : Hid (Turn G w2 w8) := by show Turn _ _ _; rw [hw8]; exact HT7.out.drewN q
                have hX8 : Blk w8 w.heap.size 47 (placeL (d, k)).toArray := by rw [hw8]; exact HX7.out.drewN q
                have hsz8 := HT8.out.size
                obtain ⟨pi, hi0, hz0, hz1i, hz2i⟩ := place_info
                have HI := hide (And.intro hi0 (And.intro hz0 (And.intro hz1i hz2i)))
                have hl8 := (((Below.refl w8.heap.size w8).alloc (Nat.le_refl _) (.cells (placeL (d, k)).toArray 47)).drew)
                have HL8 := hide hl8
                have HROW := hide (((hI8.loose).alloc (.cells (placeL (d, k)).toArray 47)).drew)
                have HNEWS := hide (World.news_of_block ((Blk.new w8 47 (placeL (d, k)).toArray).drew))
                have HNUM := hide (show T.order.length + 1 ≤ maxLen ∧ (T.order.length + 1) * 16 ≤ 140737488355328 from ⟨by simp only [maxLen]; omega, by omega⟩)
                have q0 : w8.drew.cell? ⟨w.heap.size, 0, none⟩ = some (.int .i64 (d : Int)) := hX8.cell 0
                have q1 : w8.drew.cell? ⟨w.heap.size, 1, none⟩ = some (.int .i64 (k : Int)) := hX8.cell 1
                have hrlt8 : r < w8.heap.size := hI8.head.lt
                have c1d : w8.drew.cell? ⟨r, 1, none⟩ = some (.slice R5.la T.order.length R5.lc) := c18
                have c1a : ∀ o, (w8.alloc o).cell? ⟨r, 1, none⟩ = some (.slice R5.la T.order.length R5.lc) := fun o => (World.cell?_alloc_lt w8 o _ hrlt8).trans c18
                have HNO := hide (hI8.no_own hI8.head (by decide))
                have HI8 := hide hI8
                clear hi0 hz0 hz1i hz2i hl8 hX8 hI8 hw8
                go_wp2_with fail
                go_region_law (first
                  | (refine step_append_lies _ rfl (.tmp 135) (.tmp 137) 39 rfl 0 47 pi _ 2 16 Tryz.underlying39 HI.out.1 HI.out.2.1 HI.out.2.2.1 HI.out.2.2.2 rfl (by decide) _ _ _ rfl HROW.out ⟨w8.heap.size, 0, none⟩ 1 1 (placeL (d, k)) rfl rfl HNEWS.out (placeL_one _) (by decide) HNUM.out.1 HNUM.out.2 (Nat.zero_le _) _ rfl ?_; intro g9 cap9 w9 hown9 hg9 hat9 hgl9; have hB9 : Blk w9 r 41 _ := (HI8.out.head.below HL8.out hrlt8).of_block (hg9.block r (Nat.lt_of_lt_of_le hrlt8 HL8.out.size) (fun e => HNO.out e.symm)); have c19 : w9.cell? ⟨r, 1, none⟩ = some (.slice R5.la T.order.length R5.lc) := hB9.cell 1; have f19 := hB9.frozen 1; have HG9 := hide hg9; have HOWN9 := hide hown9; have HAT9 : Hid ((Value.slice R5.la T.order.length R5.lc).ownBlock = some g9 ∨ w8.heap.size ≤ g9) := (hat9.imp id (fun e => by rw [e]; exact HL8.out.size)); clear hat9 hg9 hown9 hB9))
                all_goals
                  go_wp2_with fail
                  go_ret
                  have hI9 : RefIn (w9.setCell ⟨r, 1, none⟩ (.slice (some ⟨g9, 0, none⟩) (T.order.length + 1) cap9)) r { R5 with la := some ⟨g9, 0, none⟩, lc := cap9 } (T.put d k s) := by
                    have hln : (T.put d k s).order.length = T.order.length + 1 := by rw [HPUT.out]; show (T.order ++ [(d, k)]).length = _; rw [List.length_append, List.length_singleton]
                    have h := HI8.out.loose_new (T := T.put d k s) (w9 := w9) (A := some ⟨g9, 0, none⟩) (c := cap9) ⟨rfl, rfl, rfl, rfl, rfl, rfl, rfl, rfl, rfl, rfl⟩ (fun x hx hne => (HG9.out.block x (Nat.lt_of_lt_of_le hx HL8.out.size) (fun e => hne e.symm)).trans (HL8.out.block x hx)) (by
                      rw [hln, HPUT.out]
                      show w9.ownsRow 0 47 2 _ _ (flatP (T.order ++ [(d, k)]))
                      rw [flatP_append]
                      exact HOWN9.out)
                    rw [hln] at h
                    exact h
                  have hF9 : ∀ x, RFoot r { R5 with la := some ⟨g9, 0, none⟩, lc := cap9 } (T.put d k s) x → G x ∨ w2.heap.size ≤ x := by
                    rintro x (rfl | ⟨h0, rfl⟩ | hx | ⟨i, hi, hx⟩)
                    · exact HF5.out _ (.inl rfl)
                    · exact HF5.out _ (.inr (.inl ⟨h0, rfl⟩))
                    · injection hx with hx
                      rw [← hx]
                      rcases HAT9.out with h | h
                      · exact HF5.out _ (.inr (.inr (.inl h)))
                      · exact .inr (Nat.le_trans hsz8 h)
                    · exact HF5.out _ (.inr (.inr (.inr ⟨i, hi, hx⟩)))
                  have hT9 : Turn G w2 (w9.setCell ⟨r, 1, none⟩ (.slice (some ⟨g9, 0, none⟩) (T.order.length + 1) cap9)) := ((HT8.out.below HL8.out).grown HG9.out (fun g hg => HF5.out _ (.inr (.inr (.inl hg))))).set ⟨r, 1, none⟩ (.inl hrG) _
                  have hfin := (show RefGo w2 _ r G (T.put d k s) from ⟨HOP.out, ⟨_, hI9, hF9⟩, hT9⟩).fin HL02.out HL.out
                  rw [HE2.out]
                  exact ⟨rfl, hfin.1, hfin.2⟩
          · have HE2 := hide (show S.write d k s = (T.place d k, T) by rw [HE.out, if_neg hp])
            have hne : ((T.place d k : Int) != 0) = true := by simp; omega
            clear hp
            go_wp2_with (first
              | (refine wpList_load_blk rfl 47 (.tmp 4) rfl w.heap.size 0 47 _ HX5.out rfl (placeL (d, k)) _ (fun j v hj => by rw [Nat.zero_add]; simpa using hj) Tryz.underlying47 rfl rplace_info ?_)
              | (go_at_call 49; refine hP.out.mono ?_; rintro _ w6 ⟨rfl, hl6⟩))
            go_ret
            have hfin := (HGT.out.later hl6).fin HL02.out HL.out
            rw [HE2.out]
            exact ⟨rfl, hfin.1, hfin.2⟩
        · obtain ⟨V, hV⟩ : ∃ V : Bank, V = { T with armed := T.armed - 1 } := ⟨_, rfl⟩
          have hset : ∀ v : Int, v = (T.armed : Int) - 1 → ∀ w4, w4 = wo.setCell ⟨r, 4, none⟩ (.int .i64 v) → RefGo w2 w4 r G V ∧ w4.cell? ⟨r, 4, none⟩ = some (.int .i64 v) ∧ w4.cell? ⟨r, 5, none⟩ = some (.int .u64 (T.mask : Int)) := by
            rintro v hv w4 rfl
            have hv2 : v = ((T.armed - 1 : Nat) : Int) := by omega
            have hI4 : RefIn (wo.setCell ⟨r, 4, none⟩ (.int .i64 v)) r R1 V := by
              rw [hV]
              exact HI1.out.head_set (w' := wo.setCell ⟨r, 4, none⟩ (.int .i64 v)) T.down T.writes (T.armed - 1) T.mask (by rw [← hv2]; exact HI1.out.head.set_ 4 _) (fun x hx => Below.heap_setCell _ _ _ x hx)
            have h4 := hI4.c4
            have h5 := hI4.c5
            rw [show V.armed = T.armed - 1 by rw [hV], ← hv2] at h4
            rw [show V.mask = T.mask by rw [hV]] at h5
            refine ⟨⟨by rw [hV]; exact HOT.out.setArmed (by omega), ⟨R1, hI4, fun x hx => HF1.out x (by rw [hV] at hx; exact hx)⟩, (HGT.out.2.2).set ⟨r, 4, none⟩ (.inl hrG) _⟩, h4, h5⟩
          have HSET := hide hset
          have ha1 : (0 : Int) < (T.armed : Int) := by omega
          clear hset
          by_cases h1 : T.armed = 1
          · have HE := hide (show S.write d k s = (6, V.crash T.mask) by
              have hc : S.count = (true, V.crash T.mask) := by
                unfold Bank.count
                rw [if_neg (by rw [HDN.out]; decide), HTK.out]
                simp only
                rw [if_neg ha0, if_pos h1, ← hV]
              unfold Bank.write
              rw [hc]
              rfl)
            obtain ⟨hg4, c44, c45⟩ := HSET.out 0 (by omega) _ rfl
            have HG4 := hide hg4
            have HML := hide (HOT.out.mask_le)
            rw [h1] at c4 ha1
            clear ha0 h1 hg4
            go_wp2_with fail
            refine (rOn_crash (HG4.out.on (fun x hx => by have := HL.out x hx; omega)) T.mask HML.out).mono ?_
            rintro _ w5 ⟨rfl, hB5, hT5⟩
            have HG5 := hide (HG4.out.step hB5 hT5)
            clear hB5 hT5 c44 c45
            go_wp2_with fail
            go_ret
            rw [HE.out]
            have hf := HG5.out.fin HL02.out HL.out
            exact ⟨rfl, hf.1, hf.2⟩
          · have HE := hide (show S.write d k s = if V.place d k = 0 then (0, V.put d k s) else (V.place d k, V) from write_up (by
              unfold Bank.count
              rw [if_neg (by rw [HDN.out]; decide), HTK.out]
              simp only
              rw [if_neg ha0, if_neg h1, ← hV]))
            have HV := hide hV
            obtain ⟨hg4, c44, c45⟩ := HSET.out ((T.armed : Int) - 1) rfl _ rfl
            have HG4 := hide hg4
            clear hV
            have hne1 : ¬ ((T.armed : Int) - 1 = 0) := by omega
            clear ha0 h1 hg4 c45
            obtain ⟨okV, ⟨R5, hI5, hF5⟩, hT5⟩ := HG4.out
            have HX5 := hide (HX.out.turned hT5 (fun hf => by have := HL.out _ hf; omega))
            have HY5 := hide (HY.out.turned hT5 (fun hf => by have := HL.out _ hf; omega))
            have hsz5 := hT5.size
            have hP := hide (rplace_any hI5 d k)
            have HI5 := hide hI5
            have HF5 := hide hF5
            have HT5 := hide hT5
            have HOV := hide okV
            clear hI5 hF5 hT5 okV
            by_cases hp : V.place d k = 0
            · obtain ⟨_, hdV, hkV⟩ := rplace_zero hp
              have HE2 := hide (show S.write d k s = (0, V.put d k s) by rw [HE.out, if_pos hp])
              have HPZ := hide hp
              rw [hp] at hP
              have hkw : (k : Int) < (V.size d : Int) := by omega
              have hdw : (d : Int) < (V.n : Int) := by omega
              have hkz : k * 64 + 64 ≤ V.size d * 64 := by omega
              clear hp
              go_wp2_with (first
                | (refine wpList_load_blk rfl 47 (.tmp 4) rfl w.heap.size 0 47 _ HX5.out rfl (placeL (d, k)) _ (fun j v hj => by rw [Nat.zero_add]; simpa using hj) Tryz.underlying47 rfl rplace_info ?_)
                | (go_at_call 49; refine hP.out.mono ?_; rintro _ w6 ⟨rfl, hl6⟩))
              have hsz6 := hl6.size
              have hI6 := HI5.out.later hl6
              have HX6 := hide (HX5.out.below hl6 HX5.out.lt)
              have HY6 := hide (HY5.out.below hl6 HY5.out.lt)
              have q0 : w6.drew.cell? ⟨w.heap.size, 0, none⟩ = some (.int .i64 (d : Int)) := HX6.out.cell 0
              have q1 : w6.drew.cell? ⟨w.heap.size, 1, none⟩ = some (.int .i64 (k : Int)) := HX6.out.cell 1
              have c0 : w6.drew.cell? ⟨r, 0, none⟩ = _ := hI6.c0
              rw [R5.ad_pos hdV] at c0
              have p0 : w6.drew.cell? ⟨R5.mb, d, none⟩ = _ := hI6.p hdV
              have d1 : w6.drew.cell? ⟨R5.dk d, 1, none⟩ = _ := hI6.d1 hdV
              have HN6 := hide (hI6.new d hdV).drew
              have HI6 := hide hI6.drew
              have HT6 := hide (HT5.out.below hl6).drew
              have HYC : Hid (∀ (j : Nat) (v : Value), U[j]? = some v → w6.drew.cell? ((⟨w1.heap.size, 0, none⟩ : Addr).add j) = some v) := fun j v hj => by
                have hadd : (⟨w1.heap.size, 0, none⟩ : Addr).add j = ⟨w1.heap.size, j, none⟩ := by unfold Addr.add; split <;> simp_all
                rw [hadd, HY6.out.drew.cell j]
                simpa using hj
              clear hI6 hl6 HX5 HY5 HI5 HT5
              refine wp_region_still_tail 15 (by kernel_rfl) (by kernel_rfl) ?_
              change wpStill _ _ w6.drew _ _ _
              simp only [List.take_succ_cons, List.take_zero, List.drop_succ_cons, List.drop_zero]
              iterate 13 still_step
              refine still_load_at rfl 43 (.tmp 5) rfl ⟨w1.heap.size, 0, none⟩ rfl U _ HYC.out Tryz.underlying43 rfl HIU.out ?_
              still_step
              refine wpStill_nil ?_
              change wpList _ _ _ _ _ w6.drew
              go_wp2_with (first
                | (refine wpList_store_blk rfl 43 (.tmp 112) (.tmp 111) rfl (R5.nw d) (k * 64) 43 _ HN6.out rfl U rfl HIU.out (by rw [HUl.out, rowS_size]; exact hkz) HUO.out ?_; intro w7 hb7 hg7 hs7; clear hs7))
              have hI7 : RefIn w7 r R5 { V with newest := upd2 V.newest d k s } := by
                refine HI6.out.new_set hdV s ?_ hg7
                have h5 := hb7
                rw [HU.out] at h5
                rw [← rowS_put (V.newest d) s k (V.size d) hkV]
                exact h5
              have hnwG := HF5.out _ (.inr (.inr (.inr ⟨d, hdV, .inr (.inr rfl)⟩)))
              have HT7 : Hid (Turn G w2 w7) := HT6.out.grown hg7 (fun g e => by injection e with e; subst e; exact hnwG)
              have hX7 : Blk w7 w.heap.size 47 (placeL (d, k)).toArray := HX6.out.drew.grown hg7 (fun e => by injection e with e; exact hnwG.elim (fun h => by have := HL.out _ h; omega) (fun h => by omega))
              have HX7 := hide hX7
              have HI7 := hide hI7
              have hsz7 := HT7.out.size
              have hlen := hide (order_le V HOV.out V.order HOV.out.nodup (fun _ hp => hp))
              clear hX7 hI7 hb7 hg7 HI6 HN6 HT6 HX6 HY6 HYC q0 q1 c0 p0 d1
              go_loopw [9] (fun s9 wr => ∃ i q : Nat, s9 = .int .i64 (i : Int) ∧ i ≤ V.order.length ∧ wr = w7.drewN q ∧ Hid (∀ j p, j < i → V.order[j]? = some p → p ≠ (d, k))) (fun s9 _ => V.order.length - (intOf s9).toNat)
              case atStart => exact ⟨0, 0, rfl, Nat.zero_le _, rfl, fun j p hj => absurd hj (Nat.not_lt_zero j)⟩
              case round =>
                obtain ⟨i, q, rfl, hi, rfl, hall⟩ := hrel
                have hl2 := hlen.out
                have hI8 : RefIn (w7.drewN q) r R5 { V with newest := upd2 V.newest d k s } := HI7.out.drewN q
                have c1 : w7.cell? ⟨r, 1, none⟩ = some (.slice R5.la V.order.length R5.lc) := hI8.c1
                by_cases hil : i < V.order.length
                · have hg1 : (i : Int) < (V.order.length : Int) := by omega
                  obtain ⟨p, hp⟩ : ∃ p, V.order[i]? = some p := ⟨_, List.getElem?_eq_getElem hil⟩
                  obtain ⟨g, hla, hcs⟩ := hI8.loose_cells hp
                  rw [hla] at c1
                  have HCS := hide hcs
                  have HX8 := hide (HX7.out.drewN q)
                  have HP := hide hp
                  have HI8 := hide hI8
                  clear hcs hp hI8
                  cases hdec : decide (p = (d, k)) with
                  | true =>
                    have hpe : p = (d, k) := of_decide_eq_true hdec
                    have HMEM := hide (show (d, k) ∈ V.order by rw [← hpe]; exact List.mem_of_getElem? HP.out)
                    have HD := hide hdec
                    clear hdec hpe
                    go_wp2_with fail
                    refine wp_region_quiet_lit (by kernel_rfl) (by kernel_rfl) ?_
                    iterate 6 (go_big_quiet_step (fail))
                    refine quiet_load_at rfl 47 (.tmp 127) rfl ⟨g, i * 2, none⟩ rfl (placeL p) _ (by rintro w1 ⟨q1, rfl⟩; exact HCS.out) Tryz.underlying47 rfl rplace_info ?_
                    simp only [Act.put, List.setIfInBounds_toArray, List.set_cons_succ, List.set_cons_zero]
                    refine quiet_when_load rfl 47 (.tmp 4) rfl w.heap.size 0 47 _ (by rintro w1 ⟨q1, rfl⟩; exact HX8.out.drewN _) rfl (placeL (d, k)) _ (fun j v hj => by rw [Nat.zero_add]; simpa using hj) Tryz.underlying47 rfl rplace_info ?_
                    simp only [Act.put, List.setIfInBounds_toArray, List.set_cons_succ, List.set_cons_zero]
                    refine quiet_eql_pl rfl (.tmp 128) (.tmp 129) _ rfl p (d, k) rfl rfl true HD.out ?_
                    simp only [Act.put, List.setIfInBounds_toArray, List.set_cons_succ, List.set_cons_zero]
                    refine wpQuiet_nil ?_
                    rintro w11 ⟨q1, rfl⟩
                    go_wp2
                    go_ret
                    have hput : V.put d k s = { V with newest := upd2 V.newest d k s } := by unfold Bank.put; rw [if_pos HMEM.out]
                    have hfin := (show RefGo w2 ((w7.drewN q).drewN q1) r G (V.put d k s) from ⟨HOV.out.put HPZ.out s, ⟨R5, by rw [hput]; exact HI8.out.drewN q1, by rw [hput]; exact HF5.out⟩, (HT7.out.drewN q).drewN q1⟩).fin HL02.out HL.out
                    rw [HE2.out]
                    exact ⟨rfl, hfin.1, hfin.2⟩
                  | false =>
                    have hpe : p ≠ (d, k) := of_decide_eq_false hdec
                    have HALL : Hid (∀ j p, j < i + 1 → V.order[j]? = some p → p ≠ (d, k)) := fun j p' hj hp' => by
                      rcases Nat.lt_or_ge j i with h | h
                      · exact hall.out j p' h hp'
                      · obtain rfl : j = i := by omega
                        rw [HP.out] at hp'
                        injection hp' with hp'
                        rw [← hp']
                        exact hpe
                    have HD := hide hdec
                    clear hdec hpe
                    go_wp2_with fail
                    refine wp_region_quiet_lit (by kernel_rfl) (by kernel_rfl) ?_
                    iterate 6 (go_big_quiet_step (fail))
                    refine quiet_load_at rfl 47 (.tmp 127) rfl ⟨g, i * 2, none⟩ rfl (placeL p) _ (by rintro w1 ⟨q1, rfl⟩; exact HCS.out) Tryz.underlying47 rfl rplace_info ?_
                    simp only [Act.put, List.setIfInBounds_toArray, List.set_cons_succ, List.set_cons_zero]
                    refine quiet_when_load rfl 47 (.tmp 4) rfl w.heap.size 0 47 _ (by rintro w1 ⟨q1, rfl⟩; exact HX8.out.drewN _) rfl (placeL (d, k)) _ (fun j v hj => by rw [Nat.zero_add]; simpa using hj) Tryz.underlying47 rfl rplace_info ?_
                    simp only [Act.put, List.setIfInBounds_toArray, List.set_cons_succ, List.set_cons_zero]
                    refine quiet_eql_pl rfl (.tmp 128) (.tmp 129) _ rfl p (d, k) rfl rfl false HD.out ?_
                    simp only [Act.put, List.setIfInBounds_toArray, List.set_cons_succ, List.set_cons_zero]
                    refine wpQuiet_nil ?_
                    rintro w11 ⟨q1, rfl⟩
                    go_wp2
                    go_roundw
                    case rel => exact ⟨i + 1, q + q1, by go_num, by omega, by first | rfl | exact World.drewN_drewN _ _ _, HALL⟩
                    case measure => simp [intOf]; omega
                · obtain rfl : i = V.order.length := by omega
                  have hnl : ¬ ((V.order.length : Int) < (V.order.length : Int)) := by omega
                  have HNM : Hid ((d, k) ∉ V.order) := fun hm => by
                    obtain ⟨j, hj, he⟩ := List.mem_iff_getElem.1 hm
                    exact hall.out j (d, k) hj (by rw [List.getElem?_eq_getElem hj, he]) rfl
                  have hput : V.put d k s = { V with newest := upd2 V.newest d k s, order := V.order ++ [(d, k)] } := by unfold Bank.put; rw [if_neg HNM.out]
                  have hokP := HOV.out.put HPZ.out s
                  have HOP := hide hokP
                  have HPUT := hide hput
                  clear hput hokP
                  obtain ⟨w8, hw8⟩ : ∃ w8, w8 = w7.drewN q := ⟨_, rfl⟩
                  rw [← hw8] at hI8 ⊢
                  have c18 : w8.cell? ⟨r, 1, none⟩ = some (.slice R5.la V.order.length R5.lc) := by rw [hw8]; exact c1
                  clear c1
                  have HT8 : Hid (Turn G w2 w8) := by show Turn _ _ _; rw [hw8]; exact HT7.out.drewN q
                  have hX8 : Blk w8 w.heap.size 47 (placeL (d, k)).toArray := by rw [hw8]; exact HX7.out.drewN q
                  have hsz8 := HT8.out.size
                  obtain ⟨pi, hi0, hz0, hz1i, hz2i⟩ := place_info
                  have HI := hide (And.intro hi0 (And.intro hz0 (And.intro hz1i hz2i)))
                  have hl8 := (((Below.refl w8.heap.size w8).alloc (Nat.le_refl _) (.cells (placeL (d, k)).toArray 47)).drew)
                  have HL8 := hide hl8
                  have HROW := hide (((hI8.loose).alloc (.cells (placeL (d, k)).toArray 47)).drew)
                  have HNEWS := hide (World.news_of_block ((Blk.new w8 47 (placeL (d, k)).toArray).drew))
                  have HNUM := hide (show V.order.length + 1 ≤ maxLen ∧ (V.order.length + 1) * 16 ≤ 140737488355328 from ⟨by simp only [maxLen]; omega, by omega⟩)
                  have q0 : w8.drew.cell? ⟨w.heap.size, 0, none⟩ = some (.int .i64 (d : Int)) := hX8.cell 0
                  have q1 : w8.drew.cell? ⟨w.heap.size, 1, none⟩ = some (.int .i64 (k : Int)) := hX8.cell 1
                  have hrlt8 : r < w8.heap.size := hI8.head.lt
                  have c1d : w8.drew.cell? ⟨r, 1, none⟩ = some (.slice R5.la V.order.length R5.lc) := c18
                  have c1a : ∀ o, (w8.alloc o).cell? ⟨r, 1, none⟩ = some (.slice R5.la V.order.length R5.lc) := fun o => (World.cell?_alloc_lt w8 o _ hrlt8).trans c18
                  have HNO := hide (hI8.no_own hI8.head (by decide))
                  have HI8 := hide hI8
                  clear hi0 hz0 hz1i hz2i hl8 hX8 hI8 hw8
                  go_wp2_with fail
                  go_region_law (first
                    | (refine step_append_lies _ rfl (.tmp 135) (.tmp 137) 39 rfl 0 47 pi _ 2 16 Tryz.underlying39 HI.out.1 HI.out.2.1 HI.out.2.2.1 HI.out.2.2.2 rfl (by decide) _ _ _ rfl HROW.out ⟨w8.heap.size, 0, none⟩ 1 1 (placeL (d, k)) rfl rfl HNEWS.out (placeL_one _) (by decide) HNUM.out.1 HNUM.out.2 (Nat.zero_le _) _ rfl ?_; intro g9 cap9 w9 hown9 hg9 hat9 hgl9; have hB9 : Blk w9 r 41 _ := (HI8.out.head.below HL8.out hrlt8).of_block (hg9.block r (Nat.lt_of_lt_of_le hrlt8 HL8.out.size) (fun e => HNO.out e.symm)); have c19 : w9.cell? ⟨r, 1, none⟩ = some (.slice R5.la V.order.length R5.lc) := hB9.cell 1; have f19 := hB9.frozen 1; have HG9 := hide hg9; have HOWN9 := hide hown9; have HAT9 : Hid ((Value.slice R5.la V.order.length R5.lc).ownBlock = some g9 ∨ w8.heap.size ≤ g9) := (hat9.imp id (fun e => by rw [e]; exact HL8.out.size)); clear hat9 hg9 hown9 hB9))
                  all_goals
                    go_wp2_with fail
                    go_ret
                    have hI9 : RefIn (w9.setCell ⟨r, 1, none⟩ (.slice (some ⟨g9, 0, none⟩) (V.order.length + 1) cap9)) r { R5 with la := some ⟨g9, 0, none⟩, lc := cap9 } (V.put d k s) := by
                      have hln : (V.put d k s).order.length = V.order.length + 1 := by rw [HPUT.out]; show (V.order ++ [(d, k)]).length = _; rw [List.length_append, List.length_singleton]
                      have h := HI8.out.loose_new (T := V.put d k s) (w9 := w9) (A := some ⟨g9, 0, none⟩) (c := cap9) ⟨rfl, rfl, rfl, rfl, rfl, rfl, rfl, rfl, rfl, rfl⟩ (fun x hx hne => (HG9.out.block x (Nat.lt_of_lt_of_le hx HL8.out.size) (fun e => hne e.symm)).trans (HL8.out.block x hx)) (by
                        rw [hln, HPUT.out]
                        show w9.ownsRow 0 47 2 _ _ (flatP (V.order ++ [(d, k)]))
                        rw [flatP_append]
                        exact HOWN9.out)
                      rw [hln] at h
                      exact h
                    have hF9 : ∀ x, RFoot r { R5 with la := some ⟨g9, 0, none⟩, lc := cap9 } (V.put d k s) x → G x ∨ w2.heap.size ≤ x := by
                      rintro x (rfl | ⟨h0, rfl⟩ | hx | ⟨i, hi, hx⟩)
                      · exact HF5.out _ (.inl rfl)
                      · exact HF5.out _ (.inr (.inl ⟨h0, rfl⟩))
                      · injection hx with hx
                        rw [← hx]
                        rcases HAT9.out with h | h
                        · exact HF5.out _ (.inr (.inr (.inl h)))
                        · exact .inr (Nat.le_trans hsz8 h)
                      · exact HF5.out _ (.inr (.inr (.inr ⟨i, hi, hx⟩)))
                    have hT9 : Turn G w2 (w9.setCell ⟨r, 1, none⟩ (.slice (some ⟨g9, 0, none⟩) (V.order.length + 1) cap9)) := ((HT8.out.below HL8.out).grown HG9.out (fun g hg => HF5.out _ (.inr (.inr (.inl hg))))).set ⟨r, 1, none⟩ (.inl hrG) _
                    have hfin := (show RefGo w2 _ r G (V.put d k s) from ⟨HOP.out, ⟨_, hI9, hF9⟩, hT9⟩).fin HL02.out HL.out
                    rw [HE2.out]
                    exact ⟨rfl, hfin.1, hfin.2⟩
            · have HE2 := hide (show S.write d k s = (V.place d k, V) by rw [HE.out, if_neg hp])
              have hne : ((V.place d k : Int) != 0) = true := by simp; omega
              clear hp
              go_wp2_with (first
                | (refine wpList_load_blk rfl 47 (.tmp 4) rfl w.heap.size 0 47 _ HX5.out rfl (placeL (d, k)) _ (fun j v hj => by rw [Nat.zero_add]; simpa using hj) Tryz.underlying47 rfl rplace_info ?_)
                | (go_at_call 49; refine hP.out.mono ?_; rintro _ w6 ⟨rfl, hl6⟩))
              go_ret
              have hfin := (HG4.out.later hl6).fin HL02.out HL.out
              rw [HE2.out]
              exact ⟨rfl, hfin.1, hfin.2⟩
end
theorem rptr_info : (Tryz.prog.info? 61).map (fun i => (i.zero, i.size, i.bytes)) = some (some (.pointer none), 1, 8) := by kernel_rfl
theorem rsec_info : ∃ i, Tryz.prog.info? 43 = some i ∧ i.zero = some (secV zeroSec) ∧ i.size = 64 ∧ i.bytes = 64 := ⟨(Tryz.prog.info? 43).get!, by kernel_rfl, by kernel_rfl, by kernel_rfl, by kernel_rfl⟩
theorem made_zero (n : Nat) : ∀ (i : Nat) (v : Value), (madeCells (secV zeroSec).cells n)[i]? = some v → v = Value.int .u8 0 := by
  intro i v h
  have h64 : secL zeroSec = List.replicate 64 (Value.int .u8 0) := by rfl
  have hc : (secV zeroSec).cells = (List.replicate 64 (Value.int .u8 0)).toArray := by rw [← h64]; rfl
  rw [hc] at h
  unfold madeCells at h
  rw [Array.getElem?_map] at h
  cases hr : (Array.range n)[i]? with
  | none => rw [hr] at h; cases h
  | some k =>
    rw [hr] at h
    injection h with h
    rw [← h]
    have hk : k % 64 < 64 := Nat.mod_lt _ (by decide)
    show (List.replicate 64 (Value.int .u8 0)).toArray[k % (List.replicate 64 (Value.int .u8 0)).toArray.size]! = _
    simp only [List.size_toArray, List.length_replicate]
    rw [getElem!_pos _ _ (by simpa using hk), List.getElem_toArray]
    exact List.getElem_replicate _
theorem made_row (z : Nat) : madeCells (secV zeroSec).cells (z * 64) = (rowS (fun _ => zeroSec) z).toArray := rowS_zero (size_madeCells _ _) (made_zero _)
section
variable {w w' : World} {r : Nat} {R : RLay} {S : Bank} {G : Nat → Prop}
theorem rNew_any (w : World) :
    Calls Tryz.prog 6 #[] w fun e w' => e = .returned (.pointer (some ⟨w.heap.size, 0, none⟩)) ∧ RefOn w' w.heap.size (fun x => x = w.heap.size) Bank.new ∧ Below w.heap.size w w' ∧ w'.heap.size = w.heap.size + 1 := by
  go_enter Tryz.func6, Tryz.ntmps6
  go_wp2
  go_ret
  refine ⟨rfl, ⟨fun x hx => ?_, Bank.new_ok, ⟨0, 0, none, 0, fun _ => 0, fun _ => 0, fun _ => 0⟩, ?_, fun x hx => ?_⟩, (Below.refl _ _).alloc (Nat.le_refl _) _, World.size_alloc _ _⟩
  · rw [World.size_alloc]; omega
  · exact { head := Blk.new _ _ _, cap := ⟨Nat.le_refl _, Nat.zero_le _, fun _ => rfl⟩, row := fun h => absurd h (Nat.lt_irrefl 0), loose := World.ownsRow_nil _ _ _ _, disk := fun i h => absurd h (Nat.not_lt_zero i), flu := fun i h => absurd h (Nat.not_lt_zero i), new := fun i h => absurd h (Nat.not_lt_zero i), inj1 := fun i j h => absurd h (Nat.not_lt_zero i), inj2 := fun i j h => absurd h (Nat.not_lt_zero i), inj3 := fun i j h => absurd h (Nat.not_lt_zero i), inj4 := fun i j h => absurd h (Nat.not_lt_zero i) }
  · rcases hx with rfl | ⟨h0, _⟩ | hx | ⟨i, hi, _⟩
    · rfl
    · exact absurd h0 (Nat.lt_irrefl 0)
    · cases hx
    · exact absurd hi (Nat.not_lt_zero i)
/-- The disks' row as a row that a slice owns. -/
theorem RefIn.members (h : RefIn w r R S) : ∃ xs, w.ownsRow 0 61 1 (.slice (R.ad S.n) S.n R.cap) S.n xs ∧ ∀ i, i < S.n → xs[i]? = some (.pointer (some ⟨R.dk i, 0, none⟩)) := by
  obtain ⟨hc1, hc2, hc3⟩ := h.cap
  by_cases h0 : S.n = 0
  · refine ⟨[], ?_, fun i hi => by omega⟩
    have : R.ad S.n = none := by unfold RLay.ad; rw [if_pos h0]
    rw [this, h0, hc3 h0]
    exact World.ownsRow_nil _ _ _ _
  · obtain ⟨cs, hb, hsz, hc⟩ := h.row (by omega)
    have hlen : (cs.toList.take (S.n * 1)).length = S.n * 1 := by rw [List.length_take, Array.length_toList, hsz]; omega
    refine ⟨cs.toList.take (S.n * 1), ⟨hlen, .inr ⟨R.mb, R.cap, cs, by rw [R.ad_pos (show 0 < S.n by omega)], Nat.zero_le _, hb, hc1, hc2, by rw [hsz, Nat.mul_one], rfl⟩⟩, fun i hi => ?_⟩
    rw [List.getElem?_take_of_lt (by omega), Array.getElem?_toList]
    exact hc i hi
theorem rown_ad {n : Nat} : ∀ g, (Value.slice (R.ad n) n R.cap).ownBlock = some g → 0 < n ∧ g = R.mb := by
  intro g hg
  unfold RLay.ad at hg
  split at hg
  · simp [Value.ownBlock] at hg
  · simp only [Value.ownBlock] at hg
    injection hg with hg
    exact ⟨by omega, hg.symm⟩
theorem radd_made (h : RefIn w r R S) (hok : S.Ok) {z : Nat} (hz1 : 1 ≤ z) (hz2 : z ≤ 4096) (hn : S.n < 32) {w4 w5 : World} {g5 cap5 dk fl nw : Nat} {xs : List Value} (hl : Below w.heap.size w w4)
    (hdk : Blk w4 dk 63 #[.slice (some ⟨fl, 0, none⟩) z z, .slice (some ⟨nw, 0, none⟩) z z, .bool false, .int .i64 0]) (hfl : Blk w4 fl 43 (rowS (fun _ => zeroSec) z).toArray) (hnw : Blk w4 nw 43 (rowS (fun _ => zeroSec) z).toArray)
    (hdk0 : w.heap.size ≤ dk) (hfl0 : w.heap.size ≤ fl) (hnw0 : w.heap.size ≤ nw) (hfn : fl ≠ nw)
    (hxs : ∀ i, i < S.n → xs[i]? = some (.pointer (some ⟨R.dk i, 0, none⟩)))
    (hg5 : w4.grownBy w5 (Value.slice (R.ad S.n) S.n R.cap).ownBlock) (hown5 : w5.ownsRow 0 61 1 (.slice (some ⟨g5, 0, none⟩) (S.n + 1) cap5) (S.n + 1) (xs ++ [.pointer (some ⟨dk, 0, none⟩)])) :
    RefIn (w5.setCell ⟨r, 0, none⟩ (.slice (some ⟨g5, 0, none⟩) (S.n + 1) cap5)) r { R with mb := g5, cap := cap5, dk := upd R.dk S.n dk, fl := upd R.fl S.n fl, nw := upd R.nw S.n nw } (S.add z) ∧ (S.add z).Ok := by
  have hs4 := hl.size
  obtain ⟨cur, hcur, hnc, hcm, hcs, htake⟩ : ∃ cur : Array Value, Blk w5 g5 61 cur ∧ S.n + 1 ≤ cap5 ∧ cap5 ≤ maxLen ∧ cur.size = cap5 * 1 ∧ cur.toList.take ((S.n + 1) * 1) = xs ++ [.pointer (some ⟨dk, 0, none⟩)] := by
    rcases hown5.2 with ⟨hn, _⟩ | ⟨g', cap', cur, hv, _, hb', h1, h2, h3, h4⟩
    · cases hn
    · injection hv with hv1 hv2 hv3
      injection hv1 with hv1
      injection hv1 with hv1
      subst hv1
      subst hv3
      exact ⟨cur, hb', h1, h2, h3, h4⟩
  have hnr : ∀ {g : Nat} {t : TypeId} {cs : Array Value}, Blk w g t cs → t ≠ 61 → (Value.slice (R.ad S.n) S.n R.cap).ownBlock ≠ some g := fun hq ht e => by
    obtain ⟨h0, e⟩ := rown_ad _ e
    obtain ⟨cs, hb, _⟩ := h.row h0
    exact hq.apart hb ht e
  have hnr4 : ∀ g, w.heap.size ≤ g → (Value.slice (R.ad S.n) S.n R.cap).ownBlock ≠ some g := fun g hg e => by
    obtain ⟨h0, e⟩ := rown_ad _ e
    have := h.foot_lt R.mb (.inr (.inl ⟨h0, rfl⟩))
    omega
  have h5 : ∀ {g : Nat} {t : TypeId} {cs : Array Value}, Blk w g t cs → t ≠ 61 → Blk w5 g t cs := fun hq ht => (hq.below hl hq.lt).grown hg5 (fun e => hnr hq ht e.symm)
  have h45 : ∀ {g : Nat} {t : TypeId} {cs : Array Value}, Blk w4 g t cs → w.heap.size ≤ g → Blk w5 g t cs := fun hq hg => hq.grown hg5 (fun e => hnr4 _ hg e.symm)
  have hh := h5 h.head (by decide)
  have h6 : ∀ {g : Nat} {t : TypeId} {cs : Array Value}, Blk w5 g t cs → t ≠ 41 → Blk (w5.setCell ⟨r, 0, none⟩ (.slice (some ⟨g5, 0, none⟩) (S.n + 1) cap5)) g t cs := fun hq ht => hq.far (hq.apart hh ht) _
  have hxl : xs.length = S.n := by have := hown5.1; rw [List.length_append] at this; simp at this; omega
  have hold : ∀ i, i < S.n → R.dk i < w.heap.size ∧ R.fl i < w.heap.size ∧ R.nw i < w.heap.size := fun i hi => ⟨(h.disk i hi).lt, (h.flu i hi).lt, (h.new i hi).lt⟩
  have hout : ∀ k, (S.n, k) ∉ S.order := fun k hk => by have := (hok.loose _ hk).1; simp at this
  have hinj : ∀ (m : Nat → Nat) (y : Nat), (∀ i j, i < S.n → j < S.n → m i = m j → i = j) → (∀ i, i < S.n → m i ≠ y) → ∀ i j, i < S.n + 1 → j < S.n + 1 → upd m S.n y i = upd m S.n y j → i = j := by
    intro m y h1 h2 i j hi hj he
    by_cases ei : i = S.n
    · by_cases ej : j = S.n
      · omega
      · rw [ei, upd_self, upd_ne _ _ ej] at he
        exact absurd he.symm (h2 j (by omega))
    · rw [upd_ne _ _ ei] at he
      by_cases ej : j = S.n
      · rw [ej, upd_self] at he
        exact absurd he (h2 i (by omega))
      · rw [upd_ne _ _ ej] at he
        exact h1 i j (by omega) (by omega) he
  refine ⟨{ head := ?_, cap := ⟨hnc, hcm, fun e => absurd e (Nat.succ_ne_zero _)⟩, row := fun _ => ⟨cur, h6 hcur (by decide), by rw [hcs, Nat.mul_one], fun i hi => ?_⟩, loose := ?_, disk := fun i hi => ?_, flu := fun i hi => ?_, new := fun i hi => ?_, inj1 := hinj _ _ h.inj1 (fun i hi e => by have := (hold i hi).1; omega), inj2 := hinj _ _ h.inj2 (fun i hi e => by have := (hold i hi).2.1; omega), inj3 := hinj _ _ h.inj3 (fun i hi e => by have := (hold i hi).2.2; omega), inj4 := fun i j hi hj => ?_ }, ?_⟩
  · have h2 := hh.set_ 0 (.slice (some ⟨g5, 0, none⟩) (S.n + 1) cap5)
    have e : RLay.ad { R with mb := g5, cap := cap5, dk := upd R.dk S.n dk, fl := upd R.fl S.n fl, nw := upd R.nw S.n nw } (S.add z).n = some ⟨g5, 0, none⟩ := RLay.ad_pos _ (Nat.lt_succ_self S.n)
    rw [e]
    exact h2
  · have hi' : i < S.n + 1 := hi
    show cur[i]? = some (.pointer (some ⟨upd R.dk S.n dk i, 0, none⟩))
    have e1 : cur[i]? = (xs ++ [.pointer (some ⟨dk, 0, none⟩)])[i]? := by rw [← htake, List.getElem?_take_of_lt (by omega), Array.getElem?_toList]
    rw [e1]
    by_cases e : i = S.n
    · subst e
      rw [upd_self, List.getElem?_append_right (by omega), hxl, Nat.sub_self]
      rfl
    · rw [upd_ne _ _ e, List.getElem?_append_left (by omega)]
      exact hxs i (by omega)
  · refine own_of_block h.loose (fun g hg0 => ?_)
    have hg : (Value.slice R.la S.order.length R.lc).ownBlock = some g := hg0
    rcases h.loose.2 with ⟨hv, _⟩ | ⟨g', cap, cu, hv, _, hbk, _⟩
    · rw [hv] at hg
      cases hg
    · rw [hv] at hg
      injection hg with hg
      subst hg
      have hbp : Blk w g' 47 cu := hbk
      exact (h6 (h5 hbp (by decide)) (by decide)).trans hbp.symm
  · have hi' : i < S.n + 1 := hi
    show Blk _ (upd R.dk S.n dk i) _ #[.slice (some ⟨upd R.fl S.n fl i, 0, none⟩) (upd S.size S.n z i) (upd S.size S.n z i), .slice (some ⟨upd R.nw S.n nw i, 0, none⟩) (upd S.size S.n z i) (upd S.size S.n z i), .bool (upd S.dead S.n false i), .int .i64 ((upd S.failAt S.n 0 i : Nat) : Int)]
    by_cases e : i = S.n
    · subst e
      simp only [upd_self]
      exact h6 (h45 hdk hdk0) (by decide)
    · simp only [upd_ne _ _ e]
      exact h6 (h5 (h.disk i (by omega)) (by decide)) (by decide)
  · have hi' : i < S.n + 1 := hi
    show Blk _ (upd R.fl S.n fl i) _ (rowS (upd S.flushed S.n (fun _ => zeroSec) i) (upd S.size S.n z i)).toArray
    by_cases e : i = S.n
    · subst e
      simp only [upd_self]
      exact h6 (h45 hfl hfl0) (by decide)
    · simp only [upd_ne _ _ e]
      exact h6 (h5 (h.flu i (by omega)) (by decide)) (by decide)
  · have hi' : i < S.n + 1 := hi
    show Blk _ (upd R.nw S.n nw i) _ (rowS (upd S.newest S.n (fun _ => zeroSec) i) (upd S.size S.n z i)).toArray
    by_cases e : i = S.n
    · subst e
      simp only [upd_self]
      exact h6 (h45 hnw hnw0) (by decide)
    · simp only [upd_ne _ _ e]
      exact h6 (h5 (h.new i (by omega)) (by decide)) (by decide)
  · have hi' : i < S.n + 1 := hi
    have hj' : j < S.n + 1 := hj
    show upd R.fl S.n fl i ≠ upd R.nw S.n nw j
    by_cases ei : i = S.n
    · rw [ei, upd_self]
      by_cases ej : j = S.n
      · rw [ej, upd_self]; exact hfn
      · rw [upd_ne _ _ ej]
        have := (hold j (by omega)).2.2
        omega
    · rw [upd_ne _ _ ei]
      have := (hold i (by omega)).2.1
      by_cases ej : j = S.n
      · rw [ej, upd_self]; omega
      · rw [upd_ne _ _ ej]; exact h.inj4 i j (by omega) (by omega)
  · refine ⟨by show S.n + 1 ≤ 32; omega, fun d hd => ?_, hok.nodup, fun p hp => ?_, fun d k hk => ?_, hok.down_, fun d => ?_, hok.armed_le, hok.mask_le⟩
    · show 1 ≤ upd S.size S.n z d ∧ upd S.size S.n z d ≤ 4096
      by_cases e : d = S.n
      · subst e; rw [upd_self]; exact ⟨hz1, hz2⟩
      · rw [upd_ne _ _ e]; exact hok.size_le d (by have : d < S.n + 1 := hd; omega)
    · obtain ⟨h1, h2, h3⟩ := hok.loose p hp
      have e : p.1 ≠ S.n := by omega
      exact ⟨by show p.1 < S.n + 1; omega, by show p.2 < upd S.size S.n z p.1; rw [upd_ne _ _ e]; exact h2, by show upd S.dead S.n false p.1 = false; rw [upd_ne _ _ e]; exact h3⟩
    · show upd S.newest S.n _ d k = upd S.flushed S.n _ d k
      by_cases e : d = S.n
      · subst e; rw [upd_self, upd_self]
      · rw [upd_ne _ _ e, upd_ne _ _ e]; exact hok.same d k hk
    · show upd S.failAt S.n 0 d < _
      by_cases e : d = S.n
      · subst e; rw [upd_self]; decide
      · rw [upd_ne _ _ e]; exact hok.fail_le d
theorem radd_fin (h3 : RefIn w r R S) (hok : S.Ok) (hG : ∀ x, RFoot r R S x → G x) (hL : ∀ x, G x → x < w.heap.size) {z : Nat} (hz1 : 1 ≤ z) (hz2 : z ≤ 4096) (hn : S.n < 32) {w5 : World} {g5 cap5 : Nat} {xs : List Value} {Z : Array Value} (hZ : Z = (rowS (fun _ => zeroSec) z).toArray)
    (hxs : ∀ i, i < S.n → xs[i]? = some (.pointer (some ⟨R.dk i, 0, none⟩))) (fl nw : Nat)
    (hg5 : ((((w.alloc (.cells Z 43)).alloc (.cells Z 43)).alloc (.cells #[.slice (some ⟨fl, 0, none⟩) z z, .slice (some ⟨nw, 0, none⟩) z z, .bool false, .int .i64 0] 63)).alloc (.cells #[Value.pointer (some ⟨w.heap.size + 1 + 1, 0, none⟩)] 61)).drew.grownBy w5 (Value.slice (R.ad S.n) S.n R.cap).ownBlock)
    (hcase : (fl = w.heap.size ∧ nw = w.heap.size + 1) ∨ (fl = w.heap.size + 1 ∧ nw = w.heap.size))
    (hown5 : w5.ownsRow 0 61 1 (.slice (some ⟨g5, 0, none⟩) (S.n + 1) cap5) (S.n + 1) (xs ++ [.pointer (some ⟨w.heap.size + 1 + 1, 0, none⟩)])) (hat : (Value.slice (R.ad S.n) S.n R.cap).ownBlock = some g5 ∨ w.heap.size ≤ g5) :
    RefOn (w5.setCell ⟨r, 0, none⟩ (.slice (some ⟨g5, 0, none⟩) (S.n + 1) cap5)) r (More G w (w5.setCell ⟨r, 0, none⟩ (.slice (some ⟨g5, 0, none⟩) (S.n + 1) cap5))) (S.add z) ∧ Turn G w (w5.setCell ⟨r, 0, none⟩ (.slice (some ⟨g5, 0, none⟩) (S.n + 1) cap5)) := by
  have b1 : Blk (w.alloc (.cells Z 43)) w.heap.size 43 Z := Blk.new _ _ _
  have b2 : Blk ((w.alloc (.cells Z 43)).alloc (.cells Z 43)) (w.heap.size + 1) 43 Z := by
    have := Blk.new (w.alloc (.cells Z 43)) 43 Z
    rw [World.size_alloc] at this
    exact this
  have b3 : Blk (((w.alloc (.cells Z 43)).alloc (.cells Z 43)).alloc (.cells #[.slice (some ⟨fl, 0, none⟩) z z, .slice (some ⟨nw, 0, none⟩) z z, .bool false, .int .i64 0] 63)) (w.heap.size + 1 + 1) 63 #[.slice (some ⟨fl, 0, none⟩) z z, .slice (some ⟨nw, 0, none⟩) z z, .bool false, .int .i64 0] := by
    have := Blk.new ((w.alloc (.cells Z 43)).alloc (.cells Z 43)) 63 #[.slice (some ⟨fl, 0, none⟩) z z, .slice (some ⟨nw, 0, none⟩) z z, .bool false, .int .i64 0]
    rw [World.size_alloc, World.size_alloc] at this
    exact this
  obtain ⟨w4, hw4⟩ : ∃ w4, w4 = ((((w.alloc (.cells Z 43)).alloc (.cells Z 43)).alloc (.cells #[.slice (some ⟨fl, 0, none⟩) z z, .slice (some ⟨nw, 0, none⟩) z z, .bool false, .int .i64 0] 63)).alloc (.cells #[Value.pointer (some ⟨w.heap.size + 1 + 1, 0, none⟩)] 61)).drew := ⟨_, rfl⟩
  have hl4 : Below w.heap.size w w4 := by
    rw [hw4]
    exact (((((Below.refl _ w).alloc (Nat.le_refl _) _).alloc (by rw [World.size_alloc]; omega) _).alloc (by simp only [World.size_alloc]; omega) _).alloc (by simp only [World.size_alloc]; omega) _).drew
  have d1 : Blk w4 w.heap.size 43 Z := by rw [hw4]; exact (((b1.alloc _).alloc _).alloc _).drew
  have d2 : Blk w4 (w.heap.size + 1) 43 Z := by rw [hw4]; exact ((b2.alloc _).alloc _).drew
  have d3 : Blk w4 (w.heap.size + 1 + 1) 63 #[.slice (some ⟨fl, 0, none⟩) z z, .slice (some ⟨nw, 0, none⟩) z z, .bool false, .int .i64 0] := by rw [hw4]; exact (b3.alloc _).drew
  rw [← hw4] at hg5
  clear hw4 b1 b2 b3
  rw [hZ] at d1 d2
  have dfl : Blk w4 fl 43 (rowS (fun _ => zeroSec) z).toArray := by
    rcases hcase with ⟨h, _⟩ | ⟨h, _⟩
    · rw [h]; exact d1
    · rw [h]; exact d2
  have dnw : Blk w4 nw 43 (rowS (fun _ => zeroSec) z).toArray := by
    rcases hcase with ⟨_, h⟩ | ⟨_, h⟩
    · rw [h]; exact d2
    · rw [h]; exact d1
  obtain ⟨hI, hO⟩ := radd_made h3 hok hz1 hz2 hn hl4 d3 dfl dnw (by omega) (by omega) (by omega) (by omega) hxs hg5 hown5
  have hsz6 : (w5.setCell ⟨r, 0, none⟩ (.slice (some ⟨g5, 0, none⟩) (S.n + 1) cap5)).heap.size = w5.heap.size := by simp [World.setCell]
  have hT5 : Turn G w w5 := (Turn.of_below hl4).grown hg5 (fun g hg => by
    obtain ⟨h0, e⟩ := rown_ad _ hg
    rw [e]
    exact .inl (hG _ (.inr (.inl ⟨h0, rfl⟩))))
  have hs5 := hT5.size
  refine ⟨⟨fun x hx => ?_, hO, _, hI, fun x hx => ?_⟩, hT5.set ⟨r, 0, none⟩ (.inl (hG r (.inl rfl))) _⟩
  · rcases hx with hx | hx
    · have := hL x hx
      rw [hsz6]
      omega
    · exact hx.2
  · have hlt := hI.foot_lt x hx
    rcases hx with e0 | ⟨_, e0⟩ | hx | ⟨i, hi, hx⟩
    · rw [e0]
      exact .inl (hG _ (.inl rfl))
    · have e1 : x = g5 := e0
      rw [e1] at hlt ⊢
      rcases hat with h | h
      · obtain ⟨h0, e⟩ := rown_ad _ h
        rw [e]
        exact .inl (hG _ (.inr (.inl ⟨h0, rfl⟩)))
      · exact .inr ⟨h, hlt⟩
    · exact .inl (hG _ (.inr (.inr (.inl hx))))
    · have hi' : i < S.n + 1 := hi
      by_cases ei : i = S.n
      · subst ei
        refine .inr ⟨?_, hlt⟩
        rcases hx with hx | hx | hx
        · have e : x = w.heap.size + 1 + 1 := hx.trans (upd_self _ _ _)
          omega
        · have e : x = fl := hx.trans (upd_self _ _ _)
          omega
        · have e : x = nw := hx.trans (upd_self _ _ _)
          omega
      · refine .inl (hG _ (.inr (.inr (.inr ⟨i, by omega, ?_⟩))))
        rcases hx with hx | hx | hx
        · exact .inl (hx.trans (upd_ne _ _ ei))
        · exact .inr (.inl (hx.trans (upd_ne _ _ ei)))
        · exact .inr (.inr (hx.trans (upd_ne _ _ ei)))
set_option maxRecDepth 100000 in
set_option maxHeartbeats 4000000 in
theorem rOn_add (h : RefOn w r G S) (z : Nat) (hz1 : 1 ≤ z) (hz2 : z ≤ 4096) (hn : S.n < 32) :
    Calls Tryz.prog 7 #[.pointer (some ⟨r, 0, none⟩), .int .i64 (z : Int)] w fun e w' => (∃ v, e = .returned v) ∧ RefOn w' r (More G w w') (S.add z) ∧ Turn G w w' := by
  obtain ⟨h1, h2, R, h3, h4⟩ := h
  obtain ⟨xs, hrow, hxs⟩ := h3.members
  have c0 := h3.c0
  obtain ⟨i1, hi1, hz1i1, hs1, hy1⟩ := rsec_info
  obtain ⟨i0, hi0, hz0, hz1i, hz2i⟩ := info_parts rptr_info
  obtain ⟨Z, hZ⟩ : ∃ Z, Z = (rowS (fun _ => zeroSec) z).toArray := ⟨_, rfl⟩
  have hmk : ∀ w : World, (Instr.makeSlice 56 (.int .i64 (z : Int)) (.int .i64 (z : Int))).run Tryz.prog w = .ok (.slice (some ⟨w.heap.size, 0, none⟩) z z) (w.alloc (.cells Z 43)) := fun w => by
    have := run_makeSlice (P := Tryz.prog) (w := w) 56 43 i1 (secV zeroSec) Tryz.underlying56 hi1 hz1i1 .i64 .i64 (z : Int) (z : Int) (by omega) (Int.le_refl _) (by rw [hs1, Int.toNat_natCast]; omega) (by rw [hy1]; omega) (by omega)
    rw [hs1, Int.toNat_natCast, made_row, ← hZ] at this
    exact this
  clear hi1 hz1i1 hs1 hy1
  have HZ := hide hZ
  have hz3 : ∀ D, (((w.alloc (.cells Z 43)).alloc (.cells Z 43)).alloc D).heap.size = w.heap.size + 1 + 1 + 1 := fun D => by simp only [World.size_alloc]
  have hl3 : ∀ D, Below w.heap.size w (((w.alloc (.cells Z 43)).alloc (.cells Z 43)).alloc D) := fun D => (((Below.refl _ w).alloc (Nat.le_refl _) _).alloc (by rw [World.size_alloc]; omega) _).alloc (by simp only [World.size_alloc]; omega) _
  have hl4 := fun D => ((hl3 D).alloc (by rw [hz3]; omega) (.cells #[Value.pointer (some ⟨w.heap.size + 1 + 1, 0, none⟩)] 61)).drew
  have hrow4 := fun D => ((((hrow.alloc (.cells Z 43)).alloc (.cells Z 43)).alloc D).alloc (.cells #[Value.pointer (some ⟨w.heap.size + 1 + 1, 0, none⟩)] 61)).drew
  have hnews := fun D => World.news_of_block ((Blk.new (((w.alloc (.cells Z 43)).alloc (.cells Z 43)).alloc D) 61 #[Value.pointer (some ⟨w.heap.size + 1 + 1, 0, none⟩)]).drew)
  simp only [hz3] at hnews
  have HL4 := hide hl4
  have HROW := hide hrow4
  have HNEWS := hide hnews
  have hrlt := h3.head.lt
  have c0d : w.drew.cell? ⟨r, 0, none⟩ = some (.slice (R.ad S.n) S.n R.cap) := c0
  have c0a : ∀ o, (w.alloc o).cell? ⟨r, 0, none⟩ = some (.slice (R.ad S.n) S.n R.cap) := fun o => (World.cell?_alloc_lt w o _ hrlt).trans c0
  have c0b : ∀ o p, ((w.alloc o).alloc p).cell? ⟨r, 0, none⟩ = some (.slice (R.ad S.n) S.n R.cap) := fun o p => (World.cell?_alloc_lt (w.alloc o) p _ (by rw [World.size_alloc]; show r < _; omega)).trans (c0a o)
  have c0e : ∀ o p q, (((w.alloc o).alloc p).alloc q).cell? ⟨r, 0, none⟩ = some (.slice (R.ad S.n) S.n R.cap) := fun o p q => (World.cell?_alloc_lt ((w.alloc o).alloc p) q _ (by simp only [World.size_alloc]; show r < _; omega)).trans (c0b o p)
  have c0g : ∀ o p q s, ((((w.alloc o).alloc p).alloc q).alloc s).cell? ⟨r, 0, none⟩ = some (.slice (R.ad S.n) S.n R.cap) := fun o p q s => (World.cell?_alloc_lt (((w.alloc o).alloc p).alloc q) s _ (by simp only [World.size_alloc]; show r < _; omega)).trans (c0e o p q)
  have hn32 : ¬ ((32 : Int) ≤ (S.n : Int)) := by omega
  have hza : decide ((z : Int) < 1) = false := by simp; omega
  have hzb : decide ((4096 : Int) < (z : Int)) = false := by simp; omega
  have hnm : S.n + 1 ≤ maxLen ∧ (S.n + 1) * 8 ≤ 140737488355328 := by simp only [maxLen]; omega
  have HNM := hide hnm
  have HB := hide h3
  have HOK := hide h2
  have HG := hide h4
  have HL := hide h1
  have HXS := hide hxs
  have HHB := hide h3.head
  have HI := hide (And.intro hi0 (And.intro hz0 (And.intro hz1i hz2i)))
  have HNO : Hid ((Value.slice (R.ad S.n) S.n R.cap).ownBlock ≠ some r) := fun e => by
    obtain ⟨h0, e⟩ := rown_ad _ e
    obtain ⟨cs, hb, _⟩ := h3.row h0
    exact h3.head.apart hb (by decide) e
  clear hl3 hl4 hrow4 hnews hz3 hrow hi0 hz0 hz1i hz2i hnm hZ h1 h2 h3 h4 hxs
  go_enter Tryz.func7, Tryz.ntmps7
  go_wp2
  go_region_law (first
    | (refine step_append_lies _ rfl (.tmp 22) (.tmp 29) 38 rfl 0 61 i0 _ 1 8 Tryz.underlying38 HI.out.1 HI.out.2.1 HI.out.2.2.1 HI.out.2.2.2 rfl (by decide) _ _ _ rfl (HROW.out _) ⟨w.heap.size + 1 + 1 + 1, 0, none⟩ 1 1 [.pointer (some ⟨w.heap.size + 1 + 1, 0, none⟩)] rfl rfl (HNEWS.out _) (by intro u hu; simp at hu; subst hu; rfl) (by decide) HNM.out.1 HNM.out.2 (Nat.zero_le _) _ rfl ?_; intro g5 cap5 w5 hown5 hg5 hat5 hgl5; have HAT : Hid ((Value.slice (R.ad S.n) S.n R.cap).ownBlock = some g5 ∨ w.heap.size ≤ g5) := (hat5.imp id (fun e => by rw [e]; exact (HL4.out _).size)); have hB5 : Blk w5 r 41 _ := (HHB.out.below (HL4.out _) hrlt).of_block (hg5.block r (Nat.lt_of_lt_of_le hrlt (HL4.out _).size) (fun e => HNO.out e.symm)); have c05 : w5.cell? ⟨r, 0, none⟩ = some (.slice (R.ad S.n) S.n R.cap) := hB5.cell 0; have f05 := hB5.frozen 0; have HG5 := hide hg5; have HOWN5 := hide hown5; clear hat5 hg5 hB5 hown5))
  all_goals
    go_wp2
    go_ret2
    exact ⟨⟨_, rfl⟩, radd_fin HB.out HOK.out HG.out HL.out hz1 hz2 hn HZ.out HXS.out _ _ HG5.out (by omega) HOWN5.out HAT.out⟩
end
end Go.Proofs.YtmjjnbabfldbcaaGreat
namespace Go.Proofs.YtmjjnbabfldbcaaGreat
open Go.RowKit
set_option linter.unusedVariables false
section
variable {w w' : World} {r : Nat} {R : RLay} {S : Bank} {G : Nat → Prop}
theorem rmay_minus (r : Nat) (w : World) {di : Int} (hd : di < 0) :
    Calls Tryz.prog 86 #[.pointer (some ⟨r, 0, none⟩), .int .i64 di] w fun e w' => e = .returned (.int .i64 8) ∧ w = w' := by
  have hg : decide (di < 0) = true := by simpa using hd
  go_enter Tryz.func86, Tryz.ntmps86
  go_wp2
  go_ret
  exact ⟨rfl, rfl⟩
theorem rplace_err (di ki : Int) (y : Nat) (hy : y ≠ 0) (hM : ∀ w1, Below w.heap.size w w1 → Calls Tryz.prog 86 #[.pointer (some ⟨r, 0, none⟩), .int .i64 di] w1 fun e w' => e = .returned (.int .i64 (y : Int)) ∧ w1 = w') :
    Calls Tryz.prog 49 #[.pointer (some ⟨r, 0, none⟩), .agg #[.int .i64 di, .int .i64 ki]] w fun e w' => e = .returned (.int .i64 (y : Int)) ∧ Below w.heap.size w w' := by
  have hne : ((y : Int) != 0) = true := by simp; omega
  have HM := hide hM
  clear hM
  go_enter Tryz.func49, Tryz.ntmps49
  go_wp2_with (first
    | (refine wpList_box_blk rfl 47 (.tmp 1) rfl (.agg #[.int .i64 di, .int .i64 ki]) rfl ?_; intro w1 hb1 hl1 hs1; clear hs1; have q0 : w1.cell? ⟨w.heap.size, 0, none⟩ = some (.int .i64 di) := hb1.cell 0)
    | (go_at_call 86; refine (HM.out _ hl1).mono ?_; rintro _ w2 ⟨rfl, rfl⟩))
  go_ret
  exact ⟨rfl, hl1⟩
theorem rplace_out (h : RefIn w r R S) (hok : S.Ok) {di ki : Int} {d k : Nat} (hd : Is di d) (hk : Is ki k) (hne : ¬ (di = (d : Int) ∧ ki = (k : Int))) :
    Calls Tryz.prog 49 #[.pointer (some ⟨r, 0, none⟩), .agg #[.int .i64 di, .int .i64 ki]] w fun e w' => e = .returned (.int .i64 (S.place d k : Int)) ∧ Below w.heap.size w w' := by
  rcases hd with rfl | ⟨hd, hd2⟩
  · have hk3 : ki < 0 ∧ 4096 ≤ k := hk.resolve_left (fun e => hne ⟨rfl, e⟩)
    by_cases hm : S.may d = 0
    · have hdn := may_zero hm
      have hz := (hok.size_le d hdn).2
      have hp3 : S.place d k = 3 := by unfold Bank.place; rw [if_pos hm, if_neg (by omega)]
      rw [hp3]
      have HM := hide (fun w1 (h1 : RefIn w1 r R S) => rmay_any h1 d)
      rw [hm] at HM
      have HB := hide h
      have hkg : decide (ki < 0) = true := by simpa using hk3.1
      clear hp3 hm h hz hne hk hk3
      go_enter Tryz.func49, Tryz.ntmps49
      go_wp2_with (first
        | (refine wpList_box_blk rfl 47 (.tmp 1) rfl (.agg #[.int .i64 (d : Int), .int .i64 ki]) rfl ?_; intro w1 hb1 hl1 hs1; clear hs1; have hB1 := HB.out.later hl1; have q0 : w1.cell? ⟨w.heap.size, 0, none⟩ = some (.int .i64 (d : Int)) := hb1.cell 0; have q1 : w1.cell? ⟨w.heap.size, 1, none⟩ = some (.int .i64 ki) := hb1.cell 1; have HB1 := hide hB1; clear hB1)
        | (go_at_call 86; refine (HM.out _ HB1.out).mono ?_; rintro _ w2 ⟨rfl, rfl⟩))
      go_quiet (fail)
      go_wp2
      go_ret
      exact ⟨rfl, below_drewN hl1 _⟩
    · have hp2 : S.place d k = S.may d := by unfold Bank.place; rw [if_neg hm]
      rw [hp2]
      exact rplace_err d ki _ hm (fun w1 hl => rmay_any (h.later hl) d)
  · have h8 := may_out hok hd2
    have hp2 : S.place d k = 8 := by unfold Bank.place; rw [if_neg (by omega), h8]
    rw [hp2]
    exact rplace_err di ki 8 (by decide) (fun w1 _ => rmay_minus r w1 hd)
set_option maxRecDepth 100000 in
set_option maxHeartbeats 1000000 in
theorem rread_out (h : RefIn w r R S) (hok : S.Ok) {di ki : Int} {d k : Nat} (hd : Is di d) (hk : Is ki k) (hbad : ¬ (di = (d : Int) ∧ ki = (k : Int))) :
    Calls Tryz.prog 14 #[.pointer (some ⟨r, 0, none⟩), .agg #[.int .i64 di, .int .i64 ki]] w fun e w' => e = .returned (readV S d k) ∧ Below w.heap.size w w' := by
  have HP := hide (fun w1 (h1 : RefIn w1 r R S) => rplace_out h1 hok hd hk hbad)
  have hp := place_out hok hd hk hbad
  have HB := hide h
  clear h
  unfold readV
  rw [if_neg hp]
  obtain ⟨U, hU⟩ : ∃ U, U = secL zeroSec := ⟨_, rfl⟩
  have hUl : U.length = 64 := by rw [hU, secL_length]
  have hUo : ∀ v ∈ U, v.oneCell' = true := by rw [hU]; exact secL_one _
  have hiU : (Tryz.prog.info? 43).map (·.size) = some U.length := by rw [hUl]; exact sec_info
  rw [show secV zeroSec = .agg U.toArray by rw [hU]; rfl]
  have HUl := hide hUl
  have HUO := hide hUo
  have HIU := hide hiU
  have hne : ((S.place d k : Int) != 0) = true := by simp; omega
  have HBZ := hide (show Tryz.prog.built 43 [] = some U.toArray by rw [hU]; exact sec_none)
  clear hp hU hUl hUo hiU hd hk hbad hok
  go_enter Tryz.func14, Tryz.ntmps14
  go_wp2_with (first
    | (refine wpList_box_blk rfl 47 (.tmp 1) rfl (.agg #[.int .i64 di, .int .i64 ki]) rfl ?_; intro w1 hb1q hl1 hs1; clear hs1; have hb1 : Blk w1 w.heap.size 47 [.int .i64 di, .int .i64 ki].toArray := hb1q; clear hb1q)
    | (refine wpList_alloc_blk rfl 43 rfl _ (sec_zero w1) ?_; intro w2 hb2 hl2 hs2; clear hs2; have hz1 := hb1.lt; have hb12 := hb1.below hl2 hz1)
    | (refine wpList_load_blk rfl 47 (.tmp 3) rfl w.heap.size 0 47 _ hb12 rfl [.int .i64 di, .int .i64 ki] _ (fun j v hj => by rw [Nat.zero_add]; simpa using hj) Tryz.underlying47 rfl rplace_info ?_)
    | (go_at_call 49; refine (HP.out w2 (HB.out.later (hl1.trans (hl2.mono hl1.size)))).mono ?_; rintro _ w3 ⟨rfl, hl3⟩; have hz2 := hb2.lt; have hl03 : Below w.heap.size w w3 := (hl1.trans (hl2.mono hl1.size)).trans (hl3.mono (by omega)); have hb23 := hb2.below hl3 hz2)
    | (refine wpList_build_is rfl 43 #[] rfl [] (by simp) U.toArray HBZ.out ?_)
    | (refine wpList_store_all rfl 43 (.tmp 4) (.tmp 12) rfl w1.heap.size 43 _ hb23 rfl U rfl HIU.out (HUl.out.trans (secL_length zeroSec).symm) HUO.out ?_; intro w4 hb4 hg4 hs4; clear hs4))
  exact ret_cell_tmp rfl w1.heap.size 43 U _ hb4 rfl Tryz.underlying43 rfl HIU.out (.int .i64 (S.place d k : Int)) rfl rfl ⟨rfl, hl03.grown hg4 hl03.size (fun g e => by injection e with e; omega)⟩
end

section
variable {w w' : World} {r : Nat} {R : RLay} {S : Bank} {G : Nat → Prop}
set_option maxRecDepth 100000 in
set_option maxHeartbeats 8000000 in
theorem rwrite_out (h : RefOn w r G S) (hw62 : S.writes < 4611686018427387904) {di ki : Int} {d k : Nat} (hdi : Is di d) (hki : Is ki k) (hbad : ¬ (di = (d : Int) ∧ ki = (k : Int))) (s : Sec) :
    Calls Tryz.prog 35 #[.pointer (some ⟨r, 0, none⟩), .agg #[.int .i64 di, .int .i64 ki], secV s] w fun e w' => e = .returned (.int .i64 ((S.write d k s).1 : Int)) ∧ RefOn w' r (More G w w') (S.write d k s).2 ∧ Turn G w w' := by
  obtain ⟨h1, h2, R, h3, h4⟩ := h
  obtain ⟨U, hU⟩ : ∃ U, U = secL s := ⟨_, rfl⟩
  have hUl : U.length = 64 := by rw [hU, secL_length]
  have hUo : ∀ v ∈ U, v.oneCell' = true := by rw [hU]; exact secL_one _
  have hiU : (Tryz.prog.info? 43).map (·.size) = some U.length := by rw [hUl]; exact sec_info
  have hs : secV s = .agg U.toArray := by rw [hU]; rfl
  rw [hs]
  have HUl := hide hUl
  have HUO := hide hUo
  have HIU := hide hiU
  have HU := hide hU
  have HB := hide h3
  have HOK := hide h2
  have HG := hide h4
  have HL := hide h1
  clear hUl hUo hiU hs hU h1 h2 h3 h4
  cases hdn : S.down with
  | true =>
    obtain ⟨e1, e2⟩ := write_down (S := S) (d := d) (k := k) (s := s) hdn
    have HE := hide e1
    have hne : ((S.place d k : Int) != 0) = true := by simp; omega
    have HDN := hide hdn
    clear e1 e2 hdn
    go_enter Tryz.func35, Tryz.ntmps35
    go_wp2_with (first
      | (refine wpList_box_blk rfl 47 (.tmp 1) rfl (.agg #[.int .i64 di, .int .i64 ki]) rfl ?_; intro w1 hb1q hl1 hs1; clear hs1; have hb1 : Blk w1 w.heap.size 47 ([.int .i64 di, .int .i64 ki]).toArray := hb1q; clear hb1q)
      | (refine wpList_box_blk rfl 43 (.tmp 2) rfl (.agg U.toArray) rfl ?_; intro w2 hb2q hl2 hs2; clear hs2; have hb2 : Blk w2 w1.heap.size 43 U.toArray := hb2q; clear hb2q; have hz1 := hb1.lt; have hz2 := hb2.lt; have hl02 : Below w.heap.size w w2 := hl1.trans (hl2.mono (by omega)); have hb12 := hb1.below hl2 hz1; have hgo : RefGo w2 w2 r G S := ⟨HOK.out, ⟨R, HB.out.later hl02, fun x hx => .inl (HG.out x hx)⟩, Turn.refl _ _⟩; have hI2 := HB.out.later hl02; have x2 := hI2.c2; rw [HDN.out] at x2; have HGO := hide hgo; have HX := hide hb12; have HL02 := hide hl02; have hP := hide (rplace_out hI2 HOK.out hdi hki hbad); clear hgo hb12 hl02 hb1 hb2 hl1 hl2 hI2)
      | (refine wpList_load_blk rfl 47 (.tmp 4) rfl w.heap.size 0 47 _ HX.out rfl ([.int .i64 di, .int .i64 ki]) _ (fun j v hj => by rw [Nat.zero_add]; simpa using hj) Tryz.underlying47 rfl rplace_info ?_)
      | (go_at_call 49; refine hP.out.mono ?_; rintro _ w3 ⟨rfl, hl3⟩))
    go_ret
    rw [HE.out]
    have hf := (HGO.out.later hl3).fin HL02.out HL.out
    exact ⟨rfl, hf.1, hf.2⟩
  | false =>
    have hcn : S.writes + 1 < 9223372036854775808 := by omega
    have hn32 := HOK.out.n_le
    have HDN := hide hdn
    obtain ⟨W0, hW0⟩ : ∃ T, T = S.wrote := ⟨_, rfl⟩
    have HW0 := hide hW0
    have hnW : W0.n = S.n := by rw [hW0]; rfl
    have hok0 : W0.Ok := by rw [hW0]; exact HOK.out.wrote
    have HOK0 := hide hok0
    clear hdn hW0 hok0
    go_enter Tryz.func35, Tryz.ntmps35
    go_wp2_with (first
      | (refine wpList_box_blk rfl 47 (.tmp 1) rfl (.agg #[.int .i64 di, .int .i64 ki]) rfl ?_; intro w1 hb1q hl1 hs1; clear hs1; have hb1 : Blk w1 w.heap.size 47 ([.int .i64 di, .int .i64 ki]).toArray := hb1q; clear hb1q)
      | (refine wpList_box_blk rfl 43 (.tmp 2) rfl (.agg U.toArray) rfl ?_; intro w2 hb2q hl2 hs2; clear hs2; have hb2 : Blk w2 w1.heap.size 43 U.toArray := hb2q; clear hb2q; have hz1 := hb1.lt; have hz2 := hb2.lt; have hl02 : Below w.heap.size w w2 := hl1.trans (hl2.mono (by omega)); have hb12 := hb1.below hl2 hz1; have hgo : RefGo w2 w2 r G S := ⟨HOK.out, ⟨R, HB.out.later hl02, fun x hx => .inl (HG.out x hx)⟩, Turn.refl _ _⟩; have hI2 := HB.out.later hl02; have x2 := hI2.c2; rw [HDN.out] at x2; have x3 := hI2.c3; have fx3 := hI2.head.frozen 3; have HGO := hide hgo; have HI2 := hide hI2; have HX := hide hb12; have HY := hide hb2; have HL02 := hide hl02; clear hgo hb12 hl02 hb1 hb2 hl1 hl2 hI2))
    have hrG := HG.out r (.inl rfl)
    have hrlt := HL.out r hrG
    have hg0 : RefGo w2 (w2.setCell ⟨r, 3, none⟩ (.int .i64 ((S.writes : Int) + 1))) r G W0 := by
      refine ⟨HOK0.out, ⟨R, ?_, fun x hx => .inl (HG.out x ?_)⟩, (Turn.refl _ _).set ⟨r, 3, none⟩ (.inl hrG) _⟩
      · rw [HW0.out]
        exact HI2.out.head_set (w' := w2.setCell ⟨r, 3, none⟩ (.int .i64 ((S.writes : Int) + 1))) S.down (S.writes + 1) S.armed S.mask (HI2.out.head.set_ 3 _) (fun x hx => Below.heap_setCell _ _ _ x hx)
      · rw [HW0.out] at hx
        exact hx
    have HG0 := hide hg0
    have hzz2 := HY.out.lt
    have hxx2 := HX.out.lt
    clear hg0 x2 x3 fx3 HI2 HB HG
    go_loopw [7] (fun s7 wr => ∃ j : Nat, s7 = .int .i64 (j : Int) ∧ j ≤ S.n ∧ Hid (RefGo w2 wr r G (W0.tick j))) (fun s7 _ => S.n - (intOf s7).toNat)
    case atStart => exact ⟨0, rfl, Nat.zero_le _, HG0⟩
    case round =>
      obtain ⟨j, rfl, hj, hgo⟩ := hrel
      obtain ⟨wo, rfl⟩ : ∃ wo, wo = wr := ⟨_, rfl⟩
      obtain ⟨hok1, ⟨R1, hI1, hF1⟩, hT1⟩ := hgo.out
      obtain ⟨k1, k2, k3, k4, k5, k6⟩ := tick_keeps W0 j
      have hnj : (W0.tick j).n = S.n := k1.trans hnW
      have c0 := hI1.c0
      rw [hnj] at c0
      by_cases hjn : j < S.n
      · have hg1 : (j : Int) < (S.n : Int) := by omega
        have hjT : j < (W0.tick j).n := by omega
        rw [R1.ad_pos hjn] at c0
        have p0 := hI1.p hjT
        have d3 := hI1.d3 hjT
        have fd3 := (hI1.disk j hjT).frozen 3
        have hfl := hok1.fail_le j
        have HOK1 := hide hok1
        have HI1 := hide hI1
        have HF1 := hide hF1
        clear hok1 hI1 hF1 k1 k2 k3 k4 k5 k6
        obtain ⟨f, hf⟩ : ∃ f, f = (W0.tick j).failAt j := ⟨_, rfl⟩
        rw [← hf] at d3 hfl
        by_cases h0 : f = 0
        · have HT := hide (tick_zero W0 j (by rw [← hf]; exact h0))
          subst h0
          clear hf
          go_wp2_with fail
          go_roundw
          case rel => exact ⟨j + 1, by go_num, by omega, by rw [HT.out]; exact hgo⟩
          case measure => simp [intOf]; omega
        · have hf0 : (0 : Int) < (f : Int) := by omega
          have hsub : (f : Int) - 1 = ((f - 1 : Nat) : Int) := by omega
          have hset : ∀ v : Int, v = (f : Int) - 1 → ∀ w4, w4 = wo.setCell ⟨R1.dk j, 3, none⟩ (.int .i64 v) → RefGo w2 w4 r G { W0.tick j with failAt := upd (W0.tick j).failAt j ((W0.tick j).failAt j - 1) } ∧ w4.cell? ⟨r, 0, none⟩ = some (.slice (some ⟨R1.mb, 0, none⟩) S.n R1.cap) ∧ w4.cell? ⟨R1.mb, j, none⟩ = some (.pointer (some ⟨R1.dk j, 0, none⟩)) ∧ w4.cell? ⟨R1.dk j, 3, none⟩ = some (.int .i64 v) := by
            rintro v hv w4 rfl
            have hv2 : v = ((f - 1 : Nat) : Int) := by omega
            have hI4 : RefIn (wo.setCell ⟨R1.dk j, 3, none⟩ (.int .i64 v)) r R1 { W0.tick j with failAt := upd (W0.tick j).failAt j ((W0.tick j).failAt j - 1) } := by
              have h := HI1.out.disk_set (w' := wo.setCell ⟨R1.dk j, 3, none⟩ (.int .i64 v)) hjT ((W0.tick j).dead j) ((W0.tick j).failAt j - 1) (by rw [← hf, ← hv2]; exact (HI1.out.disk j hjT).set_ 3 _) (fun x hx => Below.heap_setCell _ _ _ x hx)
              rw [upd_same] at h
              exact h
            have c04 := hI4.c0
            have hn4 : ({ W0.tick j with failAt := upd (W0.tick j).failAt j ((W0.tick j).failAt j - 1) } : Bank).n = S.n := hnj
            rw [hn4, R1.ad_pos hjn] at c04
            refine ⟨⟨HOK1.out.setFail j (by rw [← hf]; omega), ⟨R1, hI4, HF1.out⟩, (hgo.out.2.2).set ⟨R1.dk j, 3, none⟩ ?_ _⟩, c04, hI4.p hjT, ?_⟩
            · exact HF1.out _ (.inr (.inr (.inr ⟨j, hjT, .inl rfl⟩)))
            · have h := hI4.d3 hjT
              have e : ({ W0.tick j with failAt := upd (W0.tick j).failAt j ((W0.tick j).failAt j - 1) } : Bank).failAt j = f - 1 := by show upd (W0.tick j).failAt j ((W0.tick j).failAt j - 1) j = _; rw [upd_self, hf]
              rw [e, ← hv2] at h
              exact h
          have HSET := hide hset
          clear hset
          by_cases h1 : f = 1
          · have HT := hide (tick_one W0 j (by rw [← hf]; exact h1))
            have HNJ := hide hnj
            obtain ⟨hg4, c04, p04, d34⟩ := HSET.out 0 (by omega) _ rfl
            have HG4 := hide hg4
            subst h1
            clear hf hg4 hsub
            have hd1 : wo.cell? ⟨R1.dk j, 3, none⟩ = some (.int .i64 1) := d3
            clear d3
            go_wp2_with fail
            have hfl := rOn_fail (HG4.out.on (fun x hx => by have := HL.out x hx; omega)) j (by show j < (W0.tick j).n; omega)
            refine hfl.mono ?_
            rintro _ w5 ⟨rfl, hB5, hT5⟩
            have HG5 := hide (HG4.out.step hB5 hT5)
            clear hB5 hT5 c04 p04 d34 hd1
            go_wp2_with fail
            go_roundw
            case rel => exact ⟨j + 1, by go_num, by omega, by rw [HT.out]; exact HG5⟩
            case measure => simp [intOf]; omega
          · have HT := hide (tick_more W0 j (by rw [← hf]; exact h0) (by rw [← hf]; exact h1))
            obtain ⟨hg4, c04, p04, d34⟩ := HSET.out ((f : Int) - 1) rfl _ rfl
            have HG4 := hide hg4
            have hne1 : ¬ ((f : Int) - 1 = 0) := by omega
            clear hf hg4 hsub h1
            go_wp2_with fail
            go_roundw
            case rel => exact ⟨j + 1, by go_num, by omega, by rw [HT.out]; exact HG4⟩
            case measure => simp [intOf]; omega
      · obtain rfl : j = S.n := by omega
        have hnl : ¬ ((S.n : Int) < (S.n : Int)) := by omega
        obtain ⟨T, hT⟩ : ∃ T, T = W0.tick S.n := ⟨_, rfl⟩
        rw [← hT] at hgo hI1 hF1 hok1
        have HGT := hide hgo.out
        have HTK := hide (show S.ticked = T by rw [hT, HW0.out]; rfl)
        have c4 := hI1.c4
        have f4 := hI1.head.frozen 4
        have HI1 := hide hI1
        have HF1 := hide hF1
        have HOT := hide hok1
        have hal := HOT.out.armed_le
        clear hgo hI1 hF1 hok1 hT k1 k2 k3 k4 k5 k6 hnj hT1
        by_cases ha0 : T.armed = 0
        · have HE := hide (show S.write d k s = if T.place d k = 0 then (0, T.put d k s) else (T.place d k, T) from write_up (by
            unfold Bank.count
            rw [if_neg (by rw [HDN.out]; decide), HTK.out]
            simp only
            rw [if_pos ha0]))
          rw [ha0] at c4
          clear ha0
          obtain ⟨okV, ⟨R5, hI5, hF5⟩, hT5⟩ := HGT.out
          have HX5 := hide (HX.out.turned hT5 (fun hf => by have := HL.out _ hf; omega))
          have HY5 := hide (HY.out.turned hT5 (fun hf => by have := HL.out _ hf; omega))
          have hsz5 := hT5.size
          have hP := hide (rplace_out hI5 okV hdi hki hbad)
          have HI5 := hide hI5
          have HF5 := hide hF5
          have HT5 := hide hT5
          have HOV := hide okV
          clear hI5 hF5 hT5 okV
          have hp := place_out HOV.out hdi hki hbad
          · have HE2 := hide (show S.write d k s = (T.place d k, T) by rw [HE.out, if_neg hp])
            have hne : ((T.place d k : Int) != 0) = true := by simp; omega
            clear hp
            go_wp2_with (first
              | (refine wpList_load_blk rfl 47 (.tmp 4) rfl w.heap.size 0 47 _ HX5.out rfl ([.int .i64 di, .int .i64 ki]) _ (fun j v hj => by rw [Nat.zero_add]; simpa using hj) Tryz.underlying47 rfl rplace_info ?_)
              | (go_at_call 49; refine hP.out.mono ?_; rintro _ w6 ⟨rfl, hl6⟩))
            go_ret
            have hfin := (HGT.out.later hl6).fin HL02.out HL.out
            rw [HE2.out]
            exact ⟨rfl, hfin.1, hfin.2⟩
        · obtain ⟨V, hV⟩ : ∃ V : Bank, V = { T with armed := T.armed - 1 } := ⟨_, rfl⟩
          have hset : ∀ v : Int, v = (T.armed : Int) - 1 → ∀ w4, w4 = wo.setCell ⟨r, 4, none⟩ (.int .i64 v) → RefGo w2 w4 r G V ∧ w4.cell? ⟨r, 4, none⟩ = some (.int .i64 v) ∧ w4.cell? ⟨r, 5, none⟩ = some (.int .u64 (T.mask : Int)) := by
            rintro v hv w4 rfl
            have hv2 : v = ((T.armed - 1 : Nat) : Int) := by omega
            have hI4 : RefIn (wo.setCell ⟨r, 4, none⟩ (.int .i64 v)) r R1 V := by
              rw [hV]
              exact HI1.out.head_set (w' := wo.setCell ⟨r, 4, none⟩ (.int .i64 v)) T.down T.writes (T.armed - 1) T.mask (by rw [← hv2]; exact HI1.out.head.set_ 4 _) (fun x hx => Below.heap_setCell _ _ _ x hx)
            have h4 := hI4.c4
            have h5 := hI4.c5
            rw [show V.armed = T.armed - 1 by rw [hV], ← hv2] at h4
            rw [show V.mask = T.mask by rw [hV]] at h5
            refine ⟨⟨by rw [hV]; exact HOT.out.setArmed (by omega), ⟨R1, hI4, fun x hx => HF1.out x (by rw [hV] at hx; exact hx)⟩, (HGT.out.2.2).set ⟨r, 4, none⟩ (.inl hrG) _⟩, h4, h5⟩
          have HSET := hide hset
          have ha1 : (0 : Int) < (T.armed : Int) := by omega
          clear hset
          by_cases h1 : T.armed = 1
          · have HE := hide (show S.write d k s = (6, V.crash T.mask) by
              have hc : S.count = (true, V.crash T.mask) := by
                unfold Bank.count
                rw [if_neg (by rw [HDN.out]; decide), HTK.out]
                simp only
                rw [if_neg ha0, if_pos h1, ← hV]
              unfold Bank.write
              rw [hc]
              rfl)
            obtain ⟨hg4, c44, c45⟩ := HSET.out 0 (by omega) _ rfl
            have HG4 := hide hg4
            have HML := hide (HOT.out.mask_le)
            rw [h1] at c4 ha1
            clear ha0 h1 hg4
            go_wp2_with fail
            refine (rOn_crash (HG4.out.on (fun x hx => by have := HL.out x hx; omega)) T.mask HML.out).mono ?_
            rintro _ w5 ⟨rfl, hB5, hT5⟩
            have HG5 := hide (HG4.out.step hB5 hT5)
            clear hB5 hT5 c44 c45
            go_wp2_with fail
            go_ret
            rw [HE.out]
            have hf := HG5.out.fin HL02.out HL.out
            exact ⟨rfl, hf.1, hf.2⟩
          · have HE := hide (show S.write d k s = if V.place d k = 0 then (0, V.put d k s) else (V.place d k, V) from write_up (by
              unfold Bank.count
              rw [if_neg (by rw [HDN.out]; decide), HTK.out]
              simp only
              rw [if_neg ha0, if_neg h1, ← hV]))
            have HV := hide hV
            obtain ⟨hg4, c44, c45⟩ := HSET.out ((T.armed : Int) - 1) rfl _ rfl
            have HG4 := hide hg4
            clear hV
            have hne1 : ¬ ((T.armed : Int) - 1 = 0) := by omega
            clear ha0 h1 hg4 c45
            obtain ⟨okV, ⟨R5, hI5, hF5⟩, hT5⟩ := HG4.out
            have HX5 := hide (HX.out.turned hT5 (fun hf => by have := HL.out _ hf; omega))
            have HY5 := hide (HY.out.turned hT5 (fun hf => by have := HL.out _ hf; omega))
            have hsz5 := hT5.size
            have hP := hide (rplace_out hI5 okV hdi hki hbad)
            have HI5 := hide hI5
            have HF5 := hide hF5
            have HT5 := hide hT5
            have HOV := hide okV
            clear hI5 hF5 hT5 okV
            have hp := place_out HOV.out hdi hki hbad
            · have HE2 := hide (show S.write d k s = (V.place d k, V) by rw [HE.out, if_neg hp])
              have hne : ((V.place d k : Int) != 0) = true := by simp; omega
              clear hp
              go_wp2_with (first
                | (refine wpList_load_blk rfl 47 (.tmp 4) rfl w.heap.size 0 47 _ HX5.out rfl ([.int .i64 di, .int .i64 ki]) _ (fun j v hj => by rw [Nat.zero_add]; simpa using hj) Tryz.underlying47 rfl rplace_info ?_)
                | (go_at_call 49; refine hP.out.mono ?_; rintro _ w6 ⟨rfl, hl6⟩))
              go_ret
              have hfin := (HG4.out.later hl6).fin HL02.out HL.out
              rw [HE2.out]
              exact ⟨rfl, hfin.1, hfin.2⟩
end
section
variable {w w' : World} {r : Nat} {R : RLay} {S : Bank} {G : Nat → Prop}
theorem rOnI_read (h : RefOn w r G S) (di ki : Int) :
    Calls Tryz.prog 14 #[.pointer (some ⟨r, 0, none⟩), .agg #[.int .i64 di, .int .i64 ki]] w fun e w' => e = .returned (readV S (nI di) (nI ki)) ∧ Below w.heap.size w w' := by
  obtain ⟨_, h2, R, h3, _⟩ := h
  by_cases hb : di = (nI di : Int) ∧ ki = (nI ki : Int)
  · have := rread_any h3 (nI di) (nI ki)
    rwa [← hb.1, ← hb.2] at this
  · exact rread_out h3 h2 (is_nI di) (is_nI ki) hb
theorem rOnI_write (h : RefOn w r G S) (hw : S.writes < 4611686018427387904) (di ki : Int) (s : Sec) :
    Calls Tryz.prog 35 #[.pointer (some ⟨r, 0, none⟩), .agg #[.int .i64 di, .int .i64 ki], secV s] w fun e w' => e = .returned (.int .i64 ((S.write (nI di) (nI ki) s).1 : Int)) ∧ RefOn w' r (More G w w') (S.write (nI di) (nI ki) s).2 ∧ Turn G w w' := by
  by_cases hb : di = (nI di : Int) ∧ ki = (nI ki : Int)
  · have := rOn_write h hw (nI di) (nI ki) s
    rwa [← hb.1, ← hb.2] at this
  · exact rwrite_out h hw (is_nI di) (is_nI ki) hb s
theorem RefOn.same (h : RefOn w r G S) (hb : Below w.heap.size w w') : RefOn w' r (More G w w') S :=
  (h.later hb).wider (fun x hx => .inl hx) (fun x hx => hx.elim (fun q => Nat.lt_of_lt_of_le (h.1 x q) hb.size) (fun q => q.2))
theorem rOnI_flush (h : RefOn w r G S) (di : Int) :
    Calls Tryz.prog 46 #[.pointer (some ⟨r, 0, none⟩), .int .i64 di] w fun e w' => e = .returned (.int .i64 (S.may (nI di) : Int)) ∧ RefOn w' r (More G w w') (if S.may (nI di) = 0 then S.flush (nI di) else S) ∧ Turn G w w' := by
  by_cases hd : di < 0
  · have h8 := may_out h.ok (d := nI di) (by rw [nI_neg hd]; decide)
    rw [h8, if_neg (by decide)]
    have HW := hide (fun w => rmay_minus r w hd)
    have HB := hide h
    clear h h8 hd
    go_enter Tryz.func46, Tryz.ntmps46
    go_wp2_with (first | (go_at_call 86; refine (HW.out _).mono ?_; rintro _ _ ⟨rfl, rfl⟩))
    go_ret
    exact ⟨rfl, HB.out.same (Below.refl _ _), Turn.refl _ _⟩
  · have := rOn_flush h (nI di)
    rwa [nI_pos (by omega)] at this
theorem rfail_out (h : RefIn w r R S) {di : Int} (hd : ¬ (0 ≤ di ∧ di < S.n)) :
    Calls Tryz.prog 36 #[.pointer (some ⟨r, 0, none⟩), .int .i64 di] w fun e w' => e = .returned (.int .i64 8) ∧ ∃ k, w' = w.drewN k := by
  have c0 := h.c0
  by_cases hn : di < 0
  · have hg : decide (di < 0) = true := by simpa using hn
    clear h hd
    go_enter Tryz.func36, Tryz.ntmps36
    go_wp2_with fail
    go_ret
    exact ⟨rfl, 0, rfl⟩
  · have hg : decide (di < 0) = false := by simpa using hn
    have hg2 : decide ((S.n : Int) ≤ di) = true := by
      have : (S.n : Int) ≤ di := by omega
      simpa using this
    clear h hd hn
    go_enter Tryz.func36, Tryz.ntmps36
    go_wp2_with fail
    go_ret
    exact ⟨rfl, 0, rfl⟩
theorem rOnI_fail (h : RefOn w r G S) (di : Int) :
    Calls Tryz.prog 36 #[.pointer (some ⟨r, 0, none⟩), .int .i64 di] w fun e w' => e = .returned (.int .i64 ((if nI di < S.n then 0 else 8 : Nat) : Int)) ∧ RefOn w' r (More G w w') (S.failI (nI di)) ∧ Turn G w w' := by
  unfold Bank.failI
  have hn := h.ok.n_le
  by_cases hd : nI di < S.n
  · rw [if_pos hd, if_pos hd]
    have h0 := ((nI_lt (by omega)).1 hd).1
    have := rOn_fail h (nI di) hd
    rwa [nI_pos h0] at this
  · rw [if_neg hd, if_neg hd]
    have hq : ¬ (0 ≤ di ∧ di < S.n) := fun e => hd ((nI_lt (by omega)).2 e)
    have hB := h
    obtain ⟨h1, h2, R, h3, h4⟩ := h
    refine (rfail_out h3 hq).mono ?_
    rintro _ _ ⟨rfl, k, rfl⟩
    have hl : Below w.heap.size w (w.drewN k) := below_drewN (Below.refl _ _) k
    exact ⟨rfl, hB.same hl, Turn.of_below hl⟩
set_option maxRecDepth 100000 in
theorem rOnI_failAt (h : RefOn w r G S) (di n : Int) (a : Nat) (ha : (a : Int) = if 0 < n then n else 0) (ha2 : a < 9223372036854775808) :
    Calls Tryz.prog 38 #[.pointer (some ⟨r, 0, none⟩), .int .i64 di, .int .i64 n] w fun e w' => e = .returned (.tuple #[]) ∧ RefOn w' r (More G w w') (S.willI (nI di) a) ∧ Turn G w w' := by
  unfold Bank.willI
  have hn32 := h.ok.n_le
  have hmx : max n 0 = (a : Int) := by rw [ha]; split <;> omega
  by_cases hd : nI di < S.n
  · rw [if_pos hd]
    obtain ⟨h0, hlt⟩ := (nI_lt (by omega)).1 hd
    obtain ⟨d, rfl⟩ : ∃ d : Nat, di = (d : Int) := ⟨di.toNat, by omega⟩
    rw [nI_nat] at hd ⊢
    have hB := hide h
    obtain ⟨h1, h2, R, h3, h4⟩ := h
    have c0 := h3.c0
    rw [R.ad_pos hd] at c0
    have p0 := h3.p hd
    have d3 := h3.d3 hd
    have g3 := (h3.disk d hd).frozen 3
    have hfin : ∀ w1, w1 = w.setCell ⟨R.dk d, 3, none⟩ (.int .i64 (a : Int)) → RefOn w1 r (More G w w1) (S.willFail d a) ∧ Turn G w w1 := by
      rintro w1 rfl
      have hT : Turn G w (w.setCell ⟨R.dk d, 3, none⟩ (.int .i64 (a : Int))) := (Turn.refl _ _).set ⟨R.dk d, 3, none⟩ (.inl (h4 _ (.inr (.inr (.inr ⟨d, hd, .inl rfl⟩))))) _
      have hz : (w.setCell ⟨R.dk d, 3, none⟩ (.int .i64 (a : Int))).heap.size = w.heap.size := by simp [World.setCell]
      have hI := h3.disk_set (w' := w.setCell ⟨R.dk d, 3, none⟩ (.int .i64 (a : Int))) hd (S.dead d) a ((h3.disk d hd).set_ 3 _) (fun x hx => Below.heap_setCell _ _ _ x hx)
      rw [upd_same] at hI
      exact ⟨⟨fun x hx => hx.elim (fun q => by rw [hz]; exact h1 x q) (fun q => q.2), h2.setFail d ha2, R, hI, fun x hx => .inl (h4 x hx)⟩, hT⟩
    have HFIN := hide hfin
    clear hfin h1 h2 h3 h4 ha
    go_enter Tryz.func38, Tryz.ntmps38
    go_wp2_with fail
    go_end0
    exact ⟨rfl, HFIN.out _ (by first | rfl | rw [hmx])⟩
  · rw [if_neg hd]
    have hq : ¬ (0 ≤ di ∧ di < S.n) := fun e => hd ((nI_lt (by omega)).2 e)
    have hB := hide h
    obtain ⟨h1, h2, R, h3, h4⟩ := h
    have c0 := h3.c0
    clear h1 h2 h3 h4 hd ha
    by_cases hn : 0 ≤ di
    · have hge : ¬ (di < (S.n : Int)) := fun e => hq ⟨hn, e⟩
      go_enter Tryz.func38, Tryz.ntmps38
      go_wp2_with fail
      go_end0
      exact ⟨rfl, hB.out.same (Below.refl _ _), Turn.refl _ _⟩
    · go_enter Tryz.func38, Tryz.ntmps38
      go_wp2_with fail
      go_end0
      exact ⟨rfl, hB.out.same (Below.refl _ _), Turn.refl _ _⟩
end
end Go.Proofs.YtmjjnbabfldbcaaGreat
