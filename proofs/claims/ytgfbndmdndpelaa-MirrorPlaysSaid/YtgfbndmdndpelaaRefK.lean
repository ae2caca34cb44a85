/- The reference's bank: how it lies in memory; may, place, Read, settle, settled, Flush, Start, Arm, Fail, Crash. -/
import Derived.Test.YtgfbndmdndpelaaBank
import Derived.Test.YtgfbndmdndpelaaRowS
import Derived.Test.YtgfbndmdndpelaaSort
import Derived.Deep.RegionLaw
import Derived.Deep.AppendLies
import Derived.Laws.MakeOwn
import Derived.Test.YtgfbndmdndpelaaWriteB
import Derived.StillTailTactics
import Derived.Test.YtgfbndmdndpelaaOrder
import Derived.Test.YtgfbndmdndpelaaWhenQ
import Derived.Test.YtgfbndmdndpelaaCalls
namespace Go.Proofs.Ytgfbndmdndpelaa
open Go.RowKit
set_option linter.unusedVariables false
/-! ### The bank -/
structure RLay where
  mb : Nat
  cap : Nat
  la : Option Addr
  lc : Nat
  dk : Nat → Nat
  fl : Nat → Nat
  nw : Nat → Nat
def RLay.ad (R : RLay) (n : Nat) : Option Addr := if n = 0 then none else some ⟨R.mb, 0, none⟩
theorem RLay.ad_pos (R : RLay) {n i : Nat} (hi : i < n) : R.ad n = some ⟨R.mb, 0, none⟩ := by unfold RLay.ad; rw [if_neg (by omega)]
def looseV (R : RLay) (S : Bank) : Value := .slice R.la S.order.length R.lc
structure RefIn (w : World) (r : Nat) (R : RLay) (S : Bank) : Prop where
  head : Blk w r 41 #[.slice (R.ad S.n) S.n R.cap, .slice R.la S.order.length R.lc, .bool S.down, .int .i64 (S.writes : Int), .int .i64 (S.armed : Int), .int .u64 (S.mask : Int)]
  cap : S.n ≤ R.cap ∧ R.cap ≤ maxLen ∧ (S.n = 0 → R.cap = 0)
  row : 0 < S.n → ∃ cs : Array Value, Blk w R.mb 72 cs ∧ cs.size = R.cap ∧ ∀ i, i < S.n → cs[i]? = some (.pointer (some ⟨R.dk i, 0, none⟩))
  loose : w.ownsRow 0 33 2 (.slice R.la S.order.length R.lc) S.order.length (flatP S.order)
  disk : ∀ i, i < S.n → Blk w (R.dk i) 75 #[.slice (some ⟨R.fl i, 0, none⟩) (S.size i) (S.size i), .slice (some ⟨R.nw i, 0, none⟩) (S.size i) (S.size i), .bool (S.dead i), .int .i64 (S.failAt i : Int)]
  flu : ∀ i, i < S.n → Blk w (R.fl i) 43 (rowS (S.flushed i) (S.size i)).toArray
  new : ∀ i, i < S.n → Blk w (R.nw i) 43 (rowS (S.newest i) (S.size i)).toArray
  inj1 : ∀ i j, i < S.n → j < S.n → R.dk i = R.dk j → i = j
  inj2 : ∀ i j, i < S.n → j < S.n → R.fl i = R.fl j → i = j
  inj3 : ∀ i j, i < S.n → j < S.n → R.nw i = R.nw j → i = j
  inj4 : ∀ i j, i < S.n → j < S.n → R.fl i ≠ R.nw j
/-- The blocks that it takes. -/
def RFoot (r : Nat) (R : RLay) (S : Bank) : Nat → Prop := fun x => x = r ∨ (0 < S.n ∧ x = R.mb) ∨ (Value.slice R.la S.order.length R.lc).ownBlock = some x ∨ ∃ i, i < S.n ∧ (x = R.dk i ∨ x = R.fl i ∨ x = R.nw i)
theorem Blk.apart {w : World} {g h : Nat} {t u : TypeId} {cs ds : Array Value} (h1 : Blk w g t cs) (h2 : Blk w h u ds) (hn : t ≠ u) : g ≠ h := by
  rintro rfl
  unfold Blk at h1 h2
  rw [h1] at h2
  injection h2 with h2
  injection h2 with _ h2
  exact hn h2
section
variable {w w' : World} {r : Nat} {R : RLay} {S : Bank}
theorem RefIn.foot_lt (h : RefIn w r R S) : ∀ x, RFoot r R S x → x < w.heap.size := by
  rintro x (rfl | ⟨h0, rfl⟩ | hx | ⟨i, hi, rfl | rfl | rfl⟩)
  · exact h.head.lt
  · obtain ⟨cs, hb, _⟩ := h.row h0
    exact hb.lt
  · exact (h.loose.lt x hx).2
  · exact (h.disk i hi).lt
  · exact (h.flu i hi).lt
  · exact (h.new i hi).lt
theorem own_of_block {v : Value} {base n size : Nat} {e : TypeId} {xs : List Value} (h : w.ownsRow base e size v n xs) (hk : ∀ g, v.ownBlock = some g → w'.heap[g]? = w.heap[g]?) : w'.ownsRow base e size v n xs := by
  refine ⟨h.1, ?_⟩
  rcases h.2 with h1 | ⟨g, cap, cur, rfl, h6, hb, h7⟩
  · exact .inl h1
  · exact .inr ⟨g, cap, cur, rfl, h6, (hk g rfl).trans hb, h7⟩
theorem RefIn.kept (h : RefIn w r R S) (hk : ∀ x, RFoot r R S x → w'.heap[x]? = w.heap[x]?) : RefIn w' r R S := by
  refine { h with head := h.head.of_block (hk r (.inl rfl)), row := fun h0 => ?_, loose := own_of_block h.loose (fun g hg => hk g (.inr (.inr (.inl hg)))), disk := fun i hi => (h.disk i hi).of_block (hk _ (.inr (.inr (.inr ⟨i, hi, .inl rfl⟩)))), flu := fun i hi => (h.flu i hi).of_block (hk _ (.inr (.inr (.inr ⟨i, hi, .inr (.inl rfl)⟩)))), new := fun i hi => (h.new i hi).of_block (hk _ (.inr (.inr (.inr ⟨i, hi, .inr (.inr rfl)⟩)))) }
  obtain ⟨cs, hb, h2⟩ := h.row h0
  exact ⟨cs, hb.of_block (hk _ (.inr (.inl ⟨h0, rfl⟩))), h2⟩
theorem RefIn.later (h : RefIn w r R S) (hb : Below w.heap.size w w') : RefIn w' r R S := h.kept fun x hx => hb.block x (h.foot_lt x hx)
theorem RefIn.drew (h : RefIn w r R S) : RefIn w.drew r R S := h.kept fun _ _ => rfl
theorem RefIn.drewN (h : RefIn w r R S) (n : Nat) : RefIn (w.drewN n) r R S := h.kept fun _ _ => rfl
theorem RefIn.c0 (h : RefIn w r R S) : w.cell? ⟨r, 0, none⟩ = some (.slice (R.ad S.n) S.n R.cap) := h.head.cell 0
theorem RefIn.c1 (h : RefIn w r R S) : w.cell? ⟨r, 1, none⟩ = some (.slice R.la S.order.length R.lc) := h.head.cell 1
theorem RefIn.c2 (h : RefIn w r R S) : w.cell? ⟨r, 2, none⟩ = some (.bool S.down) := h.head.cell 2
theorem RefIn.c3 (h : RefIn w r R S) : w.cell? ⟨r, 3, none⟩ = some (.int .i64 (S.writes : Int)) := h.head.cell 3
theorem RefIn.c4 (h : RefIn w r R S) : w.cell? ⟨r, 4, none⟩ = some (.int .i64 (S.armed : Int)) := h.head.cell 4
theorem RefIn.c5 (h : RefIn w r R S) : w.cell? ⟨r, 5, none⟩ = some (.int .u64 (S.mask : Int)) := h.head.cell 5
theorem RefIn.p (h : RefIn w r R S) {i : Nat} (hi : i < S.n) : w.cell? ⟨R.mb, i, none⟩ = some (.pointer (some ⟨R.dk i, 0, none⟩)) := by
  obtain ⟨cs, hb, _, hc⟩ := h.row (by omega)
  exact (hb.cell i).trans (hc i hi)
theorem RefIn.d0 (h : RefIn w r R S) {i : Nat} (hi : i < S.n) : w.cell? ⟨R.dk i, 0, none⟩ = some (.slice (some ⟨R.fl i, 0, none⟩) (S.size i) (S.size i)) := (h.disk i hi).cell 0
theorem RefIn.d1 (h : RefIn w r R S) {i : Nat} (hi : i < S.n) : w.cell? ⟨R.dk i, 1, none⟩ = some (.slice (some ⟨R.nw i, 0, none⟩) (S.size i) (S.size i)) := (h.disk i hi).cell 1
theorem RefIn.d2 (h : RefIn w r R S) {i : Nat} (hi : i < S.n) : w.cell? ⟨R.dk i, 2, none⟩ = some (.bool (S.dead i)) := (h.disk i hi).cell 2
theorem RefIn.d3 (h : RefIn w r R S) {i : Nat} (hi : i < S.n) : w.cell? ⟨R.dk i, 3, none⟩ = some (.int .i64 (S.failAt i : Int)) := (h.disk i hi).cell 3

set_option maxHeartbeats 400000 in
theorem rmay_any (h : RefIn w r R S) (d : Nat) :
    Calls Try.prog 68 #[.pointer (some ⟨r, 0, none⟩), .int .i64 (d : Int)] w fun e w' => e = .returned (.int .i64 (S.may d : Int)) ∧ w = w' := by
  have c0 := h.c0
  by_cases hd : d < S.n
  · have hm : ¬ S.n ≤ d := by omega
    have c2 := h.c2
    have d2 := h.d2 hd
    have p := h.p hd
    rw [R.ad_pos hd] at c0
    have hdw : (d : Int) < (S.n : Int) := by omega
    have hdg : decide ((S.n : Int) ≤ (d : Int)) = false := by simp; omega
    cases hdead : S.dead d with
    | true =>
      have hmay : S.may d = 7 := by unfold Bank.may; rw [if_neg hm, if_pos hdead]
      rw [hdead] at d2
      rw [hmay]
      clear hmay hm h
      go_enter Try.func68, Try.ntmps68
      go_wp2
      go_ret
      exact ⟨rfl, rfl⟩
    | false =>
      rw [hdead] at d2
      cases hdown : S.down with
      | true =>
        have hmay : S.may d = 6 := by unfold Bank.may; rw [if_neg hm, hdead, hdown]; rfl
        rw [hdown] at c2
        rw [hmay]
        clear hmay hm h
        go_enter Try.func68, Try.ntmps68
        go_wp2
        go_ret
        exact ⟨rfl, rfl⟩
      | false =>
        have hmay : S.may d = 0 := by unfold Bank.may; rw [if_neg hm, hdead, hdown]; rfl
        rw [hdown] at c2
        rw [hmay]
        clear hmay hm h
        go_enter Try.func68, Try.ntmps68
        go_wp2
        go_ret
        exact ⟨rfl, rfl⟩
  · have hm : S.may d = 8 := by unfold Bank.may; rw [if_pos (by omega)]
    have hdg : decide ((S.n : Int) ≤ (d : Int)) = true := by simp; omega
    rw [hm]
    clear hm h
    go_enter Try.func68, Try.ntmps68
    go_wp2
    go_ret
    exact ⟨rfl, rfl⟩
end
#print axioms rmay_any
theorem rplace_info : (Try.prog.info? 33).map (·.size) = some 2 := by kernel_rfl
section
variable {w w' : World} {r : Nat} {R : RLay} {S : Bank}
theorem may_zero {d : Nat} (hm : S.may d = 0) : d < S.n := by
  rcases Nat.lt_or_ge d S.n with h | h
  · exact h
  · unfold Bank.may at hm
    rw [if_pos h] at hm
    cases hm
theorem rplace_zero {d k : Nat} (hp : S.place d k = 0) : S.may d = 0 ∧ d < S.n ∧ k < S.size d := by
  unfold Bank.place at hp
  by_cases hm : S.may d = 0
  · rw [if_pos hm] at hp
    refine ⟨hm, may_zero hm, ?_⟩
    rcases Nat.lt_or_ge k (S.size d) with h | h
    · exact h
    · rw [if_neg (by omega)] at hp
      cases hp
  · rw [if_neg hm] at hp
    exact absurd hp hm
theorem sec_cells {g z k : Nat} {T : Nat → Sec} (h : Blk w g 43 (rowS T z).toArray) (hk : k < z) {U : List Value} (hU : U = secL (T k)) : ∀ (j : Nat) (v : Value), U[j]? = some v → w.cell? ((⟨g, k * 64, none⟩ : Addr).add j) = some v := by
  intro j v hj
  have hj64 : j < 64 := by
    have := (List.getElem?_eq_some_iff.1 hj).1
    rw [hU, secL_length] at this
    exact this
  have hadd : (⟨g, k * 64, none⟩ : Addr).add j = ⟨g, k * 64 + j, none⟩ := by unfold Addr.add; split <;> simp_all
  rw [hadd, h.cell, List.getElem?_toArray, rowS_at T z k j hk hj64, ← hU]
  exact hj
set_option maxRecDepth 100000 in
set_option maxHeartbeats 1000000 in
theorem rplace_any (h : RefIn w r R S) (d k : Nat) :
    Calls Try.prog 49 #[.pointer (some ⟨r, 0, none⟩), .agg #[.int .i64 (d : Int), .int .i64 (k : Int)]] w fun e w' => e = .returned (.int .i64 (S.place d k : Int)) ∧ Below w.heap.size w w' := by
  have HM := hide (fun w1 (h1 : RefIn w1 r R S) => rmay_any h1 d)
  have HB := hide h
  clear h
  by_cases hm : S.may d = 0
  · have hd := may_zero hm
    rw [hm] at HM
    have hdg : decide ((k : Int) < 0) = false := by simp
    by_cases hk : k < S.size d
    · have hp : S.place d k = 0 := by unfold Bank.place; rw [if_pos hm, if_pos hk]
      have hkg : decide ((S.size d : Int) ≤ (k : Int)) = false := by simp; omega
      rw [hp]
      clear hp hm
      go_enter Try.func49, Try.ntmps49
      go_wp2_with (first
        | (refine wpList_box_blk rfl 33 (.tmp 1) rfl (.agg #[.int .i64 (d : Int), .int .i64 (k : Int)]) rfl ?_; intro w1 hb1 hl1 hs1; clear hs1; have hB1 := HB.out.later hl1; have q0 : w1.cell? ⟨w.heap.size, 0, none⟩ = some (.int .i64 (d : Int)) := hb1.cell 0; have q1 : w1.cell? ⟨w.heap.size, 1, none⟩ = some (.int .i64 (k : Int)) := hb1.cell 1; have c0 := hB1.c0; rw [R.ad_pos hd] at c0; have p0 := hB1.p hd; have d1 := hB1.d1 hd; have HB1 := hide hB1; clear hB1)
        | (go_at_call 68; refine (HM.out _ HB1.out).mono ?_; rintro _ w2 ⟨rfl, rfl⟩))
      go_quiet (fail)
      go_wp2
      go_ret
      exact ⟨rfl, below_drewN hl1 _⟩
    · have hp : S.place d k = 3 := by unfold Bank.place; rw [if_pos hm, if_neg hk]
      have hkg : decide ((S.size d : Int) ≤ (k : Int)) = true := by simp; omega
      rw [hp]
      clear hp hm
      go_enter Try.func49, Try.ntmps49
      go_wp2_with (first
        | (refine wpList_box_blk rfl 33 (.tmp 1) rfl (.agg #[.int .i64 (d : Int), .int .i64 (k : Int)]) rfl ?_; intro w1 hb1 hl1 hs1; clear hs1; have hB1 := HB.out.later hl1; have q0 : w1.cell? ⟨w.heap.size, 0, none⟩ = some (.int .i64 (d : Int)) := hb1.cell 0; have q1 : w1.cell? ⟨w.heap.size, 1, none⟩ = some (.int .i64 (k : Int)) := hb1.cell 1; have c0 := hB1.c0; rw [R.ad_pos hd] at c0; have p0 := hB1.p hd; have d1 := hB1.d1 hd; have HB1 := hide hB1; clear hB1)
        | (go_at_call 68; refine (HM.out _ HB1.out).mono ?_; rintro _ w2 ⟨rfl, rfl⟩))
      go_quiet (fail)
      go_wp2
      go_ret
      exact ⟨rfl, below_drewN hl1 _⟩
  · have hp : S.place d k = S.may d := by unfold Bank.place; rw [if_neg hm]
    have hne : ((S.may d : Int) != 0) = true := by simp; omega
    rw [hp]
    clear hp hm
    go_enter Try.func49, Try.ntmps49
    go_wp2_with (first
      | (refine wpList_box_blk rfl 33 (.tmp 1) rfl (.agg #[.int .i64 (d : Int), .int .i64 (k : Int)]) rfl ?_; intro w1 hb1 hl1 hs1; clear hs1; have hB1 := HB.out.later hl1; have q0 : w1.cell? ⟨w.heap.size, 0, none⟩ = some (.int .i64 (d : Int)) := hb1.cell 0; have HB1 := hide hB1; clear hB1)
      | (go_at_call 68; refine (HM.out _ HB1.out).mono ?_; rintro _ w2 ⟨rfl, rfl⟩))
    go_ret
    exact ⟨rfl, hl1⟩
set_option maxRecDepth 100000 in
set_option maxHeartbeats 1000000 in
theorem rread_any (h : RefIn w r R S) (d k : Nat) :
    Calls Try.prog 18 #[.pointer (some ⟨r, 0, none⟩), .agg #[.int .i64 (d : Int), .int .i64 (k : Int)]] w fun e w' => e = .returned (readV S d k) ∧ Below w.heap.size w w' := by
  have HP := hide (fun w1 (h1 : RefIn w1 r R S) => rplace_any h1 d k)
  have HB := hide h
  clear h
  unfold readV
  obtain ⟨U, hU⟩ : ∃ U, U = secL (if S.place d k = 0 then S.newest d k else zeroSec) := ⟨_, rfl⟩
  have hUl : U.length = 64 := by rw [hU, secL_length]
  have hUo : ∀ v ∈ U, v.oneCell' = true := by rw [hU]; exact secL_one _
  have hiU : (Try.prog.info? 43).map (·.size) = some U.length := by rw [hUl]; exact sec_info
  have hs : secV (if S.place d k = 0 then S.newest d k else zeroSec) = .agg U.toArray := by rw [hU]; rfl
  rw [hs]
  have HUl := hide hUl
  have HUO := hide hUo
  have HIU := hide hiU
  have HU := hide hU
  clear hUl hUo hiU hs hU
  by_cases hp : S.place d k = 0
  · obtain ⟨_, hd, hk⟩ := rplace_zero hp
    have HUN := hide (show U = secL (S.newest d k) by rw [HU.out, if_pos hp])
    rw [hp] at HP ⊢
    clear hp
    have hkw : (k : Int) < (S.size d : Int) := by omega
    have hdw : (d : Int) < (S.n : Int) := by omega
    go_enter Try.func18, Try.ntmps18
    go_wp2_with (first
      | (refine wpList_box_blk rfl 33 (.tmp 1) rfl (.agg #[.int .i64 (d : Int), .int .i64 (k : Int)]) rfl ?_; intro w1 hb1q hl1 hs1; clear hs1; have hb1 : Blk w1 w.heap.size 33 [.int .i64 (d : Int), .int .i64 (k : Int)].toArray := hb1q; clear hb1q)
      | (refine wpList_alloc_blk rfl 43 rfl _ (sec_zero w1) ?_; intro w2 hb2 hl2 hs2; clear hs2; have hz1 := hb1.lt; have hb12 := hb1.below hl2 hz1)
      | (refine wpList_load_blk rfl 33 (.tmp 3) rfl w.heap.size 0 33 _ hb12 rfl [.int .i64 (d : Int), .int .i64 (k : Int)] _ (fun j v hj => by rw [Nat.zero_add]; simpa using hj) Try.underlying33 rfl rplace_info ?_)
      | (go_at_call 49; refine (HP.out w2 (HB.out.later (hl1.trans (hl2.mono hl1.size)))).mono ?_; rintro _ w3 ⟨rfl, hl3⟩))
    have hz2 := hb2.lt
    have hl03 : Below w.heap.size w w3 := (hl1.trans (hl2.mono hl1.size)).trans (hl3.mono (by omega))
    have hB3 := HB.out.later hl03
    have hb13 := hb12.below hl3 (by omega)
    have hb23 := hb2.below hl3 hz2
    have q0 : w3.drew.cell? ⟨w.heap.size, 0, none⟩ = some (.int .i64 (d : Int)) := hb13.cell 0
    have q1 : w3.drew.cell? ⟨w.heap.size, 1, none⟩ = some (.int .i64 (k : Int)) := hb13.cell 1
    have c0 : w3.drew.cell? ⟨r, 0, none⟩ = _ := hB3.c0
    rw [R.ad_pos hd] at c0
    have p0 : w3.drew.cell? ⟨R.mb, d, none⟩ = _ := hB3.p hd
    have d1 : w3.drew.cell? ⟨R.dk d, 1, none⟩ = _ := hB3.d1 hd
    have HSC := hide (sec_cells (w := w3.drew) ((hB3.new d hd).drew) hk HUN.out)
    have HB2 := hide hb23.drew
    have HL := hide hl03.drew
    clear hb13 hb23 hB3 hl03 hl3 hl2 hl1 hb1 hb2 hb12 
    refine wp_region_still_tail 15 (by kernel_rfl) (by kernel_rfl) ?_
    change wpStill _ _ w3.drew _ _ _
    simp only [List.take_succ_cons, List.take_zero, List.drop_succ_cons, List.drop_zero]
    iterate 14 still_step
    refine still_load_at rfl 43 (.tmp 27) rfl ⟨R.nw d, k * 64, none⟩ rfl U _ HSC.out Try.underlying43 rfl HIU.out ?_
    refine wpStill_nil ?_
    change wpList _ _ _ _ _ w3.drew
    go_wp2_with (first
      | (refine wpList_store_all rfl 43 (.tmp 4) (.tmp 28) rfl w1.heap.size 43 _ HB2.out rfl U rfl HIU.out (HUl.out.trans (secL_length zeroSec).symm) HUO.out ?_; intro w4 hb4 hg4 hs4; clear hs4))
    exact ret_cell_tmp rfl w1.heap.size 43 U _ hb4 rfl Try.underlying43 rfl HIU.out (.int .i64 0) rfl rfl ⟨rfl, HL.out.grown hg4 HL.out.size (fun g e => by injection e with e; omega)⟩
  · have HUN := hide (show U = secL zeroSec by rw [HU.out, if_neg hp])
    have hne : ((S.place d k : Int) != 0) = true := by simp; omega
    have HBZ := hide (show Try.prog.built 43 [] = some U.toArray by rw [HUN.out]; exact sec_none)
    clear hp
    go_enter Try.func18, Try.ntmps18
    go_wp2_with (first
      | (refine wpList_box_blk rfl 33 (.tmp 1) rfl (.agg #[.int .i64 (d : Int), .int .i64 (k : Int)]) rfl ?_; intro w1 hb1q hl1 hs1; clear hs1; have hb1 : Blk w1 w.heap.size 33 [.int .i64 (d : Int), .int .i64 (k : Int)].toArray := hb1q; clear hb1q)
      | (refine wpList_alloc_blk rfl 43 rfl _ (sec_zero w1) ?_; intro w2 hb2 hl2 hs2; clear hs2; have hz1 := hb1.lt; have hb12 := hb1.below hl2 hz1)
      | (refine wpList_load_blk rfl 33 (.tmp 3) rfl w.heap.size 0 33 _ hb12 rfl [.int .i64 (d : Int), .int .i64 (k : Int)] _ (fun j v hj => by rw [Nat.zero_add]; simpa using hj) Try.underlying33 rfl rplace_info ?_)
      | (go_at_call 49; refine (HP.out w2 (HB.out.later (hl1.trans (hl2.mono hl1.size)))).mono ?_; rintro _ w3 ⟨rfl, hl3⟩; have hz2 := hb2.lt; have hl03 : Below w.heap.size w w3 := (hl1.trans (hl2.mono hl1.size)).trans (hl3.mono (by omega)); have hb23 := hb2.below hl3 hz2)
      | (refine wpList_build_is rfl 43 #[] rfl [] (by simp) U.toArray HBZ.out ?_)
      | (refine wpList_store_all rfl 43 (.tmp 4) (.tmp 12) rfl w1.heap.size 43 _ hb23 rfl U rfl HIU.out (HUl.out.trans (secL_length zeroSec).symm) HUO.out ?_; intro w4 hb4 hg4 hs4; clear hs4))
    exact ret_cell_tmp rfl w1.heap.size 43 U _ hb4 rfl Try.underlying43 rfl HIU.out (.int .i64 (S.place d k : Int)) rfl rfl ⟨rfl, hl03.grown hg4 hl03.size (fun g e => by injection e with e; omega)⟩
end
#print axioms rread_any
/-- A sector is flushed, or what is newest in it is lost. -/
def Bank.setl (S : Bank) (keep : Bool) (d k : Nat) : Bank := if keep then { S with flushed := upd2 S.flushed d k (S.newest d k) } else { S with newest := upd2 S.newest d k (S.flushed d k) }
section
variable {w w' : World} {r : Nat} {R : RLay} {S : Bank}
theorem RefIn.flu_set (h : RefIn w r R S) {d k : Nat} (hd : d < S.n) (s : Sec) (hb : Blk w' (R.fl d) 43 (rowS (upd (S.flushed d) k s) (S.size d)).toArray) (hg : w.grownBy w' (some (R.fl d))) : RefIn w' r R { S with flushed := upd2 S.flushed d k s } := by
  have hx := h.flu d hd
  have hne : ∀ {g : Nat} {t : TypeId} {cs : Array Value}, Blk w g t cs → t ≠ 43 → w'.heap[g]? = w.heap[g]? := fun hq ht => hg.block _ hq.lt (fun e => by injection e with e; exact (hq.apart hx ht) e)
  refine { head := h.head.of_block (hne h.head (by decide)), cap := h.cap, row := fun h0 => ?_, loose := ?_, disk := fun i hi => (h.disk i hi).of_block (hne (h.disk i hi) (by decide)), flu := fun i hi => ?_, new := fun i hi => (h.new i hi).grown hg (fun e => by injection e with e; exact h.inj4 d i hd hi e.symm), inj1 := h.inj1, inj2 := h.inj2, inj3 := h.inj3, inj4 := h.inj4 }
  · obtain ⟨cs, hb, h2⟩ := h.row h0
    exact ⟨cs, hb.of_block (hne hb (by decide)), h2⟩
  · refine own_of_block h.loose (fun g hgo => ?_)
    rcases h.loose.2 with ⟨hv, _⟩ | ⟨g', cap, cur, hv, _, hbk, _⟩
    · rw [hv] at hgo
      cases hgo
    · rw [hv] at hgo
      injection hgo with hgo
      subst hgo
      exact hne (show Blk w g' 33 cur from hbk) (by decide)
  · show Blk w' (R.fl i) 43 (rowS (upd2 S.flushed d k s i) (S.size i)).toArray
    by_cases e : i = d
    · subst e
      rw [upd2_col]
      exact hb
    · rw [upd2_row _ _ e]
      exact (h.flu i hi).grown hg (fun e2 => by injection e2 with e2; exact e (h.inj2 i d hi hd e2))
theorem RefIn.new_set (h : RefIn w r R S) {d k : Nat} (hd : d < S.n) (s : Sec) (hb : Blk w' (R.nw d) 43 (rowS (upd (S.newest d) k s) (S.size d)).toArray) (hg : w.grownBy w' (some (R.nw d))) : RefIn w' r R { S with newest := upd2 S.newest d k s } := by
  have hx := h.new d hd
  have hne : ∀ {g : Nat} {t : TypeId} {cs : Array Value}, Blk w g t cs → t ≠ 43 → w'.heap[g]? = w.heap[g]? := fun hq ht => hg.block _ hq.lt (fun e => by injection e with e; exact (hq.apart hx ht) e)
  refine { head := h.head.of_block (hne h.head (by decide)), cap := h.cap, row := fun h0 => ?_, loose := ?_, disk := fun i hi => (h.disk i hi).of_block (hne (h.disk i hi) (by decide)), new := fun i hi => ?_, flu := fun i hi => (h.flu i hi).grown hg (fun e => by injection e with e; exact h.inj4 i d hi hd e), inj1 := h.inj1, inj2 := h.inj2, inj3 := h.inj3, inj4 := h.inj4 }
  · obtain ⟨cs, hb, h2⟩ := h.row h0
    exact ⟨cs, hb.of_block (hne hb (by decide)), h2⟩
  · refine own_of_block h.loose (fun g hgo => ?_)
    rcases h.loose.2 with ⟨hv, _⟩ | ⟨g', cap, cur, hv, _, hbk, _⟩
    · rw [hv] at hgo
      cases hgo
    · rw [hv] at hgo
      injection hgo with hgo
      subst hgo
      exact hne (show Blk w g' 33 cur from hbk) (by decide)
  · show Blk w' (R.nw i) 43 (rowS (upd2 S.newest d k s i) (S.size i)).toArray
    by_cases e : i = d
    · subst e
      rw [upd2_col]
      exact hb
    · rw [upd2_row _ _ e]
      exact (h.new i hi).grown hg (fun e2 => by injection e2 with e2; exact e (h.inj3 i d hi hd e2))
set_option maxRecDepth 100000 in
set_option maxHeartbeats 1000000 in
theorem rsettle_any (h : RefIn w r R S) (d k : Nat) (hd : d < S.n) (hk : k < S.size d) (keep : Bool) :
    Calls Try.prog 67 #[.pointer (some ⟨r, 0, none⟩), .agg #[.int .i64 (d : Int), .int .i64 (k : Int)], .bool keep] w fun e w' => e = .returned (.tuple #[]) ∧ RefIn w' r R (S.setl keep d k) ∧ Turn (fun x => x = R.fl d ∨ x = R.nw d) w w' := by
  have HB := hide h
  clear h
  have hkw : (k : Int) < (S.size d : Int) := by omega
  have hdw : (d : Int) < (S.n : Int) := by omega
  cases keep with
  | true =>
    obtain ⟨U, hU⟩ : ∃ U, U = secL (S.newest d k) := ⟨_, rfl⟩
    have hUl : U.length = 64 := by rw [hU, secL_length]
    have hUo : ∀ v ∈ U, v.oneCell' = true := by rw [hU]; exact secL_one _
    have hiU : (Try.prog.info? 43).map (·.size) = some U.length := by rw [hUl]; exact sec_info
    have HUl := hide hUl
    have HUO := hide hUo
    have HIU := hide hiU
    have HU := hide hU
    clear hUl hUo hiU hU
    go_enter Try.func67, Try.ntmps67
    go_wp2_with (first
      | (refine wpList_box_blk rfl 33 (.tmp 1) rfl (.agg #[.int .i64 (d : Int), .int .i64 (k : Int)]) rfl ?_; intro w1 hb1 hl1 hs1; clear hs1; have hB1 := HB.out.later hl1; have q0 : w1.cell? ⟨w.heap.size, 0, none⟩ = some (.int .i64 (d : Int)) := hb1.cell 0; have q1 : w1.cell? ⟨w.heap.size, 1, none⟩ = some (.int .i64 (k : Int)) := hb1.cell 1; have c0 := hB1.c0; rw [R.ad_pos hd] at c0; have p0 := hB1.p hd; have d0 := hB1.d0 hd; have d1 := hB1.d1 hd; have HB1 := hide hB1; clear hB1))
    go_quiet (fail)
    go_wp2

    obtain ⟨w3, hw3⟩ : ∃ w3, w3 = w1.drewN nq := ⟨_, rfl⟩
    have hl3 : Below w.heap.size w w3 := by rw [hw3]; exact below_drewN hl1 _
    have hB3 : RefIn w3 r R S := by rw [hw3]; exact HB1.out.drewN nq
    rw [← hw3]
    have e1 : w3.drew.cell? ⟨w.heap.size, 1, none⟩ = some (.int .i64 (k : Int)) := by rw [hw3]; exact q1
    have e2 : w3.drew.cell? ⟨R.dk d, 0, none⟩ = some (.slice (some ⟨R.fl d, 0, none⟩) (S.size d) (S.size d)) := by rw [hw3]; exact d0
    have e3 : w3.drew.cell? ⟨R.dk d, 1, none⟩ = some (.slice (some ⟨R.nw d, 0, none⟩) (S.size d) (S.size d)) := by rw [hw3]; exact d1
    have HSC := hide (sec_cells (w := w3.drew) ((hB3.new d hd).drew) hk HU.out)
    have HF := hide (hB3.flu d hd).drew
    have HL3 := hide hl3.drew
    have HB3 := hide hB3.drew
    have hkz : k * 64 + 64 ≤ S.size d * 64 := by omega
    clear hw3 q0 q1 c0 p0 d0 d1 HB1 hl1 hb1 hl3 hB3
    refine wp_region_still_tail 15 (by kernel_rfl) (by kernel_rfl) ?_
    change wpStill _ _ w3.drew _ _ _
    simp only [List.take_succ_cons, List.take_zero, List.drop_succ_cons, List.drop_zero]
    iterate 13 still_step
    refine still_load_at rfl 43 (.tmp 28) rfl ⟨R.nw d, k * 64, none⟩ rfl U _ HSC.out Try.underlying43 rfl HIU.out ?_
    still_step
    refine wpStill_nil ?_
    change wpList _ _ _ _ _ w3.drew
    go_wp2_with (first
      | (refine wpList_store_blk rfl 43 (.tmp 30) (.tmp 29) rfl (R.fl d) (k * 64) 43 _ HF.out rfl U rfl HIU.out (by rw [HUl.out, rowS_size]; exact hkz) HUO.out ?_; intro w4 hb4 hg4 hs4; clear hs4))
    go_end0
    refine ⟨rfl, ?_, (Turn.of_below HL3.out).grown hg4 (fun g e => by injection e with e; exact .inl (.inl e.symm))⟩
    refine HB3.out.flu_set hd (S.newest d k) ?_ hg4
    have h5 := hb4
    rw [HU.out] at h5
    rw [← rowS_put (S.flushed d) (S.newest d k) k (S.size d) hk]
    exact h5
  | false =>
    obtain ⟨U, hU⟩ : ∃ U, U = secL (S.flushed d k) := ⟨_, rfl⟩
    have hUl : U.length = 64 := by rw [hU, secL_length]
    have hUo : ∀ v ∈ U, v.oneCell' = true := by rw [hU]; exact secL_one _
    have hiU : (Try.prog.info? 43).map (·.size) = some U.length := by rw [hUl]; exact sec_info
    have HUl := hide hUl
    have HUO := hide hUo
    have HIU := hide hiU
    have HU := hide hU
    clear hUl hUo hiU hU
    go_enter Try.func67, Try.ntmps67
    go_wp2_with (first
      | (refine wpList_box_blk rfl 33 (.tmp 1) rfl (.agg #[.int .i64 (d : Int), .int .i64 (k : Int)]) rfl ?_; intro w1 hb1 hl1 hs1; clear hs1; have hB1 := HB.out.later hl1; have q0 : w1.cell? ⟨w.heap.size, 0, none⟩ = some (.int .i64 (d : Int)) := hb1.cell 0; have q1 : w1.cell? ⟨w.heap.size, 1, none⟩ = some (.int .i64 (k : Int)) := hb1.cell 1; have c0 := hB1.c0; rw [R.ad_pos hd] at c0; have p0 := hB1.p hd; have d0 := hB1.d0 hd; have d1 := hB1.d1 hd; have HB1 := hide hB1; clear hB1))
    go_quiet (fail)
    go_wp2

    obtain ⟨w3, hw3⟩ : ∃ w3, w3 = w1.drewN nq := ⟨_, rfl⟩
    have hl3 : Below w.heap.size w w3 := by rw [hw3]; exact below_drewN hl1 _
    have hB3 : RefIn w3 r R S := by rw [hw3]; exact HB1.out.drewN nq
    rw [← hw3]
    have e1 : w3.drew.cell? ⟨w.heap.size, 1, none⟩ = some (.int .i64 (k : Int)) := by rw [hw3]; exact q1
    have e2 : w3.drew.cell? ⟨R.dk d, 0, none⟩ = some (.slice (some ⟨R.fl d, 0, none⟩) (S.size d) (S.size d)) := by rw [hw3]; exact d0
    have e3 : w3.drew.cell? ⟨R.dk d, 1, none⟩ = some (.slice (some ⟨R.nw d, 0, none⟩) (S.size d) (S.size d)) := by rw [hw3]; exact d1
    have HSC := hide (sec_cells (w := w3.drew) ((hB3.flu d hd).drew) hk HU.out)
    have HF := hide (hB3.new d hd).drew
    have HL3 := hide hl3.drew
    have HB3 := hide hB3.drew
    have hkz : k * 64 + 64 ≤ S.size d * 64 := by omega
    clear hw3 q0 q1 c0 p0 d0 d1 HB1 hl1 hb1 hl3 hB3
    refine wp_region_still_tail 15 (by kernel_rfl) (by kernel_rfl) ?_
    change wpStill _ _ w3.drew _ _ _
    simp only [List.take_succ_cons, List.take_zero, List.drop_succ_cons, List.drop_zero]
    iterate 13 still_step
    refine still_load_at rfl 43 (.tmp 43) rfl ⟨R.fl d, k * 64, none⟩ rfl U _ HSC.out Try.underlying43 rfl HIU.out ?_
    still_step
    refine wpStill_nil ?_
    change wpList _ _ _ _ _ w3.drew
    go_wp2_with (first
      | (refine wpList_store_blk rfl 43 (.tmp 45) (.tmp 44) rfl (R.nw d) (k * 64) 43 _ HF.out rfl U rfl HIU.out (by rw [HUl.out, rowS_size]; exact hkz) HUO.out ?_; intro w4 hb4 hg4 hs4; clear hs4))
    go_end0
    refine ⟨rfl, ?_, (Turn.of_below HL3.out).grown hg4 (fun g e => by injection e with e; exact .inl (.inr e.symm))⟩
    refine HB3.out.new_set hd (S.flushed d k) ?_ hg4
    have h5 := hb4
    rw [HU.out] at h5
    rw [← rowS_put (S.newest d) (S.flushed d k) k (S.size d) hk]
    exact h5
end
#print axioms rsettle_any
theorem Bank.eq {S T : Bank} (h1 : S.n = T.n) (h2 : S.size = T.size) (h3 : S.dead = T.dead) (h4 : S.flushed = T.flushed) (h5 : S.newest = T.newest) (h6 : S.order = T.order) (h7 : S.down = T.down) (h8 : S.writes = T.writes) (h9 : S.failAt = T.failAt) (h10 : S.armed = T.armed) (h11 : S.mask = T.mask) : S = T := by
  cases S
  cases T
  simp at h1 h2 h3 h4 h5 h6 h7 h8 h9 h10 h11
  subst h1 h2 h3 h4 h5 h6 h7 h8 h9 h10 h11
  rfl
/-- Of these sectors those of disk d are settled. -/
def Bank.sets (S : Bank) (keep : Bool) (d : Nat) (l : List (Nat × Nat)) : Bank := l.foldl (fun T p => if p.1 = d then T.setl keep p.1 p.2 else T) S
theorem sets_snoc (S : Bank) (keep : Bool) (d : Nat) (l : List (Nat × Nat)) (p : Nat × Nat) : S.sets keep d (l ++ [p]) = if p.1 = d then (S.sets keep d l).setl keep p.1 p.2 else S.sets keep d l := by
  unfold Bank.sets
  rw [List.foldl_append]
  rfl
/-- What settling leaves as it was. -/
structure Bank.Alike (S T : Bank) : Prop where
  n : T.n = S.n
  size : T.size = S.size
  dead : T.dead = S.dead
  order : T.order = S.order
  down : T.down = S.down
  writes : T.writes = S.writes
  failAt : T.failAt = S.failAt
  armed : T.armed = S.armed
  mask : T.mask = S.mask
theorem alike_setl (S : Bank) (keep : Bool) (d k : Nat) : S.Alike (S.setl keep d k) := by
  unfold Bank.setl
  cases keep <;> exact ⟨rfl, rfl, rfl, rfl, rfl, rfl, rfl, rfl, rfl⟩
theorem Bank.Alike.refl (S : Bank) : S.Alike S := ⟨rfl, rfl, rfl, rfl, rfl, rfl, rfl, rfl, rfl⟩
theorem Bank.Alike.trans {S T U : Bank} (h : S.Alike T) (k : T.Alike U) : S.Alike U :=
  ⟨k.n.trans h.n, k.size.trans h.size, k.dead.trans h.dead, k.order.trans h.order, k.down.trans h.down, k.writes.trans h.writes, k.failAt.trans h.failAt, k.armed.trans h.armed, k.mask.trans h.mask⟩
theorem alike_sets (keep : Bool) (d : Nat) : ∀ (l : List (Nat × Nat)) (S : Bank), S.Alike (S.sets keep d l)
  | [], S => Bank.Alike.refl S
  | p :: l, S => by
    show S.Alike ((if p.1 = d then S.setl keep p.1 p.2 else S).sets keep d l)
    split
    · exact (alike_setl S keep p.1 p.2).trans (alike_sets keep d l _)
    · exact alike_sets keep d l S
theorem sets_flu (d : Nat) : ∀ (l : List (Nat × Nat)) (S : Bank), (S.sets true d l).newest = S.newest ∧ ∀ i j, (S.sets true d l).flushed i j = if i = d ∧ (i, j) ∈ l then S.newest i j else S.flushed i j
  | [], S => ⟨rfl, fun i j => by rw [if_neg (by simp)]; rfl⟩
  | p :: l, S => by
    show ((if p.1 = d then S.setl true p.1 p.2 else S).sets true d l).newest = S.newest ∧ ∀ i j, ((if p.1 = d then S.setl true p.1 p.2 else S).sets true d l).flushed i j = _
    obtain ⟨p1, p2⟩ := p
    by_cases hp : p1 = d
    · subst hp
      rw [if_pos rfl]
      obtain ⟨h1, h2⟩ := sets_flu p1 l (S.setl true p1 p2)
      refine ⟨h1, fun i j => ?_⟩
      rw [h2]
      show (if i = p1 ∧ (i, j) ∈ l then S.newest i j else upd2 S.flushed p1 p2 (S.newest p1 p2) i j) = _
      by_cases e1 : i = p1
      · subst e1
        by_cases e2 : j = p2
        · subst e2
          rw [upd2_self, if_pos (c := i = i ∧ (i, j) ∈ (i, j) :: l) ⟨rfl, List.mem_cons_self⟩]
          split <;> rfl
        · rw [upd2_ne _ _ (fun h => e2 h.2)]
          by_cases e3 : (i, j) ∈ l
          · rw [if_pos ⟨rfl, e3⟩, if_pos ⟨rfl, List.mem_cons_of_mem _ e3⟩]
          · rw [if_neg (fun h => e3 h.2), if_neg (fun h => by rcases List.mem_cons.1 h.2 with h | h; · injection h with _ h; exact e2 h
                                                              · exact e3 h)]
      · rw [if_neg (fun h => e1 h.1), if_neg (fun h => e1 h.1), upd2_ne _ _ (fun h => e1 h.1)]
    · rw [if_neg hp]
      obtain ⟨h1, h2⟩ := sets_flu d l S
      refine ⟨h1, fun i j => ?_⟩
      rw [h2]
      by_cases e1 : i = d
      · subst e1
        have : ((i, j) ∈ (p1, p2) :: l) ↔ (i, j) ∈ l := ⟨fun h => by rcases List.mem_cons.1 h with h | h; · injection h with h; exact absurd h.symm hp
                                                                     · exact h, List.mem_cons_of_mem _⟩
        simp only [this]
      · rw [if_neg (fun h => e1 h.1), if_neg (fun h => e1 h.1)]
theorem sets_new (d : Nat) : ∀ (l : List (Nat × Nat)) (S : Bank), (S.sets false d l).flushed = S.flushed ∧ ∀ i j, (S.sets false d l).newest i j = if i = d ∧ (i, j) ∈ l then S.flushed i j else S.newest i j
  | [], S => ⟨rfl, fun i j => by rw [if_neg (by simp)]; rfl⟩
  | p :: l, S => by
    show ((if p.1 = d then S.setl false p.1 p.2 else S).sets false d l).flushed = S.flushed ∧ ∀ i j, ((if p.1 = d then S.setl false p.1 p.2 else S).sets false d l).newest i j = _
    obtain ⟨p1, p2⟩ := p
    by_cases hp : p1 = d
    · subst hp
      rw [if_pos rfl]
      obtain ⟨h1, h2⟩ := sets_new p1 l (S.setl false p1 p2)
      refine ⟨h1, fun i j => ?_⟩
      rw [h2]
      show (if i = p1 ∧ (i, j) ∈ l then S.flushed i j else upd2 S.newest p1 p2 (S.flushed p1 p2) i j) = _
      by_cases e1 : i = p1
      · subst e1
        by_cases e2 : j = p2
        · subst e2
          rw [upd2_self, if_pos (c := i = i ∧ (i, j) ∈ (i, j) :: l) ⟨rfl, List.mem_cons_self⟩]
          split <;> rfl
        · rw [upd2_ne _ _ (fun h => e2 h.2)]
          by_cases e3 : (i, j) ∈ l
          · rw [if_pos ⟨rfl, e3⟩, if_pos ⟨rfl, List.mem_cons_of_mem _ e3⟩]
          · rw [if_neg (fun h => e3 h.2), if_neg (fun h => by rcases List.mem_cons.1 h.2 with h | h; · injection h with _ h; exact e2 h
                                                              · exact e3 h)]
      · rw [if_neg (fun h => e1 h.1), if_neg (fun h => e1 h.1), upd2_ne _ _ (fun h => e1 h.1)]
    · rw [if_neg hp]
      obtain ⟨h1, h2⟩ := sets_new d l S
      refine ⟨h1, fun i j => ?_⟩
      rw [h2]
      by_cases e1 : i = d
      · subst e1
        have : ((i, j) ∈ (p1, p2) :: l) ↔ (i, j) ∈ l := ⟨fun h => by rcases List.mem_cons.1 h with h | h; · injection h with h; exact absurd h.symm hp
                                                                     · exact h, List.mem_cons_of_mem _⟩
        simp only [this]
      · rw [if_neg (fun h => e1 h.1), if_neg (fun h => e1 h.1)]
def restOf (d : Nat) (l : List (Nat × Nat)) : List (Nat × Nat) := l.filter fun p => p.1 != d
theorem rest_snoc_ne {d : Nat} {l : List (Nat × Nat)} {p : Nat × Nat} (h : p.1 ≠ d) : restOf d (l ++ [p]) = restOf d l ++ [p] := by
  unfold restOf
  rw [List.filter_append]
  simp [h]
theorem rest_snoc_eq {d : Nat} {l : List (Nat × Nat)} {p : Nat × Nat} (h : p.1 = d) : restOf d (l ++ [p]) = restOf d l := by
  unfold restOf
  rw [List.filter_append]
  simp [h]
/-- The bank behind 'settled'. -/
def Bank.settled (S : Bank) (keep : Bool) (d : Nat) : Bank := { S.sets keep d S.order with order := restOf d S.order }
theorem settled_flush {S : Bank} (hok : ∀ d k, (d, k) ∉ S.order → S.newest d k = S.flushed d k) (d : Nat) : S.settled true d = S.flush d := by
  obtain ⟨h1, h2⟩ := sets_flu d S.order S
  have ha := alike_sets true d S.order S
  have hf : (S.sets true d S.order).flushed = upd S.flushed d (S.newest d) := by
    funext i j
    rw [h2]
    by_cases e : i = d
    · subst e
      rw [upd_self]
      by_cases hm : (i, j) ∈ S.order
      · rw [if_pos ⟨rfl, hm⟩]
      · rw [if_neg (fun h => hm h.2), hok i j hm]
    · rw [if_neg (fun h => e h.1), upd_ne _ _ e]
  exact Bank.eq ha.n ha.size ha.dead hf h1 rfl ha.down ha.writes ha.failAt ha.armed ha.mask
theorem settled_fail {S : Bank} (hok : ∀ d k, (d, k) ∉ S.order → S.newest d k = S.flushed d k) (d : Nat) : ({ S with dead := upd S.dead d true } : Bank).settled false d = S.fail d := by
  obtain ⟨h1, h2⟩ := sets_new d S.order { S with dead := upd S.dead d true }
  have ha := alike_sets false d S.order { S with dead := upd S.dead d true }
  have hf : (({ S with dead := upd S.dead d true } : Bank).sets false d S.order).newest = upd S.newest d (S.flushed d) := by
    funext i j
    rw [h2]
    show (if i = d ∧ (i, j) ∈ S.order then S.flushed i j else S.newest i j) = _
    by_cases e : i = d
    · subst e
      rw [upd_self]
      by_cases hm : (i, j) ∈ S.order
      · rw [if_pos ⟨rfl, hm⟩]
      · rw [if_neg (fun h => hm h.2), hok i j hm]
    · rw [if_neg (fun h => e h.1), upd_ne _ _ e]
  exact Bank.eq ha.n ha.size ha.dead h1 hf rfl ha.down ha.writes ha.failAt ha.armed ha.mask
theorem take_snoc {l : List (Nat × Nat)} {i : Nat} {p : Nat × Nat} (h : l[i]? = some p) : l.take (i + 1) = l.take i ++ [p] := by
  obtain ⟨hi, hp⟩ := List.getElem?_eq_some_iff.1 h
  rw [List.take_add_one, h]
  rfl
section
variable {w w' : World} {r : Nat} {R : RLay} {S : Bank}
/-- The row of loose ones, by its cells. -/
theorem RefIn.loose_at (h : RefIn w r R S) {i : Nat} {p : Nat × Nat} (hp : S.order[i]? = some p) : ∃ g, R.la = some ⟨g, 0, none⟩ ∧ w.cell? ⟨g, i * 2, none⟩ = some (.int .i64 (p.1 : Int)) ∧ w.cell? ⟨g, i * 2 + 1, none⟩ = some (.int .i64 (p.2 : Int)) := by
  obtain ⟨hi, _⟩ := List.getElem?_eq_some_iff.1 hp
  rcases h.loose.2 with ⟨_, hx⟩ | ⟨g, cap, cur, hv, _⟩
  · omega
  · injection hv with hv _ _
    have hc := h.loose.cells (g := g) (by rw [hv]; rfl)
    have e : ∀ j : Nat, (⟨g, 0, none⟩ : Addr).add j = ⟨g, j, none⟩ := fun j => by unfold Addr.add; split <;> simp_all
    refine ⟨g, hv, ?_, ?_⟩
    · rw [← e]
      exact hc _ _ ((flatP_at S.order i 0 p hp (by decide)).trans rfl)
    · rw [← e]
      exact hc _ _ ((flatP_at S.order i 1 p hp (by decide)).trans rfl)
/-- The row of loose ones is another one. -/
theorem RefIn.loose_set {T : Bank} (h : RefIn w r R S) {A : Option Addr} {c : Nat} (hT : S.n = T.n ∧ S.size = T.size ∧ S.dead = T.dead ∧ S.flushed = T.flushed ∧ S.newest = T.newest ∧ S.failAt = T.failAt ∧ S.down = T.down ∧ S.writes = T.writes ∧ S.armed = T.armed ∧ S.mask = T.mask)
    (hl : w.ownsRow 0 33 2 (.slice A T.order.length c) T.order.length (flatP T.order)) : RefIn (w.setCell ⟨r, 1, none⟩ (.slice A T.order.length c)) r { R with la := A, lc := c } T := by
  obtain ⟨t1, t2, t3, t4, t5, t6, t7, t8, t9, t10⟩ := hT
  have hne : ∀ {g : Nat} {t : TypeId} {cs : Array Value}, Blk w g t cs → t ≠ 41 → Blk (w.setCell ⟨r, 1, none⟩ (.slice A T.order.length c)) g t cs := fun hq ht => hq.far (hq.apart h.head ht) _
  refine { head := ?_, cap := by rw [← t1]; exact h.cap, row := fun h0 => ?_, loose := ?_, disk := fun i hi => ?_, flu := fun i hi => ?_, new := fun i hi => ?_, inj1 := fun i j hi hj => h.inj1 i j (by rw [t1]; exact hi) (by rw [t1]; exact hj), inj2 := fun i j hi hj => h.inj2 i j (by rw [t1]; exact hi) (by rw [t1]; exact hj), inj3 := fun i j hi hj => h.inj3 i j (by rw [t1]; exact hi) (by rw [t1]; exact hj), inj4 := fun i j hi hj => h.inj4 i j (by rw [t1]; exact hi) (by rw [t1]; exact hj) }
  · have h2 := h.head.set_ 1 (.slice A T.order.length c)
    rw [t1, t7, t8, t9, t10] at h2
    exact h2
  · obtain ⟨cs, hb, h2⟩ := h.row (by rw [t1]; exact h0)
    rw [t1] at h2
    exact ⟨cs, hne hb (by decide), h2⟩
  · refine own_of_block hl (fun g hg => ?_)
    rcases hl.2 with ⟨hv, _⟩ | ⟨g', cap, cur, hv, _, hbk, _⟩
    · rw [hv] at hg
      cases hg
    · rw [hv] at hg
      injection hg with hg
      subst hg
      exact Below.heap_setCell _ _ _ _ ((show Blk w g' 33 cur from hbk).apart h.head (by decide))
  · have h2 := h.disk i (by rw [t1]; exact hi)
    rw [t2, t3, t6] at h2
    exact hne h2 (by decide)
  · have h2 := h.flu i (by rw [t1]; exact hi)
    rw [t2, t4] at h2
    exact hne h2 (by decide)
  · have h2 := h.new i (by rw [t1]; exact hi)
    rw [t2, t5] at h2
    exact hne h2 (by decide)
end
section
variable {w w' : World} {r : Nat} {R : RLay} {S : Bank}
/-- .. as cells behind an address. -/
theorem RefIn.loose_cells (h : RefIn w r R S) {i : Nat} {p : Nat × Nat} (hp : S.order[i]? = some p) : ∃ g, R.la = some ⟨g, 0, none⟩ ∧ ∀ (j : Nat) (v : Value), (placeL p)[j]? = some v → w.cell? ((⟨g, i * 2, none⟩ : Addr).add j) = some v := by
  obtain ⟨g, h1, h2, h3⟩ := h.loose_at hp
  refine ⟨g, h1, fun j v hj => ?_⟩
  have e : (⟨g, i * 2, none⟩ : Addr).add j = ⟨g, i * 2 + j, none⟩ := by unfold Addr.add; split <;> simp_all
  rw [e]
  match j, hj with
  | 0, hj => exact h2.trans (by simpa [placeL] using hj)
  | 1, hj => exact h3.trans (by simpa [placeL] using hj)
  | j + 2, hj => simp [placeL] at hj
set_option maxRecDepth 100000 in
set_option maxHeartbeats 2000000 in
theorem rsettled_any (h : RefIn w r R S) (hnd : S.order.Nodup) (hq : ∀ ps : List (Nat × Nat), ps.Nodup → (∀ p ∈ ps, p ∈ S.order) → ps.length ≤ 131072) (hloose : ∀ p ∈ S.order, p.1 < S.n ∧ p.2 < S.size p.1) (d : Nat) (keep : Bool) :
    Calls Try.prog 66 #[.pointer (some ⟨r, 0, none⟩), .int .i64 (d : Int), .bool keep] w fun e w' => e = .returned (.tuple #[]) ∧ ∃ A c, RefIn w' r { R with la := A, lc := c } (S.settled keep d) ∧ (∀ g, (Value.slice A (restOf d S.order).length c).ownBlock = some g → w.heap.size ≤ g) ∧ Turn (fun x => x = r ∨ (d < S.n ∧ (x = R.fl d ∨ x = R.nw d))) w w' := by
  obtain ⟨pi, hi0, hz0, hz1, hz2⟩ := place_info
  have HI0 := hide hi0
  have HZ0 := hide hz0
  have HZ1 := hide hz1
  have HZ2 := hide hz2
  have HZP := hide place_zero
  have HB := hide h
  have HND := hide hnd
  have HOQ := hide hq
  have HLO := hide hloose
  have hlen := hide (hq S.order hnd (fun _ hp => hp))
  clear h hnd hq hloose hi0 hz0 hz1 hz2
  have hrlt := HB.out.head.lt
  go_enter Try.func66, Try.ntmps66
  go_wp2_with fail
  go_loopw [6, 7, 8] (fun s6 s7 _ wr => ∃ (i : Nat) (A : Option Addr) (c : Nat), s7 = .int .i64 (i : Int) ∧ i ≤ S.order.length ∧ s6 = .slice A (restOf d (S.order.take i)).length c ∧ Hid (wr.ownsRow w.heap.size 33 2 (.slice A (restOf d (S.order.take i)).length c) (restOf d (S.order.take i)).length (flatP (restOf d (S.order.take i)))) ∧ Hid (RefIn wr r R (S.sets keep d (S.order.take i))) ∧ Hid (Turn (fun x => d < S.n ∧ (x = R.fl d ∨ x = R.nw d)) w wr)) (fun _ s7 _ _ => S.order.length - (intOf s7).toNat)
  case atStart =>
    refine ⟨0, _, _, rfl, Nat.zero_le _, rfl, ?_, HB.out.later ((Below.refl _ _).alloc (Nat.le_refl _) _), Turn.of_below ((Below.refl _ _).alloc (Nat.le_refl _) _)⟩
    exact World.ownsRow_made w #[] 0 (Nat.le_refl _) (Nat.zero_le _) rfl
  case round =>
    obtain ⟨i, A, c, rfl, hi, rfl, hrow, hB, hT⟩ := hrel
    obtain ⟨wo, rfl⟩ : ∃ wo, wo = wr := ⟨_, rfl⟩
    have ha := alike_sets keep d (S.order.take i) S
    have c1 := hB.out.c1
    rw [ha.order] at c1
    have hszo := hT.out.size
    have hrw0 := hB.out.head.lt
    have hlen2 := hlen.out
    by_cases hil : i < S.order.length
    · have hg1 : (i : Int) < (S.order.length : Int) := by omega
      obtain ⟨p, hp⟩ : ∃ p, S.order[i]? = some p := ⟨_, List.getElem?_eq_getElem hil⟩
      have hpT : (S.sets keep d (S.order.take i)).order[i]? = some p := by rw [ha.order]; exact hp
      obtain ⟨g, hla, hcs⟩ := hB.out.loose_cells hpT
      rw [hla] at c1
      obtain ⟨hp1, hp2⟩ := HLO.out p (List.mem_of_getElem? hp)
      have HPL := hide hcs
      have HTK := hide (take_snoc hp)
      have hsub : ∀ q ∈ restOf d (S.order.take (i + 1)), q ∈ S.order := fun q hq => List.mem_of_mem_take (List.mem_filter.1 hq).1
      have hql := HOQ.out (restOf d (S.order.take (i + 1))) ((HND.out.sublist (List.take_sublist _ _)).filter _) hsub
      have HQL := hide hql
      clear hcs hpT hp hsub hql ha
      by_cases hpd : p.1 = d
      · have hc1 : ((p.1 : Int) != (d : Int)) = false := by simp; omega
        have HR1 := hide (show restOf d (S.order.take (i + 1)) = restOf d (S.order.take i) by rw [HTK.out]; exact rest_snoc_eq hpd)
        have HS1 := hide (show S.sets keep d (S.order.take (i + 1)) = (S.sets keep d (S.order.take i)).setl keep p.1 p.2 by rw [HTK.out, sets_snoc, if_pos hpd])
        have hal := alike_sets keep d (S.order.take i) S
        have HSE := hide (fun w1 (h1 : RefIn w1 r R (S.sets keep d (S.order.take i))) => rsettle_any h1 p.1 p.2 (by rw [hal.n]; exact hp1) (by rw [hal.size]; exact hp2) keep)
        have hdn : d < S.n := by omega
        have HPD := hide hpd
        clear hal
        go_wp2_with (first
          | (refine wpList_load_at rfl 33 (.tmp 24) rfl ⟨g, i * 2, none⟩ rfl (placeL p) _ HPL.out Try.underlying33 rfl rplace_info ?_)
          | (refine wpList_alloc_blk rfl 33 rfl _ (place_zero wo) ?_; intro w1 hb1 hl1 hs1; clear hs1)
          | (refine wpList_store_all rfl 33 (.tmp 8) (.tmp 25) rfl wo.heap.size 33 _ hb1 rfl (placeL p) rfl rplace_info rfl (placeL_one _) ?_; intro w2 hb2 hg2 hs2; clear hs2; have q0 : w2.cell? ⟨wo.heap.size, 0, none⟩ = some (.int .i64 (p.1 : Int)) := hb2.cell 0)
          | (refine wpList_load_blk rfl 33 (.tmp 8) rfl wo.heap.size 0 33 _ hb2 rfl (placeL p) _ (fun j v hj => by rw [Nat.zero_add]; simpa using hj) Try.underlying33 rfl rplace_info ?_))
        have hl02 : Below wo.heap.size wo w2 := hl1.grown hg2 (by have := hl1.size; omega) (fun g e => by injection e with e; omega)
        refine (HSE.out w2 (hB.out.later hl02)).mono ?_
        rintro _ w3 ⟨rfl, hB3, hT3⟩
        have hrow3 : w3.ownsRow w.heap.size 33 2 (.slice A (restOf d (S.order.take i)).length c) (restOf d (S.order.take i)).length (flatP (restOf d (S.order.take i))) := by
          refine own_of_block (own_later hrow.out hl02) (fun g hg => hT3.block g ?_ (fun hf => ?_))
          · have := (hrow.out.lt g hg).2
            have := hl02.size
            omega
          · have h1 := (hrow.out.lt g hg).1
            have h2 := HB.out.foot_lt _ (.inr (.inr (.inr ⟨d, hdn, .inr (.inl rfl)⟩)))
            have h3 := HB.out.foot_lt _ (.inr (.inr (.inr ⟨d, hdn, .inr (.inr rfl)⟩)))
            rw [HPD.out] at hf
            rcases hf with rfl | rfl <;> omega
        have HROW3 := hide hrow3
        have HB3 := hide hB3
        have HT3 : Hid (Turn (fun x => d < S.n ∧ (x = R.fl d ∨ x = R.nw d)) w w3) := (hT.out.below hl02).trans (hT3.wider (fun x hx => ⟨hdn, by rw [← HPD.out]; exact hx⟩))
        clear hrow3 hB3 hT3 hl02 hg2 hl1 hb1 hb2 q0
        go_wp2_with fail
        go_roundw
        case rel => exact ⟨i + 1, A, c, by go_num, by omega, by rw [HR1.out], by rw [HR1.out]; exact HROW3, by rw [HS1.out]; exact HB3, HT3⟩
        case measure => simp [intOf]; omega
      · have hc1 : ((p.1 : Int) != (d : Int)) = true := by simp; omega
        have HR1 := hide (show restOf d (S.order.take (i + 1)) = restOf d (S.order.take i) ++ [p] by rw [HTK.out]; exact rest_snoc_ne hpd)
        have HS1 := hide (show S.sets keep d (S.order.take (i + 1)) = S.sets keep d (S.order.take i) by rw [HTK.out, sets_snoc, if_neg hpd])
        have hq := HQL.out
        rw [HR1.out, List.length_append, List.length_singleton] at hq
        have HQ := hide (show (restOf d (S.order.take i)).length + 1 ≤ maxLen ∧ ((restOf d (S.order.take i)).length + 1) * 16 ≤ 140737488355328 from ⟨by simp only [maxLen]; omega, by omega⟩)
        clear hq hpd
        go_wp2_with (first
          | (refine wpList_load_at rfl 33 (.tmp 24) rfl ⟨g, i * 2, none⟩ rfl (placeL p) _ HPL.out Try.underlying33 rfl rplace_info ?_)
          | (refine wpList_alloc_blk rfl 33 rfl _ (place_zero wo) ?_; intro w1 hb1 hl1 hs1; clear hs1)
          | (refine wpList_store_all rfl 33 (.tmp 8) (.tmp 25) rfl wo.heap.size 33 _ hb1 rfl (placeL p) rfl rplace_info rfl (placeL_one _) ?_; intro w2 hb2 hg2 hs2; clear hs2; have q0 : w2.cell? ⟨wo.heap.size, 0, none⟩ = some (.int .i64 (p.1 : Int)) := hb2.cell 0; have hl02 : Below wo.heap.size wo w2 := hl1.grown hg2 (by have := hl1.size; omega) (fun g e => by injection e with e; omega); have hrow2 := own_later hrow.out hl02; have hsz2 : w.heap.size ≤ w2.heap.size := Nat.le_trans hszo hl02.size; have HLUMP := hide (Reads.lump (w := w2) (placeL p) 33 (w2.heap.size + 1) 2 (by omega) rfl))
          | (refine wpList_load_blk rfl 33 (.tmp 8) rfl wo.heap.size 0 33 _ hb2 rfl (placeL p) _ (fun j v hj => by rw [Nat.zero_add]; simpa using hj) Try.underlying33 rfl rplace_info ?_)
          | (refine wpList_build_agg w2 rfl (.tmp 31) 39 rfl 33 pi _ 2 Try.underlying39 HI0.out (HZP.out _) HZ1.out (by decide) (by decide) (placeL p).toArray rfl rfl ?_)
          | (refine wpList_append_row rfl (.tmp 30) (.tmp 32) 39 rfl w.heap.size 33 pi _ 2 16 Try.underlying39 HI0.out HZ0.out HZ1.out HZ2.out rfl (by decide) _ _ _ rfl (hrow2.alloc _) (w2.heap.size + 1) (some ⟨w2.heap.size, 0, none⟩) 1 1 (placeL p) rfl HLUMP.out (placeL_one _) HQ.out.1 HQ.out.2 (le_alloc hsz2 _) ?_; intro v5 w5 hown5 hg5))
        obtain ⟨A5, c5, rfl, _, _⟩ := own_shape hown5
        have hl25 : Below wo.heap.size wo (w2.alloc (.cells (placeL p).toArray 33)) := hl02.alloc hl02.size _
        have hk : ∀ x, x < wo.heap.size → x < w.heap.size ∨ x = r ∨ RFoot r R (S.sets keep d (S.order.take i)) x → some x ≠ (Value.slice A (restOf d (S.order.take i)).length c).ownBlock → w5.heap[x]? = wo.heap[x]? := fun x hx _ hne => (hg5.block x (by have := hl25.size; omega) hne).trans (hl25.block x hx)
        have hnr : ∀ x, x < w.heap.size → some x ≠ (Value.slice A (restOf d (S.order.take i)).length c).ownBlock := fun x hx e => by have := (hrow.out.lt x e.symm).1; omega
        have hrf : ∀ x, RFoot r R (S.sets keep d (S.order.take i)) x → x < w.heap.size := fun x hx => by
          have hal := alike_sets keep d (S.order.take i) S
          refine HB.out.foot_lt x ?_
          unfold RFoot at hx ⊢
          rw [hal.n, hal.order] at hx
          exact hx
        have HB5 : Hid (RefIn w5 r R (S.sets keep d (S.order.take i))) := hB.out.kept (fun x hx => hk x (hB.out.foot_lt x hx) (.inr (.inr hx)) (hnr x (hrf x hx)))
        have HT5 : Hid (Turn (fun x => d < S.n ∧ (x = R.fl d ∨ x = R.nw d)) w w5) := (hT.out.below hl25).grown hg5 (fun g hg => .inr (hrow.out.lt g hg.symm.symm).1)
        have HROW5 : Hid (w5.ownsRow w.heap.size 33 2 (.slice A5 ((restOf d (S.order.take i)).length + 1) c5) ((restOf d (S.order.take i)).length + 1) (flatP (restOf d (S.order.take i)) ++ placeL p)) := hown5
        have HLN := hide (show (restOf d (S.order.take (i + 1))).length = (restOf d (S.order.take i)).length + 1 by rw [HR1.out, List.length_append, List.length_singleton])
        have HFL := hide (show flatP (restOf d (S.order.take (i + 1))) = flatP (restOf d (S.order.take i)) ++ placeL p by rw [HR1.out, flatP_append]; simp [flatP])
        clear hown5 hg5 hk hnr hrf hl25 hl02 hg2 hl1 hb1 hb2 q0 hrow2
        go_roundw
        case rel => exact ⟨i + 1, A5, c5, by go_num, by omega, by rw [HLN.out], by rw [HLN.out, HFL.out]; exact HROW5, by rw [HS1.out]; exact HB5, HT5⟩
        case measure => simp [intOf]; omega
    · obtain rfl : i = S.order.length := by omega
      have hnl : ¬ ((S.order.length : Int) < (S.order.length : Int)) := by omega
      rw [List.take_length] at hrow hB
      rw [List.take_length]
      have f1 := hB.out.head.frozen 1
      go_wp2_with fail
      go_end0
      have hal := alike_sets keep d S.order S
      refine ⟨rfl, A, c, ?_, fun g hg => (hrow.out.lt g hg).1, (hT.out.wider (fun x hx => .inr hx)).set ⟨r, 1, none⟩ (.inl (.inl rfl)) _⟩
      exact hB.out.loose_set (T := S.settled keep d) ⟨rfl, rfl, rfl, rfl, rfl, rfl, rfl, rfl, rfl, rfl⟩ ⟨hrow.out.1, hrow.out.2.imp id (fun ⟨g, cap, cur, a1, _, a3⟩ => ⟨g, cap, cur, a1, Nat.zero_le _, a3⟩)⟩
end
#print axioms rsettled_any
/-- Block r is the reference's bank S, all of which lies in the blocks of G. -/
def RefOn (w : World) (r : Nat) (G : Nat → Prop) (S : Bank) : Prop := (∀ x, G x → x < w.heap.size) ∧ S.Ok ∧ ∃ R, RefIn w r R S ∧ ∀ x, RFoot r R S x → G x
/-- .. and new ones. -/
abbrev More (G : Nat → Prop) (w w' : World) : Nat → Prop := fun x => G x ∨ (w.heap.size ≤ x ∧ x < w'.heap.size)
section
variable {w w' : World} {r : Nat} {R : RLay} {S : Bank} {G : Nat → Prop}
theorem RefOn.kept {F : Nat → Prop} (h : RefOn w r G S) (hu : Turn F w w') (ha : ∀ x, G x → ¬ F x) : RefOn w' r G S := by
  obtain ⟨h1, h2, R, h3, h4⟩ := h
  exact ⟨fun x hx => Nat.lt_of_lt_of_le (h1 x hx) hu.size, h2, R, h3.kept fun x hx => hu.block x (h3.foot_lt x hx) (ha x (h4 x hx)), h4⟩
theorem RefOn.later (h : RefOn w r G S) (hb : Below w.heap.size w w') : RefOn w' r G S := by
  obtain ⟨h1, h2, R, h3, h4⟩ := h
  exact ⟨fun x hx => Nat.lt_of_lt_of_le (h1 x hx) hb.size, h2, R, h3.later hb, h4⟩
theorem RefOn.grown {row : Option Nat} (h : RefOn w r G S) (hg : w.grownBy w' row) (hr : ∀ g, row = some g → ¬ G g) : RefOn w' r G S := by
  obtain ⟨h1, h2, R, h3, h4⟩ := h
  exact ⟨fun x hx => Nat.lt_of_lt_of_le (h1 x hx) hg.size, h2, R, h3.kept fun x hx => hg.block x (h3.foot_lt x hx) (fun e => hr x e.symm (h4 x hx)), h4⟩
theorem RefOn.ok (h : RefOn w r G S) : S.Ok := h.2.1
theorem RefOn.wider {G' : Nat → Prop} (h : RefOn w r G S) (hG : ∀ x, G x → G' x) (hl : ∀ x, G' x → x < w.heap.size) : RefOn w r G' S := by
  obtain ⟨h1, h2, R, h3, h4⟩ := h
  exact ⟨hl, h2, R, h3, fun x hx => hG x (h4 x hx)⟩
/-- The bank's own row turned, but for the row of disks and the loose ones. -/
theorem RefIn.head_set (h : RefIn w r R S) (down : Bool) (writes armed mask : Nat) (hb : Blk w' r 41 #[.slice (R.ad S.n) S.n R.cap, .slice R.la S.order.length R.lc, .bool down, .int .i64 (writes : Int), .int .i64 (armed : Int), .int .u64 (mask : Int)]) (hk : ∀ x, x ≠ r → w'.heap[x]? = w.heap[x]?) : RefIn w' r R { S with down := down, writes := writes, armed := armed, mask := mask } := by
  have hne : ∀ {g : Nat} {t : TypeId} {cs : Array Value}, Blk w g t cs → t ≠ 41 → w'.heap[g]? = w.heap[g]? := fun hq ht => hk _ (hq.apart h.head ht)
  refine { head := hb, cap := h.cap, row := fun h0 => ?_, loose := ?_, disk := fun i hi => (h.disk i hi).of_block (hne (h.disk i hi) (by decide)), flu := fun i hi => (h.flu i hi).of_block (hne (h.flu i hi) (by decide)), new := fun i hi => (h.new i hi).of_block (hne (h.new i hi) (by decide)), inj1 := h.inj1, inj2 := h.inj2, inj3 := h.inj3, inj4 := h.inj4 }
  · obtain ⟨cs, hbr, h2⟩ := h.row h0
    exact ⟨cs, hbr.of_block (hne hbr (by decide)), h2⟩
  · refine own_of_block h.loose (fun g hg => ?_)
    rcases h.loose.2 with ⟨hv, _⟩ | ⟨g', cap, cur, hv, _, hbk, _⟩
    · rw [hv] at hg
      cases hg
    · rw [hv] at hg
      injection hg with hg
      subst hg
      exact hne (show Blk w g' 33 cur from hbk) (by decide)
/-- A disk's own row turned. -/
theorem RefIn.disk_set (h : RefIn w r R S) {d : Nat} (hd : d < S.n) (dead : Bool) (fa : Nat) (hb : Blk w' (R.dk d) 75 #[.slice (some ⟨R.fl d, 0, none⟩) (S.size d) (S.size d), .slice (some ⟨R.nw d, 0, none⟩) (S.size d) (S.size d), .bool dead, .int .i64 (fa : Int)]) (hk : ∀ x, x ≠ R.dk d → w'.heap[x]? = w.heap[x]?) : RefIn w' r R { S with dead := upd S.dead d dead, failAt := upd S.failAt d fa } := by
  have hx := h.disk d hd
  have hne : ∀ {g : Nat} {t : TypeId} {cs : Array Value}, Blk w g t cs → t ≠ 75 → w'.heap[g]? = w.heap[g]? := fun hq ht => hk _ (hq.apart hx ht)
  refine { head := h.head.of_block (hne h.head (by decide)), cap := h.cap, row := fun h0 => ?_, loose := ?_, disk := fun i hi => ?_, flu := fun i hi => (h.flu i hi).of_block (hne (h.flu i hi) (by decide)), new := fun i hi => (h.new i hi).of_block (hne (h.new i hi) (by decide)), inj1 := h.inj1, inj2 := h.inj2, inj3 := h.inj3, inj4 := h.inj4 }
  · obtain ⟨cs, hbr, h2⟩ := h.row h0
    exact ⟨cs, hbr.of_block (hne hbr (by decide)), h2⟩
  · refine own_of_block h.loose (fun g hg => ?_)
    rcases h.loose.2 with ⟨hv, _⟩ | ⟨g', cap, cur, hv, _, hbk, _⟩
    · rw [hv] at hg
      cases hg
    · rw [hv] at hg
      injection hg with hg
      subst hg
      exact hne (show Blk w g' 33 cur from hbk) (by decide)
  · show Blk w' (R.dk i) 75 #[.slice (some ⟨R.fl i, 0, none⟩) (S.size i) (S.size i), .slice (some ⟨R.nw i, 0, none⟩) (S.size i) (S.size i), .bool (upd S.dead d dead i), .int .i64 ((upd S.failAt d fa i : Nat) : Int)]
    by_cases e : i = d
    · subst e
      rw [upd_self, upd_self]
      exact hb
    · rw [upd_ne _ _ e, upd_ne _ _ e]
      exact (h.disk i hi).of_block (hk _ (fun e2 => e (h.inj1 i d hi hd e2)))
theorem upd_same {α : Type} (f : Nat → α) (d : Nat) : upd f d (f d) = f := by
  funext i
  by_cases e : i = d
  · subst e; rw [upd_self]
  · rw [upd_ne _ _ e]
/-- What 'settled' leaves, over a set of blocks. -/
theorem settled_on {T : Bank} {A : Option Addr} {c d : Nat} {keep : Bool} (hG : ∀ x, RFoot r R S x → G x) (hl : ∀ x, G x → x < w.heap.size) (hn : T.n = S.n) (ho : T.order = S.order) (hB : RefIn w' r { R with la := A, lc := c } (T.settled keep d)) (hg : ∀ g, (Value.slice A (restOf d T.order).length c).ownBlock = some g → w.heap.size ≤ g) (hT : Turn (fun x => x = r ∨ (d < T.n ∧ (x = R.fl d ∨ x = R.nw d))) w w') :
    (∀ x, RFoot r { R with la := A, lc := c } (T.settled keep d) x → More G w w' x) ∧ Turn G w w' ∧ ∀ x, More G w w' x → x < w'.heap.size := by
  have hs := hT.size
  have hn2 : (T.settled keep d).n = S.n := (alike_sets keep d T.order T).n.trans hn
  refine ⟨fun x hx => ?_, hT.wider (fun x hx => ?_), fun x hx => ?_⟩
  · rcases hx with rfl | ⟨h0, rfl⟩ | hx | ⟨i, hi, hx⟩
    · exact .inl (hG _ (.inl rfl))
    · exact .inl (hG _ (.inr (.inl ⟨by rw [← hn2]; exact h0, rfl⟩)))
    · exact .inr ⟨hg x hx, hB.foot_lt x (.inr (.inr (.inl hx)))⟩
    · exact .inl (hG _ (.inr (.inr (.inr ⟨i, by rw [← hn2]; exact hi, hx⟩))))
  · rcases hx with rfl | ⟨hd, rfl | rfl⟩
    · exact hG _ (.inl rfl)
    · exact hG _ (.inr (.inr (.inr ⟨d, by rw [← hn]; exact hd, .inr (.inl rfl)⟩)))
    · exact hG _ (.inr (.inr (.inr ⟨d, by rw [← hn]; exact hd, .inr (.inr rfl)⟩)))
  · rcases hx with hx | hx
    · have := hl x hx
      omega
    · exact hx.2
set_option maxRecDepth 100000 in
theorem rOn_flush (h : RefOn w r G S) (d : Nat) :
    Calls Try.prog 46 #[.pointer (some ⟨r, 0, none⟩), .int .i64 (d : Int)] w fun e w' => e = .returned (.int .i64 (S.may d : Int)) ∧ RefOn w' r (More G w w') (if S.may d = 0 then S.flush d else S) ∧ Turn G w w' := by
  obtain ⟨h1, h2, R, h3, h4⟩ := h
  have HM := hide (rmay_any h3 d)
  have HS := hide (rsettled_any h3 h2.nodup (order_le S h2) (fun p hp => ⟨(h2.loose p hp).1, (h2.loose p hp).2.1⟩) d true)
  have HB := hide h3
  have HOK := hide h2
  have HG := hide h4
  have HL := hide h1
  clear h1 h2 h3 h4
  by_cases hm : S.may d = 0
  · rw [hm, if_pos rfl]
    rw [hm] at HM
    clear hm
    go_enter Try.func46, Try.ntmps46
    go_wp2_with (first
      | (go_at_call 68; refine HM.out.mono ?_; rintro _ _ ⟨rfl, rfl⟩)
      | (go_at_call 66; refine HS.out.mono ?_; rintro _ w1 ⟨rfl, A, c, hB1, hg1, hT1⟩))
    go_ret
    obtain ⟨a1, a2, a3⟩ := settled_on HG.out HL.out rfl rfl hB1 hg1 hT1
    rw [settled_flush HOK.out.same] at hB1 a1
    exact ⟨rfl, ⟨a3, HOK.out.flush d, _, hB1, a1⟩, a2⟩
  · rw [if_neg hm]
    have hne : ((S.may d : Int) == 0) = false := by simp; omega
    clear hm
    go_enter Try.func46, Try.ntmps46
    go_wp2_with (first
      | (go_at_call 68; refine HM.out.mono ?_; rintro _ _ ⟨rfl, rfl⟩))
    go_ret
    exact ⟨rfl, ⟨fun x hx => hx.elim (HL.out x) (fun h => by omega), HOK.out, R, HB.out, fun x hx => .inl (HG.out x hx)⟩, Turn.refl _ _⟩
set_option maxRecDepth 100000 in
theorem rOn_start (h : RefOn w r G S) :
    Calls Try.prog 45 #[.pointer (some ⟨r, 0, none⟩)] w fun e w' => e = .returned (.tuple #[]) ∧ RefOn w' r (More G w w') S.start ∧ Turn G w w' := by
  obtain ⟨h1, h2, R, h3, h4⟩ := h
  have c2 := h3.c2
  have f2 := h3.head.frozen 2
  have HB := hide h3
  have HOK := hide h2
  have HG := hide h4
  have HL := hide h1
  clear h1 h2 h3 h4
  go_enter Try.func45, Try.ntmps45
  go_wp2
  go_end0
  have hsz : (w.setCell ⟨r, 2, none⟩ (.bool false)).heap.size = w.heap.size := by simp [World.setCell]
  refine ⟨rfl, ⟨fun x hx => ?_, HOK.out.start, R, HB.out.head_set false S.writes S.armed S.mask (HB.out.head.set_ 2 (.bool false)) (fun x hx => Below.heap_setCell _ _ _ x hx), fun x hx => .inl (HG.out x hx)⟩, (Turn.refl _ _).set ⟨r, 2, none⟩ (.inl (HG.out r (.inl rfl))) _⟩
  rcases hx with hx | hx
  · rw [hsz]; exact HL.out x hx
  · exact hx.2
set_option maxRecDepth 100000 in
theorem rOn_arm (h : RefOn w r G S) (n : Int) (a m : Nat) (ha : (a : Int) = if 0 < n then n else 0) (ha2 : a < 9223372036854775808) (hm : m < 18446744073709551616) :
    Calls Try.prog 43 #[.pointer (some ⟨r, 0, none⟩), .int .i64 n, .int .u64 (m : Int)] w fun e w' => e = .returned (.tuple #[]) ∧ RefOn w' r (More G w w') (S.arm a m) ∧ Turn G w w' := by
  obtain ⟨h1, h2, R, h3, h4⟩ := h
  have c4 := h3.c4
  have c5 := h3.c5
  have f4 := h3.head.frozen 4
  have f5 := h3.head.frozen 5
  have HB := hide h3
  have HOK := hide h2
  have HG := hide h4
  have HL := hide h1
  have HA := hide ha
  clear h1 h2 h3 h4 ha
  have hfin : ∀ w', w' = (w.setCell ⟨r, 4, none⟩ (.int .i64 (a : Int))).setCell ⟨r, 5, none⟩ (.int .u64 (m : Int)) → RefOn w' r (More G w w') (S.arm a m) ∧ Turn G w w' := by
    rintro w' rfl
    have hsz : ((w.setCell ⟨r, 4, none⟩ (.int .i64 (a : Int))).setCell ⟨r, 5, none⟩ (.int .u64 (m : Int))).heap.size = w.heap.size := by simp [World.setCell]
    refine ⟨⟨fun x hx => ?_, HOK.out.arm ha2 hm, R, HB.out.head_set S.down S.writes a m ((HB.out.head.set_ 4 _).set_ 5 _) (fun x hx => (Below.heap_setCell _ _ _ x hx).trans (Below.heap_setCell _ _ _ x hx)), fun x hx => .inl (HG.out x hx)⟩, ((Turn.refl _ _).set ⟨r, 4, none⟩ (.inl (HG.out r (.inl rfl))) _).set ⟨r, 5, none⟩ (.inl (HG.out r (.inl rfl))) _⟩
    rcases hx with hx | hx
    · rw [hsz]; exact HL.out x hx
    · exact hx.2
  have HFIN := hide hfin
  clear hfin
  by_cases hn : 0 < n
  · have hA := HA.out
    rw [if_pos hn] at hA
    subst hA
    go_enter Try.func43, Try.ntmps43
    go_wp2
    go_end0
    exact ⟨rfl, HFIN.out _ rfl⟩
  · have ha0 : a = 0 := by have hA := HA.out; rw [if_neg hn] at hA; omega
    subst ha0
    by_cases h0 : n = 0
    · subst h0
      go_enter Try.func43, Try.ntmps43
      go_wp2
      go_end0
      exact ⟨rfl, HFIN.out _ rfl⟩
    · have h1 : n < 0 := by omega
      go_enter Try.func43, Try.ntmps43
      go_wp2
      go_end0
      exact ⟨rfl, HFIN.out _ (by rw [show max n 0 = 0 by omega]; rfl)⟩
set_option maxRecDepth 100000 in
theorem rOn_fail (h : RefOn w r G S) (d : Nat) (hd : d < S.n) :
    Calls Try.prog 41 #[.pointer (some ⟨r, 0, none⟩), .int .i64 (d : Int)] w fun e w' => e = .returned (.int .i64 0) ∧ RefOn w' r (More G w w') (S.fail d) ∧ Turn G w w' := by
  obtain ⟨h1, h2, R, h3, h4⟩ := h
  have c0 := h3.c0
  rw [R.ad_pos hd] at c0
  have p0 := h3.p hd
  have d2 := h3.d2 hd
  have g2 := (h3.disk d hd).frozen 2
  have hdw : (d : Int) < (S.n : Int) := by omega
  have hdg : decide ((S.n : Int) ≤ (d : Int)) = false := by simp; omega
  have hdn : decide ((d : Int) < 0) = false := by simp
  have HB := hide h3
  have HOK := hide h2
  have HG := hide h4
  have HL := hide h1
  clear h1 h2 h3 h4
  have hset : ∀ w1, w1 = w.setCell ⟨R.dk d, 2, none⟩ (.bool true) → RefIn w1 r R { S with dead := upd S.dead d true } ∧ Turn G w w1 ∧ w1.heap.size = w.heap.size := by
    rintro w1 rfl
    refine ⟨?_, (Turn.refl _ _).set ⟨R.dk d, 2, none⟩ (.inl (HG.out _ (.inr (.inr (.inr ⟨d, hd, .inl rfl⟩))))) _, by simp [World.setCell]⟩
    have h := HB.out.disk_set (w' := w.setCell ⟨R.dk d, 2, none⟩ (.bool true)) hd true (S.failAt d) ((HB.out.disk d hd).set_ 2 (.bool true)) (fun x hx => Below.heap_setCell _ _ _ x hx)
    rw [upd_same] at h
    exact h
  have HSET := hide hset
  clear hset
  go_enter Try.func41, Try.ntmps41
  go_wp2_with fail
  obtain ⟨w1, hw1⟩ : ∃ w1, w1 = w.setCell ⟨R.dk d, 2, none⟩ (.bool true) := ⟨_, rfl⟩
  obtain ⟨hB1, hT1, hz1⟩ := HSET.out w1 hw1
  rw [← hw1]
  refine (rsettled_any hB1 HOK.out.nodup (order_le S HOK.out) (fun p hp => ⟨(HOK.out.loose p hp).1, (HOK.out.loose p hp).2.1⟩) d false).mono ?_
  rintro _ w2 ⟨rfl, A, c, hB2, hg2, hT2⟩
  go_wp2
  go_ret
  obtain ⟨a1, a2, a3⟩ := settled_on (S := S) (T := { S with dead := upd S.dead d true }) (w := w1) HG.out (fun x hx => by rw [hz1]; exact HL.out x hx) rfl rfl hB2 hg2 hT2
  have hmore : ∀ x, More G w1 w2 x → More G w w2 x := fun x hx => hx.imp id (fun h => by omega)
  rw [settled_fail HOK.out.same] at hB2 a1
  exact ⟨rfl, ⟨fun x hx => by
    rcases hx with hx | hx
    · exact a3 x (.inl hx)
    · exact hx.2, HOK.out.fail d, _, hB2, fun x hx => hmore x (a1 x hx)⟩, hT1.trans a2⟩
end
/-- The first i loose ones settled, each as the mask says. -/
def Bank.crTo (S : Bank) (m : Nat) : Nat → Bank
  | 0 => S
  | i + 1 => match S.order[i]? with
    | some p => (S.crTo m i).setl (m.testBit (i % 64)) p.1 p.2
    | none => S.crTo m i
theorem crTo_succ {S : Bank} {m i : Nat} {p : Nat × Nat} (h : S.order[i]? = some p) : S.crTo m (i + 1) = (S.crTo m i).setl (m.testBit (i % 64)) p.1 p.2 := by
  rw [Bank.crTo, h]
theorem alike_crTo (S : Bank) (m : Nat) : ∀ i, S.Alike (S.crTo m i)
  | 0 => Bank.Alike.refl S
  | i + 1 => by
    rw [Bank.crTo]
    split
    · exact (alike_crTo S m i).trans (alike_setl _ _ _ _)
    · exact alike_crTo S m i
theorem crTo_is {S : Bank} (hnd : S.order.Nodup) (m : Nat) : ∀ i, i ≤ S.order.length → (S.crTo m i).flushed = (S.upTo m i).flushed ∧ ∀ a c, (S.crTo m i).newest a c = if (a, c) ∈ S.order.take i then (S.upTo m i).flushed a c else S.newest a c
  | 0, _ => ⟨rfl, fun a c => by rw [List.take_zero, if_neg (by simp)]; rfl⟩
  | i + 1, hi => by
    obtain ⟨h1, h2⟩ := crTo_is hnd m i (by omega)
    obtain ⟨p, hp⟩ : ∃ p, S.order[i]? = some p := ⟨_, List.getElem?_eq_getElem (by omega)⟩
    have hni : p ∉ S.order.take i := by
      intro hm
      obtain ⟨j, hj, he⟩ := List.mem_take_iff_getElem.1 hm
      obtain ⟨hlt, hp2⟩ := List.getElem?_eq_some_iff.1 hp
      exact List.pairwise_iff_getElem.1 hnd j i (by omega) hlt (by omega) (he.trans hp2.symm)
    have htk := take_snoc hp
    rw [crTo_succ hp, Bank.upTo_succ S m i p hp, htk]
    obtain ⟨p1, p2⟩ := p
    have hup : ∀ a c, (a, c) ∉ S.order.take i → True := fun _ _ _ => trivial
    cases hb : m.testBit (i % 64) with
    | true =>
      simp only [Bank.setl, if_true]
      have hnew : (S.crTo m i).newest p1 p2 = S.newest p1 p2 := by rw [h2, if_neg hni]
      refine ⟨by rw [h1, hnew], fun a c => ?_⟩
      show (S.crTo m i).newest a c = if (a, c) ∈ S.order.take i ++ [(p1, p2)] then upd2 (S.upTo m i).flushed p1 p2 (S.newest p1 p2) a c else S.newest a c
      rw [h2]
      by_cases e : a = p1 ∧ c = p2
      · obtain ⟨rfl, rfl⟩ := e
        rw [if_neg hni, if_pos (by simp), upd2_self]
      · rw [upd2_ne _ _ e]
        have hiff : ((a, c) ∈ S.order.take i ++ [(p1, p2)]) ↔ (a, c) ∈ S.order.take i := by
          rw [List.mem_append, List.mem_singleton]
          exact ⟨fun h => h.elim id (fun h => by injection h with x y; exact absurd ⟨x, y⟩ e), .inl⟩
        simp only [hiff]
    | false =>
      simp only [Bank.setl, if_false, Bool.false_eq_true]
      refine ⟨h1, fun a c => ?_⟩
      show upd2 (S.crTo m i).newest p1 p2 ((S.crTo m i).flushed p1 p2) a c = if (a, c) ∈ S.order.take i ++ [(p1, p2)] then (S.upTo m i).flushed a c else S.newest a c
      by_cases e : a = p1 ∧ c = p2
      · obtain ⟨rfl, rfl⟩ := e
        rw [upd2_self, if_pos (by simp), h1]
      · rw [upd2_ne _ _ e, h2]
        have hiff : ((a, c) ∈ S.order.take i ++ [(p1, p2)]) ↔ (a, c) ∈ S.order.take i := by
          rw [List.mem_append, List.mem_singleton]
          exact ⟨fun h => h.elim id (fun h => by injection h with x y; exact absurd ⟨x, y⟩ e), .inl⟩
        simp only [hiff]
theorem upTo_out {S : Bank} (m : Nat) : ∀ i, i ≤ S.order.length → ∀ a c, (a, c) ∉ S.order → (S.upTo m i).flushed a c = S.flushed a c
  | 0, _, _, _, _ => rfl
  | i + 1, hi, a, c, hn => by
    obtain ⟨p, hp⟩ : ∃ p, S.order[i]? = some p := ⟨_, List.getElem?_eq_getElem (by omega)⟩
    rw [Bank.upTo_succ S m i p hp]
    have ih := upTo_out m i (by omega) a c hn
    split
    · show upd2 (S.upTo m i).flushed p.1 p.2 (S.newest p.1 p.2) a c = _
      rw [upd2_ne _ _ (fun e => hn (by obtain ⟨e1, e2⟩ := e; rw [e1, e2]; exact List.mem_of_getElem? hp))]
      exact ih
    · exact ih
theorem crTo_all {S : Bank} (hok : S.Ok) (m : Nat) : (S.crTo m S.order.length).flushed = S.kept m ∧ (S.crTo m S.order.length).newest = S.kept m := by
  obtain ⟨h1, h2⟩ := crTo_is hok.nodup m S.order.length (Nat.le_refl _)
  have hk : (S.upTo m S.order.length).flushed = S.kept m := by rw [Bank.upTo_all]
  refine ⟨h1.trans hk, ?_⟩
  funext a c
  rw [h2, List.take_length]
  by_cases hm : (a, c) ∈ S.order
  · rw [if_pos hm, hk]
  · rw [if_neg hm, hok.same a c hm, ← upTo_out m S.order.length (Nat.le_refl _) a c hm, hk]
theorem mod_test (m k : Nat) : (((m : Int) / 2 ^ k).tmod 2 == 1) = m.testBit k := by
  have e : (m : Int) / 2 ^ k = ((m / 2 ^ k : Nat) : Int) := by rw [Int.natCast_ediv, Int.natCast_pow]; rfl
  rw [e, Int.tmod_eq_emod_of_nonneg (Int.natCast_nonneg _), Nat.testBit_eq_decide_div_mod_eq, Bool.eq_iff_iff, beq_iff_eq, decide_eq_true_iff]
  omega
section
variable {w w' : World} {r : Nat} {R : RLay} {S : Bank} {G : Nat → Prop}
set_option maxRecDepth 100000 in
set_option maxHeartbeats 2000000 in
theorem rcrash_any (h : RefIn w r R S) (hok : S.Ok) (hlen : S.order.length ≤ 131072) (m : Nat) (hm64 : m < 18446744073709551616) (hup : S.down = false) :
    Calls Try.prog 44 #[.pointer (some ⟨r, 0, none⟩), .int .u64 (m : Int)] w fun e w' => e = .returned (.tuple #[]) ∧ RefIn w' r { R with la := none, lc := 0 } (S.crash m) ∧ Turn (RFoot r R S) w w' := by
  have HB := hide h
  have HOK := hide hok
  have c2 := h.c2
  rw [hup] at c2
  have HUP := hide hup
  clear h hok hup
  go_enter Try.func44, Try.ntmps44
  go_wp2_with fail
  go_loopw [4] (fun s4 wr => ∃ i : Nat, s4 = .int .i64 (i : Int) ∧ i ≤ S.order.length ∧ Hid (RefIn wr r R (S.crTo m i)) ∧ Hid (Turn (RFoot r R S) w wr)) (fun s4 _ => S.order.length - (intOf s4).toNat)
  case atStart => exact ⟨0, rfl, Nat.zero_le _, HB, Turn.refl _ _⟩
  case round =>
    obtain ⟨i, rfl, hi, hB, hT⟩ := hrel
    obtain ⟨wo, rfl⟩ : ∃ wo, wo = wr := ⟨_, rfl⟩
    have ha := alike_crTo S m i
    have c1 := hB.out.c1
    rw [ha.order] at c1
    by_cases hil : i < S.order.length
    · have hg1 : (i : Int) < (S.order.length : Int) := by omega
      obtain ⟨p, hp⟩ : ∃ p, S.order[i]? = some p := ⟨_, List.getElem?_eq_getElem hil⟩
      have hpT : (S.crTo m i).order[i]? = some p := by rw [ha.order]; exact hp
      obtain ⟨g, hla, hcs⟩ := hB.out.loose_cells hpT
      rw [hla] at c1
      obtain ⟨hp1, hp2, _⟩ := HOK.out.loose p (List.mem_of_getElem? hp)
      have HPL := hide hcs
      have HSU := hide (crTo_succ (m := m) hp)
      have hbt := mod_test m (i % 64)
      obtain ⟨β, hβ⟩ : ∃ β, β = m.testBit (i % 64) := ⟨_, rfl⟩
      rw [← hβ] at hbt HSU
      have HSE := hide (fun w1 (h1 : RefIn w1 r R (S.crTo m i)) => rsettle_any h1 p.1 p.2 (by rw [ha.n]; exact hp1) (by rw [ha.size]; exact hp2) β)
      clear hcs hpT hp ha hβ
      go_wp2_with (first
        | (refine wpList_load_at rfl 33 (.tmp 24) rfl ⟨g, i * 2, none⟩ rfl (placeL p) _ HPL.out Try.underlying33 rfl rplace_info ?_))
      refine (HSE.out wo hB.out).mono ?_
      rintro _ w1 ⟨rfl, hB1, hT1⟩
      have hpm := HOK.out.loose p
      have HB1 := hide hB1
      have HT1 : Hid (Turn (RFoot r R S) w w1) := hT.out.trans (hT1.wider (fun x hx => .inr (.inr (.inr ⟨p.1, hp1, .inr hx⟩))))
      clear hB1 hT1 hpm
      go_wp2_with fail
      go_roundw
      case rel => exact ⟨i + 1, by go_num, by omega, by rw [HSU.out]; exact HB1, HT1⟩
      case measure => simp [intOf]; omega
    · obtain rfl : i = S.order.length := by omega
      have hnl : ¬ ((S.order.length : Int) < (S.order.length : Int)) := by omega
      have f1 := hB.out.head.frozen 1
      have f2 := hB.out.head.frozen 2
      have f4 := hB.out.head.frozen 4
      have x2 := hB.out.c2
      have x4 := hB.out.c4
      obtain ⟨k1, k2⟩ := crTo_all HOK.out m
      have HK := hide (And.intro k1 k2)
      have HC : Hid (S.crash m = { S with flushed := S.kept m, newest := S.kept m, order := [], down := true, armed := 0 }) := by show _ = _; unfold Bank.crash; rw [if_neg (by rw [HUP.out]; decide)]
      clear k1 k2
      go_wp2_with fail
      go_end0
      rw [HC.out]
      have h1 := hB.out.loose_set (T := { S.crTo m S.order.length with order := [] }) (A := none) (c := 0) ⟨rfl, rfl, rfl, rfl, rfl, rfl, rfl, rfl, rfl, rfl⟩ (World.ownsRow_nil _ _ _ _)
      have h2 := h1.head_set (w' := ((wo.setCell ⟨r, 1, none⟩ (.slice none 0 0)).setCell ⟨r, 2, none⟩ (.bool true)).setCell ⟨r, 4, none⟩ (.int .i64 0)) true (S.crTo m S.order.length).writes 0 (S.crTo m S.order.length).mask ((h1.head.set_ 2 (.bool true)).set_ 4 (.int .i64 0)) (fun x hx => (Below.heap_setCell _ _ _ x hx).trans (Below.heap_setCell _ _ _ x hx))
      refine ⟨rfl, ?_, ((hT.out.set ⟨r, 1, none⟩ (.inl (.inl rfl)) _).set ⟨r, 2, none⟩ (.inl (.inl rfl)) _).set ⟨r, 4, none⟩ (.inl (.inl rfl)) _⟩
      have he : ({ ({ S.crTo m S.order.length with order := [] } : Bank) with down := true, writes := (S.crTo m S.order.length).writes, armed := 0, mask := (S.crTo m S.order.length).mask } : Bank) = { S with flushed := S.kept m, newest := S.kept m, order := [], down := true, armed := 0 } :=
        Bank.eq ha.n ha.size ha.dead HK.out.1 HK.out.2 rfl rfl ha.writes ha.failAt rfl ha.mask
      rw [← he]
      exact h2
set_option maxRecDepth 100000 in
theorem rOn_crash (h : RefOn w r G S) (m : Nat) (hm : m < 18446744073709551616) :
    Calls Try.prog 44 #[.pointer (some ⟨r, 0, none⟩), .int .u64 (m : Int)] w fun e w' => e = .returned (.tuple #[]) ∧ RefOn w' r (More G w w') (S.crash m) ∧ Turn G w w' := by
  obtain ⟨h1, h2, R, h3, h4⟩ := h
  cases hd : S.down with
  | false =>
    refine (rcrash_any h3 h2 (order_le S h2 S.order h2.nodup (fun _ hp => hp)) m hm hd).mono fun e w' ⟨he, hB, hT⟩ => ?_
    have hn : (S.crash m).n = S.n := by unfold Bank.crash; rw [if_neg (by rw [hd]; decide)]
    have hs := hT.size
    refine ⟨he, ⟨fun x hx => ?_, h2.crash m, _, hB, fun x hx => .inl (h4 x ?_)⟩, hT.wider h4⟩
    · rcases hx with hx | hx
      · have := h1 x hx
        omega
      · exact hx.2
    · rcases hx with rfl | ⟨h0, rfl⟩ | hx | ⟨i, hi, hx⟩
      · exact .inl rfl
      · exact .inr (.inl ⟨by rw [← hn]; exact h0, rfl⟩)
      · cases hx
      · exact .inr (.inr (.inr ⟨i, by rw [← hn]; exact hi, hx⟩))
  | true =>
    have hc : S.crash m = S := by unfold Bank.crash; rw [if_pos hd]
    rw [hc]
    have c2 := h3.c2
    rw [hd] at c2
    go_enter Try.func44, Try.ntmps44
    go_wp2
    exact bodyPost_ret (results_none rfl _ _ _) rfl ⟨rfl, ⟨fun x hx => hx.elim (h1 x) (fun h => by omega), h2, R, h3, fun x hx => .inl (h4 x hx)⟩, Turn.refl _ _⟩
end
#print axioms rOn_crash
end Go.Proofs.Ytgfbndmdndpelaa
