/- What a bank is when one of its parts has turned. -/
import Derived.Test.YtmjjnbabfldbcaaGreatOrder
namespace Go.Proofs.YtmjjnbabfldbcaaGreat
open Go.RowKit

/-- The cells of a member in its row: cell j of member i becomes u. -/
theorem row_set {cs : Array Value} {i j : Nat} {u : Value} (hlt : i * 5 + j < cs.size) (i' j' : Nat) (hj : j < 5) (hj' : j' < 5) :
    (cs.setIfInBounds (i * 5 + j) u)[i' * 5 + j']? = if i' = i ∧ j' = j then some u else cs[i' * 5 + j']? := by
  rw [Array.getElem?_setIfInBounds]
  by_cases h : i' = i ∧ j' = j
  · obtain ⟨rfl, rfl⟩ := h
    simp [hlt]
  · rw [if_neg (by omega), if_neg h]
def Lay.drop (L : Lay) (i : Nat) : Lay := { L with fl := upd L.fl i none, lo := upd L.lo i none }
section
variable {w w' : World} {b : Nat} {L : Lay} {S : Bank}
theorem BankIn.head_set (h : BankIn w b L S) (d : Bool) (n a m : Nat) (hn : S.writes ≤ n)
    (hb : Blk w' b 78 #[.slice (L.ad S.n) S.n L.cap, .bool d, .int .i64 (n : Int), .int .i64 (a : Int), .int .u64 (m : Int)]) (hk : ∀ x, x ≠ b → x < w.heap.size → w'.heap[x]? = w.heap[x]?) :
    BankIn w' b L { S with down := d, writes := n, armed := a, mask := m } := by
  have hmb : ∀ {y : Nat} {f : Nat → Option Value}, MapIs w y f → y ≠ b := by
    rintro y f hm rfl
    obtain ⟨D, ⟨es, clock, h1, _⟩, _⟩ := hm
    have h2 := h.head
    unfold Blk at h2
    rw [h1] at h2
    cases h2
  refine { head := hb, cap := h.cap, row := fun h0 => ?_, gone := h.gone, flat := fun i hi hd => ?_, loose := fun i hi hd => ?_, apart1 := h.apart1, apart2 := h.apart2, apart3 := h.apart3, rising := h.rising, past := fun p hp => Nat.le_trans (h.past p hp) hn }
  · obtain ⟨cs, hb, h2⟩ := h.row h0
    exact ⟨cs, hb.of_block (hk _ (h.mne h0) (h.mlt h0)), h2⟩
  · obtain ⟨y, f, e, hm, h2⟩ := h.flat i hi hd
    exact ⟨y, f, e, hm.of_block (hk y (hmb hm) hm.lt), h2⟩
  · obtain ⟨y, e, hm⟩ := h.loose i hi hd
    exact ⟨y, e, hm.of_block (hk y (hmb hm) hm.lt)⟩
theorem BankIn.map_ne (h : BankIn w b L S) {y : Nat} {f : Nat → Option Value} (hm : MapIs w y f) : y ≠ b ∧ ∀ {i : Nat}, i < S.n → y ≠ L.mb := by
  obtain ⟨D, ⟨es, clock, h1, _⟩, _⟩ := hm
  refine ⟨?_, ?_⟩
  · rintro rfl
    have h2 := h.head
    unfold Blk at h2
    rw [h1] at h2
    cases h2
  · rintro i hi rfl
    obtain ⟨cs, h2, _⟩ := h.row (by omega)
    unfold Blk at h2
    rw [h1] at h2
    cases h2
theorem BankIn.set_fail (h : BankIn w b L S) {i : Nat} (hi : i < S.n) (v : Nat) : BankIn (w.setCell ⟨L.mb, i * 5 + 4, none⟩ (.int .i64 (v : Int))) b L { S with failAt := upd S.failAt i v } := by
  obtain ⟨cs, hb, hsz, hc⟩ := h.row (by omega)
  have hcap := h.cap.1
  have hlt : i * 5 + 4 < cs.size := by omega
  refine { h with head := h.head.far (h.mne hi).symm _, row := fun _ => ⟨_, hb.set_ _ _, by rw [Array.size_setIfInBounds, hsz], fun j hj => ?_⟩, flat := fun j hj hd => ?_, loose := fun j hj hd => ?_ }
  · obtain ⟨h0, h1, h2, h3, h4⟩ := hc j hj
    have e := fun c hc5 => row_set (u := .int .i64 (v : Int)) hlt j c (by decide) hc5
    refine ⟨?_, ?_, ?_, ?_, ?_⟩
    · rw [show j * 5 = j * 5 + 0 from rfl, e 0 (by decide), if_neg (by omega)]; exact h0
    · rw [e 1 (by decide), if_neg (by omega)]; exact h1
    · rw [e 2 (by decide), if_neg (by omega)]; exact h2
    · rw [e 3 (by decide), if_neg (by omega)]; exact h3
    · rw [e 4 (by decide)]
      show _ = some (Value.int .i64 ((upd S.failAt i v j : Nat) : Int))
      by_cases hji : j = i
      · subst hji; rw [if_pos ⟨rfl, rfl⟩, upd_self]
      · rw [if_neg (fun e => hji e.1), upd_ne _ _ hji]; exact h4
  · obtain ⟨y, f, e, hm, h2⟩ := h.flat j hj hd
    exact ⟨y, f, e, hm.of_block (Below.heap_setCell w _ _ y ((h.map_ne hm).2 hi)), h2⟩
  · obtain ⟨y, e, hm⟩ := h.loose j hj hd
    exact ⟨y, e, hm.of_block (Below.heap_setCell w _ _ y ((h.map_ne hm).2 hi))⟩
theorem looseF_of (L : Lay) (S' : Bank) {i : Nat} (h : ∀ k, ((i, k) ∈ S'.order ↔ (i, k) ∈ S.order) ∧ S'.newest i k = S.newest i k) : looseF S' L i = looseF S L i := by
  funext k
  unfold looseF
  obtain ⟨h1, h2⟩ := h k
  by_cases hm : (i, k) ∈ S.order
  · rw [if_pos hm, if_pos (h1.2 hm), h2]
  · rw [if_neg hm, if_neg (fun e => hm (h1.1 e))]
theorem mem_others (o : List (Nat × Nat)) (d : Nat) (p : Nat × Nat) : p ∈ o.filter (fun p => p.1 != d) ↔ p ∈ o ∧ p.1 ≠ d := by
  rw [List.mem_filter]
  simp
theorem BankIn.fail_ (h : BankIn w b L S) {i : Nat} (hi : i < S.n) :
    BankIn (((w.setCell ⟨L.mb, i * 5 + 1, none⟩ (.bool true)).setCell ⟨L.mb, i * 5 + 2, none⟩ (.map none)).setCell ⟨L.mb, i * 5 + 3, none⟩ (.map none)) b (L.drop i) (S.fail i) := by
  obtain ⟨cs, hb, hsz, hc⟩ := h.row (by omega)
  have hcap := h.cap.1
  have hne := (h.mne hi).symm
  have hkeep : ∀ y, y ≠ L.mb → (((w.setCell ⟨L.mb, i * 5 + 1, none⟩ (.bool true)).setCell ⟨L.mb, i * 5 + 2, none⟩ (.map none)).setCell ⟨L.mb, i * 5 + 3, none⟩ (.map none)).heap[y]? = w.heap[y]? := fun y hy =>
    (Below.heap_setCell _ _ _ y hy).trans ((Below.heap_setCell _ _ _ y hy).trans (Below.heap_setCell _ _ _ y hy))
  have hl1 : i * 5 + 1 < cs.size := by omega
  have hl2 : i * 5 + 2 < (cs.setIfInBounds (i * 5 + 1) (.bool true)).size := by rw [Array.size_setIfInBounds]; omega
  have hl3 : i * 5 + 3 < ((cs.setIfInBounds (i * 5 + 1) (.bool true)).setIfInBounds (i * 5 + 2) (.map none)).size := by rw [Array.size_setIfInBounds, Array.size_setIfInBounds]; omega
  refine { head := ((h.head.far hne _).far hne _).far hne _, cap := h.cap, row := fun _ => ⟨_, ((hb.set_ _ _).set_ _ _).set_ _ _, by rw [Array.size_setIfInBounds, Array.size_setIfInBounds, Array.size_setIfInBounds, hsz]; rfl, fun j hj => ?_⟩, gone := fun j hj hd => ?_, flat := fun j hj hd => ?_, loose := fun j hj hd => ?_, apart1 := fun a c x ha hc h1 h2 => ?_, apart2 := fun a c x ha hc h1 h2 => ?_, apart3 := fun a c x ha hc h1 h2 => ?_, rising := ?_, past := ?_ }
  · obtain ⟨h0, h1, h2, h3, h4⟩ := hc j hj
    have e : ∀ c, c < 5 → (((cs.setIfInBounds (i * 5 + 1) (.bool true)).setIfInBounds (i * 5 + 2) (.map none)).setIfInBounds (i * 5 + 3) (.map none))[j * 5 + c]? = if j = i ∧ c = 3 then some (.map none) else if j = i ∧ c = 2 then some (.map none) else if j = i ∧ c = 1 then some (.bool true) else cs[j * 5 + c]? := by
      intro c hc5
      rw [row_set hl3 j c (by decide) hc5, row_set hl2 j c (by decide) hc5, row_set hl1 j c (by decide) hc5]
    refine ⟨?_, ?_, ?_, ?_, ?_⟩
    · rw [show j * 5 = j * 5 + 0 from rfl, e 0 (by decide), if_neg (by omega), if_neg (by omega), if_neg (by omega)]; exact h0
    · rw [e 1 (by decide), if_neg (by omega), if_neg (by omega)]
      show _ = some (Value.bool (upd S.dead i true j))
      by_cases hji : j = i
      · subst hji; rw [if_pos ⟨rfl, rfl⟩, upd_self]
      · rw [if_neg (fun e => hji e.1), upd_ne _ _ hji]; exact h1
    · rw [e 2 (by decide), if_neg (by omega)]
      show _ = some (Value.map (upd L.fl i none j))
      by_cases hji : j = i
      · subst hji; rw [if_pos ⟨rfl, rfl⟩, upd_self]
      · rw [if_neg (fun e => hji e.1), if_neg (by omega), upd_ne _ _ hji]; exact h2
    · rw [e 3 (by decide)]
      show _ = some (Value.map (upd L.lo i none j))
      by_cases hji : j = i
      · subst hji; rw [if_pos ⟨rfl, rfl⟩, upd_self]
      · rw [if_neg (fun e => hji e.1), if_neg (by omega), if_neg (by omega), upd_ne _ _ hji]; exact h3
    · rw [e 4 (by decide), if_neg (by omega), if_neg (by omega), if_neg (by omega)]; exact h4
  · show upd L.fl i none j = none ∧ upd L.lo i none j = none
    by_cases hji : j = i
    · subst hji; exact ⟨upd_self _ _ _, upd_self _ _ _⟩
    · rw [upd_ne _ _ hji, upd_ne _ _ hji]
      exact h.gone j hj (by have : upd S.dead i true j = true := hd; rwa [upd_ne _ _ hji] at this)
  · have hji : j ≠ i := by
      rintro rfl
      have : upd S.dead j true j = false := hd
      rw [upd_self] at this
      cases this
    have hd2 : S.dead j = false := by have : upd S.dead i true j = false := hd; rwa [upd_ne _ _ hji] at this
    obtain ⟨y, f, e, hm, h2⟩ := h.flat j hj hd2
    exact ⟨y, f, by show upd L.fl i none j = _; rw [upd_ne _ _ hji]; exact e, hm.of_block (hkeep y ((h.map_ne hm).2 hi)), h2⟩
  · have hji : j ≠ i := by
      rintro rfl
      have : upd S.dead j true j = false := hd
      rw [upd_self] at this
      cases this
    have hd2 : S.dead j = false := by have : upd S.dead i true j = false := hd; rwa [upd_ne _ _ hji] at this
    obtain ⟨y, e, hm⟩ := h.loose j hj hd2
    refine ⟨y, by show upd L.lo i none j = _; rw [upd_ne _ _ hji]; exact e, ?_⟩
    have hl : looseF (S.fail i) (L.drop i) j = looseF S L j := looseF_of L (S.fail i) (fun k => ⟨by
      show (j, k) ∈ S.order.filter _ ↔ _
      rw [mem_others]
      exact ⟨fun a => a.1, fun a => ⟨a, hji⟩⟩, by show upd S.newest i _ j k = _; rw [upd_ne _ _ hji]⟩)
    rw [hl]
    exact hm.of_block (hkeep y ((h.map_ne hm).2 hi))
  · have e1 : upd L.fl i none a = some x := h1
    have e2 : upd L.fl i none c = some x := h2
    have ha' : a ≠ i := by rintro rfl; rw [upd_self] at e1; cases e1
    have hc' : c ≠ i := by rintro rfl; rw [upd_self] at e2; cases e2
    rw [upd_ne _ _ ha'] at e1
    rw [upd_ne _ _ hc'] at e2
    exact h.apart1 a c x ha hc e1 e2
  · have e1 : upd L.lo i none a = some x := h1
    have e2 : upd L.lo i none c = some x := h2
    have ha' : a ≠ i := by rintro rfl; rw [upd_self] at e1; cases e1
    have hc' : c ≠ i := by rintro rfl; rw [upd_self] at e2; cases e2
    rw [upd_ne _ _ ha'] at e1
    rw [upd_ne _ _ hc'] at e2
    exact h.apart2 a c x ha hc e1 e2
  · have e1 : upd L.fl i none a = some x := h1
    have e2 : upd L.lo i none c = some x := h2
    have ha' : a ≠ i := by rintro rfl; rw [upd_self] at e1; cases e1
    have hc' : c ≠ i := by rintro rfl; rw [upd_self] at e2; cases e2
    rw [upd_ne _ _ ha'] at e1
    rw [upd_ne _ _ hc'] at e2
    exact h.apart3 a c x ha hc e1 e2
  · exact h.rising.filter _
  · intro p hp
    exact h.past p ((mem_others _ _ _).1 hp).1
/-- One sector of a live disk is kept. -/
theorem BankIn.keep_ (h : BankIn w b L S) {d k x : Nat} {f : Nat → Option Value} {s : Sec} (hd : d < S.n) (hdead : S.dead d = false) (hx : L.fl d = some x) (hf : Flat f (S.flushed d)) (hm : MapIs w' x (keptF f k s)) (hg : w.grownBy w' (some x)) (hmx : MapIs w x f) :
    BankIn w' b L { S with flushed := upd2 S.flushed d k s } := by
  have hne := h.map_ne hmx
  refine { head := h.head.grown hg (fun e => hne.1 (by injection e with e; exact e.symm)), cap := h.cap, row := fun h0 => ?_, gone := h.gone, flat := fun i hi hdi => ?_, loose := fun i hi hdi => ?_, apart1 := h.apart1, apart2 := h.apart2, apart3 := h.apart3, rising := h.rising, past := h.past }
  · obtain ⟨cs, hb, h2⟩ := h.row h0
    exact ⟨cs, hb.grown hg (fun e => hne.2 hd (by injection e with e; exact e.symm)), h2⟩
  · by_cases e : i = d
    · subst e
      refine ⟨x, _, hx, hm, fun j => ?_⟩
      show keptF f k s j = some (secV (upd2 S.flushed i k s i j)) ∨ (keptF f k s j = none ∧ upd2 S.flushed i k s i j = zeroSec)
      rw [upd2_col]
      by_cases ej : j = k
      · subst ej
        rw [upd_self]
        rcases keptF_self f j s with h1 | ⟨h1, h2⟩
        · exact .inl h1
        · exact .inr ⟨h1, h2.symm⟩
      · rw [keptF_ne f s ej, upd_ne _ _ ej]
        exact hf j
    · obtain ⟨y, g, ey, hy, h2⟩ := h.flat i hi hdi
      refine ⟨y, g, ey, hy.grown hg (fun e2 => e ?_), ?_⟩
      · injection e2 with e2
        subst e2
        exact h.apart1 i d y hi hd ey hx
      · show Flat g (upd2 S.flushed d k s i)
        rw [upd2_row _ _ e]
        exact h2
  · obtain ⟨y, ey, hy⟩ := h.loose i hi hdi
    refine ⟨y, ey, hy.grown hg (fun e2 => ?_)⟩
    injection e2 with e2
    subst e2
    exact h.apart3 d i y hd hi hx ey
/-- What is loose on a disk is let go. -/
theorem BankIn.lose_ (h : BankIn w b L S) {d x : Nat} (hd : d < S.n) (hx : L.lo d = some x) (hm : MapIs w' x (fun _ => none)) (hg : w.grownBy w' (some x)) (hmx : MapIs w x (looseF S L d)) :
    BankIn w' b L { S with order := S.order.filter fun p => p.1 != d } := by
  have hne := h.map_ne hmx
  refine { head := h.head.grown hg (fun e => hne.1 (by injection e with e; exact e.symm)), cap := h.cap, row := fun h0 => ?_, gone := h.gone, flat := fun i hi hdi => ?_, loose := fun i hi hdi => ?_, apart1 := h.apart1, apart2 := h.apart2, apart3 := h.apart3, rising := h.rising.filter _, past := fun p hp => h.past p ((mem_others _ _ _).1 hp).1 }
  · obtain ⟨cs, hb, h2⟩ := h.row h0
    exact ⟨cs, hb.grown hg (fun e => hne.2 hd (by injection e with e; exact e.symm)), h2⟩
  · obtain ⟨y, g, ey, hy, h2⟩ := h.flat i hi hdi
    refine ⟨y, g, ey, hy.grown hg (fun e2 => ?_), h2⟩
    injection e2 with e2
    subst e2
    exact h.apart3 i d y hi hd ey hx
  · by_cases e : i = d
    · subst e
      refine ⟨x, hx, hm.congr fun k => ?_⟩
      have hnot : ¬ (i, k) ∈ S.order.filter fun p => p.1 != i := fun hin => ((mem_others _ _ _).1 hin).2 rfl
      unfold looseF
      exact (if_neg hnot).symm
    · obtain ⟨y, ey, hy⟩ := h.loose i hi hdi
      refine ⟨y, ey, ?_⟩
      have hl : looseF { S with order := S.order.filter fun p => p.1 != d } L i = looseF S L i := looseF_of L _ (fun k => ⟨by
        rw [mem_others]
        exact ⟨fun a => a.1, fun a => ⟨a, e⟩⟩, rfl⟩)
      rw [hl]
      exact hy.grown hg (fun e2 => e (by injection e2 with e2; subst e2; exact h.apart2 i d y hi hd ey hx))
/-- With nothing loose what is newest is not in memory. -/
theorem BankIn.renew (h : BankIn w b L S) (ho : S.order = []) (N : Nat → Nat → Sec) : BankIn w b L { S with newest := N } := by
  refine { h with loose := fun i hi hd => ?_ }
  obtain ⟨y, e, hm⟩ := h.loose i hi hd
  refine ⟨y, e, hm.congr fun k => ?_⟩
  unfold looseF
  simp [ho]
end
end Go.Proofs.YtmjjnbabfldbcaaGreat
