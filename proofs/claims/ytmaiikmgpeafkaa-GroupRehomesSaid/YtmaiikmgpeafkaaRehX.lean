/- A move, and what is left to move: without the program. -/
import Derived.Test.YtmaiikmgpeafkaaGrpH
import Derived.Test.YtmaiikmgpeafkaaLawO
namespace Go.Proofs.Ytmaiikmgpeafkaa
open Go.RowKit

/-- An extent behind a move: another disk in lost's stead. -/
def swapX (lost d : Int) (x : Ex) : Ex := if x.1 = lost then (d, x.2) else x
def partX (lost d : Int) (k : Nat) (l : List Ex) : List Ex := (l.take k).map (swapX lost d) ++ l.drop k
theorem partX_zero (lost d : Int) (l : List Ex) : partX lost d 0 l = l := by simp [partX]
theorem partX_all (lost d : Int) (l : List Ex) : partX lost d l.length l = l.map (swapX lost d) := by simp [partX]
theorem partX_length (lost d : Int) (k : Nat) (l : List Ex) : (partX lost d k l).length = l.length := by
  simp [partX]
  omega
theorem partX_at (lost d : Int) {k : Nat} {l : List Ex} {x : Ex} (h : l[k]? = some x) : (partX lost d k l)[k]? = some x := by
  obtain ⟨hk, _⟩ := List.getElem?_eq_some_iff.1 h
  unfold partX
  rw [List.getElem?_append_right (by simp; omega)]
  simp
  rw [Nat.min_eq_left (by omega)]
  simpa using h
theorem partX_more (lost d : Int) {k : Nat} {l : List Ex} {x : Ex} (h : l[k]? = some x) : partX lost d (k + 1) l = (partX lost d k l).set k (swapX lost d x) := by
  obtain ⟨hk, he⟩ := List.getElem?_eq_some_iff.1 h
  unfold partX
  rw [List.set_append_right _ _ (by simp; omega)]
  have e : l.drop k = x :: l.drop (k + 1) := by rw [← he]; exact List.drop_eq_getElem_cons hk
  have e2 : k - ((l.take k).map (swapX lost d)).length = 0 := by simp; omega
  rw [e2, e, List.set_cons_zero, List.take_add_one, h]
  simp
theorem partX_keep (lost d : Int) {k : Nat} {l : List Ex} {x : Ex} (h : l[k]? = some x) (hx : x.1 ≠ lost) : partX lost d (k + 1) l = partX lost d k l := by
  rw [partX_more lost d h]
  have : swapX lost d x = x := by simp [swapX, hx]
  rw [this]
  have h2 := partX_at lost d h
  obtain ⟨hk, he⟩ := List.getElem?_eq_some_iff.1 h2
  rw [← he]
  exact List.set_getElem_self ..
theorem moved_not {lost d : Int} (h : d ≠ lost) (l : List Ex) : hasB (l.map (swapX lost d)) lost = false := by
  unfold hasB
  rw [List.any_eq_false]
  intro x hx
  obtain ⟨y, _, rfl⟩ := List.mem_map.1 hx
  unfold swapX
  split
  · simpa using h
  · rename_i hy
    simpa using hy
theorem has_none_in {lost d : Int} {l : List Ex} (h1 : hasB l lost = true) (h2 : d ∉ dks l) : d ≠ lost := by
  rintro rfl
  rw [hasB_dks] at h1
  exact h2 (by simpa using h1)
theorem has_not_in {d : Int} {l : List Ex} (h2 : d ∉ dks l) : hasB l d = false := by
  rw [hasB_dks]
  simpa using h2
/-- The first one that has it. -/
theorem first_has {L : List GrV} {lost : Int} (h : needyL L lost ≠ []) : ∃ k g, NoneYet (fun y : GrV => hasB y.ex lost) L k ∧ L[k]? = some g ∧ hasB g.ex lost = true := by
  have ha : L.any (fun y : GrV => hasB y.ex lost) = true := by
    cases hq : L.any (fun y : GrV => hasB y.ex lost) with
    | true => rfl
    | false =>
      rw [List.any_eq_false] at hq
      refine absurd ?_ h
      unfold needyL
      rw [List.map_eq_nil_iff, List.filter_eq_nil_iff]
      exact hq
  obtain ⟨x, hx, hp⟩ := List.any_eq_true.1 ha
  have hlt : L.findIdx (fun y : GrV => hasB y.ex lost) < L.length := List.findIdx_lt_length.2 ⟨x, hx, hp⟩
  refine ⟨_, L[L.findIdx (fun y : GrV => hasB y.ex lost)], fun i y hi hy => ?_, List.getElem?_eq_getElem hlt, List.findIdx_getElem (w := hlt)⟩
  obtain ⟨hil, he⟩ := List.getElem?_eq_some_iff.1 hy
  have := List.not_of_lt_findIdx hi
  rw [he] at this
  simpa using this
theorem none_has {L : List GrV} {lost : Int} (h : needyL L lost = []) : NoneYet (fun y : GrV => hasB y.ex lost) L L.length := fun i x _ hx => by
  unfold needyL at h
  rw [List.map_eq_nil_iff, List.filter_eq_nil_iff] at h
  simpa using h x (List.mem_of_getElem? hx)
theorem needy_moved {L : List GrV} {lost : Int} {k : Nat} {g g' : GrV} (hN : NoneYet (fun y : GrV => hasB y.ex lost) L k) (hg : L[k]? = some g) (hn : hasB g'.ex lost = false) : needyL (L.set k g') lost = needyL (L.drop (k + 1)) lost := by
  obtain ⟨hk, _⟩ := List.getElem?_eq_some_iff.1 hg
  have e : L.set k g' = L.take k ++ ([g'] ++ L.drop (k + 1)) := by
    rw [List.set_eq_take_append_cons_drop, if_pos hk]
    rfl
  have e0 : needyL (L.take k) lost = [] := by
    unfold needyL
    rw [List.map_eq_nil_iff, List.filter_eq_nil_iff]
    intro x hx
    obtain ⟨i, hi, hxi⟩ := List.mem_iff_getElem.1 hx
    have hil : i < k := by rw [List.length_take] at hi; omega
    have := hN i x hil (by rw [← hxi, List.getElem_take]; exact List.getElem?_eq_getElem _)
    simp [this]
  rw [e, needyL_append, needyL_append, e0]
  simp [needyL, hn]
theorem needy_step {L : List GrV} {lost : Int} {k : Nat} {g : GrV} (hg : L[k]? = some g) : (needyL (L.take (k + 1)) lost).length = (needyL (L.take k) lost).length + (if hasB g.ex lost then 1 else 0) := by
  rw [take_more hg, needyL_append, List.length_append]
  congr 1
  unfold needyL
  cases h : hasB g.ex lost <;> simp [h]
theorem safe_nobody {rm : List Int} {L : List GrV} {lost : Int} (h : needyL L lost = []) : safeB rm L lost = true := by
  unfold safeB
  rw [fitsB_iff, h]
  exact ⟨fun _ => 0, fun i hi => absurd hi (Nat.not_lt_zero _), fun d _ => Nat.zero_le _⟩
/-- One cell of a row of the call's own is written over. -/
theorem own_poke_at {w w' : World} {base g n cap size i : Nat} {e : TypeId} {xs : List Value} {u : Value} (h : w.ownsRow base e size (.slice (some ⟨g, 0, none⟩) n cap) n xs) {cur : Array Value} (hb : Blk w g e cur)
    (hb' : Blk w' g e (cur.setIfInBounds i u)) : w'.ownsRow base e size (.slice (some ⟨g, 0, none⟩) n cap) n (xs.set i u) := by
  rcases h.2 with ⟨h0, _⟩ | ⟨g', cap', cur', hv, h1, h2, h3, h4, h5, h6⟩
  · cases h0
  · injection hv with hv1 hv2 hv3
    injection hv1 with hv1
    injection hv1 with hv1
    subst hv1
    subst hv3
    have hc : cur' = cur := by
      unfold Blk at hb
      rw [h2] at hb
      injection hb with hb
      injection hb
    subst hc
    refine ⟨by rw [List.length_set]; exact h.1, .inr ⟨g, cap, _, rfl, h1, hb', h3, h4, by simpa using h5, ?_⟩⟩
    rw [Array.toList_setIfInBounds, List.take_set, h6]
theorem exL_set {l : List Ex} {k : Nat} {x : Ex} (h : l[k]? = some x) (d : Int) : (exL l).set (k * 2) (.int .i64 d) = exL (l.set k (d, x.2)) := by
  obtain ⟨hk, he⟩ := List.getElem?_eq_some_iff.1 h
  have e : l = l.take k ++ x :: l.drop (k + 1) := by rw [← he, ← List.drop_eq_getElem_cons hk, List.take_append_drop]
  have e2 : l.set k (d, x.2) = l.take k ++ (d, x.2) :: l.drop (k + 1) := by rw [List.set_eq_take_append_cons_drop, if_pos hk]
  rw [e2]
  conv => lhs; rw [e]
  have hlen : (exL (l.take k)).length = k * 2 := by rw [exL_length, List.length_take]; omega
  have e3 : ∀ y : Ex, exL (l.take k ++ y :: l.drop (k + 1)) = exL (l.take k) ++ (exC y ++ exL (l.drop (k + 1))) := fun y => by
    rw [exL_append, show y :: l.drop (k + 1) = [y] ++ l.drop (k + 1) from rfl, exL_append, exL_one]
  rw [e3, e3, List.set_append_right _ _ (by omega), hlen, Nat.sub_self]
  rfl
/-- Where a group's extents lie. -/
theorem ExOwn.at_ {w : World} {base : Nat} {g : GrV} (h : ExOwn w base g) (hn : 0 < g.n) : ∃ b cur, g.A = some ⟨b, 0, none⟩ ∧ Blk w b 38 cur ∧ g.n * 2 ≤ cur.size ∧ base ≤ b ∧ b < w.heap.size := by
  rcases h.2 with ⟨h0, h1⟩ | ⟨b, cap', cur', hv, h1, h2, h3, h4, h5, h6⟩
  · omega
  · injection hv with hv1 hv2 hv3
    refine ⟨b, cur', hv1, h2, by rw [h5]; exact Nat.mul_le_mul_right 2 h3, h1, ?_⟩
    exact (h.lt b (by rw [GrV.row, hv1]; rfl)).2
end Go.Proofs.Ytmaiikmgpeafkaa
