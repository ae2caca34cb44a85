/- slices.SortFunc over places, by when they became loose. -/
import Derived.Test.YtmjjnbabfldbcaaGreatCmp
namespace Go.Proofs.YtmjjnbabfldbcaaGreat
open Go.RowKit

def flatP (ps : List (Nat × Nat)) : List Value := ps.flatMap placeL
theorem flatP_length (ps : List (Nat × Nat)) : (flatP ps).length = ps.length * 2 := by
  induction ps with
  | nil => rfl
  | cons p ps ih =>
    have : flatP (p :: ps) = placeL p ++ flatP ps := rfl
    rw [this, List.length_append, ih, List.length_cons]
    show 2 + ps.length * 2 = _
    omega
theorem flatP_at (ps : List (Nat × Nat)) : ∀ (i c : Nat) (p : Nat × Nat), ps[i]? = some p → c < 2 → (flatP ps)[i * 2 + c]? = (placeL p)[c]? := by
  induction ps with
  | nil => intro i c p h; simp at h
  | cons q ps ih =>
    intro i c p h hc
    have e : flatP (q :: ps) = placeL q ++ flatP ps := rfl
    rw [e]
    cases i with
    | zero =>
      simp at h
      subst h
      rw [List.getElem?_append_left (by show 0 * 2 + c < 2; omega)]
      congr 1
      omega
    | succ i =>
      rw [List.getElem?_append_right (by show 2 ≤ (i + 1) * 2 + c; omega)]
      have h2 : (i + 1) * 2 + c - (placeL q).length = i * 2 + c := by show (i + 1) * 2 + c - 2 = _; omega
      rw [h2]
      exact ih i c p (by simpa using h) hc
theorem flatP_append (ps qs : List (Nat × Nat)) : flatP (ps ++ qs) = flatP ps ++ flatP qs := by simp [flatP]
/-- A place of a bank. -/
abbrev Pl (S : Bank) := {p : Nat × Nat // p.1 < S.n ∧ p.2 < 9223372036854775808}
def encP {S : Bank} (p : Pl S) : List Value := placeL p.1
def byP (S : Bank) (L : Lay) (x y : Pl S) : Int := byS S L x.1 y.1
theorem ltOf_byP (S : Bank) (L : Lay) (x y : Pl S) : ltOf (byP S L) x y = decide (sinceOf S L x.1 < sinceOf S L y.1) := by
  unfold ltOf byP byS Lib.compareInt
  by_cases h1 : sinceOf S L x.1 < sinceOf S L y.1
  · have : (sinceOf S L x.1 : Int) < (sinceOf S L y.1 : Int) := by omega
    simp [h1]
  · by_cases h2 : sinceOf S L y.1 < sinceOf S L x.1
    · simp [h1, h2]
    · simp [h1, h2]
theorem swo_byP (S : Bank) (L : Lay) : Go.Sort.SWO (ltOf (byP S L)) where
  irrefl x := by rw [ltOf_byP]; simp
  trans x y z h1 h2 := by rw [ltOf_byP] at *; simp at *; omega
  ntrans x y z h1 h2 := by rw [ltOf_byP] at *; simp at *; omega
section
variable {w : World} {b : Nat} {L : Lay} {S : Bank}
theorem flatK_eq [Inhabited (Pl S)] (ds : List (Pl S)) : (Go.Sort.flatK encP 2 ds.toArray).toList = flatP (ds.map (·.1)) := by
  apply List.ext_getElem?
  intro t
  by_cases ht : t < ds.length * 2
  · have hi : t / 2 < ds.length := by omega
    have hd : ds[t / 2]? = some ds[t / 2] := List.getElem?_eq_getElem hi
    have h1 : (flatP (ds.map (·.1)))[t / 2 * 2 + t % 2]? = (placeL ds[t / 2].1)[t % 2]? := flatP_at _ (t / 2) (t % 2) _ (by rw [List.getElem?_map, hd]; rfl) (by omega)
    rw [show t / 2 * 2 + t % 2 = t by omega] at h1
    rw [h1, Array.getElem?_toList]
    have hsz : t < (Go.Sort.flatK encP 2 ds.toArray).size := by rw [Go.Sort.size_flatK]; simpa using ht
    rw [Array.getElem?_eq_getElem hsz]
    have h2 := Go.Sort.get_flatK encP 2 ds.toArray t (by simpa using ht)
    rw [getElem!_pos _ t hsz] at h2
    rw [h2]
    have h3 : ds.toArray[t / 2]! = ds[t / 2] := by rw [getElem!_pos _ _ (by simpa using hi)]; simp
    rw [h3]
    have h4 : t % 2 < (placeL ds[t / 2].1).length := by show t % 2 < 2; omega
    rw [List.getElem?_eq_getElem h4]
    congr 1
    exact getElem!_pos (placeL ds[t / 2].1) (t % 2) h4
  · rw [List.getElem?_eq_none (by rw [Array.length_toList, Go.Sort.size_flatK]; simpa using ht), List.getElem?_eq_none (by rw [flatP_length, List.length_map]; omega)]
theorem lift_places (hok : S.Ok) (ps : List (Nat × Nat)) (hps : ∀ p ∈ ps, p ∈ S.order) : ∃ ds : List (Pl S), ds.map (·.1) = ps := by
  induction ps with
  | nil => exact ⟨[], rfl⟩
  | cons p ps ih =>
    obtain ⟨ds, hds⟩ := ih (fun q hq => hps q (List.mem_cons_of_mem _ hq))
    have hp := hok.loose p (hps p (List.mem_cons_self ..))
    have := hok.size_le p.1 hp.1
    exact ⟨⟨p, hp.1, by omega⟩ :: ds, by rw [List.map_cons, hds]⟩
theorem heap_grow_old2 (w : World) (os : Array Obj) {k : Nat} (hk : k < w.heap.size) : (Go.Sort.grow w os).heap[k]? = w.heap[k]? := by
  show (w.heap ++ os)[k]? = _
  rw [Array.getElem?_append_left hk]
theorem sortWorld_heap [Inhabited (Pl S)] (g m : Nat) (dk : Array (Pl S)) (os : Array Obj) (cur : Array Value) (e : TypeId) (hb : w.heap[g]? = some (.cells cur e (0, 0))) :
    (sortWorldK encP 2 w g 0 m dk os).heap[g]? = some (.cells (Go.Sort.putCells id 0 (Go.Sort.flatK encP 2 dk) cur) e (0, 0)) := by
  have hg : g < w.heap.size := (Array.getElem?_eq_some_iff.1 hb).1
  unfold sortWorldK
  rw [heap_grow_old2 _ _ (by simpa [Go.Sort.putRowK, Go.Sort.putRow, Go.Sort.mapBlock, Go.Sort.ahead] using hg)]
  simp [Go.Sort.putRowK, Go.Sort.putRow, Go.Sort.mapBlock, Go.Sort.ahead, Array.getElem?_modify, hb, Go.Sort.onCells]
theorem sortWorld_grown [Inhabited (Pl S)] (g m : Nat) (dk : Array (Pl S)) (os : Array Obj) : w.grownBy (sortWorldK encP 2 w g 0 m dk os) (some g) := by
  refine ⟨rfl, rfl, rfl, by simp [sortWorldK, Go.Sort.grow, Go.Sort.putRowK, Go.Sort.putRow, Go.Sort.mapBlock, Go.Sort.ahead], fun k hk hne => ?_⟩
  unfold sortWorldK
  rw [heap_grow_old2 _ _ (by simpa [Go.Sort.putRowK, Go.Sort.putRow, Go.Sort.mapBlock, Go.Sort.ahead] using hk)]
  have : g ≠ k := fun e => hne (by rw [e])
  simp [Go.Sort.putRowK, Go.Sort.putRow, Go.Sort.mapBlock, Go.Sort.ahead, Array.getElem?_modify, this]
set_option maxRecDepth 100000 in
theorem sort_places (h : BankIn w b L S) (hok : S.Ok) (bx base g cap : Nat) (hbx : w.cell? ⟨bx, 0, none⟩ = some (.pointer (some ⟨b, 0, none⟩))) (hbl : bx < w.heap.size) (hbg : bx ≠ g) (ps : List (Nat × Nat)) (hps : ∀ p ∈ ps, p ∈ S.order)
    (hrow : w.ownsRow base 47 2 (.slice (some ⟨g, 0, none⟩) ps.length cap) ps.length (flatP ps)) (hfar : ∀ x, Foot b L S x → x ≠ g) (h0 : 0 < ps.length) (hlen : ps.length < 4611686018427387904) :
    Calls Tryz.prog 97 #[.slice (some ⟨g, 0, none⟩) ps.length cap, .func (.func 98) #[] #[.pointer (some ⟨bx, 0, none⟩)]] w fun e w' =>
      e = .returned (.tuple #[]) ∧ ∃ ts : List (Nat × Nat), ts.Perm ps ∧ ts.Pairwise (fun p q => sinceOf S L p ≤ sinceOf S L q) ∧ w'.ownsRow base 47 2 (.slice (some ⟨g, 0, none⟩) ps.length cap) ps.length (flatP ts) ∧ w.grownBy w' (some g) := by
  obtain ⟨ds, hds⟩ := lift_places hok ps hps
  have hdl : ds.length = ps.length := by rw [← hds, List.length_map]
  obtain ⟨d0, hd0⟩ : ∃ d0, ds[0]? = some d0 := ⟨_, List.getElem?_eq_getElem (by omega)⟩
  haveI : Inhabited (Pl S) := ⟨d0⟩
  obtain ⟨cur, hcur, hbase, hnc, hcm, hcs, htake⟩ : ∃ cur : Array Value, w.heap[g]? = some (.cells cur 47 (0, 0)) ∧ base ≤ g ∧ ps.length ≤ cap ∧ cap ≤ maxLen ∧ cur.size = cap * 2 ∧ cur.toList.take (ps.length * 2) = flatP ps := by
    rcases hrow.2 with ⟨hn, _⟩ | ⟨g', cap', cur, hv, hg', hb', h1, h2, h3, h4⟩
    · cases hn
    · injection hv with hv1 hv2 hv3
      injection hv1 with hv1
      injection hv1 with hv1
      subst hv1
      subst hv3
      exact ⟨cur, hb', hg', h1, h2, h3, h4⟩
  have hgl : g < w.heap.size := (Array.getElem?_eq_some_iff.1 hcur).1
  have hHd : Go.Sort.HoldsK encP 2 w g 0 ds.toArray := by
    intro j hj
    rw [Go.Sort.size_flatK] at hj
    have hj2 : j < ps.length * 2 := by simpa [hdl] using hj
    refine ⟨?_, by simp [World.frozen?, hcur]⟩
    rw [Nat.zero_add, cell_of_row w g j cur _ _ hcur]
    have h1 : (cur.toList.take (ps.length * 2))[j]? = (flatP ps)[j]? := by rw [htake]
    rw [List.getElem?_take_of_lt hj2, Array.getElem?_toList] at h1
    rw [h1]
    have h2 : (Go.Sort.flatK encP 2 ds.toArray).toList[j]? = (flatP ps)[j]? := by rw [flatK_eq, hds]
    rw [← h2, Array.getElem?_toList, Array.getElem?_eq_getElem (by rw [Go.Sort.size_flatK]; exact hj)]
    congr 1
    exact (getElem!_pos _ _ _).symm
  have eg : ∀ args w, (callFunc 98 args).run Tryz.prog w = .ok (.enter 98 args) w := enters_of Tryz.func98 (by kernel_rfl) rfl
  have hcmp : CmpLays Tryz.prog 98 #[.pointer (some ⟨bx, 0, none⟩)] encP 2 (byP S L) g 0 ds.toArray.size w := by
    intro m os dk _ x y
    have hg := sortWorld_grown (w := w) g m dk os
    have h2 : BankIn (sortWorldK encP 2 w g 0 m dk os) b L S := h.kept fun z hz => hg.block z (h.foot_lt z hz) (fun e => hfar z hz (by injection e))
    have hbx2 : (sortWorldK encP 2 w g 0 m dk os).cell? ⟨bx, 0, none⟩ = some (.pointer (some ⟨b, 0, none⟩)) := (World.cell?_of_block (hg.block bx hbl (fun e => hbg (by injection e)))).trans hbx
    exact (closure_any h2 hok bx hbx2 (by have := hg.size; omega) x.1 y.1 x.2.1 x.2.2 y.2.1 y.2.2).mono fun e w' ⟨he, hG⟩ => ⟨he, hG⟩
  have hcon := AnyQ.slices_SortFunc lay_sortP 2 Tryz.isAgg47 Tryz.sizeOf47 encP (fun _ => rfl) (fun x v hv => by simp [encP, placeL] at hv; rcases hv with rfl | rfl <;> rfl) (byP S L) (swo_byP S L) 98 #[.pointer (some ⟨bx, 0, none⟩)] g 0 cap ds.toArray w eg hcmp hHd hgl (by simpa [hdl] using hlen)
  have hsz : ds.toArray.size = ps.length := by simp [hdl]
  rw [hsz] at hcon
  refine Calls.mono hcon ?_
  rintro e w' ⟨he, d', n, os, hperm, hsort, rfl⟩
  have hd's : d'.size = ps.length := hperm.1.trans hsz
  have hpl : d'.toList.Perm ds := by
    have h3 := hperm.2.2
    rw [Array.extract_eq_self_of_le (by omega), Array.extract_eq_self_of_le (by omega)] at h3
    simpa using h3
  refine ⟨he, d'.toList.map (·.1), by rw [← hds]; exact hpl.map _, ?_, ?_, sortWorld_grown _ _ _ _⟩
  · rw [List.pairwise_map, List.pairwise_iff_getElem]
    intro i j hi hj hij
    have h5 := hsort i j (Nat.zero_le _) hij (by rw [Array.length_toList] at hj; omega)
    rw [ltOf_byP, getElem!_pos _ j (by simpa using hj), getElem!_pos _ i (by simpa using hi)] at h5
    simp only [decide_eq_false_iff_not] at h5
    simp only [Array.getElem_toList]
    omega
  · refine ⟨by rw [flatP_length, List.length_map, Array.length_toList, hd's], .inr ⟨g, cap, _, rfl, hbase, sortWorld_heap _ _ _ _ cur _ hcur, hnc, hcm, by simp [Go.Sort.putCells, hcs], ?_⟩⟩
    have hfk : (Go.Sort.flatK encP 2 d').toList = flatP (d'.toList.map (·.1)) := by
      have := flatK_eq d'.toList
      simpa using this
    rw [← hfk]
    apply List.ext_getElem?
    intro j
    by_cases hj : j < ps.length * 2
    · have hjc : j < cur.size := by rw [hcs]; have := Nat.mul_le_mul_right 2 hnc; omega
      have hjf : j < (Go.Sort.flatK encP 2 d').size := by rw [Go.Sort.size_flatK, hd's]; exact hj
      rw [List.getElem?_take_of_lt hj, Array.getElem?_toList, Array.getElem?_toList, Array.getElem?_eq_getElem hjf]
      simp [Go.Sort.putCells, Array.getElem?_mapIdx, Array.getElem?_eq_getElem hjc, hd's, hj]
    · rw [List.getElem?_take_eq_none (by omega), List.getElem?_eq_none (by rw [Array.length_toList, Go.Sort.size_flatK, hd's]; omega)]
end
end Go.Proofs.YtmjjnbabfldbcaaGreat
