/- What is asked of groups depends on their extents alone; what few leaves. -/
import Derived.Test.YtmaiikmgpeafkaaLawE
import Derived.Test.YtmaiikmgpeafkaaGrpW
import Derived.Test.YtmaiikmgpeafkaaGrpU
namespace Go.Proofs.Ytmaiikmgpeafkaa
open Go.RowKit

theorem needyL_map (L : List GrV) (d : Int) : needyL L d = ((L.map GrV.ex).filter (fun e => hasB e d)).map (fun e => rise (dks e)) := by
  unfold needyL
  rw [List.filter_map, List.map_map]
  rfl
theorem needyL_congr {L L' : List GrV} (h : L.map GrV.ex = L'.map GrV.ex) (d : Int) : needyL L d = needyL L' d := by rw [needyL_map, needyL_map, h]
theorem safeB_congr {L L' : List GrV} (h : L.map GrV.ex = L'.map GrV.ex) (rm : List Int) (d : Int) : safeB rm L d = safeB rm L' d := by
  unfold safeB
  rw [needyL_congr h]
theorem allSafeB_congr {L L' : List GrV} (h : L.map GrV.ex = L'.map GrV.ex) (rm : List Int) : allSafeB rm L = allSafeB rm L' := by
  unfold allSafeB
  congr 1
  funext d
  exact safeB_congr h rm d
theorem allD_congr {L L' : List GrV} (h : L.map GrV.ex = L'.map GrV.ex) : allD L = allD L' := by
  have e : ∀ L : List GrV, allD L = (L.map GrV.ex).flatMap dks := fun L => by
    unfold allD
    rw [List.flatMap_map]
  rw [e, e, h]
theorem idxI_map (L : List GrV) (d : Int) : idxI (fun y : GrV => hasB y.ex d) L = idxI (fun e : List Ex => hasB e d) (L.map GrV.ex) := by
  unfold idxI
  rw [List.findIdx_map, List.length_map]
  rfl
theorem moveV_congr {L L' : List GrV} (h : L.map GrV.ex = L'.map GrV.ex) (rm : List Int) (d : Int) : moveV rm L d = moveV rm L' d := by
  have hi : idxI (fun y : GrV => hasB y.ex d) L = idxI (fun y : GrV => hasB y.ex d) L' := by rw [idxI_map, idxI_map, h]
  unfold moveV
  rw [hi, safeB_congr h]
  obtain ⟨k, hk⟩ : ∃ k, k = (idxI (fun y : GrV => hasB y.ex d) L').toNat := ⟨_, rfl⟩
  rw [← hk]
  split
  · have hd : (L.drop (k + 1)).map GrV.ex = (L'.drop (k + 1)).map GrV.ex := by rw [List.map_drop, List.map_drop, h]
    have hg : (L[k]?).map GrV.ex = (L'[k]?).map GrV.ex := by rw [← List.getElem?_map, ← List.getElem?_map, h]
    cases h1 : L[k]? with
    | none =>
      rw [h1] at hg
      cases h2 : L'[k]? with
      | none => rfl
      | some g' => rw [h2] at hg; cases hg
    | some g =>
      rw [h1] at hg
      cases h2 : L'[k]? with
      | none => rw [h2] at hg; cases hg
      | some g' =>
        rw [h2] at hg
        simp only [Option.map_some, Option.some.injEq] at hg
        have hm : moveD rm g (L.drop (k + 1)) d = moveD rm g' (L'.drop (k + 1)) d := by
          unfold moveD
          rw [hg, needyL_congr hd]
        simp only [hm]
  · rfl
theorem ex_of_dat {L L' : List GrV} (h : L.map GrV.dat = L'.map GrV.dat) : L.map GrV.ex = L'.map GrV.ex := by
  have e : ∀ L : List GrV, L.map GrV.ex = (L.map GrV.dat).map (fun x => x.2.2) := fun L => by rw [List.map_map]; rfl
  rw [e, e, h]
theorem ExOwn.len {w : World} {base : Nat} {g : GrV} (h : ExOwn w base g) : g.ex.length = g.n := by
  have := h.1
  rw [exL_length] at this
  omega
section
variable {w : World} {base : Nat} {v : Value} {L Lf : List GrV} (h : Lf.map GrV.dat = (L.take 16).map fewD)
include h
theorem few_len : Lf.length ≤ 16 := by
  have := congrArg List.length h
  simp only [List.length_map, List.length_take] at this
  omega
theorem few_ex : ∀ g ∈ Lf, g.ex.length ≤ 6 ∧ ∀ x ∈ g.ex, 0 ≤ x.1 ∧ x.1 < 9 := fun g hg => by
  have hm : g.dat ∈ (L.take 16).map fewD := by rw [← h]; exact List.mem_map_of_mem hg
  obtain ⟨y, _, hy⟩ := List.mem_map.1 hm
  have he : (y.ex.take 6).map fewX = g.ex := congrArg (fun z : GrD => z.2.2) hy
  rw [← he]
  refine ⟨by rw [List.length_map, List.length_take]; omega, fun x hx => ?_⟩
  obtain ⟨z, _, rfl⟩ := List.mem_map.1 hx
  unfold fewX m9
  omega
theorem few_n (ho : GsOwn w base v Lf) : ∀ g ∈ Lf, g.n ≤ 1000000 := fun g hg => by
  have h1 := ExOwn.len (ho.mem g hg)
  have h2 := (few_ex h g hg).1
  omega
theorem few_all : (allD Lf).length ≤ 1000000 := by
  have h1 := few_len h
  have h2 := few_ex h
  have : ∀ l : List GrV, (∀ g ∈ l, g.ex.length ≤ 6) → (allD l).length ≤ l.length * 6 := fun l => by
    induction l with
    | nil => intro _; simp [allD]
    | cons g l ih =>
      intro hl
      have k1 := ih (fun x hx => hl x (List.mem_cons_of_mem _ hx))
      have k2 := hl g (List.mem_cons_self ..)
      unfold allD at k1 ⊢
      rw [List.flatMap_cons, List.length_append, List.length_cons]
      have k3 : (dks g.ex).length = g.ex.length := by simp [dks]
      omega
  have := this Lf (fun g hg => (h2 g hg).1)
  omega
end
#print axioms few_all
end Go.Proofs.Ytmaiikmgpeafkaa
