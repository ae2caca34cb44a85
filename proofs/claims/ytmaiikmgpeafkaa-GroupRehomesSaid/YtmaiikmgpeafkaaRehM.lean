/- One disk of one group is written over, in a row of groups of the call's own. -/
import Derived.Test.YtmaiikmgpeafkaaLawE
import Derived.Test.YtmaiikmgpeafkaaRehX
import Derived.Test.YtmaiikmgpeafkaaWhen
import Derived.Test.YtmaiikmgpeafkaaArr
namespace Go.Proofs.Ytmaiikmgpeafkaa
open Go.RowKit

theorem set_map_same {α β : Type} (f : α → β) {L : List α} {k : Nat} {g g' : α} (hg : L[k]? = some g) (h : f g' = f g) : (L.set k g').map f = L.map f := by
  rw [List.map_set, h]
  obtain ⟨hk, he⟩ := List.getElem?_eq_some_iff.1 hg
  have : f g = (L.map f)[k]'(by simpa using hk) := by simp [he]
  rw [this]
  exact List.set_getElem_self ..
theorem GsOwn.poke {w w' : World} {base b : Nat} {v : Value} {L : List GrV} {k j : Nat} {g : GrV} {x : Ex} {d : Int} {cur : Array Value} (h : GsOwn w base v L) (hg : L[k]? = some g) (hA : g.A = some ⟨b, 0, none⟩) (hx : g.ex[j]? = some x) (hb : Blk w b 38 cur)
    (hb' : Blk w' b 38 (cur.setIfInBounds (j * 2) (.int .i64 d))) (hgr : w.grownBy w' (some b)) : GsOwn w' base v (L.set k { g with ex := g.ex.set j (d, x.2) }) := by
  obtain ⟨g', hg'⟩ : ∃ g', g' = { g with ex := g.ex.set j (d, x.2) } := ⟨_, rfl⟩
  rw [← hg']
  have hrow : g'.row = g.row := by rw [hg']; rfl
  have hC : grC g' = grC g := by rw [hg']; rfl
  have hgm := List.mem_of_getElem? hg
  have hob : g.row.ownBlock = some b := by rw [GrV.row, hA]; rfl
  have hgl : grL (L.set k g') = grL L := by
    unfold grL
    rw [List.flatMap_def, List.flatMap_def, set_map_same grC hg hC]
  have hown' : ExOwn w' base g' := by
    have h1 : w.ownsRow base 38 2 (.slice (some ⟨b, 0, none⟩) g.n g.c) g.n (exL g.ex) := by
      have := h.mem g hgm
      unfold ExOwn GrV.row at this
      rw [hA] at this
      exact this
    have h2 := own_poke_at h1 hb hb'
    rw [exL_set hx] at h2
    unfold ExOwn GrV.row
    rw [hg']
    show w'.ownsRow base 38 2 (.slice g.A g.n g.c) g.n _
    rw [hA]
    exact h2
  have hap : ∀ (i : Nat) y, i ≠ k → L[i]? = some y → Apart g.row y.row := fun i y hik hy => by
    obtain ⟨hk, he⟩ := List.getElem?_eq_some_iff.1 hg
    obtain ⟨hi, hie⟩ := List.getElem?_eq_some_iff.1 hy
    have hp := List.pairwise_iff_getElem.1 h.apart
    rcases Nat.lt_or_gt_of_ne hik with hlt | hgt
    · have := hp i k hi hk hlt
      rw [he, hie] at this
      exact this.symm
    · have := hp k i hk hi hgt
      rw [he, hie] at this
      exact this
  refine ⟨?_, fun y hy => ?_, ?_⟩
  · rw [List.length_set, hgl]
    refine h.row.kept hgr ?_
    cases hv : v.ownBlock with
    | none => exact .inl rfl
    | some z => exact .inr (fun e => by
        rw [e] at hv
        exact blk_kind_ne h.row hb (by decide) hv)
  · obtain ⟨i, hi⟩ := List.getElem?_of_mem hy
    rw [List.getElem?_set] at hi
    by_cases hik : k = i
    · subst hik
      rw [if_pos rfl] at hi
      split at hi
      · injection hi with hi
        rw [← hi]
        exact hown'
      · cases hi
    · rw [if_neg hik] at hi
      have hym := List.mem_of_getElem? hi
      exact own_other (h.mem y hym) (by rw [hob]; exact hgr) (hap i y (fun e => hik e.symm) hi)
  · have e : (L.set k g').map GrV.row = L.map GrV.row := set_map_same GrV.row hg hrow
    rw [← List.pairwise_map (f := GrV.row) (R := fun a b => Apart a b), e, List.pairwise_map]
    exact h.apart
theorem GsOwn.ints {w : World} {base : Nat} {v : Value} {L : List GrV} {k : Nat} {g : GrV} (h : GsOwn w base v L) (hg : L[k]? = some g) (hn : 0 < g.n) : ∃ b cur, g.A = some ⟨b, 0, none⟩ ∧ Blk w b 38 cur ∧ g.n * 2 ≤ cur.size ∧ base ≤ b ∧ b < w.heap.size := (h.mem g (List.mem_of_getElem? hg)).at_ hn
section
variable {P : Program} {ops : Array Oper} {rest : List Oper} {o : Oper} {a : Act} {w : World} {Q : Exit → Act → World → Prop}
/-- A struct that is loaded behind '&&' or '||'. -/
theorem when_load_at (hw : Region.wanted o (yielded ops a.tmps) = true) (ty : TypeId) (x : Operand) (ho : o.op = .load ty x)
    (ad : Addr) (hx : a.eval x = .pointer (some ad)) (cs : List Value) (d : TypeDesc) (hc : ∀ (j : Nat) v, cs[j]? = some v → w.cell? (ad.add j) = some v)
    (hu : P.underlying ty = some d) (hd : (match d with | .struct _ | .array _ _ => true | _ => false) = true) (hi : (P.info? ty).map (·.size) = some cs.length)
    (h : wpList P ops Q rest (a.put o.dst (.agg cs.toArray)) w) : wpList P ops Q (o :: rest) a w :=
  when_gives hw (.agg cs.toArray) (by
    unfold execOp
    simp only [ho, hx, Instr.loadAt, Instr.sureAddr, Sem.run_bind, Sem.run_pure, Result.andThen_ok, run_loadVar_at w ad ty cs d hc hu hd hi]) h
end
theorem set_same {α : Type} {L : List α} {k : Nat} {g : α} (hg : L[k]? = some g) : L.set k g = L := by
  obtain ⟨hk, he⟩ := List.getElem?_eq_some_iff.1 hg
  rw [← he]
  exact List.set_getElem_self ..
theorem addr_add (b j : Nat) : (⟨b, 0, none⟩ : Addr).add j = ⟨b, j, none⟩ := by unfold Addr.add; split <;> simp_all
/-- Numbers in a block of their own are written over: groups don't mind. -/
theorem GsOwn.other {w w' : World} {base b : Nat} {v : Value} {L : List GrV} {cur : Array Value} (h : GsOwn w base v L) (hb : Blk w b 3 cur) (hg : w.grownBy w' (some b)) : GsOwn w' base v L := by
  have hk : ∀ {e : TypeId} {size n : Nat} {v : Value} {xs : List Value}, w.ownsRow base e size v n xs → e ≠ 3 → w'.ownsRow base e size v n xs := fun hr he => by
    refine hr.kept hg ?_
    cases hv : Value.ownBlock _ with
    | none => exact .inl rfl
    | some z => exact .inr (fun e => by
        rw [e] at hv
        exact blk_kind_ne hr hb he hv)
  exact ⟨hk h.row (by decide), fun g hgm => hk (h.mem g hgm) (by decide), h.apart⟩
#print axioms GsOwn.poke
end Go.Proofs.Ytmaiikmgpeafkaa
