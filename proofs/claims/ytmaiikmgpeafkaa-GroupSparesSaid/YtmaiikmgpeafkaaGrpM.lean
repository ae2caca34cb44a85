/- The closure of eachFinds that looks for a disk: it finds one, or tells which disks are full of groups that hang on them. -/
import Derived.Test.YtmaiikmgpeafkaaGrpS
import Derived.Deep.RegionLaw
import Derived.Test.YtmaiikmgpeafkaaPoke
namespace Go.Proofs.Ytmaiikmgpeafkaa
open Go.RowKit

/-- An append as a step of a region, where its run is known. -/
theorem step_known {P : Program} {ops : Array Oper} {o : Oper} {a : Act} {w : World} {K : Act → World → Prop} {Q : Exit → Act → World → Prop} {E : Prop}
    (hg : o.guard = none) (s x : Operand) (t : TypeId) (ho : o.op = .call { callee := .builtin .append, args := #[s, x], argTypes := #[t, t] })
    (v xv : Value) (hs : a.eval s = v) (hx : a.eval x = xv) (v' : Value) (w' : World) (hrun : (Builtin.append_ #[t, t] o.type #[v, xv]).run P w = .ok v' w')
    (hK : K (a.put o.dst v') w') : if Region.wanted o (yielded ops a.tmps) = true then Oper.wp P o a w K Q else E := by
  have hw : Region.wanted o (yielded ops a.tmps) = true := by simp [Region.wanted, hg]
  rw [if_pos hw]
  unfold Oper.wp execOp
  simp only [ho, resolve, invoke, builtin, Sem.run_bind, Sem.run_pure, Result.andThen_ok, List.map_toArray, List.map_cons, List.map_nil, hs, hx, hrun]
  exact hK
/-- The groups' disks, rising, in rows below B0. -/
def GB (w0 : World) (B0 : Nat) (vG : Value) (Bs : List (List Int)) : Prop :=
  ∀ i, i < Bs.length → ∃ g c u, vG = .slice (some ⟨g, 0, none⟩) Bs.length c ∧ Bs.length ≤ c ∧ g < B0 ∧ w0.cell? ⟨g, i, none⟩ = some u ∧ Rw w0 B0 u (grp Bs i) ∧ (grp Bs i).Pairwise (· ≤ ·)
theorem grp_at {Bs : List (List Int)} {i : Nat} {l : List Int} (h : Bs[i]? = some l) : grp Bs i = l := by simp [grp, h]
theorem Nd.gb {w : World} {base : Nat} {v : Value} {Bs : List (List Int)} (h : Nd w base v Bs) (hs : ∀ l ∈ Bs, l.Pairwise (· ≤ ·)) : GB w w.heap.size v Bs := by
  intro i hi
  have hl : Bs[i]? = some Bs[i] := List.getElem?_eq_getElem hi
  obtain ⟨g, c, u, hv, hg, hc, hr⟩ := h.at_ hl
  obtain ⟨A, c2, hv2, h1, _⟩ := h.shape
  have hcc : c = c2 := by rw [hv] at hv2; injection hv2
  subst hcc
  rw [grp_at hl]
  exact ⟨g, c, u, hv, h1, hg, hc, hr, hs _ (List.getElem_mem hi)⟩
theorem FOk.len_le {rm : List Int} {Bs : List (List Int)} {F : Nat → List Nat} (h : FOk rm Bs F) (h1 : ∀ y, cnt rm.length F y ≤ 1) {d : Nat} (hd : d < rm.length) : (F d).length ≤ Bs.length := by
  rw [← sum_count (F d) Bs.length (fun y hy => (h.mem d y hy).1)]
  have e : ∀ m, sumN m (fun _ => 1) = m := by
    intro m
    induction m with
    | zero => rfl
    | succ m ih => simp only [sumN, ih]
  conv => rhs; rw [← e Bs.length]
  exact sumN_le _ fun y _ => Nat.le_trans (sumN_ge (fun d => (F d).count y) rm.length d hd) (h1 y)
theorem roomI_at {rm : List Int} {d : Nat} {v : Int} (h : rm[d]? = some v) : roomI rm d = v := by simp [roomI, List.getD, h]
theorem room_lt {rm : List Int} {d k : Nat} (h : (k : Int) < roomI rm d) : k < roomN rm d := by unfold roomN; omega
theorem room_ge {rm : List Int} {d k : Nat} (h : ¬ (k : Int) < roomI rm d) : roomN rm d ≤ k := by unfold roomN; omega
/-- No disk below q is free for x. -/
def NoFree (rm : List Int) (Bs : List (List Int)) (F : Nat → List Nat) (x q : Nat) : Prop := ∀ d, d < q → ¬ (((F d).length : Int) < roomI rm d ∧ (d : Int) ∉ grp Bs x)
/-- While the second loop stands at disk q. -/
structure Mid (rm : List Int) (Bs : List (List Int)) (F : Nat → List Nat) (T : Nat → Bool) (x q : Nat) (T' : Nat → Bool) : Prop where
  more : ∀ d, T d = true → T' d = true
  full : ∀ d, T' d = true → d < rm.length ∧ roomN rm d ≤ (F d).length
  all : ∀ e, e < q → e < rm.length → (e : Int) ∉ grp Bs x → T' e = true
  closed : ∀ d, T' d = true → T d = false → ∀ y ∈ F d, ∀ e, e < rm.length → (e : Int) ∉ grp Bs y → T' e = true
/-- While the third loop stands at place i of disk q. -/
structure Low (rm : List Int) (Bs : List (List Int)) (F : Nat → List Nat) (T : Nat → Bool) (x q : Nat) (T' : Nat → Bool) (i : Nat) (T2 : Nat → Bool) : Prop where
  more : ∀ d, setF T' q true d = true → T2 d = true
  full : ∀ d, T2 d = true → d < rm.length ∧ roomN rm d ≤ (F d).length
  closed : ∀ d, T2 d = true → T d = false → d ≠ q → ∀ y ∈ F d, ∀ e, e < rm.length → (e : Int) ∉ grp Bs y → T2 e = true
  part : ∀ j y, j < i → (F q)[j]? = some y → ∀ e, e < rm.length → (e : Int) ∉ grp Bs y → T2 e = true
section
variable {rm : List Int} {Bs : List (List Int)} {F F' : Nat → List Nat} {T T' T2 T3 : Nat → Bool} {x q i o : Nat}
theorem NoFree.zero : NoFree rm Bs F x 0 := fun d h => by omega
theorem NoFree.full {d : Nat} (h : NoFree rm Bs F x q) (hd : d < q) (hb : (d : Int) ∉ grp Bs x) : roomN rm d ≤ (F d).length := room_ge fun h2 => h d hd ⟨h2, hb⟩
theorem NoFree.succ (h : NoFree rm Bs F x q) (h2 : ¬ (((F q).length : Int) < roomI rm q ∧ (q : Int) ∉ grp Bs x)) : NoFree rm Bs F x (q + 1) := fun d hd => by
  by_cases e : d = q
  · rw [e]; exact h2
  · exact h d (by omega)
theorem Mid.zero (hf : ∀ d, T d = true → d < rm.length ∧ roomN rm d ≤ (F d).length) : Mid rm Bs F T x 0 T := ⟨fun _ h => h, hf, fun e h => by omega, fun d h1 h2 => by rw [h1] at h2; cases h2⟩
theorem Mid.succ (h : Mid rm Bs F T x q T') (h2 : (q : Int) ∉ grp Bs x → T' q = true) : Mid rm Bs F T x (q + 1) T' := ⟨h.more, h.full, fun e he hn hb => by
  by_cases e2 : e = q
  · subst e2; exact h2 hb
  · exact h.all e (by omega) hn hb, h.closed⟩
theorem Mid.low (h : Mid rm Bs F T x q T') (hf : NoFree rm Bs F x rm.length) (hq : q < rm.length) (hb : (q : Int) ∉ grp Bs x) : Low rm Bs F T x q T' 0 (setF T' q true) := by
  refine ⟨fun _ h => h, fun d hd => ?_, fun d hd hT hdq y hy e he hb2 => ?_, fun j y hj => by omega⟩
  · by_cases e : d = q
    · subst e; exact ⟨hq, hf.full hq hb⟩
    · rw [setF_ne _ _ e] at hd; exact h.full d hd
  · rw [setF_ne _ _ hdq] at hd
    have := h.closed d hd hT y hy e he hb2
    by_cases e2 : e = q
    · subst e2; rw [setF_self]
    · rw [setF_ne _ _ e2]; exact this
theorem Low.next (h : Low rm Bs F T x q T' i T2) (ho : (F q)[i]? = some o) (hn : NotFound rm Bs F T2 o T3) : Low rm Bs F T x q T' (i + 1) T3 := by
  refine ⟨fun d hd => hn.more d (h.more d hd), hn.full, fun d hd hT hdq y hy e he hb => ?_, fun j y hj hy e he hb => ?_⟩
  · cases h2 : T2 d
    · exact hn.closed d hd h2 y hy e he hb
    · exact hn.more e (h.closed d h2 hT hdq y hy e he hb)
  · by_cases e2 : j = i
    · subst e2
      rw [ho] at hy
      injection hy with hy
      subst hy
      exact hn.all e he hb
    · exact hn.more e (h.part j y (by omega) hy e he hb)
theorem Low.end_ (h : Mid rm Bs F T x q T') (hl : Low rm Bs F T x q T' (F q).length T2) : Mid rm Bs F T x (q + 1) T2 := by
  have hm : ∀ d, T' d = true → T2 d = true := fun d hd => hl.more d (by
    by_cases e : d = q
    · subst e; rw [setF_self]
    · rw [setF_ne _ _ e]; exact hd)
  refine ⟨fun d hd => hm d (h.more d hd), hl.full, fun e he hn hb => ?_, fun d hd hT y hy e he hb => ?_⟩
  · by_cases e2 : e = q
    · subst e2; exact hl.more e (by rw [setF_self])
    · exact hm e (h.all e (by omega) hn hb)
  · by_cases e2 : d = q
    · subst e2
      obtain ⟨j, hj⟩ := List.getElem?_of_mem hy
      exact hl.part j y (List.getElem?_eq_some_iff.1 hj).1 hj e he hb
    · exact hl.closed d hd hT e2 y hy e he hb
theorem Mid.done (h : Mid rm Bs F T x rm.length T') : NotFound rm Bs F T x T' := ⟨h.more, h.full, fun e he hb => h.all e he he hb, h.closed⟩
theorem Low.untried_lt (h : Low rm Bs F T x q T' i T2) (hm : Mid rm Bs F T x q T') (hq : q < rm.length) (hT : T' q = false) : untried rm.length T2 < untried rm.length T :=
  Nat.lt_of_lt_of_le (Nat.lt_of_le_of_lt (untried_le h.more) (untried_set hq hT)) (untried_le hm.more)
theorem Low.self (h : Low rm Bs F T x q T' i T2) : T2 q = true := h.more q (by rw [setF_self])
/-- The other one has found another disk: this one takes its place. -/
theorem Low.found (h : Low rm Bs F T x q T' i T2) (hm : Mid rm Bs F T x q T') (hT : T' q = false) (hq : q < rm.length) (ho : (F q)[i]? = some o) (hf : Found rm Bs F T2 o F') (hx : x < Bs.length) (hb : (q : Int) ∉ grp Bs x) :
    F' q = F q ∧ Found rm Bs F T x (setF F' q ((F' q).set i x)) := by
  have e : F' q = F q := hf.kept q h.self
  have ho' : (F' q)[i]? = some o := by rw [e]; exact ho
  obtain ⟨h1, h2⟩ := hf.ok.put hq ho' hx hb
  refine ⟨e, h1, fun y => ?_, fun d hd => ?_⟩
  · have := h2 y
    have := hf.cnt_ y
    omega
  · have hdq : d ≠ q := fun e2 => by
      subst e2
      rw [hm.more d hd] at hT
      cases hT
    rw [setF_ne _ _ hdq]
    exact hf.kept d (h.more d (by rw [setF_ne _ _ hdq]; exact hm.more d hd))
theorem found_add (h : FOk rm Bs F) (hfull : ∀ d, T d = true → d < rm.length ∧ roomN rm d ≤ (F d).length) (hq : q < rm.length) (hl : ((F q).length : Int) < roomI rm q) (hx : x < Bs.length) (hb : (q : Int) ∉ grp Bs x) : Found rm Bs F T x (setF F q (F q ++ [x])) := by
  have hl' := room_lt hl
  obtain ⟨h1, h2⟩ := h.add hq hl' hx hb
  refine ⟨h1, h2, fun d hd => ?_⟩
  have hdq : d ≠ q := fun e => by
    subst e
    have := (hfull d hd).2
    omega
  rw [setF_ne _ _ hdq]
end
theorem keys_mem {n : Nat} {f : Nat → Option Value} (h : ∀ d, n ≤ d → f d = none) (k : Nat) : k ∈ (List.range n).filter (fun d => (f d).isSome) ↔ (f k).isSome = true := by
  rw [List.mem_filter, List.mem_range]
  refine ⟨fun h2 => h2.2, fun h2 => ⟨?_, h2⟩⟩
  rcases Nat.lt_or_ge k n with h3 | h3
  · exact h3
  · rw [h k h3] at h2; cases h2
theorem MapIs.look_plain {w : World} {b : Nat} {f : Nat → Option Value} (h : MapIs w b f) {t e : TypeId} (ht : Try.prog.underlying t = some (.map 3 e)) {z u : Value} (hz : (zeroValue e).run Try.prog w = .ok z w) {k : Nat} (hk : f k = some u ∨ (f k = none ∧ z = u)) (hk63 : k < 9223372036854775808) :
    (Instr.lookup t (.map (some b)) (.int .i64 (k : Int)) false).run Try.prog w = .ok u w := by
  rcases hk with hk | ⟨hk, rfl⟩
  · exact h.look_some ht hz hk false
  · exact h.look_none ht hz hk hk63 false
theorem unit_info : (Try.prog.info? 69).map (·.size) = some 0 := by kernel_rfl
theorem unit_zero (w : World) : (zeroValue 69).run Try.prog w = .ok (.agg #[]) w := by kernel_rfl
#print axioms Low.found
end Go.Proofs.Ytmaiikmgpeafkaa
