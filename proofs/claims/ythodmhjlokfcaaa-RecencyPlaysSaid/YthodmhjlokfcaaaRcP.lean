/- Who was written last, without memory: a row without a number; a ring of links, to which one is hung and out of which one is cut. No program is named here. -/
import Derived.Test.YthodmhjlokfcaaaMapsG
namespace Go.Proofs.Ythodmhjlokfcaaa
open Go.RowKit
set_option linter.unusedVariables false

/-! ### Rows of numbers -/
/-- The row without b. -/
def wo (b : Int) (L : List Int) : List Int := L.filter fun x => decide (x ≠ b)
theorem wo_nil (b : Int) : wo b [] = [] := rfl
theorem wo_append (b : Int) (A B : List Int) : wo b (A ++ B) = wo b A ++ wo b B := List.filter_append ..
theorem mem_wo {b x : Int} {L : List Int} : x ∈ wo b L ↔ x ∈ L ∧ x ≠ b := by
  unfold wo
  rw [List.mem_filter, decide_eq_true_eq]
theorem not_mem_wo (b : Int) (L : List Int) : b ∉ wo b L := fun h => (mem_wo.1 h).2 rfl
theorem wo_none {b : Int} {L : List Int} (h : b ∉ L) : wo b L = L := by
  unfold wo
  rw [List.filter_eq_self]
  intro x hx
  exact decide_eq_true fun e => h (e ▸ hx)
theorem wo_self (b : Int) (L : List Int) : wo b (b :: L) = wo b L := by
  unfold wo
  rw [List.filter_cons_of_neg (by simp)]
theorem wo_mid {b : Int} {A B : List Int} (h : (A ++ b :: B).Nodup) : wo b (A ++ b :: B) = A ++ B := by
  rw [List.nodup_append] at h
  obtain ⟨h1, h2, h3⟩ := h
  rw [List.nodup_cons] at h2
  rw [wo_append, wo_self, wo_none h2.1, wo_none fun hb => h3 b hb b (List.mem_cons_self ..) rfl]
theorem wo_nodup {b : Int} {L : List Int} (h : L.Nodup) : (wo b L).Nodup := List.Pairwise.filter _ h
theorem wo_len (b : Int) (L : List Int) : (wo b L).length ≤ L.length := List.length_filter_le ..
theorem wo_sub {b x : Int} {L : List Int} (h : x ∈ wo b L) : x ∈ L := (mem_wo.1 h).1
/-- b made the newest. -/
def tch (b : Int) (L : List Int) : List Int := wo b L ++ [b]
theorem tch_nodup {b : Int} {L : List Int} (h : L.Nodup) : (tch b L).Nodup := by
  unfold tch
  rw [List.nodup_append]
  refine ⟨wo_nodup h, by simp, fun x hx y hy e => ?_⟩
  have hy' : y = b := by simpa using hy
  exact (mem_wo.1 hx).2 (e.trans hy')
theorem mem_tch {b x : Int} {L : List Int} : x ∈ tch b L ↔ x ∈ L ∨ x = b := by
  unfold tch
  rw [List.mem_append, mem_wo, List.mem_singleton]
  by_cases e : x = b
  · simp [e]
  · simp [e]
theorem tch_len (b : Int) (L : List Int) : (tch b L).length ≤ L.length + 1 := by
  unfold tch
  rw [List.length_append, List.length_singleton]
  have := wo_len b L
  omega
theorem tch_new {b : Int} {L : List Int} (h : b ∉ L) : tch b L = L ++ [b] := by
  unfold tch
  rw [wo_none h]

/-! ### Rings -/
/-- The links G hang in a ring at k: who is newer, who is older. -/
structure Ring (k : Nat) (G : List Nat) (nx pv : Nat → Nat) : Prop where
  nodup : (k :: G).Nodup
  fwd : (k :: G).map nx = G ++ [k]
  bwd : (G ++ [k]).map pv = k :: G
theorem Ring.one (k : Nat) : Ring k [] (fun _ => k) (fun _ => k) := ⟨by simp, rfl, rfl⟩
theorem map_off {α β : Type} {f g : α → β} {l : List α} (h : ∀ x ∈ l, f x = g x) : l.map f = l.map g := List.map_congr_left h
theorem last_split (k : Nat) (G : List Nat) : ∃ A z, k :: G = A ++ [z] :=
  ⟨(k :: G).dropLast, (k :: G).getLast (by simp), (List.dropLast_concat_getLast _).symm⟩
theorem nodup_end {k : Nat} {G : List Nat} (h : (k :: G).Nodup) : (G ++ [k]).Nodup := by
  rw [List.nodup_append]
  rw [List.nodup_cons] at h
  refine ⟨h.2, by simp, fun a ha b hb e => ?_⟩
  have hb' : b = k := by simpa using hb
  exact h.1 (hb' ▸ e ▸ ha)
section
variable {k : Nat} {G A B : List Nat} {nx pv : Nat → Nat}
theorem Ring.nx_mem (h : Ring k G nx pv) {x : Nat} (hx : x ∈ k :: G) : nx x ∈ k :: G := by
  have h1 : nx x ∈ (k :: G).map nx := List.mem_map_of_mem hx
  rw [h.fwd, List.mem_append, List.mem_singleton] at h1
  rw [List.mem_cons]
  exact h1.symm
theorem Ring.pv_mem (h : Ring k G nx pv) {x : Nat} (hx : x ∈ k :: G) : pv x ∈ k :: G := by
  have h1 : pv x ∈ (G ++ [k]).map pv := by
    refine List.mem_map_of_mem ?_
    rw [List.mem_append, List.mem_singleton]
    exact (List.mem_cons.1 hx).symm
  rw [h.bwd] at h1
  exact h1
/-- Who hangs behind the link at j. -/
theorem Ring.next (h : Ring k G nx pv) {j x : Nat} (hx : G[j]? = some x) : (G ++ [k])[j + 1]? = some (nx x) := by
  rw [← h.fwd, List.getElem?_map, List.getElem?_cons_succ, hx]
  rfl
theorem Ring.first (h : Ring k G nx pv) : (G ++ [k])[0]? = some (nx k) := by
  rw [← h.fwd]
  rfl
theorem Ring.end_ : (G ++ [k])[G.length]? = some k := by
  rw [List.getElem?_append_right (Nat.le_refl _), Nat.sub_self]
  rfl
theorem Ring.in_ {j x : Nat} (hj : j < G.length) (hx : (G ++ [k])[j]? = some x) : G[j]? = some x := by
  rwa [List.getElem?_append_left hj] at hx
/-- One more link. -/
theorem Ring.hang (h : Ring k G nx pv) {l : Nat} (hl : l ∉ k :: G) : Ring k (G ++ [l]) (upd (upd nx l k) (pv k) l) (upd (upd pv l (pv k)) k l) := by
  obtain ⟨A, z, e⟩ := last_split k G
  have h1 : A.map nx = G ∧ nx z = k := by
    have := h.fwd
    rw [e, List.map_append] at this
    have h2 := List.append_inj' this rfl
    exact ⟨h2.1, by simpa using h2.2⟩
  have h2 : G.map pv = A ∧ pv k = z := by
    have := h.bwd
    rw [e, List.map_append] at this
    have h2 := List.append_inj' this rfl
    exact ⟨h2.1, by simpa using h2.2⟩
  have hn := h.nodup
  rw [e, List.nodup_append] at hn
  have hk := h.nodup
  rw [List.nodup_cons] at hk
  have hlz : l ≠ z := fun e2 => hl (by rw [e, List.mem_append]; exact .inr (by simp [e2]))
  have hlk : l ≠ k := fun e2 => hl (by rw [e2]; exact List.mem_cons_self ..)
  refine ⟨?_, ?_, ?_⟩
  · rw [show k :: (G ++ [l]) = (k :: G) ++ [l] from rfl, List.nodup_append]
    refine ⟨h.nodup, by simp, fun a ha b hb e2 => ?_⟩
    have hb' : b = l := by simpa using hb
    exact hl (hb' ▸ e2 ▸ ha)
  · rw [show k :: (G ++ [l]) = (k :: G) ++ [l] from rfl, e, List.map_append, List.map_append]
    have hA : A.map (upd (upd nx l k) (pv k) l) = G := by
      rw [← h1.1]
      refine map_off fun x hx => ?_
      rw [h2.2, upd_ne _ _ (fun e2 => hn.2.2 x hx z (by simp) e2), upd_ne _ _ (fun e2 => hl (by rw [e, ← e2, List.mem_append]; exact .inl hx))]
    rw [hA, h2.2]
    simp [upd_self, upd_ne _ _ hlz]
  · rw [List.map_append, List.map_append, show k :: (G ++ [l]) = (k :: G) ++ [l] from rfl, e]
    have hG : G.map (upd (upd pv l (pv k)) k l) = A := by
      rw [← h2.1]
      refine map_off fun x hx => ?_
      rw [upd_ne _ _ (fun e2 : x = k => hk.1 (by rw [← e2]; exact hx)), upd_ne _ _ (fun e2 : x = l => hl (by rw [← e2]; exact List.mem_cons_of_mem _ hx))]
    rw [hG]
    simp [upd_self, upd_ne _ _ hlk, h2.2]
/-- The link x of a ring: what hangs on both sides of it. -/
theorem Ring.mid {x : Nat} (h : Ring k (A ++ x :: B) nx pv) : pv x ≠ x ∧ nx x ≠ x ∧ pv x ∈ k :: (A ++ B) ∧ nx x ∈ k :: (A ++ B) ∧ Ring k (A ++ B) (upd nx (pv x) (nx x)) (upd pv (nx x) (pv x)) := by
  obtain ⟨C, z, e⟩ := last_split k A
  have hlen : C.length = A.length := by
    have := congrArg List.length e
    simp at this
    omega
  have e2 : k :: (A ++ x :: B) = C ++ (z :: x :: B) := by
    rw [show k :: (A ++ x :: B) = (k :: A) ++ (x :: B) from rfl, e, List.append_assoc]
    rfl
  have h1 : C.map nx = A ∧ nx z = x ∧ nx x :: B.map nx = B ++ [k] := by
    have := h.fwd
    rw [e2, List.map_append, List.append_assoc] at this
    have h2 := List.append_inj this (by rw [List.length_map]; exact hlen)
    have h3 := h2.2
    simp only [List.map_cons, List.cons_append, List.cons.injEq] at h3
    exact ⟨h2.1, h3.1, h3.2⟩
  have h2 : A.map pv = C ∧ pv x = z ∧ (B ++ [k]).map pv = x :: B := by
    have := h.bwd
    rw [e2, List.append_assoc, List.map_append] at this
    have h2 := List.append_inj this (by rw [List.length_map]; exact hlen.symm)
    have h3 := h2.2
    simp only [List.cons_append, List.map_cons, List.cons.injEq] at h3
    exact ⟨h2.1, h3.1, h3.2⟩
  have h3 : pv (nx x) = x ∧ (B.map nx).map pv = B := by
    have := h2.2.2
    rw [← h1.2.2] at this
    simp only [List.map_cons, List.cons.injEq] at this
    exact this
  have n1 := h.nodup
  rw [e2] at n1
  have n2 := nodup_end h.nodup
  rw [List.append_assoc, List.cons_append, ← h1.2.2] at n2
  have zn : z ∉ C ∧ z ∉ B ∧ z ≠ x := by
    rw [List.nodup_append] at n1
    obtain ⟨_, q1, q2⟩ := n1
    rw [List.nodup_cons] at q1
    exact ⟨fun hz => q2 z hz z (List.mem_cons_self ..) rfl, fun hz => q1.1 (List.mem_cons_of_mem _ hz), fun hz => q1.1 (by rw [hz]; exact List.mem_cons_self ..)⟩
  have yn : nx x ∉ A ∧ nx x ∉ B.map nx ∧ nx x ≠ x := by
    rw [List.nodup_append] at n2
    obtain ⟨_, q1, q2⟩ := n2
    rw [List.nodup_cons, List.nodup_cons] at q1
    exact ⟨fun hy => q2 _ hy _ (List.mem_cons_of_mem _ (List.mem_cons_self ..)) rfl, q1.2.1, fun hy => q1.1 (by rw [hy]; exact List.mem_cons_self ..)⟩
  have ekAB : k :: (A ++ B) = C ++ z :: B := by
    rw [show k :: (A ++ B) = (k :: A) ++ B from rfl, e, List.append_assoc]
    rfl
  have eABk : A ++ B ++ [k] = A ++ (nx x :: B.map nx) := by rw [List.append_assoc, h1.2.2]
  refine ⟨by rw [h2.2.1]; exact zn.2.2, yn.2.2, ?_, ?_, ?_, ?_, ?_⟩
  · rw [h2.2.1, ekAB, List.mem_append]
    exact .inr (List.mem_cons_self ..)
  · have : nx x ∈ A ++ B ++ [k] := by rw [eABk, List.mem_append]; exact .inr (List.mem_cons_self ..)
    rw [List.mem_append, List.mem_singleton] at this
    rw [List.mem_cons]
    exact this.symm
  · rw [ekAB]
    refine List.Nodup.sublist ?_ n1
    exact List.Sublist.append_left (List.Sublist.cons_cons _ (List.sublist_cons_self ..)) _
  · rw [ekAB, eABk, h2.2.1, List.map_append, List.map_cons, upd_self]
    have q1 : C.map (upd nx z (nx x)) = A := by
      rw [← h1.1]
      exact map_off fun u hu => upd_ne _ _ fun e3 => zn.1 (e3 ▸ hu)
    have q2 : B.map (upd nx z (nx x)) = B.map nx := map_off fun u hu => upd_ne _ _ fun e3 => zn.2.1 (e3 ▸ hu)
    rw [q1, q2]
  · rw [ekAB, eABk, h2.2.1, List.map_append, List.map_cons, upd_self]
    have q1 : A.map (upd pv (nx x) z) = C := by
      rw [← h2.1]
      exact map_off fun u hu => upd_ne _ _ fun e3 => yn.1 (e3 ▸ hu)
    have q2 : (B.map nx).map (upd pv (nx x) z) = B := by
      refine Eq.trans (map_off fun u hu => upd_ne _ _ fun e3 => yn.2.1 (e3 ▸ hu)) h3.2
    rw [q1, q2]
end
#print axioms Ring.hang
#print axioms Ring.mid
end Go.Proofs.Ythodmhjlokfcaaa
