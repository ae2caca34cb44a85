/- What Disks of extent answers: the members' numbers, rising, in a row of the call's own. -/
import Derived.Test.YtmaiikmgpeafkabDoorExtL
import Derived.Test.YtmaiikmgpeafkabDoorShelfK
namespace Go.Proofs.YtmaiikmgpeafkabDoor
open Go.RowKit Go.Maps Go.Sort Go.Shelf

/-- slices.Sort's two contracts at this program, at the fence that asks nothing. -/
theorem sorts_any (m : Nat) : AnyZI.SortsIn Tryd.prog lay_sorted_ren Fence.wide m :=
  ⟨fun blk off cap ss W hH hblk hsz => callsIn_wide.2 (AnyM.slices_Sort_int lay_sort blk off cap ss W hH hblk hsz),
   fun p cap W => callsIn_wide.2 (AnyM.slices_Sort_int_none lay_sort p cap W)⟩
section
variable {w : World} {b x : Nat} {q : Nat → Nat} {S : Ext}
/-- The numbers, rising. -/
def disksE (S : Ext) : List Int := (S.ks.map fun (k : Nat) => (k : Int)).mergeSort (fun x y => decide (x ≤ y))
theorem Sees.keys_perm {D : DataW Value} {f : Nat → Option Value} (h : Sees D f) {ks : List Nat} (hks : ks.Nodup) (hm : ∀ k, k ∈ ks ↔ (f k).isSome = true) : (intKeys D).Perm (ks.map fun (k : Nat) => (k : Int)) := by
  have hh := h.has_
  obtain ⟨es, rfl, hp, hk⟩ := h.form
  have hik : intKeys (.map es) = es.map fun p => _root_.Go.intOf p.1 := rfl
  have hpt : ∀ p ∈ es, ∃ k : Nat, p.1 = K64 k ∧ _root_.Go.intOf p.1 = (k : Int) := by
    intro p hpm
    obtain ⟨k, _, e⟩ := hk p hpm
    exact ⟨k, e, by rw [e]; rfl⟩
  have h1 : (es.map fun p => _root_.Go.intOf p.1).Nodup := by
    rw [List.Nodup, List.pairwise_map]
    refine hp.imp_of_mem fun {p q} hpm hqm hne => ?_
    obtain ⟨k, e1, e2⟩ := hpt p hpm
    obtain ⟨j, e3, e4⟩ := hpt q hqm
    rw [e2, e4]
    intro e
    exact hne (by rw [e1, e3]; unfold K64; rw [e])
  have h2 : (ks.map fun (k : Nat) => (k : Int)).Nodup := by
    rw [List.Nodup, List.pairwise_map]
    exact hks.imp fun {a b} hab e => hab (by omega)
  rw [hik]
  refine (List.perm_ext_iff_of_nodup h1 h2).2 fun z => ?_
  constructor
  · intro hz
    obtain ⟨p, hpm, rfl⟩ := List.mem_map.1 hz
    obtain ⟨k, e1, e2⟩ := hpt p hpm
    refine List.mem_map.2 ⟨k, (hm k).2 ?_, e2.symm⟩
    rw [← hh k]
    exact List.any_eq_true.2 ⟨p, hpm, by rw [e1]; exact WideAt.sameKey_self (K64_key k)⟩
  · intro hz
    obtain ⟨k, hkm, rfl⟩ := List.mem_map.1 hz
    have := (hm k).1 hkm
    rw [← hh k] at this
    obtain ⟨p, hpm, hpk⟩ := List.any_eq_true.1 this
    have e : p.1 = K64 k := WideAt.sameKey_eq hpk
    exact List.mem_map.2 ⟨p, hpm, by rw [e]; rfl⟩
theorem sort_perm {a b : List Int} (h : a.Perm b) : a.mergeSort (fun x y => decide (x ≤ y)) = b.mergeSort (fun x y => decide (x ≤ y)) := by
  have hs : ∀ l : List Int, (l.mergeSort (fun x y => decide (x ≤ y))).Pairwise (fun x y => x ≤ y) := fun l =>
    (List.pairwise_mergeSort (le := fun x y => decide (x ≤ y)) (fun a b c h1 h2 => by simp at *; omega) (fun a b => by simp; omega) l).imp (fun h => by simpa using h)
  exact List.Perm.eq_of_pairwise (fun x y _ _ h1 h2 => by omega) (hs a) (hs b) ((List.mergeSort_perm _ _).trans (h.trans (List.mergeSort_perm _ _).symm))
set_option maxHeartbeats 1000000 in
theorem disks_raw {H : Type} (xb nn : Nat) (D0 : DataW H) (R : Value → Option (DataW H × List MemPlace)) (w : World) (hc : w.cell? ⟨b, 0, none⟩ = some (.map (some xb))) (hown : w.ownsMap Tryd.prog 3 R xb nn D0) (hmax : Maps.size D0 ≤ maxLen) (hbytes : Maps.size D0 * 8 ≤ 140737488355328) :
    Calls Tryd.prog 25 #[.pointer (some ⟨b, 0, none⟩)] w fun e w' => ∃ (v : Value) (ss : List Int), e = .returned v ∧ ss.Perm (intKeys D0) ∧
      w'.ownsRow w.heap.size 3 1 v ss.length ((ss.mergeSort (fun x y => decide (x ≤ y))).map encZ) ∧ Below w.heap.size w w' := by
  refine (callsIn_wide (n := 6)).1 ?_
  have hbl := hown.lt
  have hseq : SeqGives Fence.wide 2 Tryd.prog 53 #[.pointer (some ⟨w.heap.size, 0, none⟩)] encZ (fun ss => ss.Perm (intKeys D0)) (Maps.size D0) (w.alloc (.cells #[.map (some xb)] 42)) :=
    AnyZI.keys_gives (ρ := lay_keys_ren) { lay_keys with } Fence.wide _ trivial rfl (by omega) w.heap.size xb nn D0 _ (by simp) (by simp) (by
      obtain ⟨es, clock, hb, Ft, hs, hD⟩ := hown
      exact ⟨es, clock, (Below.heap_alloc _ _ xb hbl).trans hb, Ft, hs, hD⟩)
  have cK : ∀ mb W, CallsIn Fence.wide 5 Tryd.prog 44 #[.map mb] W fun e w' => e = .returned (.func (.func 53) #[] #[.pointer (some ⟨W.heap.size, 0, none⟩)]) ∧ w' = W.alloc (.cells #[.map mb] 42) := fun mb W => AnyZI.keys_in lay_keys Fence.wide 5 trivial rfl mb W
  have cS := AnyZI.sorted_in lay_sorted Fence.wide 5 trivial trivial trivial trivial rfl (by omega) (sorts_any _) (enters_of Tryd.func52 (by kernel_rfl) rfl) 53 #[.pointer (some ⟨w.heap.size, 0, none⟩)] trivial (enters_of Tryd.func53 (by kernel_rfl) rfl) _ _ hmax hbytes _ hseq
  change CallsIn _ _ Tryd.prog 43 _ _ _ at cS
  have hfK : Fence.wide.fn 44 := trivial
  have hfS : Fence.wide.fn 43 := trivial
  refine callsIn_of_wp Tryd.func25 rfl trivial ?_ rfl
  simp only [Tryd.ntmps25, List.size_toArray, List.length_cons, List.length_nil, Nat.reduceAdd, Nat.reduceSub, Array.replicate_succ, Array.replicate_zero, List.push_toArray, List.append_toArray, List.nil_append, List.cons_append]
  gi_wp2_with (first
    | (gi_at_call 44; refine (cK _ _).mono ?_; rintro e w' ⟨rfl, rfl⟩)
    | (gi_at_call 43; refine cS.mono ?_; rintro e w' ⟨v, ss, rfl, hS, hrow, hnil, hb⟩))
  go_ret
  exact ⟨v, ss, rfl, hS, ownsRow_base_a hrow (by simp), ((Below.refl _ w).alloc (Nat.le_refl _) _).trans (hb.mono (by simp))⟩
theorem disks_any (h : ExtIn w b x q S) (hok : S.Ok) :
    Calls Tryd.prog 25 #[.pointer (some ⟨b, 0, none⟩)] w fun e w' => ∃ v, e = .returned v ∧ w'.ownsRow w.heap.size 3 1 v S.ks.length (I64 (disksE S)) ∧ Below w.heap.size w w' := by
  obtain ⟨D, ho, hs⟩ := h.map
  have hsz := hs.size_of hok.nodup (extF_mem _ _)
  have hf := hok.few
  refine (disks_raw x _ D RH w h.c0 ho (by rw [hsz]; unfold maxLen; omega) (by omega)).mono fun e w' ⟨v, ss, k1, k2, k3, k4⟩ => ⟨v, k1, ?_, k4⟩
  have hperm := k2.trans (hs.keys_perm hok.nodup (extF_mem _ _))
  have e1 : ss.mergeSort (fun x y => decide (x ≤ y)) = disksE S := sort_perm hperm
  have e2 : ss.length = S.ks.length := by rw [hperm.length_eq, List.length_map]
  rw [e1, e2] at k3
  exact k3
end
theorem on_disks {w : World} {b : Nat} {F : Nat → Prop} {S : Ext} (h : ExtOn w b F S) :
    Calls Tryd.prog 25 #[.pointer (some ⟨b, 0, none⟩)] w fun e w' => ∃ v, e = .returned v ∧ w'.ownsRow w.heap.size 3 1 v S.ks.length (I64 (disksE S)) ∧ Below w.heap.size w w' := by
  obtain ⟨_, hok, x, q, hin, _⟩ := h
  exact disks_any hin hok
#print axioms on_disks
end Go.Proofs.YtmaiikmgpeafkabDoor
