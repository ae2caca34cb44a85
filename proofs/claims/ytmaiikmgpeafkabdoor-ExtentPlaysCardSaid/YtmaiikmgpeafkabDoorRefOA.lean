/- Add and Disks of the reference's map in a set of blocks. -/
import Derived.Test.YtmaiikmgpeafkabDoorRefAY
import Derived.Test.YtmaiikmgpeafkabDoorRefD
namespace Go.Proofs.YtmaiikmgpeafkabDoor
open Go.RowKit

section
variable {w : World} {r : Nat} {F : Nat → Prop} {S : Ext}
theorem rOnE_add (h : RefOnE w r F S) (hf : S.ks.length < 999999) (d s : Int) (g1 : -9223372036854775808 ≤ d) (g2 : d < 9223372036854775808) :
    Calls Tryd.prog 17 #[.pointer (some ⟨r, 0, none⟩), .int .i64 d, .int .i64 s] w fun e w' => e = .returned (.int .i64 (addE S d s)) ∧ RefOnE w' r (Grew F w w') (S.more d s) ∧ Turn F w w' := by
  obtain ⟨h1, hok, x, q, hin, hfoot⟩ := h
  have hsame : ∀ w', w = w' → RefOnE w' r (Grew F w w') S := by
    rintro w' rfl
    exact ⟨fun y hy => by rcases hy with hy | hy; exact h1 y hy; omega, hok, x, q, hin, fun y hy => .inl (hfoot y hy)⟩
  by_cases hb : d < 0 ∨ s < 0 ∨ 4096 < s
  · have e1 : addE S d s = 1 := by unfold addE; rw [if_pos hb]
    have e2 : S.more d s = S := by unfold Ext.more; rw [e1]; rfl
    rw [e1, e2]
    refine (refAdd_bad d s hb).mono fun e w' ⟨k1, k2⟩ => ⟨k1, hsame w' k2, ?_⟩
    subst k2
    exact Turn.refl _ _
  · obtain ⟨m, rfl⟩ := Int.eq_ofNat_of_zero_le (show 0 ≤ d by omega)
    by_cases hm : m ∈ S.ks
    · have e1 : addE S (m : Int) s = 9 := by unfold addE; rw [if_neg hb, inE_of hm]; rfl
      have e2 : S.more (m : Int) s = S := by unfold Ext.more; rw [e1]; rfl
      rw [e1, e2]
      refine (refAdd_old hin hok m s (by omega) (by omega) (by omega) hm).mono fun e w' ⟨k1, k2⟩ => ⟨k1, hsame w' k2, ?_⟩
      subst k2
      exact Turn.refl _ _
    · have hi : inE S (m : Int) = false := by simp [inE, hm]
      have e1 : addE S (m : Int) s = 0 := by unfold addE; rw [if_neg hb, hi]; rfl
      have e2 : S.more (m : Int) s = S.add m (countZ s) := by unfold Ext.more; rw [e1]; rfl
      rw [e1, e2]
      refine (refAdd_yes hin hok m s (by omega) (by omega) (by omega) hm).mono fun e w' ⟨k1, vm', vt', k4, k5, k6⟩ => ⟨k1, ⟨fun y hy => ?_, hok.add hm (by omega) hf (countZ_le (by omega)), vm', vt', k4, fun y hy => ?_⟩, k5.wider hfoot⟩
      · have := k5.size
        have := hin.head.lt
        rcases hy with hy | hy
        · have := h1 y hy
          omega
        · omega
      · rcases k6 y hy with h | h
        · exact .inl (hfoot _ h)
        · exact .inr h
theorem rOnE_disks (h : RefOnE w r F S) :
    Calls Tryd.prog 26 #[.pointer (some ⟨r, 0, none⟩)] w fun e w' => ∃ v, e = .returned v ∧ w'.ownsRow w.heap.size 3 1 v S.ks.length (I64 (disksE S)) ∧ Below w.heap.size w w' := by
  obtain ⟨_, hok, x, q, hin, _⟩ := h
  exact refDisks_any hin hok
end
#print axioms rOnE_add
end Go.Proofs.YtmaiikmgpeafkabDoor
