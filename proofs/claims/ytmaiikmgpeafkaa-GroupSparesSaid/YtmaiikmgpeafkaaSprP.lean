/- Groups on six disks, rooms on two others; six booleans in memory; a literal of eight numbers. -/
import Derived.Test.YtmaiikmgpeafkaaGrpH
import Derived.Test.YtmaiikmgpeafkaaGrpU
import Derived.Test.YtmaiikmgpeafkaaPoke
import Derived.Test.YtmaiikmgpeafkaaLawN
namespace Go.Proofs.Ytmaiikmgpeafkaa
open Go.RowKit

def sixC (f : Nat → Bool) : Array Value := #[.bool (f 0), .bool (f 1), .bool (f 2), .bool (f 3), .bool (f 4), .bool (f 5)]
def putS (f : Nat → Bool) (d : Nat) (b : Bool) : Nat → Bool := fun e => if e = d then b else f e
theorem six_cases {d : Nat} (h : d < 6) : d = 0 ∨ d = 1 ∨ d = 2 ∨ d = 3 ∨ d = 4 ∨ d = 5 := by omega
theorem sixC_at (f : Nat → Bool) {d : Nat} (h : d < 6) : (sixC f)[d]? = some (.bool (f d)) := by
  rcases six_cases h with rfl | rfl | rfl | rfl | rfl | rfl <;> rfl
theorem sixC_put (f : Nat → Bool) {d : Nat} (h : d < 6) (b : Bool) : (sixC f).setIfInBounds d (.bool b) = sixC (putS f d b) := by
  rcases six_cases h with rfl | rfl | rfl | rfl | rfl | rfl <;> rfl
theorem Blk.six {w : World} {b : Nat} {t : TypeId} {f : Nat → Bool} (h : Blk w b t (sixC f)) {d : Nat} (hd : d < 6) : w.cell? ⟨b, d, none⟩ = some (.bool (f d)) := (h.cell d).trans (sixC_at f hd)
/-- Disks from 0 to 5, each once. -/
def SixB (E : List Ex) : Prop := (dks E).Nodup ∧ ∀ d ∈ dks E, 0 ≤ d ∧ d < 6
def SeenB (f : Nat → Bool) (E : List Ex) : Prop := ∀ d : Nat, d < 6 → (f d = true ↔ (d : Int) ∈ dks E)
theorem SixB.nil : SixB [] := ⟨List.nodup_nil, fun _ hd => absurd hd List.not_mem_nil⟩
theorem SeenB.nil : SeenB (fun _ => false) [] := fun _ _ => ⟨fun h => (by cases h), fun h => absurd h List.not_mem_nil⟩
theorem dks_more (E : List Ex) (d a : Int) : dks (E ++ [(d, a)]) = dks E ++ [d] := by simp [dks]
theorem SixB.more {E : List Ex} (h : SixB E) {f : Nat → Bool} (hf : SeenB f E) {d : Nat} (hd : d < 6) (hn : f d = false) (a : Int) : SixB (E ++ [((d : Int), a)]) := by
  have hnm : (d : Int) ∉ dks E := fun hm => by rw [(hf d hd).2 hm] at hn; cases hn
  refine ⟨?_, fun e he => ?_⟩
  · rw [dks_more, List.nodup_append]
    refine ⟨h.1, List.pairwise_singleton _ _, fun x hx y hy => ?_⟩
    simp at hy
    rintro rfl
    rw [hy] at hx
    exact hnm hx
  · rw [dks_more] at he
    rcases List.mem_append.1 he with he | he
    · exact h.2 e he
    · simp at he
      omega
theorem SeenB.more {E : List Ex} {f : Nat → Bool} (hf : SeenB f E) {d : Nat} (a : Int) : SeenB (putS f d true) (E ++ [((d : Int), a)]) := fun e he => by
  rw [dks_more, List.mem_append, ← hf e he]
  unfold putS
  by_cases h : e = d
  · subst h; simp
  · simp [h]
    omega
theorem SeenB.same {E : List Ex} {f : Nat → Bool} (hf : SeenB f E) {d : Nat} (hd : d < 6) (h : f d = true) : SeenB (putS f d true) E := fun e he => by
  rw [← hf e he]
  unfold putS
  by_cases h2 : e = d
  · subst h2; simp [h]
  · simp [h2]
/-! ### Rooms on the disks 6 and 7 -/
def roomsL (k r : Int) : List Int := [0, 0, 0, 0, 0, 0, k, r]
def hasN (L : List GrV) (d : Int) : Nat := (L.filter (fun g => hasB g.ex d)).length
theorem only_six {E : List Ex} (h : SixB E) {k r : Int} {T : Nat → Bool} : onlyB (roomsL k r) (dks E) T = (decide (0 < k → T 6 = true) && decide (0 < r → T 7 = true)) := by
  rw [Bool.eq_iff_iff, onlyB_iff, Bool.and_eq_true, decide_eq_true_eq, decide_eq_true_eq]
  have h6 : (6 : Int) ∉ dks E := fun hm => by have := h.2 _ hm; omega
  have h7 : (7 : Int) ∉ dks E := fun hm => by have := h.2 _ hm; omega
  constructor
  · intro ha
    exact ⟨fun hk => ha 6 (show 6 < 8 by decide) hk h6, fun hr => ha 7 (show 7 < 8 by decide) hr h7⟩
  · rintro ⟨h1, h2⟩ d hd h0 _
    have hd8 : d < 8 := hd
    have hc : d = 0 ∨ d = 1 ∨ d = 2 ∨ d = 3 ∨ d = 4 ∨ d = 5 ∨ d = 6 ∨ d = 7 := by omega
    rcases hc with rfl | rfl | rfl | rfl | rfl | rfl | rfl | rfl
    · exact absurd h0 (by show ¬ (0 : Int) < 0; omega)
    · exact absurd h0 (by show ¬ (0 : Int) < 0; omega)
    · exact absurd h0 (by show ¬ (0 : Int) < 0; omega)
    · exact absurd h0 (by show ¬ (0 : Int) < 0; omega)
    · exact absurd h0 (by show ¬ (0 : Int) < 0; omega)
    · exact absurd h0 (by show ¬ (0 : Int) < 0; omega)
    · exact h1 h0
    · exact h2 h0
theorem hang_six {L : List GrV} (h : ∀ g ∈ L, SixB g.ex) (k r : Int) (T : Nat → Bool) (d : Int) : hangN (roomsL k r) L d T = if (0 < k → T 6 = true) ∧ (0 < r → T 7 = true) then hasN L d else 0 := by
  have e : L.filter (fun g => hasB g.ex d && onlyB (roomsL k r) (dks g.ex) T) = L.filter (fun g => hasB g.ex d && (decide (0 < k → T 6 = true) && decide (0 < r → T 7 = true))) := by
    refine List.filter_congr fun g hg => ?_
    rw [only_six (h g hg)]
  unfold hangN
  rw [e]
  by_cases hc : (0 < k → T 6 = true) ∧ (0 < r → T 7 = true)
  · rw [if_pos hc, decide_eq_true hc.1, decide_eq_true hc.2]
    simp [hasN]
  · rw [if_neg hc]
    have : (decide (0 < k → T 6 = true) && decide (0 < r → T 7 = true)) = false := by
      rw [← Bool.decide_and]
      exact decide_eq_false hc
    rw [this]
    simp
theorem room_six (k r : Int) (T : Nat → Bool) : roomT (roomsL k r) T 8 = (if T 6 then k.toNat else 0) + (if T 7 then r.toNat else 0) := by
  have e : ∀ d, d < 6 → (if T d then roomN (roomsL k r) d else 0) = 0 := fun d hd => by
    rcases six_cases hd with rfl | rfl | rfl | rfl | rfl | rfl <;> (split <;> rfl)
  show sumN 6 _ + _ + _ = _
  rw [sumN_ext 6 e, sumN_zero, Nat.zero_add]
  rfl
theorem hasN_le (L : List GrV) (d : Int) : hasN L d ≤ (allD L).count d := by
  induction L with
  | nil => simp [hasN, allD]
  | cons g L ih =>
    unfold hasN allD at ih ⊢
    rw [List.flatMap_cons, List.count_append, List.filter_cons]
    split
    · rename_i hg
      rw [hasB_dks] at hg
      have : 0 < (dks g.ex).count d := List.count_pos_iff.2 (by simpa using hg)
      rw [List.length_cons]
      omega
    · omega
theorem count_nodup {l : List Int} (h : l.Nodup) (d : Int) : l.count d ≤ 1 := List.nodup_iff_count.1 h d
theorem hasN_eq {L : List GrV} (h : ∀ g ∈ L, SixB g.ex) (d : Int) : (allD L).count d ≤ hasN L d := by
  induction L with
  | nil => simp [hasN, allD]
  | cons g L ih =>
    have ih := ih (fun x hx => h x (List.mem_cons_of_mem _ hx))
    have hc := count_nodup (h g (List.mem_cons_self ..)).1 d
    unfold hasN allD at ih ⊢
    rw [List.flatMap_cons, List.count_append, List.filter_cons]
    split
    · rw [List.length_cons]; omega
    · rename_i hg
      have : (dks g.ex).count d = 0 := List.count_eq_zero.2 (fun hm => hg (by rw [hasB_dks]; simpa using hm))
      omega
theorem inD_all {L : List GrV} (h : ∀ g ∈ L, SixB g.ex) : inD 6 (allD L) = allD L := by
  unfold inD
  rw [List.filter_eq_self]
  intro d hd
  obtain ⟨g, hg, hdg⟩ := List.mem_flatMap.1 hd
  have := (h g hg).2 d hdg
  simp [this]
theorem spares_safe {L : List GrV} (h : ∀ g ∈ L, SixB g.ex) {m k : Nat} (hm : IsMx (inD 6 (allD L)) m) (hk : k ≤ m) (d : Int) : safeB (roomsL (k : Int) ((m : Int) - (k : Int))) L d = true := by
  cases hq : safeB (roomsL (k : Int) ((m : Int) - (k : Int))) L d with
  | true => rfl
  | false =>
    obtain ⟨T, hT⟩ := fitsB_false.1 hq
    rw [viol_iff, hang_six h] at hT
    have h8 : (roomsL (k : Int) ((m : Int) - (k : Int))).length = 8 := rfl
    rw [h8, room_six] at hT
    have h1 := hasN_le L d
    have h2 := hm.1 d
    rw [inD_all h] at h2
    by_cases hc : (0 < (k : Int) → T 6 = true) ∧ (0 < (m : Int) - (k : Int) → T 7 = true)
    · rw [if_pos hc] at hT
      have h6 : k ≤ (if T 6 then (k : Int).toNat else 0) := by
        by_cases h0 : 0 < k
        · rw [if_pos (hc.1 (by omega))]; omega
        · omega
      have h7 : m - k ≤ (if T 7 then ((m : Int) - (k : Int)).toNat else 0) := by
        by_cases h0 : k < m
        · rw [if_pos (hc.2 (by omega))]; omega
        · omega
      omega
    · rw [if_neg hc] at hT
      omega
theorem spares_less {L : List GrV} (h : ∀ g ∈ L, SixB g.ex) {m k : Nat} (hm : IsMx (inD 6 (allD L)) m) (hk : k < m) : ∃ d : Nat, d < 6 ∧ safeB (roomsL (k : Int) ((m : Int) - (k : Int) - 1)) L (d : Int) = false := by
  rcases hm.2 with h0 | ⟨d, hd⟩
  · omega
  · rw [inD_all h] at hd
    have hmem : d ∈ allD L := List.count_pos_iff.1 (by omega)
    obtain ⟨g, hg, hdg⟩ := List.mem_flatMap.1 hmem
    have hr := (h g hg).2 d hdg
    have hdn : ((d.toNat : Nat) : Int) = d := by omega
    refine ⟨d.toNat, by omega, fitsB_false.2 ⟨fun _ => true, ?_⟩⟩
    rw [hdn, viol_iff, hang_six h, if_pos ⟨fun _ => rfl, fun _ => rfl⟩]
    have h8 : (roomsL (k : Int) ((m : Int) - (k : Int) - 1)).length = 8 := rfl
    rw [h8, room_six]
    have h1 := hasN_eq h d
    simp only [if_true]
    omega
#print axioms spares_less
/-- A literal of eight numbers, the last two of them told. -/
theorem run_build_eight (a b : Int) (w : World) : (Instr.buildSlice 22 8 #[(0, .int .i64 0), (1, .int .i64 0), (2, .int .i64 0), (3, .int .i64 0), (4, .int .i64 0), (5, .int .i64 0), (6, .int .i64 a), (7, .int .i64 b)]).run Try.prog w = .ok (.slice (some ⟨w.heap.size, 0, none⟩) 8 8) (w.alloc (.cells (I64 (roomsL a b)).toArray 3)) := by
  obtain ⟨i, hi, _, hs, _⟩ := info_parts int_parts
  have c0 : (Value.int .i64 0).cells = #[.int .i64 0] := cells_one rfl
  have ca : (Value.int .i64 a).cells = #[.int .i64 a] := cells_one rfl
  have cb : (Value.int .i64 b).cells = #[.int .i64 b] := cells_one rfl
  have hA : ∀ f : Nat → Value, ((((((((Array.map f (Array.range 8)).setIfInBounds 0 (.int .i64 0)).setIfInBounds 1 (.int .i64 0)).setIfInBounds 2 (.int .i64 0)).setIfInBounds 3 (.int .i64 0)).setIfInBounds 4 (.int .i64 0)).setIfInBounds 5 (.int .i64 0)).setIfInBounds 6 (.int .i64 a)).setIfInBounds 7 (.int .i64 b) = (I64 (roomsL a b)).toArray := by
    intro f
    apply Array.ext'
    simp [Array.toList_setIfInBounds, List.range_succ, I64, roomsL]
  simp [Instr.buildSlice, run_underlying Try.underlying22, sizeOf, typeInfo, hi, hs, Instr.fill, c0, ca, cb, hA]
  rfl
theorem wpList_build_eight {ops : Array Oper} {rest : List Oper} {o : Oper} {a : Act} {w : World} {Q : Exit → Act → World → Prop} (hgd : o.guard = none) (x y : Operand) (ho : o.op = .buildSlice 22 8 #[(0, .const (.int .i64 0)), (1, .const (.int .i64 0)), (2, .const (.int .i64 0)), (3, .const (.int .i64 0)), (4, .const (.int .i64 0)), (5, .const (.int .i64 0)), (6, x), (7, y)]) (u v : Int) (hx : a.eval x = .int .i64 u) (hy : a.eval y = .int .i64 v)
    (hK : wpList Try.prog ops Q rest (a.put o.dst (.slice (some ⟨w.heap.size, 0, none⟩) 8 8)) (w.alloc (.cells (I64 (roomsL u v)).toArray 3))) : wpList Try.prog ops Q (o :: rest) a w :=
  wpList_plain hgd fun _ hK' => by
    have hrun := run_build_eight u v w
    have hc : a.eval (.const (.int .i64 0)) = .int .i64 0 := rfl
    unfold Oper.wp
    simp [execOp, ho, hx, hy, hc, hrun, Result.andThen]
    exact hK' _ _ hK
end Go.Proofs.Ytmaiikmgpeafkaa
