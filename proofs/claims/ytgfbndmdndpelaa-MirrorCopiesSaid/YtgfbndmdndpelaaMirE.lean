/- MirrorCopies' course, and a row of twenty-four sectors of the law's own. -/
import Derived.Test.YtgfbndmdndpelaaMirQ
import Derived.Test.YtgfbndmdndpelaaRowS
namespace Go.Proofs.Ytgfbndmdndpelaa
open Go.RowKit
theorem arr24_zero (w : World) : (zeroValue 65).run Try.prog w = .ok (.agg (rowS (fun _ => zeroSec) 24).toArray) w := by kernel_rfl
theorem row_cells (T : Nat → Sec) {n i : Nat} (hi : i < n) : ∀ (j : Nat) (v : Value), (secL (T i))[j]? = some v → (rowS T n).toArray[i * 64 + j]? = some v := fun j v hj => by
  have hj2 : j < 64 := by
    rcases Nat.lt_or_ge j 64 with h | h
    · exact h
    · rw [List.getElem?_eq_none (by rw [secL_length]; exact h)] at hj; cases hj
  rw [List.getElem?_toArray, rowS_at T n i j hi hj2, hj]
theorem nI_two {x : Int} (h0 : 0 ≤ x) (h2 : x < 2) : nI x < 2 := (nI_lt (by decide)).2 ⟨h0, h2⟩
/-- Both places are there. -/
def Right (xd xk yd yk : Int) : Prop := 0 ≤ xd ∧ xd < 2 ∧ 0 ≤ xk ∧ xk < 12 ∧ 0 ≤ yd ∧ yd < 2 ∧ 0 ≤ yk ∧ yk < 12
instance (xd xk yd yk : Int) : Decidable (Right xd xk yd yk) := by unfold Right; infer_instance
theorem Right.is {xd xk yd yk : Int} (h : Right xd xk yd yk) : nI xd < 2 ∧ nI xk < 12 ∧ nI yd < 2 ∧ nI yk < 12 := by
  obtain ⟨h1, h2, h3, h4, h5, h6, h7, h8⟩ := h
  exact ⟨(nI_lt (by decide)).2 ⟨h1, h2⟩, (nI_lt (by decide)).2 ⟨h3, h4⟩, (nI_lt (by decide)).2 ⟨h5, h6⟩, (nI_lt (by decide)).2 ⟨h7, h8⟩⟩
theorem Right.of {xd xk yd yk : Int} (h1 : nI xd < 2) (h2 : nI xk < 12) (h3 : nI yd < 2) (h4 : nI yk < 12) : Right xd xk yd yk := by
  have a := (nI_lt (by decide)).1 h1
  have b := (nI_lt (by decide)).1 h2
  have c := (nI_lt (by decide)).1 h3
  have d := (nI_lt (by decide)).1 h4
  exact ⟨a.1, a.2, b.1, b.2, c.1, c.2, d.1, d.2⟩
variable {S : Bank}
theorem Qui.place_zero (h : Qui S) {d k : Nat} : S.place d k = 0 ↔ d < 2 ∧ S.dead d = false ∧ k < 12 := by
  rw [h.place]
  constructor
  · intro e
    split at e
    · rename_i hd
      split at e
      · cases e
      · rename_i hl
        split at e
        · rename_i hk; exact ⟨hd, by simpa using hl, hk⟩
        · cases e
    · cases e
  · rintro ⟨h1, h2, h3⟩
    rw [if_pos h1, h2, if_neg (by decide), if_pos h3]
/-- What a Copy comes to. -/
theorem Qui.copy (h : Qui S) (xd xk yd yk : Int) : ∃ (ok : Bool) (e : Nat) (S2 : Bank), (S.mcopy (nI xd) (nI xk) (nI yd) (nI yk)).1 = e ∧ (S.mcopy (nI xd) (nI xk) (nI yd) (nI yk)).2 = S2 ∧ (ok = true ↔ e = 0) ∧
    (ok = true ↔ Right xd xk yd yk ∧ S.dead (nI xd) = false ∧ S.dead (nI yd) = false) ∧ S2.n = 2 ∧ S2.dead = S.dead ∧
    ∀ d k, d < 2 → k < 12 → S2.readS d k = if ok = true ∧ d = nI yd ∧ k = nI yk then S.readS (nI xd) (nI xk) else S.readS d k := by
  unfold Bank.mcopy
  by_cases h1 : S.place (nI xd) (nI xk) = 0
  · rw [if_pos h1]
    obtain ⟨a1, a2, a3⟩ := h.place_zero.1 h1
    by_cases h2 : S.place (nI yd) (nI yk) = 0
    · obtain ⟨b1, b2, b3⟩ := h.place_zero.1 h2
      rw [h.write_ok h2]
      refine ⟨true, 0, _, rfl, rfl, by simp, ⟨fun _ => ⟨Right.of a1 a3 b1 b3, a2, b2⟩, fun _ => rfl⟩, h.n, rfl, fun d k hd hk => ?_⟩
      by_cases e : d = nI yd ∧ k = nI yk
      · rw [if_pos ⟨rfl, e⟩, e.1, e.2]
        show (if S.place (nI yd) (nI yk) = 0 then upd2 S.newest (nI yd) (nI yk) (S.newest (nI xd) (nI xk)) (nI yd) (nI yk) else zeroSec) = if S.place (nI xd) (nI xk) = 0 then S.newest (nI xd) (nI xk) else zeroSec
        rw [if_pos h2, if_pos h1, upd2_self]
      · rw [if_neg (fun q => e q.2)]
        show (if S.place d k = 0 then upd2 S.newest (nI yd) (nI yk) (S.newest (nI xd) (nI xk)) d k else zeroSec) = if S.place d k = 0 then S.newest d k else zeroSec
        rw [upd2_ne _ _ e]
    · rw [h.write_no h2]
      refine ⟨false, _, _, rfl, rfl, ⟨fun q => (by cases q), fun q => absurd q h2⟩, ⟨fun q => (by cases q), fun q => ?_⟩, h.n, rfl, fun d k _ _ => ?_⟩
      · obtain ⟨hr, _, hl⟩ := q
        obtain ⟨_, _, c3, c4⟩ := hr.is
        exact absurd (h.place_zero.2 ⟨c3, hl, c4⟩) h2
      · rw [if_neg (fun q => by cases q.1)]
        rfl
  · rw [if_neg h1]
    refine ⟨false, _, _, rfl, rfl, ⟨fun q => (by cases q), fun q => absurd q h1⟩, ⟨fun q => (by cases q), fun q => ?_⟩, h.n, rfl, fun d k _ _ => ?_⟩
    · obtain ⟨hr, hl, _⟩ := q
      obtain ⟨c1, c2, _, _⟩ := hr.is
      exact absurd (h.place_zero.2 ⟨c1, hl, c2⟩) h1
    · rw [if_neg (fun q => by cases q.1)]
theorem Qui.write (h : Qui S) (d k : Nat) (s : Sec) : Qui (S.write d k s).2 := by
  by_cases hp : S.place d k = 0
  · rw [h.write_ok hp]; exact h.wrote.put d k s
  · rw [h.write_no hp]; exact h.wrote
theorem div12 (k : Nat) : nI ((k : Int) / 12) = k / 12 := by
  rw [show ((k : Int) / 12) = ((k / 12 : Nat) : Int) by omega, nI_nat]
theorem mod12 (k : Nat) : nI ((k : Int) % 12) = k % 12 := by
  rw [show ((k : Int) % 12) = ((k % 12 : Nat) : Int) by omega, nI_nat]
theorem run_load_row {a : Act} (W : World) (o : Oper) (x : Operand) (ho : o.op = .load 43 x) (g i n : Nat) (t : TypeId) (T : Nat → Sec) (hb : Blk W g t (rowS T n).toArray) (hi : i < n) (hx : a.eval x = .pointer (some ⟨g, i * 64, none⟩)) : (execOp a.eval o).run Try.prog W = .ok (.value (.agg (secL (T i)).toArray)) W := by
  unfold execOp
  simp only [ho, hx, Instr.loadAt, Instr.sureAddr, Sem.run_bind, Sem.run_pure, Result.andThen_ok, run_loadVar_blk (P := Try.prog) W g (i * 64) t 43 _ hb (secL (T i)) _ (row_cells T hi) Try.underlying43 rfl (msec_size _)]
theorem put_dead (S : Bank) (d k : Nat) (s : Sec) : (S.put d k s).dead = S.dead := rfl
/-- A row that says what is read, once one of it is another one. -/
theorem row_copy {S S2 : Bank} {T : Nat → Sec} {xd xk yd yk : Nat} (hx : xd < 2) (hxk : xk < 12) (hyk : yk < 12) (hT : ∀ j, j < 24 → T j = S.readS (j / 12) (j % 12))
    (h : ∀ d k, d < 2 → k < 12 → S2.readS d k = if true = true ∧ d = yd ∧ k = yk then S.readS xd xk else S.readS d k) : ∀ j, j < 24 → upd T (12 * yd + yk) (T (12 * xd + xk)) j = S2.readS (j / 12) (j % 12) := by
  intro j hj
  rw [h _ _ (by omega) (by omega)]
  by_cases e : j = 12 * yd + yk
  · subst e
    rw [upd_self, if_pos ⟨rfl, by omega, by omega⟩, hT _ (by omega)]
    congr 1 <;> omega
  · rw [upd_ne _ _ e, if_neg (fun q => e (by omega)), hT j hj]
#print axioms row_copy
end Go.Proofs.Ytgfbndmdndpelaa
