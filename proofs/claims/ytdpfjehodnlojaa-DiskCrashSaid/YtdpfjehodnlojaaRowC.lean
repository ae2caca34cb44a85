/- A row of numbers of the call's own that tells places; what a flush and a crash make of a table. -/
import Derived.Test.YtdpfjehodnlojaaDuo
namespace Go.Proofs.Ytdpfjehodnlojaa
open Go.RowKit

def code (p : Nat × Nat) : Nat := 8 * p.1 + p.2
def codeL (l : List (Nat × Nat)) : List Value := l.map fun p => .int .i64 ((code p : Nat) : Int)
theorem codeL_length (l : List (Nat × Nat)) : (codeL l).length = l.length := by simp [codeL]
theorem codeL_append (l : List (Nat × Nat)) (p : Nat × Nat) : codeL (l ++ [p]) = codeL l ++ [.int .i64 ((code p : Nat) : Int)] := by simp [codeL]
theorem codeL_at {l : List (Nat × Nat)} {i : Nat} {p : Nat × Nat} (h : l[i]? = some p) : (codeL l)[i]? = some (.int .i64 ((code p : Nat) : Int)) := by simp [codeL, h]
theorem code_inj {p q : Nat × Nat} (hp : p.2 < 8) (hq : q.2 < 8) (h : code p = code q) : p = q := by
  unfold code at h
  obtain ⟨a, b⟩ := p
  obtain ⟨c, d⟩ := q
  simp only at h hp hq
  have h1 : a = c := by omega
  have h2 : b = d := by omega
  rw [h1, h2]
theorem int_info : ∃ i, Try.prog.info? 3 = some i ∧ i.zero = some (.int .i64 0) ∧ i.size = 1 ∧ i.bytes = 8 := ⟨(Try.prog.info? 3).get!, by kernel_rfl, by kernel_rfl, by kernel_rfl, by kernel_rfl⟩
theorem int_zero (w : World) : (zeroValue 3).run Try.prog w = .ok (.int .i64 0) w := by kernel_rfl
/-- The cell of the i-th place. -/
theorem own_code {w : World} {base : Nat} {A : Option Addr} {n c : Nat} {l : List (Nat × Nat)} (h : w.ownsRow base 3 1 (.slice A n c) n (codeL l)) {i : Nat} {p : Nat × Nat} (hp : l[i]? = some p) :
    ∃ g, A = some ⟨g, 0, none⟩ ∧ base ≤ g ∧ g < w.heap.size ∧ w.cell? ⟨g, i, none⟩ = some (.int .i64 ((code p : Nat) : Int)) := by
  have hl := h.1
  rw [codeL_length, Nat.mul_one] at hl
  have hi : i < n := by rw [← hl]; exact (List.getElem?_eq_some_iff.1 hp).1
  obtain ⟨g, cap, hv, hgb, hgl⟩ := h.form (by omega)
  injection hv with hA _ hc
  subst hA
  subst hc
  exact ⟨g, rfl, hgb, hgl, by rw [h.cellAt i (by omega)]; exact codeL_at hp⟩
theorem own_len {w : World} {base : Nat} {v : Value} {n : Nat} {l : List (Nat × Nat)} (h : w.ownsRow base 3 1 v n (codeL l)) : n = l.length := by
  have hl := h.1
  rw [codeL_length, Nat.mul_one] at hl
  exact hl.symm
theorem own_slice {w : World} {base : Nat} {e : TypeId} {size : Nat} {v : Value} {n : Nat} {xs : List Value} (h : w.ownsRow base e size v n xs) : ∃ A c, v = .slice A n c ∧ n ≤ c ∧ c ≤ maxLen := by
  rcases h.2 with ⟨rfl, rfl⟩ | ⟨g, cap, cur, rfl, _, _, h1, h2, _⟩
  · exact ⟨_, _, rfl, Nat.le_refl _, Nat.zero_le _⟩
  · exact ⟨_, _, rfl, h1, h2⟩
theorem own_bounds {w : World} {base : Nat} {e : TypeId} {size : Nat} {A : Option Addr} {n c : Nat} {xs : List Value} (h : w.ownsRow base e size (.slice A n c) n xs) : n ≤ c ∧ c ≤ maxLen := by
  obtain ⟨A', c', e, h1, h2⟩ := own_slice h
  injection e with _ _ e3
  rw [e3]
  exact ⟨h1, h2⟩
/-- A block below the base is none of the row. -/
theorem own_block_ge {w : World} {base : Nat} {e : TypeId} {size : Nat} {v : Value} {n : Nat} {xs : List Value} (h : w.ownsRow base e size v n xs) {g : Nat} (hg : v.ownBlock = some g) : base ≤ g ∧ g < w.heap.size := h.lt g hg
/-- A row stays if only blocks of a span have turned that it lies behind. -/
theorem own_upto {w w' : World} {base lo hi : Nat} {e : TypeId} {size : Nat} {v : Value} {n : Nat} {xs : List Value} (h : w.ownsRow base e size v n xs) (hu : Upto lo hi w w') (hb : hi ≤ base) : w'.ownsRow base e size v n xs := by
  refine ⟨h.1, h.2.imp id fun ⟨g, cap, cur, hv, hg, hc, r⟩ => ⟨g, cap, cur, hv, hg, ?_, r⟩⟩
  rw [hu.block g (Array.getElem?_eq_some_iff.1 hc).1 (.inr (by omega))]
  exact hc
theorem own_grown {w w' : World} {base : Nat} {row : Option Nat} {e : TypeId} {size : Nat} {v : Value} {n : Nat} {xs : List Value} (h : w.ownsRow base e size v n xs) (hg : w.grownBy w' row) (hr : ∀ g, row = some g → g < base ∨ w.heap.size ≤ g) : w'.ownsRow base e size v n xs := by
  refine h.kept hg ?_
  cases hv : v.ownBlock with
  | none => exact .inl rfl
  | some g =>
    refine .inr (fun e => ?_)
    have h1 := own_block_ge h hv
    have h2 := hr g e.symm
    omega

theorem mask_nat63 (i : Nat) : bits .and .i64 (i : Int) 63 = ((i % 64 : Nat) : Int) := by
  have h := i64_mask (i : Int) 6 (by decide)
  rw [show (2 : Int) ^ 6 - 1 = 63 by decide] at h
  rw [h, show (2 : Int) ^ 6 = 64 by decide]
  omega

/-! ### A table of 24 sectors tells what a bank has -/
def Tells (F : Nat → Nat → Sec) (T : Nat → Sec) : Prop := ∀ d k, d < 3 → k < 8 → F d k = T (8 * d + k)
theorem Tells.put {F : Nat → Nat → Sec} {T : Nat → Sec} (h : Tells F T) {d k : Nat} (hk : k < 8) (s : Sec) : Tells (upd2 F d k s) (upd T (8 * d + k) s) := by
  intro d' k' hd' hk'
  by_cases e : d' = d ∧ k' = k
  · rw [e.1, e.2, upd2_self, upd_self]
  · rw [upd2_ne _ _ e, upd_ne _ _ (by omega)]
    exact h d' k' hd' hk'
/-- What a flush has flushed behind n of the loose sectors. -/
def flushTo (S : Bank) (d n : Nat) : Nat → Nat → Sec := fun i j => if i = d ∧ (i, j) ∈ S.order.take n then S.newest i j else S.flushed i j
theorem flushTo_0 (S : Bank) (d : Nat) : flushTo S d 0 = S.flushed := by
  funext i j
  simp [flushTo]
theorem flushTo_succ (S : Bank) (d n : Nat) (p : Nat × Nat) (hp : S.order[n]? = some p) : flushTo S d (n + 1) = if p.1 = d then upd2 (flushTo S d n) p.1 p.2 (S.newest p.1 p.2) else flushTo S d n := by
  have ht : S.order.take (n + 1) = S.order.take n ++ [p] := by rw [List.take_add_one, hp]; rfl
  funext i j
  unfold flushTo
  rw [ht]
  by_cases e : p.1 = d
  · rw [if_pos e]
    by_cases e2 : i = p.1 ∧ j = p.2
    · rw [e2.1, e2.2, upd2_self, if_pos]
      exact ⟨e, List.mem_append.2 (.inr (by simp))⟩
    · rw [upd2_ne _ _ e2]
      have : (i, j) ∈ S.order.take n ++ [p] ↔ (i, j) ∈ S.order.take n := by
        rw [List.mem_append, List.mem_singleton]
        exact ⟨fun h => h.elim id (fun h => absurd ⟨by rw [← h], by rw [← h]⟩ e2), .inl⟩
      simp only [this]
  · rw [if_neg e]
    have : (i = d ∧ (i, j) ∈ S.order.take n ++ [p]) ↔ (i = d ∧ (i, j) ∈ S.order.take n) := by
      rw [List.mem_append, List.mem_singleton]
      refine ⟨fun ⟨h1, h2⟩ => ⟨h1, h2.elim id (fun h => absurd (by rw [← h]; exact h1) e)⟩, fun ⟨h1, h2⟩ => ⟨h1, .inl h2⟩⟩
    simp only [this]
theorem flushTo_all (S : Bank) (hok : S.Ok) (d : Nat) : flushTo S d S.order.length = (S.flush d).flushed := by
  funext i j
  show flushTo S d S.order.length i j = upd S.flushed d (S.newest d) i j
  unfold flushTo
  rw [List.take_length]
  by_cases e : i = d
  · subst e
    rw [upd_self]
    by_cases hm : (i, j) ∈ S.order
    · rw [if_pos ⟨rfl, hm⟩]
    · rw [if_neg (fun h => hm h.2), hok.same i j hm]
  · rw [if_neg (fun h => e h.1), upd_ne _ _ e]
theorem rest_succ (S : Bank) (d n : Nat) (p : Nat × Nat) (hp : S.order[n]? = some p) : (S.order.take (n + 1)).filter (fun p => p.1 != d) = if p.1 = d then (S.order.take n).filter (fun p => p.1 != d) else (S.order.take n).filter (fun p => p.1 != d) ++ [p] := by
  have ht : S.order.take (n + 1) = S.order.take n ++ [p] := by rw [List.take_add_one, hp]; rfl
  rw [ht, List.filter_append]
  by_cases e : p.1 = d
  · rw [if_pos e]; simp [e]
  · rw [if_neg e]; simp [e]
theorem Calm.order_lt {S : Bank} (h : Calm S) (hok : S.Ok) {p : Nat × Nat} (hp : p ∈ S.order) : p.1 < 3 ∧ p.2 < 8 := by
  obtain ⟨h1, h2, _⟩ := hok.loose p hp
  rw [h.n] at h1
  rw [h.size p.1 h1] at h2
  exact ⟨h1, h2⟩
theorem seen_succ (l : List (Nat × Nat)) (n : Nat) (p q : Nat × Nat) (hp : l[n]? = some p) : decide (q ∈ l.take (n + 1)) = (decide (q ∈ l.take n) || decide (p = q)) := by
  have ht : l.take (n + 1) = l.take n ++ [p] := by rw [List.take_add_one, hp]; rfl
  rw [ht, Bool.eq_iff_iff]
  simp only [decide_eq_true_eq, Bool.or_eq_true, List.mem_append, List.mem_singleton]
  exact ⟨fun h => h.imp id Eq.symm, fun h => h.imp id Eq.symm⟩
end Go.Proofs.Ytdpfjehodnlojaa
