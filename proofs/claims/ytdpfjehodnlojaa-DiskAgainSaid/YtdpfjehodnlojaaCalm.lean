/- Banks on which nothing is armed: what a write and a flush do to them; a table of sectors in memory. -/
import Derived.Test.YtdpfjehodnlojaaArgSteps
import Derived.Test.YtdpfjehodnlojaaShow
namespace Go.Proofs.Ytdpfjehodnlojaa
open Go.RowKit

/-- Three disks of eight sectors, all alive, power there, nothing armed. -/
structure Calm (S : Bank) : Prop where
  n : S.n = 3
  size : ∀ d, d < 3 → S.size d = 8
  live : ∀ d, d < 3 → S.dead d = false
  up : S.down = false
  arm : S.armed = 0
  fail : ∀ d, d < 3 → S.failAt d = 0
theorem calm_laid : Calm Laid := by
  refine ⟨rfl, ?_, ?_, rfl, rfl, ?_⟩ <;> · intro d hd; have : d = 0 ∨ d = 1 ∨ d = 2 := by omega
                                           rcases this with rfl | rfl | rfl <;> rfl
theorem laid_zero : ∀ d k, Laid.flushed d k = zeroSec := by
  have h : ∀ i d k, (LaidTo i).flushed d k = zeroSec := by
    intro i
    induction i with
    | zero => intro d k; rfl
    | succ i ih =>
      intro d k
      show upd (LaidTo i).flushed (LaidTo i).n (fun _ => zeroSec) d k = zeroSec
      by_cases e : d = (LaidTo i).n
      · subst e; rw [upd_self]
      · rw [upd_ne _ _ e]; exact ih d k
  exact h 3
theorem laid_newest : ∀ d k, Laid.newest d k = zeroSec := by
  have h : ∀ i d k, (LaidTo i).newest d k = zeroSec := by
    intro i
    induction i with
    | zero => intro d k; rfl
    | succ i ih =>
      intro d k
      show upd (LaidTo i).newest (LaidTo i).n (fun _ => zeroSec) d k = zeroSec
      by_cases e : d = (LaidTo i).n
      · subst e; rw [upd_self]
      · rw [upd_ne _ _ e]; exact ih d k
  exact h 3
theorem bank_lt {w : World} {b lo hi : Nat} {S : Bank} (h : BankAt w b lo hi S) : b < hi := by
  obtain ⟨_, _, L, _, h4⟩ := h
  exact (h4.inside b (.inl rfl)).2
theorem tick_calm {S : Bank} (hf : ∀ d, d < S.n → S.failAt d = 0) : ∀ j, j ≤ S.n → S.tick j = S
  | 0, _ => rfl
  | j + 1, hj => by
    have h := tick_calm hf j (by omega)
    rw [tick_zero S j (by rw [h]; exact hf j (by omega)), h]
theorem Calm.count {S : Bank} (h : Calm S) : S.count = (false, S.wrote) := by
  have ht : S.ticked = S.wrote := tick_calm (S := S.wrote) (fun d hd => h.fail d (by have : d < S.n := hd; rw [h.n] at this; exact this)) S.n (Nat.le_refl _)
  unfold Bank.count
  rw [if_neg (by rw [h.up]; decide), ht]
  simp only
  rw [if_pos (show S.wrote.armed = 0 from h.arm)]
theorem Calm.may {S : Bank} (h : Calm S) {d : Nat} (hd : d < 3) : S.may d = 0 := by
  unfold Bank.may
  rw [if_neg (by rw [h.n]; omega), h.live d hd, h.up, if_neg (by decide), if_neg (by decide)]
theorem Calm.place {S : Bank} (h : Calm S) {d k : Nat} (hd : d < 3) (hk : k < 8) : S.place d k = 0 := by
  unfold Bank.place
  rw [if_pos (h.may hd), h.size d hd, if_pos hk]
theorem Calm.wrote {S : Bank} (h : Calm S) : Calm S.wrote := ⟨h.n, h.size, h.live, h.up, h.arm, h.fail⟩
theorem Calm.put {S : Bank} (h : Calm S) (d k : Nat) (s : Sec) : Calm (S.put d k s) := ⟨h.n, h.size, h.live, h.up, h.arm, h.fail⟩
theorem Calm.flush {S : Bank} (h : Calm S) (d : Nat) : Calm (S.flush d) := ⟨h.n, h.size, h.live, h.up, h.arm, h.fail⟩
theorem Calm.write {S : Bank} (h : Calm S) {d k : Nat} (hd : d < 3) (hk : k < 8) (s : Sec) : S.write d k s = (0, S.wrote.put d k s) := by
  unfold Bank.write
  rw [h.count]
  simp only
  rw [if_neg (by decide), if_pos (h.wrote.place hd hk)]
theorem Calm.crashed {S : Bank} (h : Calm S) (m : Nat) : S.crash m = { S with flushed := S.kept m, newest := S.kept m, order := [], down := true, armed := 0 } := by
  unfold Bank.crash
  rw [if_neg (by rw [h.up]; decide)]
theorem Calm.restart {S : Bank} (h : Calm S) (m : Nat) : Calm (S.crash m).start := by
  rw [h.crashed m]
  exact ⟨h.n, h.size, h.live, rfl, rfl, h.fail⟩
theorem readV_calm {S : Bank} (h : Calm S) {d k : Nat} (hd : d < 3) (hk : k < 8) : readV S d k = .tuple #[secV (S.newest d k), .int .i64 0] := by
  unfold readV
  rw [h.place hd hk, if_pos rfl]
  rfl

/-- A crash that keeps nothing. -/
theorem keeps_zero (new : Nat → Nat → Sec) : ∀ (l : List (Nat × Nat)) (i : Nat) (F : Nat → Nat → Sec), keeps 0 new i l F = F
  | [], _, _ => rfl
  | p :: l, i, F => by
    rw [keeps, Nat.zero_testBit, if_neg (by decide)]
    exact keeps_zero new l (i + 1) F

/-! ### A table of sectors in memory -/
def arrL (T : Nat → Sec) : Nat → List Value
  | 0 => []
  | n + 1 => arrL T n ++ secL (T n)
theorem arrL_length (T : Nat → Sec) : ∀ n, (arrL T n).length = n * 64
  | 0 => rfl
  | n + 1 => by rw [arrL, List.length_append, arrL_length T n, secL_length]; omega
theorem arrL_at (T : Nat → Sec) : ∀ (n i j : Nat), i < n → j < 64 → (arrL T n)[i * 64 + j]? = (secL (T i))[j]?
  | 0, i, j, hi, _ => by omega
  | n + 1, i, j, hi, hj => by
    rw [arrL]
    by_cases h : i < n
    · rw [List.getElem?_append_left (by rw [arrL_length]; omega)]
      exact arrL_at T n i j h hj
    · obtain rfl : i = n := by omega
      rw [List.getElem?_append_right (by rw [arrL_length]; omega), arrL_length]
      congr 1
      omega
theorem arrL_congr {T T' : Nat → Sec} : ∀ n, (∀ i, i < n → T i = T' i) → arrL T n = arrL T' n
  | 0, _ => rfl
  | n + 1, h => by rw [arrL, arrL, arrL_congr n (fun i hi => h i (by omega)), h n (by omega)]
theorem arrL_put (T : Nat → Sec) (s : Sec) (i : Nat) : ∀ n, i < n → (arrL T n).take (i * 64) ++ secL s ++ (arrL T n).drop (i * 64 + (secL s).length) = arrL (upd T i s) n
  | 0, hi => by omega
  | n + 1, hi => by
    rw [secL_length]
    by_cases h : i < n
    · have ih := arrL_put T s i n h
      rw [secL_length] at ih
      rw [arrL, arrL, List.take_append_of_le_length (by rw [arrL_length]; omega), List.drop_append_of_le_length (by rw [arrL_length]; omega), ← List.append_assoc, ih, upd_ne _ _ (by omega)]
    · obtain rfl : i = n := by omega
      rw [arrL, arrL, List.take_append_of_le_length (by rw [arrL_length]; omega), List.take_of_length_le (by rw [arrL_length]; omega), List.drop_of_length_le (by rw [List.length_append, arrL_length, secL_length]; omega), List.append_nil, upd_self,
        arrL_congr i (fun j hj => (upd_ne T s (show j ≠ i by omega)).symm)]
theorem table_zero (w : World) : (zeroValue 29).run Try.prog w = .ok (.agg (arrL (fun _ => zeroSec) 24).toArray) w := by kernel_rfl
theorem arrL_24 (T : Nat → Sec) : (arrL T 24).toArray.size = 1536 := by rw [List.size_toArray, arrL_length]
end Go.Proofs.Ytdpfjehodnlojaa
