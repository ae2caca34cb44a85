/- Banks of three disks on which nothing is armed: what calls do to them; what Load tells of two sectors. -/
import Derived.Test.YtbbfgcekjelmkaaBankL
import Derived.Test.YtbbfgcekjelmkaaCut
import Derived.Test.YtbbfgcekjelmkaaPoke
namespace Go.Proofs.Ytbbfgcekjelmkaa
open Go.RowKit

/-- Three disks of z sectors, all alive, power there, nothing armed. -/
structure Quiet (z : Nat) (S : Bank) : Prop where
  n : S.n = 3
  size : ∀ d, d < 3 → S.size d = z
  live : ∀ d, d < 3 → S.dead d = false
  up : S.down = false
  arm : S.armed = 0
  fail : ∀ d, d < 3 → S.failAt d = 0
theorem quiet_three : Quiet 200 Three := by
  refine ⟨rfl, ?_, ?_, rfl, rfl, ?_⟩ <;> · intro d hd; have : d = 0 ∨ d = 1 ∨ d = 2 := by omega
                                           rcases this with rfl | rfl | rfl <;> rfl
theorem three_flushed : ∀ d k, Three.flushed d k = zeroSec := by
  have h : ∀ i d k, (ThreeTo i).flushed d k = zeroSec := by
    intro i
    induction i with
    | zero => intro d k; rfl
    | succ i ih =>
      intro d k
      show upd (ThreeTo i).flushed (ThreeTo i).n (fun _ => zeroSec) d k = zeroSec
      by_cases e : d = (ThreeTo i).n
      · subst e; rw [upd_self]
      · rw [upd_ne _ _ e]; exact ih d k
  exact h 3
theorem three_newest : ∀ d k, Three.newest d k = zeroSec := by
  have h : ∀ i d k, (ThreeTo i).newest d k = zeroSec := by
    intro i
    induction i with
    | zero => intro d k; rfl
    | succ i ih =>
      intro d k
      show upd (ThreeTo i).newest (ThreeTo i).n (fun _ => zeroSec) d k = zeroSec
      by_cases e : d = (ThreeTo i).n
      · subst e; rw [upd_self]
      · rw [upd_ne _ _ e]; exact ih d k
  exact h 3
theorem tick_none {S : Bank} (hf : ∀ d, d < S.n → S.failAt d = 0) : ∀ j, j ≤ S.n → S.tick j = S
  | 0, _ => rfl
  | j + 1, hj => by
    have h := tick_none hf j (by omega)
    rw [tick_zero S j (by rw [h]; exact hf j (by omega)), h]
section
variable {z : Nat} {S : Bank}
theorem Quiet.ticked (h : Quiet z S) : S.ticked = S.wrote := tick_none (S := S.wrote) (fun d hd => h.fail d (by have : d < S.n := hd; rw [h.n] at this; exact this)) S.n (Nat.le_refl _)
theorem Quiet.count (h : Quiet z S) : S.count = (false, S.wrote) := by
  unfold Bank.count
  rw [if_neg (by rw [h.up]; decide), h.ticked]
  simp only
  rw [if_pos (show S.wrote.armed = 0 from h.arm)]
theorem Quiet.may (h : Quiet z S) {d : Nat} (hd : d < 3) : S.may d = 0 := by
  unfold Bank.may
  rw [if_neg (by rw [h.n]; omega), h.live d hd, h.up, if_neg (by decide), if_neg (by decide)]
theorem Quiet.place (h : Quiet z S) {d k : Nat} (hd : d < 3) (hk : k < z) : S.place d k = 0 := by
  unfold Bank.place
  rw [if_pos (h.may hd), h.size d hd, if_pos hk]
theorem Quiet.wrote (h : Quiet z S) : Quiet z S.wrote := ⟨h.n, h.size, h.live, h.up, h.arm, h.fail⟩
theorem Quiet.put (h : Quiet z S) (d k : Nat) (s : Sec) : Quiet z (S.put d k s) := ⟨h.n, h.size, h.live, h.up, h.arm, h.fail⟩
theorem Quiet.flush (h : Quiet z S) (d : Nat) : Quiet z (S.flush d) := ⟨h.n, h.size, h.live, h.up, h.arm, h.fail⟩
theorem Quiet.write (h : Quiet z S) {d k : Nat} (hd : d < 3) (hk : k < z) (s : Sec) : S.write d k s = (0, S.wrote.put d k s) := by
  unfold Bank.write
  rw [h.count]
  simp only
  rw [if_neg (by decide), if_pos (h.wrote.place hd hk)]
theorem Quiet.save (h : Quiet z S) {l : Lab} (hr : rightB l = true) (hd : l.member.toNat < 3) (hz : 2 ≤ z) : S.saveL l = (0, (S.wrote.put l.member.toNat (l.gen.toNat % 2) (labS l)).flush l.member.toNat) := by
  have hw : S.laysL l = (0, S.wrote.put l.member.toNat (l.gen.toNat % 2) (labS l)) := h.write hd (by omega) _
  have hm := (h.wrote.put l.member.toNat (l.gen.toNat % 2) (labS l)).may hd
  unfold Bank.saveL
  rw [hr, if_pos rfl, hw]
  simp only
  rw [if_pos trivial, hm, if_pos rfl]
theorem Quiet.read (h : Quiet z S) {d k : Nat} (hd : d < 3) (hk : k < z) : readV S d k = .tuple #[secV (S.newest d k), .int .i64 0] := readV_ok (h.place hd hk)
theorem Quiet.load (h : Quiet z S) {d : Nat} (hd : d < 3) (hz : 2 ≤ z) : S.loadL d = if (S.bestL d 2).gen = 0 then (Lab.none_, 8) else (S.bestL d 2, 0) := Bank.loadL_ok fun j hj => h.place hd (by omega)
end
/-! ### What Load tells of sectors -/
theorem of_zero : ofB zeroSec = false := by
  have h : rightB (readL zeroSec.1) = false := by decide +kernel
  rw [ofB, h]
  rfl
theorem cand_zero (d : Int) (best : Lab) : candL d best zeroSec = best := by
  unfold candL candB
  rw [of_zero]
  rfl
theorem cand_lab {d : Int} {best l : Lab} (hr : rightB l = true) : candL d best (labS l) = if l.member = d ∧ best.gen < l.gen then l else best := by
  obtain ⟨h1, h2, _⟩ := of_put hr
  unfold candL candB
  rw [h1, h2, Bool.true_and]
  by_cases ha : l.member = d <;> by_cases hb : best.gen < l.gen <;> simp [ha, hb]
theorem best_two (S : Bank) (d : Nat) : S.bestL d 2 = candL d (candL d Lab.none_ (S.newest d 0)) (S.newest d 1) := rfl
/-- The laws' plain labels are right. -/
theorem right_plain {gen member : Int} (h1 : 1 ≤ gen) (h2 : gen ≤ 4294967295) (h3 : 0 ≤ member) (h4 : member ≤ 2) : rightB (plainL gen member) = true := by
  have hg : inB gen 1 4294967295 = true := inB_iff.2 ⟨h1, h2⟩
  have hm : membersB [(0, 200, 0), (1, 300, 0), (2, 160, 2)] = true := by decide +kernel
  have ho : ownB [(0, 200, 0), (1, 300, 0), (2, 160, 2)] member = true := by
    have : member = 0 ∨ member = 1 ∨ member = 2 := by omega
    rcases this with rfl | rfl | rfl <;> decide +kernel
  simp only [rightB, plainL, hg, hm, ho, show inB 9 0 4294967295 = true by decide, show inB 16 1 96 = true by decide, Bool.and_true]
theorem int_one : (Try.prog.info? 3).map (·.size) = some 1 := by kernel_rfl
/-- What lies outside of the bank stays. -/
theorem MbIn.turned {w w' : World} {F : Nat → Prop} {B n c : Nat} {A : Option Addr} {l : List Mb} (h : MbIn w B A n c l) (hB : B ≤ w.heap.size) (hT : Turn F w w') (hF : 0 < n → ∀ ad, A = some ad → ¬ F ad.block) : MbIn w' B A n c l := by
  refine ⟨⟨h.1.1, fun hn => ?_⟩, h.2⟩
  obtain ⟨ad, e, hb, hc⟩ := h.1.2 hn
  refine ⟨ad, e, hb, fun j u hu => ?_⟩
  have hbl : (ad.add j).block = ad.block := block_of_add _ _
  exact (World.cell?_of_block (hT.block _ (by rw [hbl]; omega) (by rw [hbl]; exact hF hn ad e))).trans (hc j u hu)
theorem Gave.turned {l : Lab} {w w1 w2 : World} {F : Nat → Prop} {A : Option Addr} {n c : Nat} (h : Gave l w w1 A n c) (hT : Turn F w1 w2) (hF : ∀ x, w.heap.size ≤ x → ¬ F x) : Gave l w w2 A n c :=
  ⟨(h.1.turned (Nat.le_refl _) hT (fun h0 ad e => hF _ (h.2 h0 ad e))).more hT.size, h.2⟩
/-- Above all that the bank has. -/
theorem Turn.below_ {w w' : World} {F : Nat → Prop} (h : Turn F w w') {B : Nat} (hB : B ≤ w.heap.size) (hF : ∀ x, F x → B ≤ x) : Below B w w' :=
  ⟨h.os, h.tape, h.output, h.size, fun y hy => h.block y (by omega) (fun hf => by have := hF y hf; omega)⟩
end Go.Proofs.Ytbbfgcekjelmkaa
