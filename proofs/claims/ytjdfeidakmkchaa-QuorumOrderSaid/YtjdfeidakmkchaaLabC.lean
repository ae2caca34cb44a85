/- A label's five cells, a label that a call hands back, a label cut to twenty members. -/
import Derived.Test.YtjdfeidakmkchaaRightL
namespace Go.Proofs.Ytjdfeidakmkchaa
open Go.RowKit

/-- The label's own variable. -/
def labC (l : Lab) (A : Option Addr) (n c : Nat) : List Value := [.int .i64 l.array, .int .i64 l.gen, .int .i64 l.member, .int .i64 l.blocks, .slice A n c]
theorem lab_info : (Try.prog.info? 24).map (·.size) = some 5 := by kernel_rfl
section
variable {w : World} {g n c : Nat} {A : Option Addr} {l : Lab}
theorem lab_c0 (h : Blk w g 24 (labC l A n c).toArray) : w.cell? ⟨g, 0, none⟩ = some (.int .i64 l.array) := h.cell 0
theorem lab_c1 (h : Blk w g 24 (labC l A n c).toArray) : w.cell? ⟨g, 1, none⟩ = some (.int .i64 l.gen) := h.cell 1
theorem lab_c2 (h : Blk w g 24 (labC l A n c).toArray) : w.cell? ⟨g, 2, none⟩ = some (.int .i64 l.member) := h.cell 2
theorem lab_c3 (h : Blk w g 24 (labC l A n c).toArray) : w.cell? ⟨g, 3, none⟩ = some (.int .i64 l.blocks) := h.cell 3
theorem lab_c4 (h : Blk w g 24 (labC l A n c).toArray) : w.cell? ⟨g, 4, none⟩ = some (.slice A n c) := h.cell 4
end
theorem lab_zero (w : World) : (zeroValue 24).run Try.prog w = .ok (labV Lab.none_ none 0 0) w := by kernel_rfl
theorem mb_parts : (Try.prog.info? 28).map (fun i => (i.zero, i.size, i.bytes)) = some (some (.agg (mbC (0, 0, 0)).toArray), 3, 24) := by kernel_rfl
theorem labC_one (l : Lab) (A : Option Addr) (n c : Nat) : ∀ v ∈ labC l A n c, v.oneCell' = true := by
  intro v hv
  simp [labC] at hv
  rcases hv with rfl | rfl | rfl | rfl | rfl <;> rfl
/-- What lies at address A lies at block L or behind it. -/
def From (L : Nat) (A : Option Addr) (n : Nat) : Prop := 0 < n → ∀ ad, A = some ad → L ≤ ad.block
theorem built_lab0 : Try.prog.built 24 [] = some (labC Lab.none_ none 0 0).toArray := by kernel_rfl
theorem MbIn.none_ {w : World} {B : Nat} : MbIn w B none 0 0 [] := ⟨Reads.none_, Nat.le_refl _, Nat.zero_le _⟩
/-- A label that a call hands back: its members lie in memory of its own. -/
def Gave (l : Lab) (w w' : World) (A : Option Addr) (n c : Nat) : Prop := MbIn w' w'.heap.size A n c l.members ∧ From w.heap.size A n
theorem Gave.later {l : Lab} {w w1 w2 : World} {A : Option Addr} {n c : Nat} (h : Gave l w w1 A n c) (hb : Below w1.heap.size w1 w2) : Gave l w w2 A n c := ⟨h.1.later hb, h.2⟩
theorem Gave.from_ {l : Lab} {w w0 w1 : World} {A : Option Addr} {n c : Nat} (h : Gave l w w1 A n c) (hb : w0.heap.size ≤ w.heap.size) : Gave l w0 w1 A n c := ⟨h.1, fun h0 ad e => Nat.le_trans hb (h.2 h0 ad e)⟩
theorem Gave.none_ {w w' : World} : Gave Lab.none_ w w' none 0 0 := ⟨MbIn.none_, fun h => absurd h (by omega)⟩
theorem Gave.grown {l : Lab} {w w1 w2 : World} {A : Option Addr} {n c r : Nat} (h : Gave l w w1 A n c) (hg : w1.grownBy w2 (some r)) (hr : 0 < n → ∀ ad, A = some ad → ad.block ≠ r) : Gave l w w2 A n c := by
  refine ⟨⟨⟨h.1.1.1, fun hn => ?_⟩, h.1.2⟩, h.2⟩
  obtain ⟨ad, e, hb, hc⟩ := h.1.1.2 hn
  refine ⟨ad, e, Nat.lt_of_lt_of_le hb hg.size, fun j u hu => ?_⟩
  have hbl : (ad.add j).block = ad.block := block_of_add _ _
  exact (World.cell?_of_block (hg.block _ (by rw [hbl]; exact hb) (fun e2 => hr hn ad e (by injection e2 with e2; rw [← hbl, e2])))).trans (hc j u hu)
theorem mb_zero (w : World) : (zeroValue 28).run Try.prog w = .ok (.agg (mbC (0, 0, 0)).toArray) w := by kernel_rfl
theorem mbC_one (m : Mb) : ∀ v ∈ mbC m, v.oneCell' = true := by
  intro v hv
  simp [mbC] at hv
  rcases hv with rfl | rfl | rfl <;> rfl
def cutL (l : Lab) : Lab := { l with members := l.members.take 20 }
end Go.Proofs.Ytjdfeidakmkchaa
