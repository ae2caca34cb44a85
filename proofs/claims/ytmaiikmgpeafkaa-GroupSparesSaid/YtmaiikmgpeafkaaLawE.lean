/- Groups of the call's own; what few leaves. -/
import Derived.Test.YtmaiikmgpeafkaaLawO
import Derived.Test.YtmaiikmgpeafkaaRefGS
import Derived.BigRegion
import Derived.Deep.DeepCutAuto
import Derived.Deep.CutBlock
import Derived.Deep.CutRange
import Derived.Outline
namespace Go.Proofs.Ytmaiikmgpeafkaa
open Go.RowKit

/-- Groups that a call made: a row of them, each with extents of its own. -/
structure GsOwn (w : World) (base : Nat) (v : Value) (L : List GrV) : Prop where
  row : w.ownsRow base 36 3 v L.length (grL L)
  mem : ∀ g ∈ L, ExOwn w base g
  apart : L.Pairwise (fun g h => Apart g.row h.row)
theorem GsOwn.later {w w' : World} {base : Nat} {v : Value} {L : List GrV} (h : GsOwn w base v L) (hb : Below w.heap.size w w') : GsOwn w' base v L :=
  ⟨own_later h.row hb, fun g hg => (h.mem g hg).later hb, h.apart⟩
theorem GsOwn.in_ {w : World} {base : Nat} {A : Option Addr} {n c : Nat} {L : List GrV} (h : GsOwn w base (.slice A n c) L) : GsIn w w.heap.size A n c L := by
  have h0 := h.row
  obtain ⟨A1, c1, hv, h1, h2⟩ := own_shape h0
  injection hv with e1 e2 e3
  subst e2
  refine ⟨Reads.of_own h0, by omega, by rw [e3]; simpa [maxLen] using h2, fun g hg => (h.mem g hg).in_⟩
theorem GsOwn.shape {w : World} {base : Nat} {v : Value} {L : List GrV} (h : GsOwn w base v L) : ∃ A c, v = .slice A L.length c := by
  obtain ⟨A, c, hv, _⟩ := own_shape h.row
  exact ⟨A, c, hv⟩
theorem GsOwn.more {w w1 w2 : World} {base : Nat} {v v' : Value} {L : List GrV} {g : GrV} {o : Obj} (h : GsOwn w base v L) (hb : Below w.heap.size w w1) (hg : ExOwn w1 w.heap.size g) (hbase : base ≤ w.heap.size)
    (hown : w2.ownsRow base 36 3 v' (L.length + 1) (grL L ++ grC g)) (hgr : (w1.alloc o).grownBy w2 v.ownBlock) : GsOwn w2 base v' (L ++ [g]) := by
  refine ⟨?_, fun x hx => ?_, ?_⟩
  · rw [List.length_append, grL_append, grL_one]
    exact hown
  · rcases List.mem_append.1 hx with hx | hx
    · exact own_other ((own_later (h.mem x hx) hb).alloc o) hgr (kinds_apart h.row (h.mem x hx) (by decide))
    · simp at hx
      subst hx
      exact own_other ((own_mono hg hbase).alloc o) hgr (kinds_apart (own_later h.row hb) hg (by decide))
  · rw [List.pairwise_append]
    refine ⟨h.apart, List.pairwise_singleton _ _, fun x hx y hy b h1 h2 => ?_⟩
    simp at hy
    subst hy
    have k1 := ((h.mem x hx).lt b h1).2
    have k2 := (hg.lt b h2).1
    omega
theorem grp_reads (w : World) (B : Nat) (g : GrV) (hB : w.heap.size < B) : Reads (w.alloc (.cells (grC g).toArray 36)) B 3 (some ⟨w.heap.size, 0, none⟩) 1 (grC g) := by
  refine ⟨rfl, fun _ => ⟨_, rfl, hB, fun j u hu => ?_⟩⟩
  have h := (Blk.new w 36 (grC g).toArray).cell j
  have hadd : (⟨w.heap.size, 0, none⟩ : Addr).add j = ⟨w.heap.size, j, none⟩ := by unfold Addr.add; split <;> simp_all
  rw [hadd, h]
  simpa using hu
/-- Less than what may be asked of a disk's number. -/
def m9 (d : Int) : Int := d % 65536 % 9
def fewX (x : Ex) : Ex := (m9 x.1, x.2)
abbrev GrD := Int × Int × List Ex
def GrV.dat (g : GrV) : GrD := (g.id, g.kind, g.ex)
def fewD (g : GrV) : GrD := (g.id, g.kind, (g.ex.take 6).map fewX)
theorem m9_bits (d : Int) : ∃ M N : Nat, bits .and .i64 d 65535 = (M : Int) ∧ (M : Int).tmod 9 = (N : Int) ∧ m9 d = (N : Int) ∧ N < 9 := by
  have h := i64_mask d 16 (by decide)
  have e : (65535 : Int) = 2 ^ 16 - 1 := by decide
  have e2 : (2 : Int) ^ 16 = 65536 := by decide
  refine ⟨(d % 65536).toNat, (d % 65536).toNat % 9, ?_, ?_, ?_, by omega⟩
  · rw [e, h, e2]; omega
  · rw [Int.tmod_eq_emod_of_nonneg (by omega)]; omega
  · unfold m9; omega
theorem fewX_more {l : List Ex} {k : Nat} {x : Ex} (h : l[k]? = some x) : (l.take (k + 1)).map fewX = (l.take k).map fewX ++ [fewX x] := by
  rw [List.take_add_one, h]
  simp
theorem fewX_end {l : List Ex} {k : Nat} (h : (k ≤ 6 ∧ k = l.length) ∨ k = 6) : (l.take k).map fewX = (l.take 6).map fewX := by
  rcases h with ⟨h1, h2⟩ | h1
  · rw [List.take_of_length_le (by omega), List.take_of_length_le (by omega)]
  · rw [h1]
theorem fewD_more {l : List GrV} {k : Nat} {x : GrV} (h : l[k]? = some x) : (l.take (k + 1)).map fewD = (l.take k).map fewD ++ [fewD x] := by
  rw [List.take_add_one, h]
  simp
theorem fewD_end {l : List GrV} {k : Nat} (h : (k ≤ 16 ∧ k = l.length) ∨ k = 16) : (l.take k).map fewD = (l.take 16).map fewD := by
  rcases h with ⟨h1, h2⟩ | h1
  · rw [List.take_of_length_le (by omega), List.take_of_length_le (by omega)]
  · rw [h1]
/-- A region whose end is known, whatever its order. -/
def AtEnd (a1 : Act) (w1 : World) (e : Exit) (a : Act) (w : World) : Prop := match e with
  | .normal => a = a1 ∧ w = w1
  | _ => False
theorem wp_region_as {P : Program} {c : Code} {Q : Exit → Act → World → Prop} {a : Act} {w : World} (f : Act → Act) (w1 : World) (h : Code.wp P c (AtEnd (f a) w1) a w) (hr : Q .normal (f a) w1) : Code.wp P c Q a w :=
  wp_mono h fun e _ _ h1 => by
    cases e <;> first | (obtain ⟨h2, h3⟩ := h1; rw [h2, h3]; exact hr) | exact absurd h1 (fun h => h)
theorem grp_built (a b : Int) : Try.prog.built 36 [(0, .int .i64 a), (1, .int .i64 b)] = some #[.int .i64 a, .int .i64 b, .slice none 0 0] := by kernel_rfl
theorem ex_built2 (a b : Int) : Try.prog.built 38 [(0, .int .i64 a), (1, .int .i64 b)] = some #[.int .i64 a, .int .i64 b] := by kernel_rfl
theorem ExIn.both {w : World} {B n c k : Nat} {A : Option Addr} {l : List Ex} (h : ExIn w B A n c l) (hk : k < n) : ∃ ae x, A = some ae ∧ ae.block < B ∧ l[k]? = some x ∧ w.cell? (ae.add (k * 2)) = some (.int .i64 x.1) ∧ w.cell? ⟨(ae.add (k * 2)).block, (ae.add (k * 2)).off + 1, none⟩ = some (.int .i64 x.2) := by
  obtain ⟨ae, x, hA, hb, hx, hc⟩ := h.at_ hk
  have h0 := hc 0 _ rfl
  have h1 := hc 1 _ rfl
  rw [add_of_add, Nat.add_zero] at h0
  rw [add_off _ (by decide)] at h1
  exact ⟨ae, x, hA, hb, hx, h0, h1⟩
theorem GsIn.heads {w : World} {B n c k : Nat} {A : Option Addr} {L : List GrV} (h : GsIn w B A n c L) (hk : k < n) : ∃ ad g, A = some ad ∧ ad.block < B ∧ L[k]? = some g ∧ GrIn w B g ∧ w.cell? (ad.add (k * 3)) = some (.int .i64 g.id) ∧ w.cell? ⟨(ad.add (k * 3)).block, (ad.add (k * 3)).off + 1, none⟩ = some (.int .i64 g.kind) ∧ w.cell? ⟨(ad.add (k * 3)).block, (ad.add (k * 3)).off + 2, none⟩ = some (.slice g.A g.n g.c) := by
  obtain ⟨ad, g, hA, hb, hg, hgi, hc⟩ := h.at_ hk
  have h0 := hc 0 _ rfl
  have h1 := hc 1 _ rfl
  have h2 := hc 2 _ rfl
  rw [add_of_add, Nat.add_zero] at h0
  rw [add_off _ (by decide)] at h1 h2
  exact ⟨ad, g, hA, hb, hg, hgi, h0, h1, h2⟩
#print axioms GsOwn.more
end Go.Proofs.Ytmaiikmgpeafkaa
