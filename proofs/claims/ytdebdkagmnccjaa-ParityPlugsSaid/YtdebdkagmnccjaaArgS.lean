/- An argument that is a slice of sectors reads as a row of bytes, 64 a sector, nil let in; one that is a sector is sixty-four bytes. (As ArgSec, over ArgI alone.) -/
import Derived.Test.YtdebdkagmnccjaaArgI
import Derived.Deep.Slices
namespace Go.Proofs.Ytdebdkagmnccjaa
open Go.ChangeShapes Go.WideShapes Go.ChangeAt Go.RowKit

theorem sec_cells : Try.prog.cellsOf 24 = 64 := by kernel_rfl
theorem u8_cell : Try.prog.cellsOf 5 = 1 := by kernel_rfl

/-- The cells of one array of 64 bytes. -/
theorem sec_bytes {H : Type} {enc : TypeId × Value → H} {W : World} {base fuel : Nat} {sp : Nat → Bool} {hd : Bool} {cs : List Value} {x : DataW H × List MemPlace}
    (h : DataW.trod enc Try.prog W base sp hd fuel 24 cs = some x) : ∃ l : List UInt8, cs = B8 l ∧ l.length = 64 := by
  obtain ⟨xs, m, _, _, hcl, hxl, hi⟩ := DataW.trod_array Try.underlying24 h
  rw [sec_cells] at hcl
  rw [u8_cell] at hi
  have hz : ∀ v ∈ cs, ∃ z : Int, v = .int .u8 z ∧ 0 ≤ z ∧ z ≤ 255 := by
    intro v hv
    obtain ⟨i, hi1, rfl⟩ := List.getElem_of_mem hv
    have h1 := hi i (by omega)
    rw [Nat.mul_one] at h1
    have h2 : (cs.drop i).take 1 = [cs[i]] := by rw [List.drop_eq_getElem_cons hi1]; rfl
    have h3 : xs[i]? = some (xs[i]'(by omega)) := List.getElem?_eq_getElem (by omega)
    rw [h2, h3] at h1
    obtain ⟨a, e0, _, wa⟩ := DataW.trod_int Try.underlying5 h1
    simp only [List.cons.injEq, and_true] at e0
    exact ⟨a, e0, bounds_u8 wa⟩
  have hmap : ∃ zs : List Int, cs = zs.map (Value.int .u8) ∧ ∀ z ∈ zs, 0 ≤ z ∧ z ≤ 255 := by
    clear hi hcl h
    induction cs with
    | nil => exact ⟨[], rfl, by simp⟩
    | cons v cs ih =>
      obtain ⟨z, rfl, hz1⟩ := hz v (by simp)
      obtain ⟨zs, rfl, hzs⟩ := ih (fun u hu => hz u (by simp [hu]))
      exact ⟨z :: zs, rfl, fun y hy => by
        rcases List.mem_cons.1 hy with rfl | hy
        · exact hz1
        · exact hzs y hy⟩
  obtain ⟨zs, hzs, hb⟩ := hmap
  obtain ⟨l, hl, hm⟩ := bytes_of zs hb
  refine ⟨l, by rw [hzs, hm], ?_⟩
  rw [hl]
  have := congrArg List.length hzs
  rw [List.length_map] at this
  omega

theorem arg_secs {H : Type} {enc : TypeId × Value → H} {W : World} {A : Option Addr} {n c : Nat} {d : DataW H} {p : List MemPlace} (h : DataW.Trod enc Try.prog W 0 (fun _ => true) true 22 (.slice A n c) d p) :
    ∃ l : List UInt8, Reads W W.heap.size 64 A n (B8 l) ∧ n ≤ c ∧ c ≤ 9223372036854775807 := by
  obtain ⟨fuel, hf⟩ := h
  rcases Go.Deep.open_slice Try.underlying22 hf with ⟨hcs, _⟩ | ⟨x, len, cap, m, n', D, Pl, hcs, _, hl, hm, hmm, _, hi⟩
  · simp [Value.cells] at hcs
    obtain ⟨rfl, rfl, rfl⟩ := hcs
    exact ⟨[], Reads.none_, Nat.le_refl _, Nat.zero_le _⟩
  · simp [Value.cells] at hcs
    obtain ⟨rfl, rfl, rfl⟩ := hcs
    have hmc : m = c := by simpa using hmm
    subst hmc
    have hall : ∀ i, ∃ l : List UInt8, i < m → l.length = 64 ∧ ∀ j v, (B8 l)[j]? = some v → W.cell? (x.add (i * 64 + j)) = some v := by
      intro i
      by_cases him : i < m
      · obtain ⟨cs', hc1, hc2⟩ := hi i him
        rw [sec_cells] at hc1
        obtain ⟨l, rfl, hl64⟩ := sec_bytes hc2
        obtain ⟨_, hlen, hat⟩ := World.cells?_some hc1
        refine ⟨l, fun _ => ⟨hl64, fun j v hv => ?_⟩⟩
        have hj : j < 64 := by
          have := (List.getElem?_eq_some_iff.1 hv).1
          rw [B8_length] at this
          omega
        have h2 := hat j hj
        rw [add_of_add] at h2
        rw [h2, hv]
      · exact ⟨[], fun h => absurd h him⟩
    have hbytes : ∀ k, k ≤ m → ∃ l : List UInt8, l.length = k * 64 ∧ ∀ j v, (B8 l)[j]? = some v → W.cell? (x.add j) = some v := by
      intro k
      induction k with
      | zero => intro _; exact ⟨[], rfl, by simp [B8]⟩
      | succ k ih =>
        intro hk
        obtain ⟨l, hl1, hl2⟩ := ih (by omega)
        obtain ⟨r, hr⟩ := hall k
        obtain ⟨hr1, hr2⟩ := hr (by omega)
        refine ⟨l ++ r, by rw [List.length_append, hl1, hr1]; omega, fun j v hv => ?_⟩
        rw [B8_append, List.getElem?_append] at hv
        split at hv
        · exact hl2 j v hv
        · rename_i hge
          rw [B8_length, hl1] at hv hge
          have := hr2 (j - k * 64) v hv
          rwa [show k * 64 + (j - k * 64) = j by omega] at this
    obtain ⟨l, hl1, hl2⟩ := hbytes n hl
    refine ⟨l, ⟨by rw [B8_length, hl1], fun hn => ⟨x, rfl, ?_, hl2⟩⟩, hl, by simpa [maxLen] using hm⟩
    have h0 := hl2 0 _ (B8_at l (by omega))
    have h := World.block_lt_of_cell? W (x.add 0) h0
    rwa [block_of_add] at h
#print axioms arg_secs
set_option maxRecDepth 100000 in
theorem arg_sec1 {H : Type} {enc : TypeId × Value → H} {W : World} {d : DataW H} {p : List MemPlace} {r : Reach} {b0 : Nat} {v : Value} (hv : Value.okWide Try.prog W r b0 24 v) (h : DataW.Trod enc Try.prog W 0 (fun _ => true) true 24 v d p) : ∃ l : List UInt8, v = .agg (B8 l).toArray ∧ l.length = 64 := by
  simp only [Value.okWide, Try.underlying24] at hv
  obtain ⟨cs, rfl, _⟩ := hv
  obtain ⟨fuel, hf⟩ := h
  obtain ⟨l, hcs, hl⟩ := sec_bytes hf
  refine ⟨l, ?_, hl⟩
  have e : cs = (B8 l).toArray := by
    apply Array.ext'
    simpa [Value.cells] using hcs
  rw [e]
end Go.Proofs.Ytdebdkagmnccjaa
