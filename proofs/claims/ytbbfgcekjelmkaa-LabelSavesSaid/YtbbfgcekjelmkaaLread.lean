/- What label.read answers, over whatever sector comes in. -/
import Derived.Test.YtbbfgcekjelmkaaLput
import Derived.Test.YtbbfgcekjelmkaaMade
namespace Go.Proofs.Ytbbfgcekjelmkaa
open Go.RowKit

set_option maxHeartbeats 1000000 in
/-- The next number of so many bytes. -/
theorem next_any (g B n k : Nat) (ad : Addr) (xs : List UInt8) (w : World) (hg : Blk w g 64 #[.slice (some ad) n n]) (hr : Reads w B 1 (some ad) n (B8 xs)) (hBg : B ≤ g) (hn : n ≤ 64) (hk1 : 1 ≤ k) (_hk : k ≤ 4) :
    Calls Try.prog 71 #[.int .i64 (k : Int), .pointer (some ⟨g, 0, none⟩)] w fun e w' => e = .returned (.int .i64 ((getV xs k : Nat) : Int)) ∧ (∃ ad' n', Blk w' g 64 #[.slice (some ad') n' n'] ∧ Reads w' B 1 (some ad') n' (B8 (xs.drop k)) ∧ n' ≤ 64) ∧ w.grownBy w' (some g) := by
  have c0 : w.cell? ⟨g, 0, none⟩ = some (.slice (some ad) n n) := hg.cell 0
  have f0 := hg.frozen 0
  have hlen : xs.length = n := by have := hr.1; simpa [B8_length] using this
  have HG := hide hg
  have HR := hide hr
  have HL := hide hlen
  have hset := fun v => hg.set_ 0 v
  have hgr := fun v => grown_set (grown_refl w (some g)) ⟨g, 0, none⟩ rfl v
  have HST := hide hset
  have HGR := hide hgr
  clear hg hr hlen hset hgr
  by_cases hkn : (k : Int) < (n : Int)
  · have hcut := HR.out.cut (k := k) (cap := n) (by omega) (Nat.le_refl _)
    rw [if_neg (by omega), Nat.mul_one, B8_drop] at hcut
    have HC := hide hcut
    clear hcut
    go_enter Try.func71, Try.ntmps71
    go_wp2_with (go_at_call 72; refine (get_any _ _ _ _ _ B _ HR.out (Nat.le_refl _) (by omega)).mono ?_; rintro e w' ⟨rfl, rfl⟩)
    go_ret
    exact ⟨rfl, ⟨_, _, HST.out _, HC.out.setCell hBg _, by omega⟩, HGR.out _⟩
  · have hcut := HR.out.cut (k := n) (cap := n) (by omega) (Nat.le_refl _)
    have hk0 : xs.drop k = [] := List.drop_eq_nil_of_le (by rw [HL.out]; omega)
    have hn0 : xs.drop n = [] := List.drop_eq_nil_of_le (by rw [HL.out]; exact Nat.le_refl _)
    rw [if_pos rfl, Nat.mul_one, B8_drop, Nat.sub_self, hn0, ← hk0] at hcut
    have HC := hide hcut
    clear hcut hk0 hn0
    go_enter Try.func71, Try.ntmps71
    go_wp2_with (go_at_call 72; refine (get_any _ _ _ _ _ B _ HR.out (Nat.le_refl _) (by omega)).mono ?_; rintro e w' ⟨rfl, rfl⟩)
    all_goals (go_ret; first | exact ⟨rfl, ⟨_, _, HST.out _, HC.out.setCell hBg _, by omega⟩, HGR.out _⟩ | (rw [show n - k = 0 by omega]; exact ⟨rfl, ⟨_, _, HST.out _, HC.out.setCell hBg _, by omega⟩, HGR.out _⟩))
/-- Block g is what is left to be read of s behind o bytes; all of it lies below B. -/
def NextIs (w : World) (g B : Nat) (s : List UInt8) (o : Nat) : Prop := B ≤ g ∧ ∃ ad n, Blk w g 64 #[.slice (some ad) n n] ∧ Reads w B 1 (some ad) n (B8 (s.drop o)) ∧ n ≤ 64
section
variable {w w' : World} {g B o : Nat} {s : List UInt8}
theorem NextIs.lt (h : NextIs w g B s o) : g < w.heap.size := by
  obtain ⟨_, ad, n, h1, _⟩ := h
  exact h1.lt
theorem NextIs.below {X : Nat} (h : NextIs w g B s o) (hb : Below X w w') (hX : g < X) : NextIs w' g B s o := by
  obtain ⟨h0, ad, n, h1, h2, h3⟩ := h
  exact ⟨h0, ad, n, h1.below hb hX, h2.below (hb.mono (by omega)), h3⟩
theorem NextIs.later (h : NextIs w g B s o) (hb : Below w.heap.size w w') : NextIs w' g B s o := h.below hb h.lt
theorem NextIs.grown {r : Nat} (h : NextIs w g B s o) (hg : w.grownBy w' (some r)) (hr1 : r ≠ g) (hr2 : B ≤ r) : NextIs w' g B s o := by
  have hlt := h.lt
  obtain ⟨h0, ad, n, h1, h2, h3⟩ := h
  exact ⟨h0, ad, n, h1.grown hg (fun e => hr1 (by injection e with e; exact e.symm)), h2.grown hg (by omega) (fun x e => by injection e with e; omega), h3⟩
theorem next_at (k : Nat) (o' : Nat) (h : NextIs w g B s o) (hk1 : 1 ≤ k) (hk : k ≤ 4) (ho : o' = o + k) :
    Calls Try.prog 71 #[.int .i64 (k : Int), .pointer (some ⟨g, 0, none⟩)] w fun e w' => e = .returned (.int .i64 ((getV (s.drop o) k : Nat) : Int)) ∧ NextIs w' g B s o' ∧ w.grownBy w' (some g) := by
  obtain ⟨h0, ad, n, h1, h2, h3⟩ := h
  refine (next_any g B n k ad (s.drop o) w h1 h2 h0 h3 hk1 hk).mono fun e w' ⟨he, ⟨ad', n', x1, x2, x3⟩, hg⟩ => ⟨he, ⟨h0, ad', n', x1, ?_, x3⟩, hg⟩
  rw [List.drop_drop, ← ho] at x2
  exact x2
end
theorem Blk.reads {w : World} {g B off n : Nat} {t : TypeId} {xs : List UInt8} (h : Blk w g t (B8 xs).toArray) (hB : g < B) (hn : xs.length = off + n) : Reads w B 1 (some ⟨g, off, none⟩) n (B8 (xs.drop off)) := by
  refine ⟨by rw [B8_length, List.length_drop]; omega, fun _ => ⟨_, rfl, hB, fun j u hu => ?_⟩⟩
  have hadd : (⟨g, off, none⟩ : Addr).add j = ⟨g, off + j, none⟩ := by unfold Addr.add; split <;> simp_all
  rw [hadd, h.cell]
  rw [← B8_drop, List.getElem?_drop] at hu
  simpa using hu
/-- The members read so far. -/
def readTo (s : List UInt8) (N k : Nat) : List Mb := (List.range N).map fun i => if i < k then readM s i else (0, 0, 0)
theorem readTo_zero (s : List UInt8) (N : Nat) : mbL (readTo s N 0) = (List.replicate N (mbC (0, 0, 0))).flatten := by
  have h : readTo s N 0 = List.replicate N (0, 0, 0) := by
    apply List.ext_getElem
    · simp [readTo]
    · intro i h1 h2
      simp [readTo]
  rw [h, mbL, List.flatMap_def, List.map_replicate]
theorem readTo_all (s : List UInt8) (N : Nat) : readTo s N N = (List.range N).map (readM s) := by
  apply List.map_congr_left
  intro i hi
  rw [if_pos (List.mem_range.1 hi)]
theorem readTo_length (s : List UInt8) (N k : Nat) : (readTo s N k).length = N := by simp [readTo]
theorem readTo_step (s : List UInt8) (N k : Nat) (h : k < N) : readTo s N (k + 1) = (readTo s N k).set k (readM s k) := by
  apply List.ext_getElem?
  intro j
  rw [List.getElem?_set]
  simp only [readTo, List.getElem?_map, List.length_map, List.length_range]
  by_cases hj : j < N
  · rw [List.getElem?_range hj]
    by_cases hk : k = j
    · subst hk; simp [hj]
    · rw [if_neg hk]
      by_cases h2 : j < k
      · simp [h2, show j < k + 1 by omega]
      · simp [h2, show ¬ j < k + 1 by omega]
  · rw [List.getElem?_eq_none (by simpa using hj)]
    by_cases hk : k = j
    · omega
    · simp [hk]
theorem mbL_set : ∀ (l : List Mb) (k : Nat) (m : Mb), k < l.length → (((mbL l).set (k * 3) (.int .i64 m.1)).set (k * 3 + 1) (.int .i64 m.2.1)).set (k * 3 + 2) (.int .i64 m.2.2) = mbL (l.set k m)
  | [], k, m, h => absurd h (Nat.not_lt_zero _)
  | x :: l, 0, m, _ => rfl
  | x :: l, k + 1, m, h => by
    have ih := mbL_set l k m (by simpa using h)
    rw [List.set_cons_succ, mbL_cons, mbL_cons, ← ih]
    have e : mbC x = [.int .i64 x.1, .int .i64 x.2.1, .int .i64 x.2.2] := rfl
    rw [e, show (k + 1) * 3 = k * 3 + 3 by omega, show k * 3 + 3 + 1 = k * 3 + 1 + 3 by omega, show k * 3 + 3 + 2 = k * 3 + 2 + 3 by omega]
    rfl
theorem built_lab (a b c d : Int) : Try.prog.built 24 [(0, .int .i64 a), (1, .int .i64 b), (2, .int .i64 c), (3, .int .i64 d)] = some #[.int .i64 a, .int .i64 b, .int .i64 c, .int .i64 d, .slice none 0 0] := by kernel_rfl
theorem built_mb (a b c : Int) : Try.prog.built 62 [(0, .int .i64 a), (1, .int .i64 b), (2, .int .i64 c)] = some #[.int .i64 a, .int .i64 b, .int .i64 c] := by kernel_rfl
theorem lab_zero (w : World) : (zeroValue 24).run Try.prog w = .ok (labV Lab.none_ none 0 0) w := by kernel_rfl
theorem mb_parts : (Try.prog.info? 62).map (fun i => (i.zero, i.size, i.bytes)) = some (some (.agg (mbC (0, 0, 0)).toArray), 3, 24) := by kernel_rfl
theorem labC_one (l : Lab) (A : Option Addr) (n c : Nat) : ∀ v ∈ labC l A n c, v.oneCell' = true := by
  intro v hv
  simp [labC] at hv
  rcases hv with rfl | rfl | rfl | rfl | rfl <;> rfl
theorem countM_le (s : List UInt8) : countM s ≤ 255 := by
  unfold countM getV
  split
  · have := num_take_lt (s.drop 13) (1 : Int).toNat
    have e : 256 ^ (1 : Int).toNat = 256 := by decide
    omega
  · omega
#print axioms next_at
end Go.Proofs.Ytbbfgcekjelmkaa
