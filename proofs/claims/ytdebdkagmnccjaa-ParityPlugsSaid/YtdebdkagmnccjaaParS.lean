/- What stage 11's laws begin with: their shown, over the contracts of the code's own calls; new lists of sectors read. -/
import Derived.Test.YtdebdkagmnccjaaParB
namespace Go.Proofs.Ytdebdkagmnccjaa
open Go.RowKit
theorem pu8_info : Try.prog.info? 5 = some ((Try.prog.info? 5).getD default) := by kernel_rfl
/-- A new block of sectors reads as a slice. -/
theorem reads64 {w : World} {g n : Nat} {T : TypeId} {L : List (List UInt8)} (h : Blk w g T (B8 L.flatten).toArray) (hL : Secs L) (hn : L.length = n) : Reads w w.heap.size 64 (some ⟨g, 0, none⟩) n (B8 L.flatten) :=
  ⟨by rw [B8_length, flat_length hL, hn], fun _ => ⟨⟨g, 0, none⟩, rfl, h.lt, fun j u hu => blk_at h j u hu⟩⟩
def sA : List UInt8 := 1 :: List.replicate 63 0
def sB : List UInt8 := 2 :: (List.replicate 62 0 ++ [7])
def sP : List UInt8 := 3 :: (List.replicate 62 0 ++ [7])
def sC : List UInt8 := 4 :: List.replicate 63 0
def sD : List UInt8 := 6 :: (List.replicate 62 0 ++ [7])
theorem lit_sA : (#[.int .u8 1, .int .u8 0, .int .u8 0, .int .u8 0, .int .u8 0, .int .u8 0, .int .u8 0, .int .u8 0, .int .u8 0, .int .u8 0, .int .u8 0, .int .u8 0, .int .u8 0, .int .u8 0, .int .u8 0, .int .u8 0, .int .u8 0, .int .u8 0, .int .u8 0, .int .u8 0, .int .u8 0, .int .u8 0, .int .u8 0, .int .u8 0, .int .u8 0, .int .u8 0, .int .u8 0, .int .u8 0, .int .u8 0, .int .u8 0, .int .u8 0, .int .u8 0, .int .u8 0, .int .u8 0, .int .u8 0, .int .u8 0, .int .u8 0, .int .u8 0, .int .u8 0, .int .u8 0, .int .u8 0, .int .u8 0, .int .u8 0, .int .u8 0, .int .u8 0, .int .u8 0, .int .u8 0, .int .u8 0, .int .u8 0, .int .u8 0, .int .u8 0, .int .u8 0, .int .u8 0, .int .u8 0, .int .u8 0, .int .u8 0, .int .u8 0, .int .u8 0, .int .u8 0, .int .u8 0, .int .u8 0, .int .u8 0, .int .u8 0, .int .u8 0] : Array Value) = (B8 sA).toArray := by kernel_rfl
theorem lit_sB : (#[.int .u8 2, .int .u8 0, .int .u8 0, .int .u8 0, .int .u8 0, .int .u8 0, .int .u8 0, .int .u8 0, .int .u8 0, .int .u8 0, .int .u8 0, .int .u8 0, .int .u8 0, .int .u8 0, .int .u8 0, .int .u8 0, .int .u8 0, .int .u8 0, .int .u8 0, .int .u8 0, .int .u8 0, .int .u8 0, .int .u8 0, .int .u8 0, .int .u8 0, .int .u8 0, .int .u8 0, .int .u8 0, .int .u8 0, .int .u8 0, .int .u8 0, .int .u8 0, .int .u8 0, .int .u8 0, .int .u8 0, .int .u8 0, .int .u8 0, .int .u8 0, .int .u8 0, .int .u8 0, .int .u8 0, .int .u8 0, .int .u8 0, .int .u8 0, .int .u8 0, .int .u8 0, .int .u8 0, .int .u8 0, .int .u8 0, .int .u8 0, .int .u8 0, .int .u8 0, .int .u8 0, .int .u8 0, .int .u8 0, .int .u8 0, .int .u8 0, .int .u8 0, .int .u8 0, .int .u8 0, .int .u8 0, .int .u8 0, .int .u8 0, .int .u8 7] : Array Value) = (B8 sB).toArray := by kernel_rfl
theorem lit_sP : (#[.int .u8 3, .int .u8 0, .int .u8 0, .int .u8 0, .int .u8 0, .int .u8 0, .int .u8 0, .int .u8 0, .int .u8 0, .int .u8 0, .int .u8 0, .int .u8 0, .int .u8 0, .int .u8 0, .int .u8 0, .int .u8 0, .int .u8 0, .int .u8 0, .int .u8 0, .int .u8 0, .int .u8 0, .int .u8 0, .int .u8 0, .int .u8 0, .int .u8 0, .int .u8 0, .int .u8 0, .int .u8 0, .int .u8 0, .int .u8 0, .int .u8 0, .int .u8 0, .int .u8 0, .int .u8 0, .int .u8 0, .int .u8 0, .int .u8 0, .int .u8 0, .int .u8 0, .int .u8 0, .int .u8 0, .int .u8 0, .int .u8 0, .int .u8 0, .int .u8 0, .int .u8 0, .int .u8 0, .int .u8 0, .int .u8 0, .int .u8 0, .int .u8 0, .int .u8 0, .int .u8 0, .int .u8 0, .int .u8 0, .int .u8 0, .int .u8 0, .int .u8 0, .int .u8 0, .int .u8 0, .int .u8 0, .int .u8 0, .int .u8 0, .int .u8 7] : Array Value) = (B8 sP).toArray := by kernel_rfl
theorem lit_sC : (#[.int .u8 4, .int .u8 0, .int .u8 0, .int .u8 0, .int .u8 0, .int .u8 0, .int .u8 0, .int .u8 0, .int .u8 0, .int .u8 0, .int .u8 0, .int .u8 0, .int .u8 0, .int .u8 0, .int .u8 0, .int .u8 0, .int .u8 0, .int .u8 0, .int .u8 0, .int .u8 0, .int .u8 0, .int .u8 0, .int .u8 0, .int .u8 0, .int .u8 0, .int .u8 0, .int .u8 0, .int .u8 0, .int .u8 0, .int .u8 0, .int .u8 0, .int .u8 0, .int .u8 0, .int .u8 0, .int .u8 0, .int .u8 0, .int .u8 0, .int .u8 0, .int .u8 0, .int .u8 0, .int .u8 0, .int .u8 0, .int .u8 0, .int .u8 0, .int .u8 0, .int .u8 0, .int .u8 0, .int .u8 0, .int .u8 0, .int .u8 0, .int .u8 0, .int .u8 0, .int .u8 0, .int .u8 0, .int .u8 0, .int .u8 0, .int .u8 0, .int .u8 0, .int .u8 0, .int .u8 0, .int .u8 0, .int .u8 0, .int .u8 0, .int .u8 0] : Array Value) = (B8 sC).toArray := by kernel_rfl
theorem lit_sD : (#[.int .u8 6, .int .u8 0, .int .u8 0, .int .u8 0, .int .u8 0, .int .u8 0, .int .u8 0, .int .u8 0, .int .u8 0, .int .u8 0, .int .u8 0, .int .u8 0, .int .u8 0, .int .u8 0, .int .u8 0, .int .u8 0, .int .u8 0, .int .u8 0, .int .u8 0, .int .u8 0, .int .u8 0, .int .u8 0, .int .u8 0, .int .u8 0, .int .u8 0, .int .u8 0, .int .u8 0, .int .u8 0, .int .u8 0, .int .u8 0, .int .u8 0, .int .u8 0, .int .u8 0, .int .u8 0, .int .u8 0, .int .u8 0, .int .u8 0, .int .u8 0, .int .u8 0, .int .u8 0, .int .u8 0, .int .u8 0, .int .u8 0, .int .u8 0, .int .u8 0, .int .u8 0, .int .u8 0, .int .u8 0, .int .u8 0, .int .u8 0, .int .u8 0, .int .u8 0, .int .u8 0, .int .u8 0, .int .u8 0, .int .u8 0, .int .u8 0, .int .u8 0, .int .u8 0, .int .u8 0, .int .u8 0, .int .u8 0, .int .u8 0, .int .u8 7] : Array Value) = (B8 sD).toArray := by kernel_rfl
/-- What the five of them come to. -/
structure Five (a b p c d : List UInt8) : Prop where
  la : a.length = 64
  lb : b.length = 64
  lp : p.length = 64
  lc : c.length = 64
  ld : d.length = 64
  ea : (#[.int .u8 1, .int .u8 0, .int .u8 0, .int .u8 0, .int .u8 0, .int .u8 0, .int .u8 0, .int .u8 0, .int .u8 0, .int .u8 0, .int .u8 0, .int .u8 0, .int .u8 0, .int .u8 0, .int .u8 0, .int .u8 0, .int .u8 0, .int .u8 0, .int .u8 0, .int .u8 0, .int .u8 0, .int .u8 0, .int .u8 0, .int .u8 0, .int .u8 0, .int .u8 0, .int .u8 0, .int .u8 0, .int .u8 0, .int .u8 0, .int .u8 0, .int .u8 0, .int .u8 0, .int .u8 0, .int .u8 0, .int .u8 0, .int .u8 0, .int .u8 0, .int .u8 0, .int .u8 0, .int .u8 0, .int .u8 0, .int .u8 0, .int .u8 0, .int .u8 0, .int .u8 0, .int .u8 0, .int .u8 0, .int .u8 0, .int .u8 0, .int .u8 0, .int .u8 0, .int .u8 0, .int .u8 0, .int .u8 0, .int .u8 0, .int .u8 0, .int .u8 0, .int .u8 0, .int .u8 0, .int .u8 0, .int .u8 0, .int .u8 0, .int .u8 0] : Array Value) = (B8 a).toArray
  eb : (#[.int .u8 2, .int .u8 0, .int .u8 0, .int .u8 0, .int .u8 0, .int .u8 0, .int .u8 0, .int .u8 0, .int .u8 0, .int .u8 0, .int .u8 0, .int .u8 0, .int .u8 0, .int .u8 0, .int .u8 0, .int .u8 0, .int .u8 0, .int .u8 0, .int .u8 0, .int .u8 0, .int .u8 0, .int .u8 0, .int .u8 0, .int .u8 0, .int .u8 0, .int .u8 0, .int .u8 0, .int .u8 0, .int .u8 0, .int .u8 0, .int .u8 0, .int .u8 0, .int .u8 0, .int .u8 0, .int .u8 0, .int .u8 0, .int .u8 0, .int .u8 0, .int .u8 0, .int .u8 0, .int .u8 0, .int .u8 0, .int .u8 0, .int .u8 0, .int .u8 0, .int .u8 0, .int .u8 0, .int .u8 0, .int .u8 0, .int .u8 0, .int .u8 0, .int .u8 0, .int .u8 0, .int .u8 0, .int .u8 0, .int .u8 0, .int .u8 0, .int .u8 0, .int .u8 0, .int .u8 0, .int .u8 0, .int .u8 0, .int .u8 0, .int .u8 7] : Array Value) = (B8 b).toArray
  ep : (#[.int .u8 3, .int .u8 0, .int .u8 0, .int .u8 0, .int .u8 0, .int .u8 0, .int .u8 0, .int .u8 0, .int .u8 0, .int .u8 0, .int .u8 0, .int .u8 0, .int .u8 0, .int .u8 0, .int .u8 0, .int .u8 0, .int .u8 0, .int .u8 0, .int .u8 0, .int .u8 0, .int .u8 0, .int .u8 0, .int .u8 0, .int .u8 0, .int .u8 0, .int .u8 0, .int .u8 0, .int .u8 0, .int .u8 0, .int .u8 0, .int .u8 0, .int .u8 0, .int .u8 0, .int .u8 0, .int .u8 0, .int .u8 0, .int .u8 0, .int .u8 0, .int .u8 0, .int .u8 0, .int .u8 0, .int .u8 0, .int .u8 0, .int .u8 0, .int .u8 0, .int .u8 0, .int .u8 0, .int .u8 0, .int .u8 0, .int .u8 0, .int .u8 0, .int .u8 0, .int .u8 0, .int .u8 0, .int .u8 0, .int .u8 0, .int .u8 0, .int .u8 0, .int .u8 0, .int .u8 0, .int .u8 0, .int .u8 0, .int .u8 0, .int .u8 7] : Array Value) = (B8 p).toArray
  ec : (#[.int .u8 4, .int .u8 0, .int .u8 0, .int .u8 0, .int .u8 0, .int .u8 0, .int .u8 0, .int .u8 0, .int .u8 0, .int .u8 0, .int .u8 0, .int .u8 0, .int .u8 0, .int .u8 0, .int .u8 0, .int .u8 0, .int .u8 0, .int .u8 0, .int .u8 0, .int .u8 0, .int .u8 0, .int .u8 0, .int .u8 0, .int .u8 0, .int .u8 0, .int .u8 0, .int .u8 0, .int .u8 0, .int .u8 0, .int .u8 0, .int .u8 0, .int .u8 0, .int .u8 0, .int .u8 0, .int .u8 0, .int .u8 0, .int .u8 0, .int .u8 0, .int .u8 0, .int .u8 0, .int .u8 0, .int .u8 0, .int .u8 0, .int .u8 0, .int .u8 0, .int .u8 0, .int .u8 0, .int .u8 0, .int .u8 0, .int .u8 0, .int .u8 0, .int .u8 0, .int .u8 0, .int .u8 0, .int .u8 0, .int .u8 0, .int .u8 0, .int .u8 0, .int .u8 0, .int .u8 0, .int .u8 0, .int .u8 0, .int .u8 0, .int .u8 0] : Array Value) = (B8 c).toArray
  ed : (#[.int .u8 6, .int .u8 0, .int .u8 0, .int .u8 0, .int .u8 0, .int .u8 0, .int .u8 0, .int .u8 0, .int .u8 0, .int .u8 0, .int .u8 0, .int .u8 0, .int .u8 0, .int .u8 0, .int .u8 0, .int .u8 0, .int .u8 0, .int .u8 0, .int .u8 0, .int .u8 0, .int .u8 0, .int .u8 0, .int .u8 0, .int .u8 0, .int .u8 0, .int .u8 0, .int .u8 0, .int .u8 0, .int .u8 0, .int .u8 0, .int .u8 0, .int .u8 0, .int .u8 0, .int .u8 0, .int .u8 0, .int .u8 0, .int .u8 0, .int .u8 0, .int .u8 0, .int .u8 0, .int .u8 0, .int .u8 0, .int .u8 0, .int .u8 0, .int .u8 0, .int .u8 0, .int .u8 0, .int .u8 0, .int .u8 0, .int .u8 0, .int .u8 0, .int .u8 0, .int .u8 0, .int .u8 0, .int .u8 0, .int .u8 0, .int .u8 0, .int .u8 0, .int .u8 0, .int .u8 0, .int .u8 0, .int .u8 0, .int .u8 0, .int .u8 7] : Array Value) = (B8 d).toArray
  ab : parOf [a, b] = p
  re : rebS [a, b, p] 1 = b
  pl : xorL (xorL a p) c = d
  al : parOf [a, b, p] = zeroL
  on : parOf [a] ≠ zeroL
theorem five : Five sA sB sP sC sD where
  la := by decide
  lb := by decide
  lp := by decide
  lc := by decide
  ld := by decide
  ea := lit_sA
  eb := lit_sB
  ep := lit_sP
  ec := lit_sC
  ed := lit_sD
  ab := by decide +kernel
  re := by decide +kernel
  pl := by decide +kernel
  al := by decide +kernel
  on := by decide +kernel
theorem secs2 {a b : List UInt8} (ha : a.length = 64) (hb : b.length = 64) : Secs [a, b] := fun s hs => by
  simp at hs
  rcases hs with rfl | rfl
  · exact ha
  · exact hb
theorem secs3 {a b c : List UInt8} (ha : a.length = 64) (hb : b.length = 64) (hc : c.length = 64) : Secs [a, b, c] := fun s hs => by
  simp at hs
  rcases hs with rfl | rfl | rfl
  · exact ha
  · exact hb
  · exact hc
theorem flat2 (a b : List UInt8) : [a, b].flatten = a ++ b := by simp
theorem flat3 (a b c : List UInt8) : [a, b, c].flatten = a ++ (b ++ c) := by simp
theorem flat1 (a : List UInt8) : [a].flatten = a := by simp
section
variable {w : World} {g : Nat} {a b c : List UInt8}
theorem ParK.build2 (K : ParK) (ha : a.length = 64) (hb : b.length = 64) (h : Blk w g 24 (B8 (a ++ b)).toArray) :
    Calls Try.prog 11 #[.slice (some ⟨g, 0, none⟩) 2 2] w fun e w' => e = .returned (.agg (B8 (parOf [a, b])).toArray) ∧ Below w.heap.size w w' :=
  K.build_any w _ 2 2 [a, b] (secs2 ha hb) rfl (reads64 (by rw [flat2]; exact h) (secs2 ha hb) rfl) (by decide) (by decide) (by decide)
theorem ParK.build1 (K : ParK) (ha : a.length = 64) (h : Blk w g 24 (B8 a).toArray) :
    Calls Try.prog 11 #[.slice (some ⟨g, 0, none⟩) 1 1] w fun e w' => e = .returned (.agg (B8 (parOf [a])).toArray) ∧ Below w.heap.size w w' :=
  K.build_any w _ 1 1 [a] (Secs.one ha) rfl (reads64 (by rw [flat1]; exact h) (Secs.one ha) rfl) (by decide) (by decide) (by decide)
theorem ParK.reb3 (K : ParK) (ha : a.length = 64) (hb : b.length = 64) (hc : c.length = 64) (h : Blk w g 24 (B8 (a ++ (b ++ c))).toArray) (i : Int) (h1 : -9223372036854775808 ≤ i) (h2 : i ≤ 9223372036854775807) :
    Calls Try.prog 9 #[.slice (some ⟨g, 0, none⟩) 3 3, .int .i64 i] w fun e w' => e = .returned (.tuple #[.agg (B8 (rebS [a, b, c] i)).toArray, .int .i64 (rebE 3 i : Int)]) ∧ Below w.heap.size w w' :=
  K.rebuild_any w _ 3 3 [a, b, c] i (secs3 ha hb hc) rfl (reads64 (by rw [flat3]; exact h) (secs3 ha hb hc) rfl) (by decide) (by decide) (by decide) h1 h2
theorem ParK.reb2 (K : ParK) (ha : a.length = 64) (hb : b.length = 64) (h : Blk w g 24 (B8 (a ++ b)).toArray) (i : Int) (h1 : -9223372036854775808 ≤ i) (h2 : i ≤ 9223372036854775807) :
    Calls Try.prog 9 #[.slice (some ⟨g, 0, none⟩) 2 2, .int .i64 i] w fun e w' => e = .returned (.tuple #[.agg (B8 (rebS [a, b] i)).toArray, .int .i64 (rebE 2 i : Int)]) ∧ Below w.heap.size w w' :=
  K.rebuild_any w _ 2 2 [a, b] i (secs2 ha hb) rfl (reads64 (by rw [flat2]; exact h) (secs2 ha hb) rfl) (by decide) (by decide) (by decide) h1 h2
theorem ParK.reb1 (K : ParK) (ha : a.length = 64) (h : Blk w g 24 (B8 a).toArray) (i : Int) (h1 : -9223372036854775808 ≤ i) (h2 : i ≤ 9223372036854775807) :
    Calls Try.prog 9 #[.slice (some ⟨g, 0, none⟩) 1 1, .int .i64 i] w fun e w' => e = .returned (.tuple #[.agg (B8 (rebS [a] i)).toArray, .int .i64 (rebE 1 i : Int)]) ∧ Below w.heap.size w w' :=
  K.rebuild_any w _ 1 1 [a] i (Secs.one ha) rfl (reads64 (by rw [flat1]; exact h) (Secs.one ha) rfl) (by decide) (by decide) (by decide) h1 h2
theorem ParK.check3 (K : ParK) (ha : a.length = 64) (hb : b.length = 64) (hc : c.length = 64) (h : Blk w g 24 (B8 (a ++ (b ++ c))).toArray) :
    Calls Try.prog 17 #[.slice (some ⟨g, 0, none⟩) 3 3] w fun e w' => e = .returned (.bool (decide (parOf [a, b, c] = zeroL))) ∧ Below w.heap.size w w' :=
  K.check_any w _ 3 3 [a, b, c] (secs3 ha hb hc) rfl (reads64 (by rw [flat3]; exact h) (secs3 ha hb hc) rfl) (by decide) (by decide) (by decide)
theorem ParK.check1 (K : ParK) (ha : a.length = 64) (h : Blk w g 24 (B8 a).toArray) :
    Calls Try.prog 17 #[.slice (some ⟨g, 0, none⟩) 1 1] w fun e w' => e = .returned (.bool (decide (parOf [a] = zeroL))) ∧ Below w.heap.size w w' :=
  K.check_any w _ 1 1 [a] (Secs.one ha) rfl (reads64 (by rw [flat1]; exact h) (Secs.one ha) rfl) (by decide) (by decide) (by decide)
theorem ParK.check0 (K : ParK) (w : World) : Calls Try.prog 17 #[.slice none 0 0] w fun e w' => e = .returned (.bool true) ∧ Below w.heap.size w w' :=
  K.check_any w none 0 0 [] (fun s hs => by cases hs) rfl Reads.none_ (by decide) (by decide) (by decide)
theorem ParK.reb0 (K : ParK) (w : World) : Calls Try.prog 9 #[.slice none 0 0, .int .i64 0] w fun e w' => e = .returned (.tuple #[.agg (B8 zeroL).toArray, .int .i64 3]) ∧ Below w.heap.size w w' :=
  K.rebuild_any w none 0 0 [] 0 (fun s hs => by cases hs) rfl Reads.none_ (by decide) (by decide) (by decide) (by decide) (by decide)
end
set_option maxRecDepth 100000 in
set_option maxHeartbeats 8000000 in
theorem shown11_any (K : ParK) (w : World) :
    Calls Try.prog 8 #[] w fun e w' => e = .returned (.bool true) ∧ Below w.heap.size w w' := by
  obtain ⟨ui, UI0⟩ : ∃ ui, Try.prog.info? 5 = some ui := ⟨_, pu8_info⟩
  have UI := hide UI0
  obtain ⟨a, b, p, c, d, h5⟩ : ∃ a b p c d, Five a b p c d := ⟨_, _, _, _, _, five⟩
  have F := hide h5
  have IA := hide (show (Try.prog.info? 24).map (·.size) = some (B8 a).length by rw [B8_length, h5.la]; exact psec_info)
  have IB := hide (show (Try.prog.info? 24).map (·.size) = some (B8 b).length by rw [B8_length, h5.lb]; exact psec_info)
  have IP := hide (show (Try.prog.info? 24).map (·.size) = some (B8 p).length by rw [B8_length, h5.lp]; exact psec_info)
  have IZ := hide (show (Try.prog.info? 24).map (·.size) = some (B8 zeroL).length by rw [B8_length, zeroL_length]; exact psec_info)
  clear h5 UI0
  go_enter Try.func8, Try.ntmps8
  go_wp2_with (first
    | ((with_reducible refine at_slot 1 ?_); rw [F.out.ea]; refine wpList_alloc_blk rfl 24 rfl _ (psec_nought _) ?_; intro y1 hbq hl1 hs1; have hb1 : Blk y1 w.heap.size 24 (B8 zeroL).toArray := hbq; clear hbq hs1)
    | ((with_reducible refine at_store 1 ?_); refine wpList_store_all rfl 24 (.tmp 1) (.tmp 8) rfl w.heap.size 24 _ hb1 rfl (B8 a) rfl IA.out (by rw [List.size_toArray, B8_length, B8_length, F.out.la, zeroL_length]) (B8_one _) ?_; intro y2 hbz hg hs; have hz := hb1.lt; have hl : Below w.heap.size w y2 := hl1.grown hg (by omega) (fun g e => by injection e with e; omega); have Ha_y2 := hide hbz; have HL_y2 := hide (hl); clear hz hl hs hg hbz hb1 hl1)
    | ((with_reducible refine at_slot 2 ?_); rw [F.out.eb]; refine wpList_alloc_blk rfl 24 rfl _ (psec_nought _) ?_; intro y3 hbq hl1 hs1; have hb1 : Blk y3 y2.heap.size 24 (B8 zeroL).toArray := hbq; clear hbq hs1)
    | ((with_reducible refine at_store 2 ?_); refine wpList_store_all rfl 24 (.tmp 2) (.tmp 9) rfl y2.heap.size 24 _ hb1 rfl (B8 b) rfl IB.out (by rw [List.size_toArray, B8_length, B8_length, F.out.lb, zeroL_length]) (B8_one _) ?_; intro y4 hbz hg hs; have hz := hb1.lt; have hl : Below y2.heap.size y2 y4 := hl1.grown hg (by omega) (fun g e => by injection e with e; omega); have Hb_y4 := hide hbz; have HL_y4 := hide (HL_y2.out.trans (hl.mono HL_y2.out.size)); have Ha_y4 := hide (Ha_y2.out.below hl Ha_y2.out.lt); clear hz hl hs hg hbz hb1 hl1)
    | ((with_reducible refine at_slot 10 ?_); refine when_load rfl 24 (.tmp 1) rfl w.heap.size 0 24 _ Ha_y4.out rfl (B8 a) _ (fun j v hj => by rw [Nat.zero_add]; simpa using hj) Try.underlying24 rfl IA.out ?_)
    | ((with_reducible refine at_slot 11 ?_); refine when_load rfl 24 (.tmp 2) rfl y2.heap.size 0 24 _ Hb_y4.out rfl (B8 b) _ (fun j v hj => by rw [Nat.zero_add]; simpa using hj) Try.underlying24 rfl IB.out ?_)
    | ((with_reducible refine at_slot 12 ?_); refine when_secs2 rfl (.tmp 10) (.tmp 11) rfl a b F.out.la F.out.lb rfl rfl ?_; have hb : Blk (y4.alloc (.cells (B8 (a ++ b)).toArray 24)) y4.heap.size 24 (B8 (a ++ b)).toArray := Blk.new _ _ _; have hl : Below y4.heap.size y4 (y4.alloc (.cells (B8 (a ++ b)).toArray 24)) := (Below.refl _ _).alloc (Nat.le_refl _) _; generalize y4.alloc (.cells (B8 (a ++ b)).toArray 24) = y5 at hb hl ⊢; have HR_y5 := hide hb; have HL_y5 := hide (HL_y4.out.trans (hl.mono HL_y4.out.size)); have Ha_y5 := hide (Ha_y4.out.below hl Ha_y4.out.lt); have Hb_y5 := hide (Hb_y4.out.below hl Hb_y4.out.lt); clear hb hl)
    | (go_at_call 11; (with_reducible refine (K.build2 F.out.la F.out.lb HR_y5.out).mono ?_); rintro _ y6 ⟨rfl, hl⟩; rw [F.out.ab]; have HL_y6 := hide (HL_y5.out.trans (hl.mono HL_y5.out.size)); have Ha_y6 := hide (Ha_y5.out.below hl Ha_y5.out.lt); have Hb_y6 := hide (Hb_y5.out.below hl Hb_y5.out.lt); clear hl)
    | ((with_reducible refine at_slot 3 ?_); refine wpList_alloc_blk rfl 24 rfl _ (psec_nought _) ?_; intro y7 hbq hl1 hs1; have hb1 : Blk y7 y6.heap.size 24 (B8 zeroL).toArray := hbq; clear hbq hs1)
    | ((with_reducible refine at_store 3 ?_); refine wpList_store_all rfl 24 (.tmp 3) (.tmp 13) rfl y6.heap.size 24 _ hb1 rfl (B8 p) rfl IP.out (by rw [List.size_toArray, B8_length, B8_length, F.out.lp, zeroL_length]) (B8_one _) ?_; intro y8 hbz hg hs; have hz := hb1.lt; have hl : Below y6.heap.size y6 y8 := hl1.grown hg (by omega) (fun g e => by injection e with e; omega); have Hp_y8 := hide hbz; have HL_y8 := hide (HL_y6.out.trans (hl.mono HL_y6.out.size)); have Ha_y8 := hide (Ha_y6.out.below hl Ha_y6.out.lt); have Hb_y8 := hide (Hb_y6.out.below hl Hb_y6.out.lt); clear hz hl hs hg hbz hb1 hl1)
    | ((with_reducible refine at_slot 15 ?_); refine when_load rfl 24 (.tmp 1) rfl w.heap.size 0 24 _ Ha_y8.out rfl (B8 a) _ (fun j v hj => by rw [Nat.zero_add]; simpa using hj) Try.underlying24 rfl IA.out ?_)
    | ((with_reducible refine at_slot 16 ?_); refine when_load rfl 24 (.tmp 2) rfl y2.heap.size 0 24 _ Hb_y8.out rfl (B8 b) _ (fun j v hj => by rw [Nat.zero_add]; simpa using hj) Try.underlying24 rfl IB.out ?_)
    | ((with_reducible refine at_slot 17 ?_); refine when_load rfl 24 (.tmp 3) rfl y6.heap.size 0 24 _ Hp_y8.out rfl (B8 p) _ (fun j v hj => by rw [Nat.zero_add]; simpa using hj) Try.underlying24 rfl IP.out ?_)
    | ((with_reducible refine at_slot 18 ?_); refine when_secs3 rfl (.tmp 15) (.tmp 16) (.tmp 17) rfl a b p F.out.la F.out.lb F.out.lp rfl rfl rfl ?_; have hb : Blk (y8.alloc (.cells (B8 (a ++ (b ++ p))).toArray 24)) y8.heap.size 24 (B8 (a ++ (b ++ p))).toArray := Blk.new _ _ _; have hl : Below y8.heap.size y8 (y8.alloc (.cells (B8 (a ++ (b ++ p))).toArray 24)) := (Below.refl _ _).alloc (Nat.le_refl _) _; generalize y8.alloc (.cells (B8 (a ++ (b ++ p))).toArray 24) = y9 at hb hl ⊢; have HR_y9 := hide hb; have HL_y9 := hide (HL_y8.out.trans (hl.mono HL_y8.out.size)); have Ha_y9 := hide (Ha_y8.out.below hl Ha_y8.out.lt); have Hb_y9 := hide (Hb_y8.out.below hl Hb_y8.out.lt); have Hp_y9 := hide (Hp_y8.out.below hl Hp_y8.out.lt); clear hb hl)
    | (go_at_call 9; (with_reducible refine (K.reb3 F.out.la F.out.lb F.out.lp HR_y9.out 1 (by decide) (by decide)).mono ?_); rintro _ y10 ⟨rfl, hl⟩; rw [F.out.re, show ((rebE 3 1 : Nat) : Int) = 0 from rfl]; have HL_y10 := hide (HL_y9.out.trans (hl.mono HL_y9.out.size)); have Ha_y10 := hide (Ha_y9.out.below hl Ha_y9.out.lt); have Hb_y10 := hide (Hb_y9.out.below hl Hb_y9.out.lt); have Hp_y10 := hide (Hp_y9.out.below hl Hp_y9.out.lt); clear hl)
    | ((with_reducible refine at_slot 4 ?_); refine wpList_alloc_blk rfl 24 rfl _ (psec_nought _) ?_; intro y11 hbq hl1 hs1; have hb1 : Blk y11 y10.heap.size 24 (B8 zeroL).toArray := hbq; clear hbq hs1)
    | ((with_reducible refine at_store 4 ?_); refine wpList_store_all rfl 24 (.tmp 4) (.tmp 20) rfl y10.heap.size 24 _ hb1 rfl (B8 b) rfl IB.out (by rw [List.size_toArray, B8_length, B8_length, F.out.lb, zeroL_length]) (B8_one _) ?_; intro y12 hbz hg hs; have hz := hb1.lt; have hl : Below y10.heap.size y10 y12 := hl1.grown hg (by omega) (fun g e => by injection e with e; omega); have Hx_y12 := hide hbz; have HL_y12 := hide (HL_y10.out.trans (hl.mono HL_y10.out.size)); have Ha_y12 := hide (Ha_y10.out.below hl Ha_y10.out.lt); have Hb_y12 := hide (Hb_y10.out.below hl Hb_y10.out.lt); have Hp_y12 := hide (Hp_y10.out.below hl Hp_y10.out.lt); clear hz hl hs hg hbz hb1 hl1)
    | (go_at_call 9; (with_reducible refine (K.reb0 _).mono ?_); rintro _ y13 ⟨rfl, hl⟩; have HL_y13 := hide (HL_y12.out.trans (hl.mono HL_y12.out.size)); have Ha_y13 := hide (Ha_y12.out.below hl Ha_y12.out.lt); have Hb_y13 := hide (Hb_y12.out.below hl Hb_y12.out.lt); have Hp_y13 := hide (Hp_y12.out.below hl Hp_y12.out.lt); have Hx_y13 := hide (Hx_y12.out.below hl Hx_y12.out.lt); clear hl)
    | ((with_reducible refine at_slot 6 ?_); refine wpList_alloc_blk rfl 24 rfl _ (psec_nought _) ?_; intro y14 hbq hl1 hs1; have hb1 : Blk y14 y13.heap.size 24 (B8 zeroL).toArray := hbq; clear hbq hs1)
    | ((with_reducible refine at_store 6 ?_); refine wpList_store_all rfl 24 (.tmp 6) (.tmp 24) rfl y13.heap.size 24 _ hb1 rfl (B8 zeroL) rfl IZ.out rfl (B8_one _) ?_; intro y15 hbz hg hs; have hz := hb1.lt; have hl : Below y13.heap.size y13 y15 := hl1.grown hg (by omega) (fun g e => by injection e with e; omega); have Hz_y15 := hide hbz; have HL_y15 := hide (HL_y13.out.trans (hl.mono HL_y13.out.size)); have Ha_y15 := hide (Ha_y13.out.below hl Ha_y13.out.lt); have Hb_y15 := hide (Hb_y13.out.below hl Hb_y13.out.lt); have Hp_y15 := hide (Hp_y13.out.below hl Hp_y13.out.lt); have Hx_y15 := hide (Hx_y13.out.below hl Hx_y13.out.lt); clear hz hl hs hg hbz hb1 hl1)
    | ((with_reducible refine at_slot 26 ?_); refine when_load rfl 24 (.tmp 3) rfl y6.heap.size 0 24 _ Hp_y15.out rfl (B8 p) _ (fun j v hj => by rw [Nat.zero_add]; simpa using hj) Try.underlying24 rfl IP.out ?_)
    | ((with_reducible refine at_slot 28 ?_); rw [F.out.ep]; refine when_eql rfl 24 5 _ (.tmp 26) (.tmp 27) rfl 64 ui Try.underlying24 Try.underlying5 UI.out (by kernel_rfl) (by kernel_rfl) p p F.out.lp F.out.lp rfl rfl true (by simp) ?_)
    | ((with_reducible refine at_slot 30 ?_); refine when_load rfl 24 (.tmp 4) rfl y10.heap.size 0 24 _ Hx_y15.out rfl (B8 b) _ (fun j v hj => by rw [Nat.zero_add]; simpa using hj) Try.underlying24 rfl IB.out ?_)
    | ((with_reducible refine at_slot 31 ?_); refine when_load rfl 24 (.tmp 2) rfl y2.heap.size 0 24 _ Hb_y15.out rfl (B8 b) _ (fun j v hj => by rw [Nat.zero_add]; simpa using hj) Try.underlying24 rfl IB.out ?_)
    | ((with_reducible refine at_slot 32 ?_); refine when_eql rfl 24 5 _ (.tmp 30) (.tmp 31) rfl 64 ui Try.underlying24 Try.underlying5 UI.out (by kernel_rfl) (by kernel_rfl) b b F.out.lb F.out.lb rfl rfl true (by simp) ?_)
    | ((with_reducible refine at_slot 43 ?_); refine when_load rfl 24 (.tmp 1) rfl w.heap.size 0 24 _ Ha_y15.out rfl (B8 a) _ (fun j v hj => by rw [Nat.zero_add]; simpa using hj) Try.underlying24 rfl IA.out ?_)
    | ((with_reducible refine at_slot 44 ?_); refine when_load rfl 24 (.tmp 3) rfl y6.heap.size 0 24 _ Hp_y15.out rfl (B8 p) _ (fun j v hj => by rw [Nat.zero_add]; simpa using hj) Try.underlying24 rfl IP.out ?_)
    | (go_at_call 15; rw [F.out.ec]; (with_reducible refine (K.plug_any _ a p c F.out.la F.out.lp F.out.lc).mono ?_); rintro _ y16 ⟨rfl, hl⟩; rw [F.out.pl]; have HL_y16 := hide (HL_y15.out.trans (hl.mono HL_y15.out.size)); have Ha_y16 := hide (Ha_y15.out.below hl Ha_y15.out.lt); have Hb_y16 := hide (Hb_y15.out.below hl Hb_y15.out.lt); have Hp_y16 := hide (Hp_y15.out.below hl Hp_y15.out.lt); have Hx_y16 := hide (Hx_y15.out.below hl Hx_y15.out.lt); have Hz_y16 := hide (Hz_y15.out.below hl Hz_y15.out.lt); clear hl)
    | ((with_reducible refine at_slot 48 ?_); rw [F.out.ed]; refine when_eql rfl 24 5 _ (.tmp 46) (.tmp 47) rfl 64 ui Try.underlying24 Try.underlying5 UI.out (by kernel_rfl) (by kernel_rfl) d d F.out.ld F.out.ld rfl rfl true (by simp) ?_)
    | ((with_reducible refine at_slot 51 ?_); refine when_load rfl 24 (.tmp 1) rfl w.heap.size 0 24 _ Ha_y16.out rfl (B8 a) _ (fun j v hj => by rw [Nat.zero_add]; simpa using hj) Try.underlying24 rfl IA.out ?_)
    | ((with_reducible refine at_slot 52 ?_); refine when_load rfl 24 (.tmp 2) rfl y2.heap.size 0 24 _ Hb_y16.out rfl (B8 b) _ (fun j v hj => by rw [Nat.zero_add]; simpa using hj) Try.underlying24 rfl IB.out ?_)
    | ((with_reducible refine at_slot 53 ?_); refine when_load rfl 24 (.tmp 3) rfl y6.heap.size 0 24 _ Hp_y16.out rfl (B8 p) _ (fun j v hj => by rw [Nat.zero_add]; simpa using hj) Try.underlying24 rfl IP.out ?_)
    | ((with_reducible refine at_slot 54 ?_); refine when_secs3 rfl (.tmp 51) (.tmp 52) (.tmp 53) rfl a b p F.out.la F.out.lb F.out.lp rfl rfl rfl ?_; have hb : Blk (y16.alloc (.cells (B8 (a ++ (b ++ p))).toArray 24)) y16.heap.size 24 (B8 (a ++ (b ++ p))).toArray := Blk.new _ _ _; have hl : Below y16.heap.size y16 (y16.alloc (.cells (B8 (a ++ (b ++ p))).toArray 24)) := (Below.refl _ _).alloc (Nat.le_refl _) _; generalize y16.alloc (.cells (B8 (a ++ (b ++ p))).toArray 24) = y17 at hb hl ⊢; have HR_y17 := hide hb; have HL_y17 := hide (HL_y16.out.trans (hl.mono HL_y16.out.size)); have Ha_y17 := hide (Ha_y16.out.below hl Ha_y16.out.lt); have Hb_y17 := hide (Hb_y16.out.below hl Hb_y16.out.lt); have Hp_y17 := hide (Hp_y16.out.below hl Hp_y16.out.lt); have Hx_y17 := hide (Hx_y16.out.below hl Hx_y16.out.lt); have Hz_y17 := hide (Hz_y16.out.below hl Hz_y16.out.lt); clear hb hl)
    | (go_at_call 17; (with_reducible refine (K.check3 F.out.la F.out.lb F.out.lp HR_y17.out).mono ?_); rintro _ y18 ⟨rfl, hl⟩; rw [decide_eq_true F.out.al]; have HL_y18 := hide (HL_y17.out.trans (hl.mono HL_y17.out.size)); have Ha_y18 := hide (Ha_y17.out.below hl Ha_y17.out.lt); have Hb_y18 := hide (Hb_y17.out.below hl Hb_y17.out.lt); have Hp_y18 := hide (Hp_y17.out.below hl Hp_y17.out.lt); have Hx_y18 := hide (Hx_y17.out.below hl Hx_y17.out.lt); have Hz_y18 := hide (Hz_y17.out.below hl Hz_y17.out.lt); clear hl)
    | ((with_reducible refine at_slot 58 ?_); refine when_load rfl 24 (.tmp 1) rfl w.heap.size 0 24 _ Ha_y18.out rfl (B8 a) _ (fun j v hj => by rw [Nat.zero_add]; simpa using hj) Try.underlying24 rfl IA.out ?_)
    | ((with_reducible refine at_slot 59 ?_); refine when_secs1 rfl (.tmp 58) rfl a F.out.la rfl ?_; have hb : Blk (y18.alloc (.cells (B8 a).toArray 24)) y18.heap.size 24 (B8 a).toArray := Blk.new _ _ _; have hl : Below y18.heap.size y18 (y18.alloc (.cells (B8 a).toArray 24)) := (Below.refl _ _).alloc (Nat.le_refl _) _; generalize y18.alloc (.cells (B8 a).toArray 24) = y19 at hb hl ⊢; have HR_y19 := hide hb; have HL_y19 := hide (HL_y18.out.trans (hl.mono HL_y18.out.size)); have Ha_y19 := hide (Ha_y18.out.below hl Ha_y18.out.lt); have Hb_y19 := hide (Hb_y18.out.below hl Hb_y18.out.lt); have Hp_y19 := hide (Hp_y18.out.below hl Hp_y18.out.lt); have Hx_y19 := hide (Hx_y18.out.below hl Hx_y18.out.lt); have Hz_y19 := hide (Hz_y18.out.below hl Hz_y18.out.lt); clear hb hl)
    | (go_at_call 17; (with_reducible refine (K.check1 F.out.la HR_y19.out).mono ?_); rintro _ y20 ⟨rfl, hl⟩; rw [decide_eq_false F.out.on]; have HL_y20 := hide (HL_y19.out.trans (hl.mono HL_y19.out.size)); have Ha_y20 := hide (Ha_y19.out.below hl Ha_y19.out.lt); have Hb_y20 := hide (Hb_y19.out.below hl Hb_y19.out.lt); have Hp_y20 := hide (Hp_y19.out.below hl Hp_y19.out.lt); have Hx_y20 := hide (Hx_y19.out.below hl Hx_y19.out.lt); have Hz_y20 := hide (Hz_y19.out.below hl Hz_y19.out.lt); clear hl)
    | (go_at_call 17; (with_reducible refine (K.check0 _).mono ?_); rintro _ y21 ⟨rfl, hl⟩; have HL_y21 := hide (HL_y20.out.trans (hl.mono HL_y20.out.size)); have Ha_y21 := hide (Ha_y20.out.below hl Ha_y20.out.lt); have Hb_y21 := hide (Hb_y20.out.below hl Hb_y20.out.lt); have Hp_y21 := hide (Hp_y20.out.below hl Hp_y20.out.lt); have Hx_y21 := hide (Hx_y20.out.below hl Hx_y20.out.lt); have Hz_y21 := hide (Hz_y20.out.below hl Hz_y20.out.lt); clear hl))
  go_ret
  exact ⟨rfl, HL_y21.out⟩
#print axioms shown11_any
end Go.Proofs.Ytdebdkagmnccjaa
