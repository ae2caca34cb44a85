/- Rows of numbers: whether a number stands in one that rises; sorting one; the disks of a group, rising. -/
import Derived.Test.YtmaiikmgpeafkaaGrp
import Derived.Test.YtmaiikmgpeafkaaShelfG
import Derived.Test.YtmaiikmgpeafkaaAgg
import Derived.Test.YtmaiikmgpeafkaaPoke
namespace Go.Proofs.Ytmaiikmgpeafkaa
open Go.RowKit Go.Sort Go.Shelf

def rise (l : List Int) : List Int := l.mergeSort (fun x y => decide (x ≤ y))
theorem rise_perm (l : List Int) : (rise l).Perm l := List.mergeSort_perm _ _
theorem rise_length (l : List Int) : (rise l).length = l.length := (rise_perm l).length_eq
theorem rise_contains (l : List Int) (x : Int) : (rise l).contains x = l.contains x := by
  rw [Bool.eq_iff_iff]
  simp only [List.contains_iff_mem]
  exact (rise_perm l).mem_iff
theorem rise_sorted (l : List Int) : (rise l).Pairwise (· ≤ ·) := by
  have h := List.pairwise_mergeSort (le := fun x y : Int => decide (x ≤ y)) (fun a b c => by simp; omega) (fun a b => by simp; omega) l
  exact h.imp (by simp)
/-- A row of the call's own, where its block has not turned. -/
theorem own_same {w w' : World} {base : Nat} {e : TypeId} {size n : Nat} {v : Value} {xs : List Value} (h : w.ownsRow base e size v n xs) (hb : ∀ g, v.ownBlock = some g → w'.heap[g]? = w.heap[g]?) : w'.ownsRow base e size v n xs := by
  refine ⟨h.1, ?_⟩
  rcases h.2 with h2 | ⟨g, cap, cur, hv, h1, h2, h3⟩
  · exact .inl h2
  · exact .inr ⟨g, cap, cur, hv, h1, (hb g (by rw [hv]; rfl)).trans h2, h3⟩
theorem own_mono {w : World} {B B' : Nat} {e : TypeId} {size n : Nat} {v : Value} {xs : List Value} (h : w.ownsRow B e size v n xs) (hB : B' ≤ B) : w.ownsRow B' e size v n xs := by
  refine ⟨h.1, ?_⟩
  rcases h.2 with h2 | ⟨g, cap, cur, hv, h1, h2⟩
  · exact .inl h2
  · exact .inr ⟨g, cap, cur, hv, Nat.le_trans hB h1, h2⟩
/-- Value v is a row of these numbers, in a block below B. -/
def Rw (w : World) (B : Nat) (v : Value) (l : List Int) : Prop := w.ownsRow 0 3 1 v l.length (I64 l) ∧ ∀ g, v.ownBlock = some g → g < B
theorem Rw.below {w w' : World} {B : Nat} {v : Value} {l : List Int} (h : Rw w B v l) (hb : Below B w w') : Rw w' B v l := ⟨own_same h.1 fun g hg => hb.block g (h.2 g hg), h.2⟩
theorem Rw.more {w : World} {B B' : Nat} {v : Value} {l : List Int} (h : Rw w B v l) (hB : B ≤ B') : Rw w B' v l := ⟨h.1, fun g hg => Nat.lt_of_lt_of_le (h.2 g hg) hB⟩
theorem Rw.of_own {w : World} {base : Nat} {v : Value} {l : List Int} (h : w.ownsRow base 3 1 v l.length (I64 l)) : Rw w w.heap.size v l := ⟨own_mono h (Nat.zero_le _), fun g hg => (h.lt g hg).2⟩
theorem Rw.drewN {w : World} {B : Nat} {v : Value} {l : List Int} (h : Rw w B v l) (q : Nat) : Rw (w.drewN q) B v l := ⟨own_same h.1 fun _ _ => rfl, h.2⟩
theorem Rw.reads {w : World} {B : Nat} {v : Value} {l : List Int} (h : Rw w B v l) : ∃ A c, v = .slice A l.length c ∧ l.length ≤ c ∧ c ≤ maxLen ∧ Reads w B 1 A l.length (I64 l) := by
  obtain ⟨A, c, rfl, h1, h2⟩ := own_shape h.1
  refine ⟨A, c, rfl, h1, h2, h.1.1, fun hn => ?_⟩
  obtain ⟨g, cap, hv, _, hlt⟩ := h.1.form hn
  have hA : A = some ⟨g, 0, none⟩ := by injection hv
  subst hA
  exact ⟨_, rfl, h.2 g rfl, h.1.cells (g := g) rfl⟩

/-! ### among -/
set_option maxHeartbeats 1000000 in
theorem among_any (v : Value) (l : List Int) (hs : l.Pairwise (· ≤ ·)) (base : Nat) (w : World) (hown : w.ownsRow base 3 1 v l.length (I64 l)) (x : Int) (hbig : l.length < 4611686018427387904) :
    Calls Try.prog 39 #[v, .int .i64 x] w fun e w' => e = .returned (.bool (l.contains x)) ∧ ∃ q, w' = w.drewN q := by
  obtain ⟨A, c, rfl, hnc, hcm⟩ := own_shape hown
  have hB : Calls Try.prog 51 #[.slice A l.length c, .int .i64 x] w fun e w' => (∃ k : Int, e = .returned (.tuple #[.int .i64 k, .bool (l.contains x)])) ∧ ∃ q, w' = w.drewN q := by
    by_cases h0 : l.length = 0
    · have hl : l = [] := List.eq_nil_of_length_eq_zero h0
      subst hl
      refine (Any.slices_BinarySearch_int_empty lay_bs A c x w).mono ?_
      rintro e w' ⟨he, rfl⟩
      exact ⟨⟨0, he⟩, 0, rfl⟩
    · obtain ⟨g, cap, hv, _, _⟩ := hown.form (by omega)
      have hA : A = some ⟨g, 0, none⟩ := by injection hv
      subst hA
      have hc : ∀ j, j < l.length → w.cell? ⟨g, 0 + j, none⟩ = some (.int .i64 (l.getD j 0)) := by
        intro j hj
        have h1 := hown.cells (g := g) rfl j (.int .i64 (l.getD j 0)) (by rw [I64_at l hj]; simp [List.getD, hj])
        have hadd : (⟨g, 0, none⟩ : Addr).add j = ⟨g, 0 + j, none⟩ := by unfold Addr.add; split <;> simp_all
        rwa [hadd] at h1
      refine (Any.slices_BinarySearch_int lay_bs g 0 l.length c l x w (Nat.le_refl _) hbig hc (by rw [List.take_length]; exact hs)).mono ?_
      rintro e w' ⟨he, hq⟩
      rw [List.take_length] at he
      exact ⟨⟨_, he⟩, hq⟩
  have HB := hide hB
  clear hB hown
  obtain ⟨r, hr⟩ : ∃ r, r = l.contains x := ⟨_, rfl⟩
  rw [← hr] at HB ⊢
  clear hr
  go_enter Try.func39, Try.ntmps39
  go_wp2_with (go_at_call 51; refine HB.out.mono ?_; rintro _ w' ⟨⟨k, rfl⟩, q, rfl⟩)
  go_ret
  exact ⟨rfl, q, rfl⟩

/-! ### Sorting a row -/
theorem sort_row (base : Nat) (v : Value) (l : List Int) (w : World) (hown : w.ownsRow base 3 1 v l.length (I64 l)) (hbig : l.length < 4611686018427387904) :
    Calls Try.prog 48 #[v] w fun e w' => e = .returned (.tuple #[]) ∧ w'.ownsRow base 3 1 v l.length (I64 (rise l)) ∧ w.grownBy w' v.ownBlock := by
  rcases hown.2 with ⟨rfl, h0⟩ | ⟨g, cap, cur, rfl, hbase, hb, h1, h2, h3, h4⟩
  · have hl : l = [] := List.eq_nil_of_length_eq_zero h0
    subst hl
    refine (AnyM.slices_Sort_int_none lay_sort none 0 w).mono ?_
    rintro e w' ⟨he, rfl⟩
    exact ⟨he, by simpa [rise, I64] using hown, World.grownBy.refl _ _⟩
  · have hgl : g < w.heap.size := (Array.getElem?_eq_some_iff.1 hb).1
    have hH : Holds (Value.int .i64) w g 0 l.toArray := holds_of_block_i hb (by rw [Nat.mul_one] at h4; exact h4)
    refine (AnyM.slices_Sort_int lay_sort g 0 cap l w hH hgl hbig).mono ?_
    rintro e w' ⟨he, nn, os, rfl⟩
    exact ⟨he, ownsRow_sorted_i (by rw [List.length_mergeSort]) hbase hb h1 h2 h3, grownBy_sorted_i _⟩

/-! ### make([]int, n) -/
theorem at_make {P : Program} {ops : Array Oper} {Q : Exit → Act → World → Prop} {rest : List Oper} {d : Option Tmp} {t ty : TypeId} {x y : Operand} {pos : String} {aft : Array Edge} {g : Option (Nat × Bool)} {a : Act} {w : World} (h : wpList P ops Q (⟨d, .makeSlice t x y, ty, pos, aft, g⟩ :: rest) a w) : wpList P ops Q (⟨d, .makeSlice t x y, ty, pos, aft, g⟩ :: rest) a w := h
theorem wpList_make_ints {ops : Array Oper} {rest : List Oper} {o : Oper} {a : Act} {w : World} {Q : Exit → Act → World → Prop} (hgd : o.guard = none) (l c : Operand) (ho : o.op = .makeSlice 22 l c) (n : Nat) (hl : a.eval l = .int .i64 (n : Int)) (hc : a.eval c = .int .i64 (n : Int)) (hn : n ≤ 1000000)
    (hK : ∀ w', Blk w' w.heap.size 3 (I64 (List.replicate n 0)).toArray → Below w.heap.size w w' → w'.heap.size = w.heap.size + 1 → wpList Try.prog ops Q rest (a.put o.dst (.slice (some ⟨w.heap.size, 0, none⟩) n n)) w') : wpList Try.prog ops Q (o :: rest) a w :=
  wpList_plain hgd fun _ hK' => by
    obtain ⟨i, hi, hz, hs, hb⟩ := info_parts int_parts
    have hrun := run_make_list (P := Try.prog) w 22 3 i _ Try.underlying22 hi hz hs rfl n (I64 (List.replicate n 0)) (by rw [I64, List.map_replicate]) (by rw [hb]; omega) (by omega)
    unfold Oper.wp
    simp [execOp, ho, hl, hc, hrun, Result.andThen]
    exact hK' _ _ (hK _ (Blk.new _ _ _) ((Below.refl _ _).alloc (Nat.le_refl _) _) (World.size_alloc _ _))
/-- A block of numbers, known whole, as a row. -/
theorem own_of_blk {w : World} {g base n : Nat} {l : List Int} (h : Blk w g 3 (I64 l).toArray) (hb : base ≤ g) (hl : l.length = n) (hm : n ≤ maxLen) : w.ownsRow base 3 1 (.slice (some ⟨g, 0, none⟩) n n) n (I64 l) := by
  refine ⟨by rw [I64_length, hl, Nat.mul_one], .inr ⟨g, n, _, rfl, hb, h, Nat.le_refl _, hm, ?_, ?_⟩⟩
  · simp [I64, hl]
  · rw [Nat.mul_one]; exact List.take_of_length_le (by simp [I64, hl])

/-- '[]int{a, b}'. -/
theorem run_build_two (a b : Value) (ha : a.oneCell' = true) (hb : b.oneCell' = true) (w : World) : (Instr.buildSlice 22 2 #[(0, a), (1, b)]).run Try.prog w = .ok (.slice (some ⟨w.heap.size, 0, none⟩) 2 2) (w.alloc (.cells #[a, b] 3)) := by
  obtain ⟨i, hi, _, hs, _⟩ := info_parts int_parts
  have ca := cells_one ha
  have cb := cells_one hb
  have hA : ∀ f : Nat → Value, ((Array.map f (Array.range 2)).setIfInBounds 0 a).setIfInBounds 1 b = #[a, b] := by
    intro f
    apply Array.ext'
    simp [Array.toList_setIfInBounds, List.range_succ]
  simp [Instr.buildSlice, run_underlying Try.underlying22, sizeOf, typeInfo, hi, hs, Instr.fill, ca, cb, hA]
  rfl
theorem wpList_build_two {ops : Array Oper} {rest : List Oper} {o : Oper} {a : Act} {w : World} {Q : Exit → Act → World → Prop} (hgd : o.guard = none) (x y : Operand) (ho : o.op = .buildSlice 22 2 #[(0, x), (1, y)]) (u v : Value) (hx : a.eval x = u) (hy : a.eval y = v) (hu : u.oneCell' = true) (hv : v.oneCell' = true)
    (hK : wpList Try.prog ops Q rest (a.put o.dst (.slice (some ⟨w.heap.size, 0, none⟩) 2 2)) (w.alloc (.cells #[u, v] 3))) : wpList Try.prog ops Q (o :: rest) a w :=
  wpList_plain hgd fun _ hK' => by
    have hrun := run_build_two u v hu hv w
    unfold Oper.wp
    simp [execOp, ho, hx, hy, hrun, Result.andThen]
    exact hK' _ _ hK
/-! ### disksOf -/
/-- The row while it is filled. -/
def part (l : List Int) (k : Nat) : List Int := l.take k ++ List.replicate (l.length - k) 0
theorem part_length (l : List Int) {k : Nat} (hk : k ≤ l.length) : (part l k).length = l.length := by simp [part]; omega
theorem part_zero (l : List Int) : part l 0 = List.replicate l.length 0 := by simp [part]
theorem part_all (l : List Int) : part l l.length = l := by simp [part]
theorem part_set {l : List Int} {k : Nat} {x : Int} (h : l[k]? = some x) : (part l k).set k x = part l (k + 1) := by
  obtain ⟨hk, he⟩ := List.getElem?_eq_some_iff.1 h
  have h1 : (l.take k).length = k := by simp; omega
  have h2 : l.length - k = (l.length - (k + 1)) + 1 := by omega
  rw [part, part, List.set_append_right _ _ (by omega), h1, Nat.sub_self, h2, List.replicate_succ, List.set_cons_zero, List.take_add_one, h]
  simp
theorem part_poke {l : List Int} {k : Nat} {x : Int} (h : l[k]? = some x) : (I64 (part l k)).toArray.setIfInBounds k (.int .i64 x) = (I64 (part l (k + 1))).toArray := by
  rw [← part_set h]
  apply Array.ext'
  simp [I64]
theorem dks_at {l : List Ex} {k : Nat} {x : Ex} (h : l[k]? = some x) : (dks l)[k]? = some x.1 := by simp [dks, h]
theorem dks_length (l : List Ex) : (dks l).length = l.length := by simp [dks]
set_option maxRecDepth 100000 in
set_option maxHeartbeats 1000000 in
theorem disksOf_any (g : GrV) (B0 : Nat) (w : World) (hg : GrIn w B0 g) (hB0 : B0 ≤ w.heap.size) (hfew : g.n ≤ 1000000) :
    Calls Try.prog 36 #[.agg (grC g).toArray] w fun e w' => ∃ v, e = .returned v ∧ w'.ownsRow w.heap.size 3 1 v g.n (I64 (rise (dks g.ex))) ∧ Below w.heap.size w w' := by
  have HL := hide (ExIn.len hg)
  have HC := hide hg.2
  go_enter Try.func36, Try.ntmps36
  go_wp2_with (first
    | (refine wpList_box_blk rfl 36 (.tmp 0) rfl (.agg (grC g).toArray) rfl ?_; intro w1 hb1q hl1 hs1; have hw1 : w.heap.size < w1.heap.size := (by omega); clear hs1; have hb1 : Blk w1 w.heap.size 36 (grC g).toArray := hb1q; clear hb1q; have x2 : w1.cell? ⟨w.heap.size, 2, none⟩ = some (.slice g.A g.n g.c) := hb1.cell 2)
    | (refine wpList_make_ints rfl (.tmp 8) (.tmp 8) rfl g.n rfl rfl hfew ?_; intro w2 hb2 hl2 hs2; clear hs2; have y2 : w2.cell? ⟨w.heap.size, 2, none⟩ = some (.slice g.A g.n g.c) := (hl2.cell (p := ⟨w.heap.size, 2, none⟩) hw1).trans x2))
  have HB2 : Hid (Blk w2 w1.heap.size 3 (I64 (part (dks g.ex) 0)).toArray) := hide (by rw [part_zero, dks_length, HL.out]; exact hb2)
  have hl12 : Below w.heap.size w w2 := hl1.trans (hl2.mono (by omega))
  have hlt := hb2.lt
  clear hb2 x2 y2 hb1 hl1 hl2
  go_loopw [13] (fun i wr => ∃ k : Nat, k ≤ g.n ∧ i = .int .i64 k ∧ Hid (Blk wr w1.heap.size 3 (I64 (part (dks g.ex) k)).toArray) ∧ Below w.heap.size w wr) (fun i _ => g.n - (intOf i).toNat)
  case atStart => exact ⟨0, Nat.zero_le _, rfl, HB2, hl12⟩
  case round =>
    obtain ⟨k, hk, rfl, HB, hbel⟩ := hrel
    by_cases hkn : k < g.n
    · obtain ⟨ad, x, hA, hab, hx, hcs⟩ := ExIn.at_ (hg.below (hbel.mono hB0)) hkn
      have HS := hide hcs
      have hx0 := dks_at hx
      have HP := hide (part_poke hx0)
      have hsz := hbel.size
      have hbl := HB.out.lt
      have hoff : k < (I64 (part (dks g.ex) k)).toArray.size := by simp [I64, part_length (dks g.ex) (k := k) (by rw [dks_length, HL.out]; omega), dks_length, HL.out]; omega
      have HO := hide hoff
      have hAA : g.A = some ad := hA
      clear hcs hx hx0 hoff hA
      rw [hAA]
      go_wp2_with (first
        | (refine wpList_load_at rfl 38 (.tmp 16) rfl (ad.add (k * 2)) rfl (exC x) _ HS.out Try.underlying38 rfl ext_info ?_)
        | (refine wpList_alloc_blk rfl 38 rfl _ (ext_zero _) ?_; intro w3 hb3 hl3 hs3; clear hs3)
        | (refine wpList_store_all rfl 38 (.tmp 5) (.tmp 17) rfl wr.heap.size 38 _ hb3 rfl (exC x) rfl ext_info rfl (exC_one _) ?_; intro w4 hb4 hg4 hs4; clear hs4; have x0 : w4.cell? ⟨wr.heap.size, 0, none⟩ = some (.int .i64 x.1) := hb4.cell 0; have hl4 : Below wr.heap.size wr w4 := hl3.grown hg4 hl3.size (fun g e => by injection e with e; omega); have hB4 := HB.out.below hl4 hbl)
        | (refine wpList_poke rfl 3 (.tmp 22) (.tmp 21) rfl w1.heap.size k 3 _ hB4 rfl (.int .i64 x.1) rfl rfl (by kernel_rfl) HO.out ?_; intro w5 hb5 hg5 hs5; clear hs5; rw [HP.out] at hb5))
      have hl5 := (hbel.trans (hl4.mono hsz)).grown hg5 (by have := hl4.size; omega) (fun g e => by injection e with e; omega)
      go_roundw
      case rel => exact ⟨k + 1, by omega, by go_num, hide hb5, hl5⟩
      case measure => simp [intOf]; omega
    · obtain rfl : k = g.n := by omega
      have hrow : wr.ownsRow w.heap.size 3 1 (.slice (some ⟨w1.heap.size, 0, none⟩) g.n g.n) (dks g.ex).length (I64 (dks g.ex)) := by
        have h := HB.out
        rw [← HL.out, ← dks_length, part_all] at h
        rw [dks_length, HL.out]
        exact own_of_blk h (by omega) (by rw [dks_length, HL.out]) (by simp only [maxLen]; omega)
      have hsort := sort_row w.heap.size _ (dks g.ex) wr hrow (by rw [dks_length, HL.out]; omega)
      have HSO := hide hsort
      clear hsort hrow
      go_wp2_with (go_at_call 48; refine HSO.out.mono ?_; rintro _ w6 ⟨rfl, hrow6, hg6⟩)
      have hl6 := hbel.grown hg6 hbel.size (fun g e => by simp [Value.ownBlock] at e; omega)
      rw [dks_length, HL.out] at hrow6
      go_ret
      exact ⟨_, rfl, hrow6, hl6⟩
#print axioms disksOf_any
end Go.Proofs.Ytmaiikmgpeafkaa
