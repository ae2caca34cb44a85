/- A law's table at work: it lies in four blocks of its own, above all that there was when the law began. -/
import Derived.Test.YtgoglgghnjgcdaaUsgH
namespace Go.Proofs.Ytgoglgghnjgcdaa
open Go.RowKit Go.Maps

/-- World w0: the law's begin. Table t lies in the blocks from lo to below lo + 4; it has no more than m groups, and no more than m live slots. -/
structure Tbl (w0 w : World) (t lo m : Nat) (S : Us) : Prop where
  above : w0.heap.size ≤ lo
  room : lo + 4 ≤ w.heap.size
  low : Below w0.heap.size w0 w
  ok : S.Ok
  gs : S.G.length ≤ m
  ls : S.L.length ≤ m
  few : m < 999999
  tab : ∃ x y z, UsIn w t x y z S ∧ ∀ i, UFoot t x y z i → lo ≤ i ∧ i < lo + 4
section
variable {w0 w w' : World} {t lo m : Nat} {S : Us}
theorem Tbl.toFew (h : Tbl w0 w t lo m S) : Few S := ⟨h.ok, by have := h.gs; have := h.few; omega, by have := h.ls; have := h.few; omega⟩
theorem Tbl.size (h : Tbl w0 w t lo m S) : w0.heap.size ≤ w.heap.size := h.low.size
theorem Tbl.wider (h : Tbl w0 w t lo m S) {m' : Nat} (hm : m ≤ m') (hf : m' < 999999) : Tbl w0 w t lo m' S := ⟨h.above, h.room, h.low, h.ok, Nat.le_trans h.gs hm, Nat.le_trans h.ls hm, hf, h.tab⟩
theorem Tbl.later (h : Tbl w0 w t lo m S) (hb : Below w.heap.size w w') : Tbl w0 w' t lo m S := by
  obtain ⟨x, y, z, h1, h2⟩ := h.tab
  exact ⟨h.above, Nat.le_trans h.room hb.size, h.low.trans (hb.mono h.low.size), h.ok, h.gs, h.ls, h.few, x, y, z, UsM.later h1 hb, h2⟩
/-- Blocks that are none of the table's, above the law's begin, have turned. -/
theorem Tbl.aside (h : Tbl w0 w t lo m S) {G : Nat → Prop} (hu : Turn G w w') (hG : ∀ i, G i → w0.heap.size ≤ i ∧ (i < lo ∨ lo + 4 ≤ i)) : Tbl w0 w' t lo m S := by
  obtain ⟨x, y, z, h1, h2⟩ := h.tab
  refine ⟨h.above, Nat.le_trans h.room hu.size, ⟨hu.os.trans h.low.os, hu.tape.trans h.low.tape, hu.output.trans h.low.output, Nat.le_trans h.low.size hu.size, fun i hi => ?_⟩, h.ok, h.gs, h.ls, h.few, x, y, z, UsM.kept h1 fun i hi => hu.block i (UsM.foot_lt h1 i hi) fun hg => ?_, h2⟩
  · exact (hu.block i (Nat.lt_of_lt_of_le hi h.low.size) (fun hg => by have := (hG i hg).1; omega)).trans (h.low.block i hi)
  · have := h2 i hi
    have := (hG i hg).2
    omega
theorem Tbl.grown (h : Tbl w0 w t lo m S) {row : Option Nat} (hg : w.grownBy w' row) (hr : ∀ g, row = some g → w0.heap.size ≤ g ∧ (g < lo ∨ lo + 4 ≤ g)) : Tbl w0 w' t lo m S :=
  h.aside (G := fun i => row = some i) (Turn.of_grown hg (fun _ e => e)) fun i e => hr i e
theorem Tbl.drew (h : Tbl w0 w t lo m S) : Tbl w0 w.drew t lo m S := h.later ((Below.refl _ w).drew)
theorem Tbl.drewN (h : Tbl w0 w t lo m S) (n : Nat) : Tbl w0 (w.drewN n) t lo m S := h.later ⟨rfl, rfl, rfl, Nat.le_refl _, fun _ _ => rfl⟩
theorem Tbl.alloc (h : Tbl w0 w t lo m S) (o : Obj) : Tbl w0 (w.alloc o) t lo m S := h.later ((Below.refl _ w).alloc (Nat.le_refl _) o)
theorem Tbl.set (h : Tbl w0 w t lo m S) (p : Addr) (hp : w0.heap.size ≤ p.block ∧ (p.block < lo ∨ lo + 4 ≤ p.block)) (u : Value) : Tbl w0 (w.setCell p u) t lo m S :=
  h.grown (grown_set (grown_refl w (some p.block)) p rfl u) (fun g e => by injection e with e; subst e; exact hp)
theorem Tbl.turned (h : Tbl w0 w t lo m S) {m' : Nat} {S' : Us} {x y z : Nat} (h2 : ∀ i, UFoot t x y z i → lo ≤ i ∧ i < lo + 4) (hs : UsIn w' t x y z S') (ht : Turn (UFoot t x y z) w w') (hok : S'.Ok) (hg : S'.G.length ≤ m') (hl : S'.L.length ≤ m') (hf : m' < 999999) : Tbl w0 w' t lo m' S' ∧ Upto lo (lo + 4) w w' := by
  have hu := ht.upto h2
  refine ⟨⟨h.above, Nat.le_trans h.room hu.size, ⟨hu.os.trans h.low.os, hu.tape.trans h.low.tape, hu.output.trans h.low.output, Nat.le_trans h.low.size hu.size, fun i hi => ?_⟩, hok, hg, hl, hf, x, y, z, hs, h2⟩, hu⟩
  have := h.above
  exact (hu.block i (Nat.lt_of_lt_of_le hi h.low.size) (.inl (by omega))).trans (h.low.block i hi)

/-! ### What turns it -/
theorem Us.open_len (S : Us) (g n : Int) : (S.open' g n).G.length ≤ S.G.length + 1 ∧ (S.open' g n).L.length = S.L.length := by
  unfold Us.open'
  split
  · rw [Us.opened_len]; exact ⟨Nat.le_refl _, rfl⟩
  · exact ⟨Nat.le_succ _, rfl⟩
theorem Us.put_len' (S : Us) (g s b : Int) : (S.put' g s b).G = S.G ∧ (S.put' g s b).L.length ≤ S.L.length + 1 := by
  unfold Us.put'
  split
  · exact ⟨rfl, S.put_len g s b⟩
  · exact ⟨rfl, Nat.le_succ _⟩
theorem Us.Ok.open' (h : S.Ok) (g n : Int) (hg : okI64 g) : (S.open' g n).Ok := by
  unfold Us.open'
  split
  · rename_i h0
    exact h.opened h0 (by unfold okI64 at hg; omega)
  · exact h
theorem Us.Ok.put' (h : S.Ok) (g s b : Int) (hb : okI64 b) : (S.put' g s b).Ok := by
  unfold Us.put'
  split
  · rename_i h0
    exact h.put h0 (by unfold okI64 at hb; omega)
  · exact h
theorem Us.Ok.clear' (h : S.Ok) (g s : Int) : (S.clear' g s).Ok := by
  unfold Us.clear'
  split
  · exact h.killed g s
  · exact h
theorem Us.Ok.drop' (h : S.Ok) (g : Int) : (S.drop' g).Ok := by
  unfold Us.drop'
  split
  · exact h.dropped g
  · exact h
theorem Us.clear_len (S : Us) (g s : Int) : (S.clear' g s).G = S.G ∧ (S.clear' g s).L.length ≤ S.L.length := by
  unfold Us.clear'
  split
  · exact ⟨rfl, S.killed_len g s⟩
  · exact ⟨rfl, Nat.le_refl _⟩
theorem Us.drop_len (S : Us) (g : Int) : (S.drop' g).G.length ≤ S.G.length ∧ (S.drop' g).L.length ≤ S.L.length := by
  unfold Us.drop'
  split
  · exact ⟨(S.dropped_len g).2, (S.dropped_len g).1⟩
  · exact ⟨Nat.le_refl _, Nat.le_refl _⟩
theorem Tbl.open_ (h : Tbl w0 w t lo m S) (g n : Int) (hg : okI64 g) (hm : m < 999998) :
    Calls Try.prog 16 #[.pointer (some ⟨t, 0, none⟩), .int .i64 g, .int .i64 n] w fun e w' => e = .returned (.int .i64 (S.openE g n)) ∧ Tbl w0 w' t lo (m + 1) (S.open' g n) ∧ Upto lo (lo + 4) w w' := by
  obtain ⟨x, y, z, h1, h2⟩ := h.tab
  have k := S.open_len g n
  have h3 := h.gs
  have h4 := h.ls
  exact (open_any h1 h.toFew g n hg).mono fun e w' ⟨q1, q2, q3⟩ => ⟨q1, h.turned h2 q2 q3 (h.ok.open' g n hg) (by omega) (by omega) (by omega)⟩
theorem Tbl.put_ (h : Tbl w0 w t lo m S) (g s b : Int) (hg : okI64 g) (hs : okI64 s) (hb : okI64 b) (hm : m < 999998) :
    Calls Try.prog 18 #[.pointer (some ⟨t, 0, none⟩), .int .i64 g, .int .i64 s, .int .i64 b] w fun e w' => e = .returned (.int .i64 (S.putE g s b)) ∧ Tbl w0 w' t lo (m + 1) (S.put' g s b) ∧ Upto lo (lo + 4) w w' := by
  obtain ⟨x, y, z, h1, h2⟩ := h.tab
  have k := S.put_len' g s b
  have h3 := h.gs
  have h4 := h.ls
  exact (put_any h1 h.toFew g s b hg hs hb).mono fun e w' ⟨q1, q2, q3⟩ => ⟨q1, h.turned h2 q2 q3 (h.ok.put' g s b hb) (by rw [k.1]; omega) (by omega) (by omega)⟩
theorem Tbl.clear_ (h : Tbl w0 w t lo m S) (g s : Int) (hg : okI64 g) (hs : okI64 s) :
    Calls Try.prog 17 #[.pointer (some ⟨t, 0, none⟩), .int .i64 g, .int .i64 s] w fun e w' => e = .returned (.int .i64 (S.clearE g s)) ∧ Tbl w0 w' t lo m (S.clear' g s) ∧ Upto lo (lo + 4) w w' := by
  obtain ⟨x, y, z, h1, h2⟩ := h.tab
  have k := S.clear_len g s
  have h3 := h.gs
  have h4 := h.ls
  exact (clear_any h1 h.toFew g s hg hs).mono fun e w' ⟨q1, q2, q3⟩ => ⟨q1, h.turned h2 q2 q3 (h.ok.clear' g s) (by rw [k.1]; omega) (by omega) h.few⟩
theorem Tbl.drop_ (h : Tbl w0 w t lo m S) (g : Int) (hg : okI64 g) :
    Calls Try.prog 26 #[.pointer (some ⟨t, 0, none⟩), .int .i64 g] w fun e w' => e = .returned (.int .i64 (S.dropE g)) ∧ Tbl w0 w' t lo m (S.drop' g) ∧ Upto lo (lo + 4) w w' := by
  obtain ⟨x, y, z, h1, h2⟩ := h.tab
  have k := S.drop_len g
  have h3 := h.gs
  have h4 := h.ls
  exact (drop_any h1 h.toFew g hg).mono fun e w' ⟨q1, q2, q3⟩ => ⟨q1, h.turned h2 q2 q3 (h.ok.drop' g) (by omega) (by omega) h.few⟩
theorem ufoot_new (n : Nat) : ∀ i, UFoot (n + 3) n (n + 1) (n + 2) i → n ≤ i ∧ i < n + 4 := by
  rintro i (rfl | rfl | rfl | rfl) <;> omega
theorem Tbl.new (w0 w : World) (hb : Below w0.heap.size w0 w) :
    Calls Try.prog 10 #[] w fun e w' => e = .returned (.pointer (some ⟨w.heap.size + 3, 0, none⟩)) ∧ Tbl w0 w' (w.heap.size + 3) w.heap.size 0 Us.none_ ∧ Below w.heap.size w w' ∧ w'.heap.size = w.heap.size + 4 :=
  (table_new w).mono fun e w' ⟨q1, q2, q3, q4⟩ => ⟨q1, ⟨hb.size, by omega, hb.trans (q3.mono hb.size), Us.ok_none, Nat.le_refl _, Nat.le_refl _, by decide, _, _, _, q2, ufoot_new _⟩, q3, q4⟩
theorem Tbl.clone_ (h : Tbl w0 w t lo m S) :
    Calls Try.prog 13 #[.pointer (some ⟨t, 0, none⟩)] w fun e w' => e = .returned (.pointer (some ⟨w.heap.size + 3, 0, none⟩)) ∧ Tbl w0 w' (w.heap.size + 3) w.heap.size m S ∧ Below w.heap.size w w' ∧ w'.heap.size = w.heap.size + 4 := by
  obtain ⟨x, y, z, h1, h2⟩ := h.tab
  exact (clone_any h1).mono fun e w' ⟨q1, q2, q3, q4⟩ => ⟨q1, ⟨h.low.size, by omega, h.low.trans (q3.mono h.low.size), h.ok, h.gs, h.ls, h.few, _, _, _, q2, ufoot_new _⟩, q3, q4⟩

/-! ### What reads it -/
theorem Tbl.slots_ (h : Tbl w0 w t lo m S) (g : Int) (hg : okI64 g) :
    Calls Try.prog 19 #[.pointer (some ⟨t, 0, none⟩), .int .i64 g] w fun e w' => e = .returned (.int .i64 (S.slots g)) ∧ w = w' := by
  obtain ⟨x, y, z, h1, _⟩ := h.tab
  exact slots_any h1 h.ok g hg
theorem Tbl.count_ (h : Tbl w0 w t lo m S) (g : Int) (hg : okI64 g) :
    Calls Try.prog 25 #[.pointer (some ⟨t, 0, none⟩), .int .i64 g] w fun e w' => e = .returned (.int .i64 ((S.cnt g : Nat) : Int)) ∧ w = w' := by
  obtain ⟨x, y, z, h1, _⟩ := h.tab
  exact count_any h1 h.ok g hg
theorem Tbl.block_ (h : Tbl w0 w t lo m S) (g s : Int) (hg : okI64 g) (hs : okI64 s) :
    Calls Try.prog 20 #[.pointer (some ⟨t, 0, none⟩), .int .i64 g, .int .i64 s] w fun e w' => e = .returned (.tuple #[.int .i64 ((S.at_ g s).getD 0), .bool (S.at_ g s).isSome]) ∧ w = w' := by
  obtain ⟨x, y, z, h1, _⟩ := h.tab
  exact block_any h1 g s hg hs
theorem Tbl.hole_ (h : Tbl w0 w t lo m S) (g : Int) (hg : okI64 g) :
    Calls Try.prog 22 #[.pointer (some ⟨t, 0, none⟩), .int .i64 g] w fun e w' => e = .returned (.tuple #[.int .i64 (((S.hole g).getD 0 : Nat) : Int), .bool (S.hole g).isSome]) ∧ w = w' := by
  obtain ⟨x, y, z, h1, _⟩ := h.tab
  exact hole_any h1 h.ok g hg
theorem Tbl.find_ (h : Tbl w0 w t lo m S) (b : Int) (hb : okI64 b) :
    Calls Try.prog 21 #[.pointer (some ⟨t, 0, none⟩), .int .i64 b] w fun e w' => e = .returned (.tuple #[.int .i64 ((S.fnd b).getD (0, 0)).1, .int .i64 ((S.fnd b).getD (0, 0)).2, .bool (S.fnd b).isSome]) ∧ Tbl w0 w' t lo m S ∧ Below w.heap.size w w' := by
  obtain ⟨x, y, z, h1, _⟩ := h.tab
  exact (find_any h1 b hb).mono fun e w' ⟨q1, q2⟩ => ⟨q1, h.later q2, q2⟩
theorem Tbl.blocks_ (h : Tbl w0 w t lo m S) (g : Int) (hg : okI64 g) :
    Calls Try.prog 24 #[.pointer (some ⟨t, 0, none⟩), .int .i64 g] w fun e w' => ∃ v, e = .returned v ∧ w'.ownsRow w.heap.size 3 1 v (S.blocks g).length (I64 (S.blocks g)) ∧ Tbl w0 w' t lo m S ∧ Below w.heap.size w w' := by
  obtain ⟨x, y, z, h1, _⟩ := h.tab
  exact (blocks_any h1 h.ok g hg).mono fun e w' ⟨v, q1, q2, q3⟩ => ⟨v, q1, q2, h.later q3, q3⟩
theorem Tbl.groups_ (h : Tbl w0 w t lo m S) :
    Calls Try.prog 27 #[.pointer (some ⟨t, 0, none⟩)] w fun e w' => ∃ v, e = .returned v ∧ w'.ownsRow w.heap.size 3 1 v S.groups.length (I64 S.groups) ∧ Tbl w0 w' t lo m S ∧ Below w.heap.size w w' := by
  obtain ⟨x, y, z, h1, _⟩ := h.tab
  exact (groups_any h1 h.toFew).mono fun e w' ⟨v, q1, q2, q3⟩ => ⟨v, q1, q2, h.later q3, q3⟩
theorem Tbl.emptiest_ (h : Tbl w0 w t lo m S) (A : Option Addr) (n c : Nat) (l : List Int) (hr : Reads w w.heap.size 1 A n (I64 l)) (hl : ∀ v ∈ l, okI64 v) (hn : n ≤ 9223372036854775807) :
    Calls Try.prog 28 #[.pointer (some ⟨t, 0, none⟩), .slice A n c] w fun e w' => e = .returned (.tuple #[.int .i64 ((S.emptiest l).getD 0), .bool (S.emptiest l).isSome]) ∧ Tbl w0 w' t lo m S ∧ Below w.heap.size w w' := by
  obtain ⟨x, y, z, h1, _⟩ := h.tab
  exact (emptiest_any h1 h.ok A n c l hr hl hn).mono fun e w' ⟨q1, q2⟩ => ⟨q1, h.later q2, q2⟩
end
/-- Pointers to a table are compared with nil. -/
theorem run_eql_tab (w : World) (g : Nat) : (binOp .eql 24 (.pointer (some ⟨g, 0, none⟩)) (.pointer none)).run Try.prog w = .ok (.bool false) w := by kernel_rfl
section
variable {w0 w w' : World} {t lo m : Nat} {S : Us}
/-- A new table, somewhere above. -/
theorem Tbl.make (w0 w : World) (hb : Below w0.heap.size w0 w) :
    Calls Try.prog 10 #[] w fun e w' => ∃ t lo, e = .returned (.pointer (some ⟨t, 0, none⟩)) ∧ Tbl w0 w' t lo 0 Us.none_ ∧ w.heap.size ≤ lo ∧ Below w.heap.size w w' :=
  (Tbl.new w0 w hb).mono fun _ _ ⟨q1, q2, q3, _⟩ => ⟨_, _, q1, q2, Nat.le_refl _, q3⟩
theorem Tbl.twin (h : Tbl w0 w t lo m S) :
    Calls Try.prog 13 #[.pointer (some ⟨t, 0, none⟩)] w fun e w' => ∃ t' lo', e = .returned (.pointer (some ⟨t', 0, none⟩)) ∧ Tbl w0 w' t' lo' m S ∧ w.heap.size ≤ lo' ∧ Below w.heap.size w w' :=
  h.clone_.mono fun _ _ ⟨q1, q2, q3, _⟩ => ⟨_, _, q1, q2, Nat.le_refl _, q3⟩
/-- Another table, or the law's own memory, turns in blocks of its own. -/
theorem Tbl.upto (h : Tbl w0 w t lo m S) {lo2 hi2 : Nat} (hu : Upto lo2 hi2 w w') (h0 : w0.heap.size ≤ lo2) (ha : hi2 ≤ lo ∨ lo + 4 ≤ lo2) : Tbl w0 w' t lo m S :=
  h.aside (G := fun i => lo2 ≤ i ∧ i < hi2) ⟨hu.os, hu.tape, hu.output, hu.size, fun i hi hn => hu.block i hi (by omega)⟩ fun i hi => by omega
end
/-- Groups 0 to k - 1, group i of f i slots. -/
def grp (f : Nat → Int) (k : Nat) : List Gr := (List.range k).map fun (i : Nat) => ⟨(i : Int), f i⟩
theorem grp_succ (f : Nat → Int) (k : Nat) : grp f (k + 1) = grp f k ++ [⟨(k : Int), f k⟩] := by
  unfold grp
  rw [List.range_succ, List.map_append]
  rfl
theorem grp_has (f : Nat → Int) (k : Nat) (L : List Lv) (g : Int) : (⟨grp f k, L⟩ : Us).has g = decide (0 ≤ g ∧ g < k) := by
  rw [Bool.eq_iff_iff, Us.has_iff, decide_eq_true_eq]
  unfold grp
  constructor
  · rintro ⟨e, he, rfl⟩
    obtain ⟨i, hi, rfl⟩ := List.mem_map.1 he
    have := List.mem_range.1 hi
    simp
    omega
  · rintro ⟨h1, h2⟩
    exact ⟨⟨((g.toNat : Nat) : Int), f g.toNat⟩, List.mem_map.2 ⟨g.toNat, List.mem_range.2 (by omega), rfl⟩, by show ((g.toNat : Nat) : Int) = g; omega⟩
theorem grp_slots (f : Nat → Int) (k : Nat) (L : List Lv) (i : Nat) (hi : i < k) : (⟨grp f k, L⟩ : Us).slots (i : Int) = f i := by
  induction k with
  | zero => omega
  | succ k ih =>
    unfold Us.slots
    dsimp only
    rw [grp_succ, List.find?_append]
    by_cases hik : i < k
    · have h1 := ih hik
      unfold Us.slots at h1
      dsimp only at h1
      have hs : ((grp f k).find? fun x => x.id == (i : Int)).isSome = true := by
        rw [List.find?_isSome]
        exact ⟨⟨(i : Int), f i⟩, List.mem_map.2 ⟨i, List.mem_range.2 hik, rfl⟩, by simp⟩
      obtain ⟨y, hy⟩ := Option.isSome_iff_exists.1 hs
      rw [hy] at h1 ⊢
      exact h1
    · obtain rfl : i = k := by omega
      have hn : ((grp f i).find? fun x => x.id == (i : Int)) = none := by
        rw [List.find?_eq_none]
        intro y hy
        obtain ⟨j, hj, rfl⟩ := List.mem_map.1 hy
        have := List.mem_range.1 hj
        simp
        omega
      rw [hn]
      simp
theorem grp_open (f : Nat → Int) (k : Nat) (L : List Lv) (h1 : 1 ≤ f k) (h2 : f k ≤ 4096) : (⟨grp f k, L⟩ : Us).openE (k : Int) (f k) = 0 ∧ (⟨grp f k, L⟩ : Us).open' (k : Int) (f k) = ⟨grp f (k + 1), L⟩ := by
  have e : (⟨grp f k, L⟩ : Us).openE (k : Int) (f k) = 0 := by
    unfold Us.openE
    rw [if_neg (by omega), grp_has]
    simp
  refine ⟨e, ?_⟩
  unfold Us.open'
  rw [if_pos e, grp_succ]
  rfl
theorem put_bad {S : Us} {g s b : Int} (h : S.putE g s b ≠ 0) : S.put' g s b = S := by
  unfold Us.put'
  rw [if_neg h]
theorem put_good {S : Us} {g s b : Int} (h : S.putE g s b = 0) : S.put' g s b = S.put g s b := by
  unfold Us.put'
  rw [if_pos h]
/-- What Put answers where the slot is there and the block may be. -/
theorem putE_in {S : Us} {g s b : Int} (hg : S.has g = true) (h0 : 0 ≤ s) (h1 : s < S.slots g) (hb : 0 ≤ b) : S.putE g s b = if (S.at_ g s).isSome then 9 else 0 := by
  have e : S.inE g s = 0 := by
    unfold Us.inE
    rw [hg, if_pos rfl, if_neg (by omega)]
  unfold Us.putE
  rw [if_pos e, if_neg (by omega)]
theorem clearE_in {S : Us} {g s : Int} (hg : S.has g = true) (h0 : 0 ≤ s) (h1 : s < S.slots g) : S.clearE g s = if (S.at_ g s).isSome then 0 else 9 := by
  have e : S.inE g s = 0 := by
    unfold Us.inE
    rw [hg, if_pos rfl, if_neg (by omega)]
  unfold Us.clearE
  rw [if_pos e]
/-- Numbers masked. -/
theorem maskN (v : Int) (k : Nat) (hk : k ≤ 16) : ∃ N : Nat, bits .and .i64 v (2 ^ k - 1) = (N : Int) ∧ N < 2 ^ k := by
  have h := i64_mask v k (by omega)
  have hp : (0 : Int) < 2 ^ k := Int.pow_pos (by decide)
  refine ⟨(v % 2 ^ k).toNat, ?_, ?_⟩
  · rw [h]
    have := Int.emod_nonneg v (Int.ne_of_gt hp)
    omega
  · have h1 := Int.emod_nonneg v (Int.ne_of_gt hp)
    have h2 := Int.emod_lt_of_pos v hp
    have h3 : (2 : Int) ^ k = ((2 ^ k : Nat) : Int) := by simp
    rw [h3] at h1 h2 ⊢
    omega
theorem mask_7 (v : Int) : ∃ N : Nat, bits .and .i64 v 7 = (N : Int) ∧ N < 8 := maskN v 3 (by decide)
theorem mask_15 (v : Int) : ∃ N : Nat, bits .and .i64 v 15 = (N : Int) ∧ N < 16 := maskN v 4 (by decide)
theorem mask_3 (v : Int) : ∃ N : Nat, bits .and .i64 v 3 = (N : Int) ∧ N < 4 := maskN v 2 (by decide)
theorem mask_31 (v : Int) : ∃ N : Nat, bits .and .i64 v 31 = (N : Int) ∧ N < 32 := maskN v 5 (by decide)
theorem mask_63 (v : Int) : ∃ N : Nat, bits .and .i64 v 63 = (N : Int) ∧ N < 64 := maskN v 6 (by decide)
theorem mask_127 (v : Int) : ∃ N : Nat, bits .and .i64 v 127 = (N : Int) ∧ N < 128 := maskN v 7 (by decide)
theorem mask_65535 (v : Int) : ∃ N : Nat, bits .and .i64 v 65535 = (N : Int) ∧ N < 65536 := maskN v 16 (by decide)
#print axioms Tbl.emptiest_
end Go.Proofs.Ytgoglgghnjgcdaa
