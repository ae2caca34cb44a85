/- Groups in memory; whether a group has a disk; the first group that has one. -/
import Derived.Test.YtmaiikmgpeafkaaBlk
import Derived.Test.YtmaiikmgpeafkaaGrpP
import Derived.Test.YtmaiikmgpeafkaaArgI
import Derived.OwnWalk
namespace Go.Proofs.Ytmaiikmgpeafkaa
open Go.RowKit

/-! ### Lists of parts of one length -/
section
variable {α : Type} {f : α → List Value} {k : Nat}
theorem flat_length (hk : ∀ x, (f x).length = k) (l : List α) : (l.flatMap f).length = l.length * k := by
  induction l with
  | nil => simp
  | cons x l ih => rw [List.flatMap_cons, List.length_append, ih, hk, List.length_cons, Nat.add_mul]; omega
theorem flat_drop (hk : ∀ x, (f x).length = k) : ∀ (j : Nat) (l : List α), (l.flatMap f).drop (j * k) = (l.drop j).flatMap f
  | 0, l => by simp
  | j + 1, [] => by simp
  | j + 1, x :: l => by
    rw [List.drop_succ_cons, ← flat_drop hk j l, List.flatMap_cons, Nat.add_mul, Nat.one_mul, Nat.add_comm, ← List.drop_drop]
    congr 1
    have : k = (f x).length := (hk x).symm
    rw [this, List.drop_left]
theorem flat_take (hk : ∀ x, (f x).length = k) : ∀ (j : Nat) (l : List α), (l.flatMap f).take (j * k) = (l.take j).flatMap f
  | 0, l => by simp
  | j + 1, [] => by simp
  | j + 1, x :: l => by
    rw [List.take_succ_cons, List.flatMap_cons, List.flatMap_cons, ← flat_take hk j l, Nat.add_mul, Nat.one_mul, Nat.add_comm]
    have : k = (f x).length := (hk x).symm
    conv => lhs; rw [this]
    rw [List.take_length_add_append]
    rw [← this]
theorem flat_at (hk : ∀ x, (f x).length = k) {l : List α} {i : Nat} {x : α} (h : l[i]? = some x) (j : Nat) (hj : j < k) : (l.flatMap f)[i * k + j]? = (f x)[j]? := by
  rw [← List.getElem?_drop, flat_drop hk]
  obtain ⟨hi, hm⟩ := List.getElem?_eq_some_iff.1 h
  rw [List.drop_eq_getElem_cons hi, hm, List.flatMap_cons, List.getElem?_append_left (by rw [hk]; exact hj)]
end

/-! ### Extents -/
def exC (x : Ex) : List Value := [.int .i64 x.1, .int .i64 x.2]
def exL (l : List Ex) : List Value := l.flatMap exC
theorem exC_length (x : Ex) : (exC x).length = 2 := rfl
theorem exL_length (l : List Ex) : (exL l).length = l.length * 2 := flat_length exC_length l
theorem exL_append (l r : List Ex) : exL (l ++ r) = exL l ++ exL r := by simp [exL]
theorem exL_one (x : Ex) : exL [x] = exC x := by simp [exL]
theorem exC_one (x : Ex) : ∀ v ∈ exC x, v.oneCell' = true := by
  intro v hv
  simp only [exC, List.mem_cons, List.not_mem_nil, or_false] at hv
  rcases hv with rfl | rfl <;> rfl
theorem exL_oneCell (l : List Ex) : ∀ v ∈ exL l, v.oneCell' = true := by
  intro v hv
  obtain ⟨x, _, hx⟩ := List.mem_flatMap.1 hv
  exact exC_one x v hx
theorem ext_parts : (Try.prog.info? 38).map (fun i => (i.zero, i.size, i.bytes)) = some (some (.agg #[.int .i64 0, .int .i64 0]), 2, 16) := by kernel_rfl
theorem ext_info : (Try.prog.info? 38).map (·.size) = some 2 := by kernel_rfl
theorem ext_zero (w : World) : (zeroValue 38).run Try.prog w = .ok (.agg #[.int .i64 0, .int .i64 0]) w := by kernel_rfl
theorem int_parts : (Try.prog.info? 3).map (fun i => (i.zero, i.size, i.bytes)) = some (some (.int .i64 0), 1, 8) := by kernel_rfl
def ExIn (w : World) (B : Nat) (A : Option Addr) (n c : Nat) (l : List Ex) : Prop := Reads w B 2 A n (exL l) ∧ n ≤ c ∧ c ≤ 9223372036854775807
section
variable {w w' : World} {B B' n c : Nat} {A : Option Addr} {l : List Ex}
theorem ExIn.none_ : ExIn w B none 0 0 [] := ⟨Reads.none_, Nat.le_refl _, Nat.zero_le _⟩
theorem ExIn.len (h : ExIn w B A n c l) : l.length = n := by
  have := h.1.1
  rw [exL_length] at this
  omega
theorem ExIn.below (h : ExIn w B A n c l) (hb : Below B w w') : ExIn w' B A n c l := ⟨h.1.below hb, h.2⟩
theorem ExIn.more (h : ExIn w B A n c l) (hB : B ≤ B') : ExIn w B' A n c l := ⟨h.1.more hB, h.2⟩
theorem ExIn.later (h : ExIn w w.heap.size A n c l) (hb : Below w.heap.size w w') : ExIn w' w'.heap.size A n c l := ⟨h.1.later hb, h.2⟩
theorem ExIn.at_ {k : Nat} (h : ExIn w B A n c l) (hk : k < n) : ∃ ad x, A = some ad ∧ ad.block < B ∧ l[k]? = some x ∧ ∀ (j : Nat) v, (exC x)[j]? = some v → w.cell? ((ad.add (k * 2)).add j) = some v := by
  obtain ⟨ad, hA, hb, hc⟩ := h.1.2 (by omega)
  have hl := h.len
  have hm : l[k]? = some (l[k]'(by omega)) := List.getElem?_eq_getElem (by omega)
  refine ⟨ad, _, hA, hb, hm, fun j v hv => ?_⟩
  have hj : j < 2 := (List.getElem?_eq_some_iff.1 hv).1
  rw [add_of_add]
  exact hc _ v ((flat_at exC_length hm j hj).trans hv)
end

/-! ### Groups -/
structure GrV where
  id : Int
  kind : Int
  A : Option Addr
  n : Nat
  c : Nat
  ex : List Ex
def grC (g : GrV) : List Value := [.int .i64 g.id, .int .i64 g.kind, .slice g.A g.n g.c]
def grL (l : List GrV) : List Value := l.flatMap grC
theorem grC_length (g : GrV) : (grC g).length = 3 := rfl
theorem grL_length (l : List GrV) : (grL l).length = l.length * 3 := flat_length grC_length l
theorem grL_append (l r : List GrV) : grL (l ++ r) = grL l ++ grL r := by simp [grL]
theorem grL_one (g : GrV) : grL [g] = grC g := by simp [grL]
theorem grC_one (g : GrV) : ∀ v ∈ grC g, v.oneCell' = true := by
  intro v hv
  simp only [grC, List.mem_cons, List.not_mem_nil, or_false] at hv
  rcases hv with rfl | rfl | rfl <;> rfl
theorem grL_oneCell (l : List GrV) : ∀ v ∈ grL l, v.oneCell' = true := by
  intro v hv
  obtain ⟨x, _, hx⟩ := List.mem_flatMap.1 hv
  exact grC_one x v hx
theorem grp_parts : (Try.prog.info? 36).map (fun i => (i.zero, i.size, i.bytes)) = some (some (.agg #[.int .i64 0, .int .i64 0, .slice none 0 0]), 3, 40) := by kernel_rfl
theorem grp_info : (Try.prog.info? 36).map (·.size) = some 3 := by kernel_rfl
theorem grp_zero (w : World) : (zeroValue 36).run Try.prog w = .ok (.agg #[.int .i64 0, .int .i64 0, .slice none 0 0]) w := by kernel_rfl
/-- A group whose extents are read below block B. -/
def GrIn (w : World) (B : Nat) (g : GrV) : Prop := ExIn w B g.A g.n g.c g.ex
theorem GrIn.below {w w' : World} {B : Nat} {g : GrV} (h : GrIn w B g) (hb : Below B w w') : GrIn w' B g := ExIn.below h hb
theorem GrIn.more {w : World} {B B' : Nat} {g : GrV} (h : GrIn w B g) (hB : B ≤ B') : GrIn w B' g := ExIn.more h hB
structure GsIn (w : World) (B : Nat) (A : Option Addr) (n c : Nat) (L : List GrV) : Prop where
  row : Reads w B 3 A n (grL L)
  le : n ≤ c
  cap : c ≤ 9223372036854775807
  mem : ∀ g ∈ L, GrIn w B g
section
variable {w w' : World} {B B' n c : Nat} {A : Option Addr} {L : List GrV}
theorem GsIn.len (h : GsIn w B A n c L) : L.length = n := by
  have := h.row.1
  rw [grL_length] at this
  omega
theorem GsIn.below (h : GsIn w B A n c L) (hb : Below B w w') : GsIn w' B A n c L := ⟨h.row.below hb, h.le, h.cap, fun x hx => (h.mem x hx).below hb⟩
theorem GsIn.more (h : GsIn w B A n c L) (hB : B ≤ B') : GsIn w B' A n c L := ⟨h.row.more hB, h.le, h.cap, fun x hx => (h.mem x hx).more hB⟩
theorem GsIn.later (h : GsIn w w.heap.size A n c L) (hb : Below w.heap.size w w') : GsIn w' w'.heap.size A n c L := (h.below hb).more hb.size
theorem GsIn.none_ : GsIn w B none 0 0 [] := ⟨Reads.none_, Nat.le_refl _, Nat.zero_le _, fun _ hx => absurd hx List.not_mem_nil⟩
theorem GsIn.at_ {k : Nat} (h : GsIn w B A n c L) (hk : k < n) : ∃ ad g, A = some ad ∧ ad.block < B ∧ L[k]? = some g ∧ GrIn w B g ∧ ∀ (j : Nat) v, (grC g)[j]? = some v → w.cell? ((ad.add (k * 3)).add j) = some v := by
  obtain ⟨ad, hA, hb, hc⟩ := h.row.2 (by omega)
  have hl := h.len
  have hm : L[k]? = some (L[k]'(by omega)) := List.getElem?_eq_getElem (by omega)
  refine ⟨ad, _, hA, hb, hm, h.mem _ (List.getElem_mem _), fun j v hv => ?_⟩
  have hj : j < 3 := (List.getElem?_eq_some_iff.1 hv).1
  rw [add_of_add]
  exact hc _ v ((flat_at grC_length hm j hj).trans hv)
end

/-! ### The first place at which something holds -/
def idxI {α : Type} (p : α → Bool) (l : List α) : Int := if l.findIdx p < l.length then (l.findIdx p : Int) else -1
def NoneYet {α : Type} (p : α → Bool) (l : List α) (k : Nat) : Prop := ∀ i x, i < k → l[i]? = some x → p x = false
section
variable {α : Type} {p : α → Bool} {l : List α} {k : Nat} {x : α}
theorem NoneYet.zero : NoneYet p l 0 := fun i x h => by omega
theorem NoneYet.succ (h : NoneYet p l k) (hx : l[k]? = some x) (hp : p x = false) : NoneYet p l (k + 1) := fun i y hi hy => by
  by_cases e : i = k
  · subst e
    rw [hx] at hy
    injection hy with hy
    rw [← hy]
    exact hp
  · exact h i y (by omega) hy
theorem idx_found (h : NoneYet p l k) (hx : l[k]? = some x) (hp : p x = true) : idxI p l = (k : Int) := by
  obtain ⟨hk, he⟩ := List.getElem?_eq_some_iff.1 hx
  have hf : l.findIdx p = k := by
    rw [List.findIdx_eq hk]
    exact ⟨by rw [he]; exact hp, fun j hj => by simpa using h j _ hj (List.getElem?_eq_getElem (by omega))⟩
  rw [idxI, hf, if_pos hk]
theorem idx_none (h : NoneYet p l l.length) : idxI p l = -1 := by
  have hf : l.findIdx p = l.length := List.findIdx_eq_length.2 (fun y hy => by
    obtain ⟨i, hi⟩ := List.getElem?_of_mem hy
    exact h i y (List.getElem?_eq_some_iff.1 hi).1 hi)
  rw [idxI, hf, if_neg (by omega)]
theorem idx_any (p : α → Bool) (l : List α) : decide (0 ≤ idxI p l) = l.any p := by
  rw [idxI]
  by_cases h : l.findIdx p < l.length
  · rw [if_pos h]
    have := List.findIdx_lt_length.1 h
    rw [List.any_eq_true.2 this]
    simp
  · rw [if_neg h]
    have h2 : l.any p = false := by
      rw [List.any_eq_false]
      intro y hy hp
      exact h (List.findIdx_lt_length.2 ⟨y, hy, hp⟩)
    rw [h2]
    decide
end
def hasB (l : List Ex) (d : Int) : Bool := l.any (fun x => x.1 == d)
def dks (l : List Ex) : List Int := l.map (fun x => x.1)
theorem hasB_dks (l : List Ex) (d : Int) : hasB l d = (dks l).contains d := by
  rw [hasB, dks, List.contains_eq_any_beq, List.any_map]
  congr 1
  funext x
  show (x.1 == d) = (d == x.1)
  rw [Bool.eq_iff_iff]
  simp only [beq_iff_eq]
  exact eq_comm

/-! ### has -/
theorem hasOne_any (x : Ex) (d : Int) (g : Nat) (w : World) (hg : g < w.heap.size) (hc : w.cell? ⟨g, 0, none⟩ = some (.int .i64 d)) :
    Calls Try.prog 47 #[.agg (exC x).toArray, .pointer (some ⟨g, 0, none⟩)] w fun e w' => e = .returned (.bool (x.1 == d)) ∧ Below w.heap.size w w' := by
  have hne : g ≠ w.heap.size := by omega
  change Calls Try.prog 47 #[.agg #[.int .i64 x.1, .int .i64 x.2], .pointer (some ⟨g, 0, none⟩)] w _
  go_enter Try.func47, Try.ntmps47
  go_wp2
  all_goals (go_ret; exact ⟨by simp_all, (Below.refl _ _).alloc (Nat.le_refl _) _⟩)
set_option maxHeartbeats 1000000 in
theorem indexEx_any (A : Option Addr) (n c : Nat) (L : List Ex) (d : Int) (g : Nat) (B0 : Nat) (w : World) (hr : ExIn w B0 A n c L) (hB0 : B0 ≤ w.heap.size) (hg : g < w.heap.size) (h1 : w.cell? ⟨g, 0, none⟩ = some (.int .i64 d)) :
    Calls Try.prog 55 #[.slice A n c, .func (.func 47) #[] #[.pointer (some ⟨g, 0, none⟩)]] w fun e w' => e = .returned (.int .i64 (idxI (fun y : Ex => y.1 == d) L)) ∧ Below w.heap.size w w' := by
  have hn := hr.2
  have HL := hide hr.len
  go_enter Try.func55, Try.ntmps55
  go_wp2
  go_loopw [5, 8] (fun _ i wr => ∃ k : Nat, k ≤ n ∧ i = .int .i64 k ∧ Hid (NoneYet (fun y : Ex => y.1 == d) L k) ∧ Below w.heap.size w wr) (fun _ i _ => n - (intOf i).toNat)
  case atStart => exact ⟨0, Nat.zero_le _, rfl, hide NoneYet.zero, Below.refl _ _⟩
  case round =>
    obtain ⟨k, hk, rfl, hall, hbel⟩ := hrel
    by_cases hkn : k < n
    · obtain ⟨ad, x, rfl, hab, hx, hcs⟩ := (hr.below (hbel.mono hB0)).at_ hkn
      have hcall := hasOne_any x d g wr (Nat.lt_of_lt_of_le hg hbel.size) ((hbel.cell (p := ⟨g, 0, none⟩) hg).trans h1)
      have HC := hide hcall
      have HS := hide hcs
      have HX := hide hx
      clear hcall hcs hx
      cases hq : (fun y : Ex => y.1 == d) x with
      | true =>
        have HR := hide (idx_found hall.out HX.out hq)
        have HC2 : Hid (Calls Try.prog 47 #[.agg (exC x).toArray, .pointer (some ⟨g, 0, none⟩)] wr fun e w' => e = .returned (.bool true) ∧ Below wr.heap.size wr w') := hide (HC.out.mono (fun e w' h => ⟨by rw [h.1, ← hq], h.2⟩))
        clear HC hq
        go_wp2_with (first | (refine wpList_load_at rfl 38 (.tmp 14) rfl (ad.add (k * 2)) rfl (exC x) _ HS.out Try.underlying38 rfl ext_info ?_) | (go_at_call 47; refine HC2.out.mono ?_; rintro _ w1 ⟨rfl, hb1⟩))
        go_ret
        exact ⟨ret_of HR.out.symm, hbel.trans (hb1.mono hbel.size)⟩
      | false =>
        have HR := hide (hall.out.succ HX.out hq)
        have HC2 : Hid (Calls Try.prog 47 #[.agg (exC x).toArray, .pointer (some ⟨g, 0, none⟩)] wr fun e w' => e = .returned (.bool false) ∧ Below wr.heap.size wr w') := hide (HC.out.mono (fun e w' h => ⟨by rw [h.1, ← hq], h.2⟩))
        clear HC hq
        go_wp2_with (first | (refine wpList_load_at rfl 38 (.tmp 14) rfl (ad.add (k * 2)) rfl (exC x) _ HS.out Try.underlying38 rfl ext_info ?_) | (go_at_call 47; refine HC2.out.mono ?_; rintro _ w1 ⟨rfl, hb1⟩))
        go_roundw
        case rel => exact ⟨k + 1, by omega, by go_num, HR, hbel.trans (hb1.mono hbel.size)⟩
        case measure => simp [intOf]; omega
    · obtain rfl : k = n := by omega
      have HR := hide (idx_none (p := (fun y : Ex => y.1 == d)) (by rw [HL.out]; exact hall.out))
      go_wp2
      go_ret
      exact ⟨ret_of HR.out.symm, hbel⟩
theorem containsEx_any (A : Option Addr) (n c : Nat) (L : List Ex) (d : Int) (g : Nat) (B0 : Nat) (w : World) (hr : ExIn w B0 A n c L) (hB0 : B0 ≤ w.heap.size) (hg : g < w.heap.size) (h1 : w.cell? ⟨g, 0, none⟩ = some (.int .i64 d)) :
    Calls Try.prog 46 #[.slice A n c, .func (.func 47) #[] #[.pointer (some ⟨g, 0, none⟩)]] w fun e w' => e = .returned (.bool (hasB L d)) ∧ Below w.heap.size w w' := by
  have HI := hide (indexEx_any A n c L d g B0 w hr hB0 hg h1)
  unfold hasB
  rw [← idx_any]
  obtain ⟨r, hr⟩ : ∃ r, r = idxI (fun y : Ex => y.1 == d) L := ⟨_, rfl⟩
  rw [← hr] at HI ⊢
  clear hr
  go_enter Try.func46, Try.ntmps46
  go_wp2_with (go_at_call 55; refine HI.out.mono ?_; rintro _ w' ⟨rfl, hb⟩)
  go_ret
  exact ⟨rfl, hb⟩
theorem has_any (g : GrV) (d : Int) (B0 : Nat) (w : World) (hg : GrIn w B0 g) (hB0 : B0 ≤ w.heap.size) :
    Calls Try.prog 34 #[.agg (grC g).toArray, .int .i64 d] w fun e w' => e = .returned (.bool (hasB g.ex d)) ∧ Below w.heap.size w w' := by
  have hmf : ∀ (fn : Fn) (first cap : Array Value) (w : World), (Instr.makeFunc fn first cap).run Try.prog w = .ok (.func fn first cap) w := fun _ _ _ _ => rfl
  obtain ⟨w2, hw2⟩ : ∃ w2, w2 = (w.alloc (.cells (grC g).toArray 36)).alloc (.cells #[.int .i64 d] 3) := ⟨_, rfl⟩
  have hs : w2.heap.size = w.heap.size + 2 := by rw [hw2]; simp
  have hb : Below w.heap.size w w2 := by rw [hw2]; exact ((Below.refl _ w).alloc (Nat.le_refl _) _).alloc (by simp) _
  have hc := containsEx_any g.A g.n g.c g.ex d (w.heap.size + 1) B0 w2 (hg.below (hb.mono hB0)) (by omega) (by omega) (by
    rw [hw2]
    have h := Blk.new (w.alloc (.cells (grC g).toArray 36)) 3 #[.int .i64 d]
    rw [World.size_alloc] at h
    exact h.cell 0)
  have HC := hide hc
  have HW := hide hw2
  clear hc hw2 hg
  unfold grC at HW ⊢
  go_enter Try.func34, Try.ntmps34
  go_wp2_with (go_at_call 46; rw [← HW.out]; refine HC.out.mono ?_; rintro _ w' ⟨rfl, hb3⟩)
  go_ret
  exact ⟨rfl, hb.trans (hb3.mono hb.size)⟩
theorem hasIt_any (g : GrV) (d : Int) (bd : Nat) (B0 : Nat) (w : World) (hg : GrIn w B0 g) (hB0 : B0 ≤ w.heap.size) (hbd : bd < w.heap.size) (h1 : w.cell? ⟨bd, 0, none⟩ = some (.int .i64 d)) :
    Calls Try.prog 33 #[.agg (grC g).toArray, .pointer (some ⟨bd, 0, none⟩)] w fun e w' => e = .returned (.bool (hasB g.ex d)) ∧ Below w.heap.size w w' := by
  go_enter Try.func33, Try.ntmps33
  go_wp2_with (first
    | (refine wpList_box_blk rfl 36 (.tmp 0) rfl (.agg (grC g).toArray) rfl ?_; intro w1 hb1q hl1 hs1; clear hs1; have hb1 : Blk w1 w.heap.size 36 (grC g).toArray := hb1q; clear hb1q; have y0 := (hl1.cell (p := ⟨bd, 0, none⟩) hbd).trans h1)
    | (refine wpList_load_blk rfl 36 (.tmp 2) rfl w.heap.size 0 36 _ hb1 rfl (grC g) _ (fun j v hv => by rw [Nat.zero_add]; simpa using hv) Try.underlying36 rfl grp_info ?_)
    | (go_at_call 34; refine (has_any g d B0 _ (hg.below (hl1.mono hB0)) (Nat.le_trans hB0 hl1.size)).mono ?_; rintro _ w' ⟨rfl, hb3⟩))
  go_ret
  exact ⟨rfl, hl1.trans (hb3.mono hl1.size)⟩
set_option maxHeartbeats 1000000 in
theorem indexGr_any (A : Option Addr) (n c : Nat) (L : List GrV) (d : Int) (g : Nat) (B0 : Nat) (w : World) (hr : GsIn w B0 A n c L) (hB0 : B0 ≤ w.heap.size) (hg : g < w.heap.size) (h1 : w.cell? ⟨g, 0, none⟩ = some (.int .i64 d)) :
    Calls Try.prog 32 #[.slice A n c, .func (.func 33) #[] #[.pointer (some ⟨g, 0, none⟩)]] w fun e w' => e = .returned (.int .i64 (idxI (fun y : GrV => hasB y.ex d) L)) ∧ Below w.heap.size w w' := by
  have hn := hr.le
  have hn2 := hr.cap
  have HL := hide hr.len
  go_enter Try.func32, Try.ntmps32
  go_wp2
  go_loopw [5, 8] (fun _ i wr => ∃ k : Nat, k ≤ n ∧ i = .int .i64 k ∧ Hid (NoneYet (fun y : GrV => hasB y.ex d) L k) ∧ Below w.heap.size w wr) (fun _ i _ => n - (intOf i).toNat)
  case atStart => exact ⟨0, Nat.zero_le _, rfl, hide NoneYet.zero, Below.refl _ _⟩
  case round =>
    obtain ⟨k, hk, rfl, hall, hbel⟩ := hrel
    by_cases hkn : k < n
    · obtain ⟨ad, x, rfl, hab, hx, hgi, hcs⟩ := (hr.below (hbel.mono hB0)).at_ hkn
      have hcall := hasIt_any x d g B0 wr hgi (Nat.le_trans hB0 hbel.size) (Nat.lt_of_lt_of_le hg hbel.size) ((hbel.cell (p := ⟨g, 0, none⟩) hg).trans h1)
      have HC := hide hcall
      have HS := hide hcs
      have HX := hide hx
      clear hcall hcs hx
      cases hq : (fun y : GrV => hasB y.ex d) x with
      | true =>
        have HR := hide (idx_found hall.out HX.out hq)
        have HC2 : Hid (Calls Try.prog 33 #[.agg (grC x).toArray, .pointer (some ⟨g, 0, none⟩)] wr fun e w' => e = .returned (.bool true) ∧ Below wr.heap.size wr w') := hide (HC.out.mono (fun e w' h => ⟨by rw [h.1, ← hq], h.2⟩))
        clear HC hq
        go_wp2_with (first | (refine wpList_load_at rfl 36 (.tmp 14) rfl (ad.add (k * 3)) rfl (grC x) _ HS.out Try.underlying36 rfl grp_info ?_) | (go_at_call 33; refine HC2.out.mono ?_; rintro _ w1 ⟨rfl, hb1⟩))
        go_ret
        exact ⟨ret_of HR.out.symm, hbel.trans (hb1.mono hbel.size)⟩
      | false =>
        have HR := hide (hall.out.succ HX.out hq)
        have HC2 : Hid (Calls Try.prog 33 #[.agg (grC x).toArray, .pointer (some ⟨g, 0, none⟩)] wr fun e w' => e = .returned (.bool false) ∧ Below wr.heap.size wr w') := hide (HC.out.mono (fun e w' h => ⟨by rw [h.1, ← hq], h.2⟩))
        clear HC hq
        go_wp2_with (first | (refine wpList_load_at rfl 36 (.tmp 14) rfl (ad.add (k * 3)) rfl (grC x) _ HS.out Try.underlying36 rfl grp_info ?_) | (go_at_call 33; refine HC2.out.mono ?_; rintro _ w1 ⟨rfl, hb1⟩))
        go_roundw
        case rel => exact ⟨k + 1, by omega, by go_num, HR, hbel.trans (hb1.mono hbel.size)⟩
        case measure => simp [intOf]; omega
    · obtain rfl : k = n := by omega
      have HR := hide (idx_none (p := (fun y : GrV => hasB y.ex d)) (by rw [HL.out]; exact hall.out))
      go_wp2
      go_ret
      exact ⟨ret_of HR.out.symm, hbel⟩
#print axioms indexGr_any
end Go.Proofs.Ytmaiikmgpeafkaa
