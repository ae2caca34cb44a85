/- The law's shown. -/
import Derived.Test.YtmaiikmgpeafkaaLawO
import Derived.Test.YtmaiikmgpeafkaaGrpK
import Derived.Test.YtmaiikmgpeafkaaGrpU
import Derived.Test.YtmaiikmgpeafkaaRefGS
import Derived.Test.YtmaiikmgpeafkaaMoveP
namespace Go.Proofs.Ytmaiikmgpeafkaa
open Go.RowKit

theorem lit_reads (w : World) (l : List Int) (B : Nat) (hB : w.heap.size < B) : Reads (w.alloc (.cells (I64 l).toArray 3)) B 1 (some ⟨w.heap.size, 0, none⟩) l.length (I64 l) := by
  refine ⟨by rw [I64_length, Nat.mul_one], fun _ => ⟨_, rfl, hB, fun j u hu => ?_⟩⟩
  have h := (Blk.new w 3 (I64 l).toArray).cell j
  have hadd : (⟨w.heap.size, 0, none⟩ : Addr).add j = ⟨w.heap.size, j, none⟩ := by unfold Addr.add; split <;> simp_all
  rw [hadd, h]
  simpa using hu
theorem order_lit {rm ban : List Int} {l : List Nat} (hs : l.Pairwise (fun x y => ltR rm x y = true)) (hm : ∀ x, x < rm.length → (x ∈ l ↔ 0 < roomI rm x ∧ (x : Int) ∉ ban)) (hl : ∀ x ∈ l, x < rm.length) : orderL rm ban = l :=
  order_unique (orderL_sorted _ _) hs fun x => by
    rw [orderL_mem]
    constructor
    · rintro ⟨h1, h2⟩
      exact (hm x h1).2 h2
    · intro h
      exact ⟨hl x h, (hm x (hl x h)).1 h⟩
theorem order_a : orderL [1, 3, 3, 0, 2] [2] = [1, 4, 0] := by
  refine order_lit (by decide) (fun x hx => ?_) (by decide)
  match x, hx with
  | 0, _ => decide
  | 1, _ => decide
  | 2, _ => decide
  | 3, _ => decide
  | 4, _ => decide
theorem order_b : orderL [1, 0] [] = [0] := by
  refine order_lit (by decide) (fun x hx => ?_) (by decide)
  match x, hx with
  | 0, _ => decide
  | 1, _ => decide
theorem order_c : orderL [9, 1, 1] [0, 1] = [2] := by
  refine order_lit (by decide) (fun x hx => ?_) (by decide)
  match x, hx with
  | 0, _ => decide
  | 1, _ => decide
  | 2, _ => decide
theorem pick_a : pickB [1, 3, 3, 0, 2] 2 [2] = true ∧ pickL [1, 3, 3, 0, 2] 2 [2] = [1, 4] := by
  have h : pickB [1, 3, 3, 0, 2] 2 [2] = true := by unfold pickB; rw [order_a]; decide
  refine ⟨h, ?_⟩
  unfold pickL
  rw [h, order_a]
  rfl
theorem pick_b : pickB [1, 0] 2 [] = false ∧ pickL [1, 0] 2 [] = [] := by
  have h : pickB [1, 0] 2 [] = false := by unfold pickB; rw [order_b]; decide
  refine ⟨h, ?_⟩
  unfold pickL
  rw [h]
  rfl
section
variable {g1 g2 : GrV} (h1 : g1.ex = onL [0, 1]) (h2 : g2.ex = onL [0, 2])
include h1 h2
theorem safe_a : safeB [9, 1, 1] [g1, g2] 0 = true := by
  rw [← hall_safe]
  obtain ⟨a1, b1, A1, n1, c1, e1⟩ := g1
  obtain ⟨a2, b2, A2, n2, c2, e2⟩ := g2
  subst h1 h2
  rfl
theorem safe_b : safeB [9, 2, 0] [g1, g2] 0 = false := by
  rw [← hall_safe]
  obtain ⟨a1, b1, A1, n1, c1, e1⟩ := g1
  obtain ⟨a2, b2, A2, n2, c2, e2⟩ := g2
  subst h1 h2
  rfl
theorem move_a : moveV [9, 1, 1] [g1, g2] 0 = .tuple #[.int .i64 0, .int .i64 2, .bool true] := by
  have hm : moveD [9, 1, 1] g1 ([g1, g2].drop 1) 0 = some 2 := by
    unfold moveD
    have e : dks g1.ex = [0, 1] := by rw [h1]; rfl
    have hf : fitsB (decR [9, 1, 1] 2) (needyL [g2] 0) = true := by
      show safeB (decR [9, 1, 1] 2) [g2] 0 = true
      rw [← hall_safe]
      obtain ⟨a2, b2, A2, n2, c2, e2⟩ := g2
      subst h2
      rfl
    rw [e, order_c]
    show [2].find? (fun d => fitsB (decR [9, 1, 1] d) (needyL [g2] 0)) = some 2
    rw [List.find?_cons, hf]
  have h := moveV_first (rm := [9, 1, 1]) (L := [g1, g2]) (lost := 0) (k := 0) (g := g1) NoneYet.zero rfl (by rw [h1]; rfl)
  rw [h]
  show (match moveD [9, 1, 1] g1 ([g1, g2].drop 1) 0 with
    | none => noMove
    | some d => .tuple #[.int .i64 ((0 : Nat) : Int), .int .i64 (d : Int), .bool true]) = _
  rw [hm]
  rfl
theorem spare_a {m : Nat} (h : IsMx (inD 3 (allD [g1, g2])) m) : m = 2 := by
  have e : inD 3 (allD [g1, g2]) = [0, 1, 0, 2] := by
    unfold allD
    rw [List.flatMap_cons, List.flatMap_cons, List.flatMap_nil, h1, h2]
    rfl
  rw [e] at h
  refine IsMx.unique h ⟨fun d => ?_, .inr ⟨0, rfl⟩⟩
  by_cases d0 : d = 0
  · subst d0; decide
  by_cases d1 : d = 1
  · subst d1; decide
  by_cases d2 : d = 2
  · subst d2; decide
  rw [List.count_eq_zero_of_not_mem (by simp [d0, d1, d2])]
  omega
end
theorem grC_ints (g : GrV) : (grC g).toArray = #[.int .i64 g.id, .int .i64 g.kind, .slice g.A g.n g.c] := rfl
theorem two_reads (w : World) (g1 g2 : GrV) (B : Nat) (hB : w.heap.size < B) : Reads (w.alloc (.cells #[.int .i64 g1.id, .int .i64 g1.kind, .slice g1.A g1.n g1.c, .int .i64 g2.id, .int .i64 g2.kind, .slice g2.A g2.n g2.c] 36)) B 3 (some ⟨w.heap.size, 0, none⟩) 2 (grL [g1, g2]) := by
  refine ⟨rfl, fun _ => ⟨_, rfl, hB, fun j u hu => ?_⟩⟩
  have h := (Blk.new w 36 (grL [g1, g2]).toArray).cell j
  have hadd : (⟨w.heap.size, 0, none⟩ : Addr).add j = ⟨w.heap.size, j, none⟩ := by unfold Addr.add; split <;> simp_all
  rw [hadd]
  exact h.trans (by simpa using hu)
/-- Pick and Move of the small case, wherever its rows lie. -/
theorem pick_first (w : World) (B : Nat) (A1 A2 : Option Addr) (h1 : Reads w B 1 A1 5 (I64 [1, 3, 3, 0, 2])) (h2 : Reads w B 1 A2 1 (I64 [2])) (hB : B ≤ w.heap.size) :
    Calls Try.prog 11 #[.slice A1 5 5, .int .i64 2, .slice A2 1 1] w fun e w' => ∃ A c, e = .returned (.tuple #[.slice A 2 c, .bool true]) ∧ w'.ownsRow w.heap.size 3 1 (.slice A 2 c) 2 (I64 [1, 4]) ∧ Below w.heap.size w w' := by
  have h := pick_any A1 5 [1, 3, 3, 0, 2] 2 A2 1 1 [2] B w h1 h2 hB (by decide) (by decide) (by decide)
  rw [pick_a.1, pick_a.2] at h
  exact h
theorem pick_second (w : World) (B : Nat) (A1 : Option Addr) (h1 : Reads w B 1 A1 2 (I64 [1, 0])) (hB : B ≤ w.heap.size) :
    Calls Try.prog 11 #[.slice A1 2 2, .int .i64 2, .slice none 0 0] w fun e w' => ∃ A c, e = .returned (.tuple #[.slice A 0 c, .bool false]) ∧ Below w.heap.size w w' := by
  have h := pick_any A1 2 [1, 0] 2 none 0 0 [] B w h1 Reads.none_ hB (by decide) (by decide) (by decide)
  rw [pick_b.1, pick_b.2] at h
  exact h.mono fun _ _ ⟨A, c, h1, _, h2⟩ => ⟨A, c, h1, h2⟩
section
variable {g1 g2 : GrV} (e1 : g1.ex = onL [0, 1]) (e2 : g2.ex = onL [0, 2]) (n1 : g1.n = 2) (n2 : g2.n = 2)
include e1 e2 n1 n2
theorem both_few : ∀ g ∈ [g1, g2], g.n ≤ 1000000 := by
  intro g hg
  simp at hg
  rcases hg with rfl | rfl <;> omega
theorem move_first (w : World) (B : Nat) (A A1 : Option Addr) (h : GsIn w B A 2 2 [g1, g2]) (h1 : Reads w B 1 A1 3 (I64 [9, 1, 1])) (hB : B ≤ w.heap.size) :
    Calls Try.prog 22 #[.slice A 2 2, .slice A1 3 3, .int .i64 0] w fun e w' => e = .returned (.tuple #[.int .i64 0, .int .i64 2, .bool true]) ∧ Below w.heap.size w w' := by
  have h := move_any A 2 2 [g1, g2] A1 3 [9, 1, 1] 0 B w h h1 hB (by decide) (both_few e1 e2 n1 n2) (by decide) (by decide)
  rw [move_a e1 e2] at h
  exact h
theorem safe_first (w : World) (B : Nat) (A A1 : Option Addr) (h : GsIn w B A 2 2 [g1, g2]) (h1 : Reads w B 1 A1 3 (I64 [9, 1, 1])) (hB : B ≤ w.heap.size) :
    Calls Try.prog 16 #[.slice A 2 2, .slice A1 3 3, .int .i64 0] w fun e w' => e = .returned (.bool true) ∧ Below w.heap.size w w' := by
  have h := safe_any A 2 2 [g1, g2] A1 3 [9, 1, 1] 0 B w h h1 hB (by decide) (both_few e1 e2 n1 n2) (by decide)
  rw [safe_a e1 e2] at h
  exact h.mono fun _ _ ⟨h1, _, h2⟩ => ⟨h1, h2⟩
theorem safe_second (w : World) (B : Nat) (A A1 : Option Addr) (h : GsIn w B A 2 2 [g1, g2]) (h1 : Reads w B 1 A1 3 (I64 [9, 2, 0])) (hB : B ≤ w.heap.size) :
    Calls Try.prog 16 #[.slice A 2 2, .slice A1 3 3, .int .i64 0] w fun e w' => e = .returned (.bool false) ∧ Below w.heap.size w w' := by
  have h := safe_any A 2 2 [g1, g2] A1 3 [9, 2, 0] 0 B w h h1 hB (by decide) (both_few e1 e2 n1 n2) (by decide)
  rw [safe_b e1 e2] at h
  exact h.mono fun _ _ ⟨h1, _, h2⟩ => ⟨h1, h2⟩
theorem spare_first (w : World) (B : Nat) (A : Option Addr) (h : GsIn w B A 2 2 [g1, g2]) (hB : B ≤ w.heap.size) :
    Calls Try.prog 20 #[.slice A 2 2, .int .i64 3] w fun e w' => e = .returned (.int .i64 2) ∧ Below w.heap.size w w' := by
  have hall : (allD [g1, g2]).length ≤ 1000000 := by
    unfold allD
    rw [List.flatMap_cons, List.flatMap_cons, List.flatMap_nil, e1, e2]
    decide
  have h := spare_any A 2 2 [g1, g2] 3 B w h hB (by decide) (both_few e1 e2 n1 n2) hall (by decide)
  exact h.mono fun _ _ ⟨m, h1, h2, h3⟩ => ⟨by rw [h1, spare_a e1 e2 h2]; rfl, h3⟩
end
set_option maxRecDepth 100000 in
set_option maxHeartbeats 4000000 in
theorem shown_any (w : World) : Calls Try.prog 10 #[] w fun e w' => e = .returned (.bool true) ∧ Below w.heap.size w w' := by
  go_enter Try.func10, Try.ntmps10
  go_wp2_with fail
  obtain ⟨w1, hw1⟩ : ∃ x, x = (w.alloc (.cells #[.int .i64 1, .int .i64 3, .int .i64 3, .int .i64 0, .int .i64 2] 3)).alloc (.cells #[.int .i64 2] 3) := ⟨_, rfl⟩
  have hz1 : w1.heap.size = w.heap.size + 2 := by rw [hw1, World.size_alloc, World.size_alloc]
  have hl1 : Below w.heap.size w w1 := by rw [hw1]; exact ((Below.refl _ _).alloc (Nat.le_refl _) _).alloc (by rw [World.size_alloc]; omega) _
  have hr1 : Reads w1 w1.heap.size 1 (some ⟨w.heap.size, 0, none⟩) 5 (I64 [1, 3, 3, 0, 2]) := by
    have h := ((lit_reads w [1, 3, 3, 0, 2] (w.heap.size + 1) (by omega)).alloc (by rw [World.size_alloc]; omega) (.cells #[.int .i64 2] 3)).more (B' := w1.heap.size) (by omega)
    rw [hw1] at h ⊢
    exact h
  have hr2 : Reads w1 w1.heap.size 1 (some ⟨w.heap.size + 1, 0, none⟩) 1 (I64 [2]) := by
    have h := lit_reads (w.alloc (.cells #[.int .i64 1, .int .i64 3, .int .i64 3, .int .i64 0, .int .i64 2] 3)) [2] (w.heap.size + 2) (by rw [World.size_alloc]; omega)
    rw [World.size_alloc] at h
    rw [hz1, hw1]
    exact h
  rw [← hw1]
  clear hw1
  refine (pick_first w1 w1.heap.size _ _ hr1 hr2 (Nat.le_refl _)).mono ?_
  rintro _ w2 ⟨AL, cL, rfl, hown2, hl2⟩
  have HOWN2 := hide hown2
  have HL2 := hide (hl1.trans (hl2.mono (by omega)))
  clear hr1 hr2 hown2 hl1 hl2 hz1
  go_wp2_with fail
  obtain ⟨w3, hw3⟩ : ∃ x, x = w2.alloc (.cells #[.int .i64 1, .int .i64 0] 3) := ⟨_, rfl⟩
  have hl3 : Below w2.heap.size w2 w3 := by rw [hw3]; exact (Below.refl _ _).alloc (Nat.le_refl _) _
  have hr3 : Reads w3 w3.heap.size 1 (some ⟨w2.heap.size, 0, none⟩) 2 (I64 [1, 0]) := by
    rw [hw3, World.size_alloc]
    exact lit_reads w2 [1, 0] (w2.heap.size + 1) (by omega)
  rw [← hw3]
  clear hw3
  refine (pick_second w3 w3.heap.size _ hr3 (Nat.le_refl _)).mono ?_
  rintro _ w4 ⟨AM, cM, rfl, hl4⟩
  have hl24 := hl3.trans (hl4.mono hl3.size)
  have HOWN4 := hide (own_later HOWN2.out hl24)
  have HL4 := hide (HL2.out.trans (hl24.mono HL2.out.size))
  clear hl3 hl4 hl24 hr3
  go_wp2_with fail
  obtain ⟨w5, hw5⟩ : ∃ x, x = w4.alloc (.cells #[.int .i64 0, .int .i64 1] 3) := ⟨_, rfl⟩
  have hl5 : Below w4.heap.size w4 w5 := by rw [hw5]; exact (Below.refl _ _).alloc (Nat.le_refl _) _
  have hr5 : Reads w5 w5.heap.size 1 (some ⟨w4.heap.size, 0, none⟩) 2 (I64 [0, 1]) := by
    rw [hw5, World.size_alloc]
    exact lit_reads w4 [0, 1] (w4.heap.size + 1) (by omega)
  rw [← hw5]
  clear hw5
  refine (on_any _ 2 2 [0, 1] w5.heap.size w5 hr5 (Nat.le_refl _) (by decide)).mono ?_
  rintro _ w6 ⟨g1, rfl, e1, n1, hx1, hl6⟩
  have hl46 := hl5.trans (hl6.mono hl5.size)
  have HOWN6 := hide (own_later HOWN4.out hl46)
  have HL6 := hide (HL4.out.trans (hl46.mono HL4.out.size))
  have HX1 := hide hx1
  have HE1 := hide e1
  have HN1 := hide n1
  clear hl5 hl6 hl46 hr5 hx1 e1 n1
  go_wp2_with fail
  obtain ⟨w7, hw7⟩ : ∃ x, x = w6.alloc (.cells #[.int .i64 0, .int .i64 2] 3) := ⟨_, rfl⟩
  have hl7 : Below w6.heap.size w6 w7 := by rw [hw7]; exact (Below.refl _ _).alloc (Nat.le_refl _) _
  have hr7 : Reads w7 w7.heap.size 1 (some ⟨w6.heap.size, 0, none⟩) 2 (I64 [0, 2]) := by
    rw [hw7, World.size_alloc]
    exact lit_reads w6 [0, 2] (w6.heap.size + 1) (by omega)
  rw [← hw7]
  clear hw7
  refine (on_any _ 2 2 [0, 2] w7.heap.size w7 hr7 (Nat.le_refl _) (by decide)).mono ?_
  rintro _ w8 ⟨g2, rfl, e2, n2, hx2, hl8⟩
  have hl68 := hl7.trans (hl8.mono hl7.size)
  have HOWN8 := hide (own_later HOWN6.out hl68)
  have HL8 := hide (HL6.out.trans (hl68.mono HL6.out.size))
  have HX18 := hide (ExOwn.later HX1.out hl68)
  have HX2 := hide hx2
  have HE2 := hide e2
  have HN2 := hide n2
  rw [grC_ints, grC_ints]
  clear hl7 hl8 hl68 hr7 hx2 e2 n2
  go_wp2_with fail
  obtain ⟨wa, hwa⟩ : ∃ x, x = w8.alloc (.cells #[.int .i64 g1.id, .int .i64 g1.kind, .slice g1.A g1.n g1.c, .int .i64 g2.id, .int .i64 g2.kind, .slice g2.A g2.n g2.c] 36) := ⟨_, rfl⟩
  have hza : wa.heap.size = w8.heap.size + 1 := by rw [hwa, World.size_alloc]
  have hla : Below w8.heap.size w8 wa := by rw [hwa]; exact (Below.refl _ _).alloc (Nat.le_refl _) _
  have hga : GsIn wa wa.heap.size (some ⟨w8.heap.size, 0, none⟩) 2 2 [g1, g2] := by
    refine ⟨?_, by decide, by decide, fun g hg => ?_⟩
    · rw [hza, hwa]
      exact two_reads w8 g1 g2 (w8.heap.size + 1) (by omega)
    · simp at hg
      rcases hg with rfl | rfl
      · exact ExOwn.in_ (ExOwn.later HX18.out hla)
      · exact ExOwn.in_ (ExOwn.later HX2.out hla)
  have HGA := hide hga
  obtain ⟨w9, hw9⟩ : ∃ x, x = wa.alloc (.cells #[.int .i64 9, .int .i64 1, .int .i64 1] 3) := ⟨_, rfl⟩
  have hl9 : Below wa.heap.size wa w9 := by rw [hw9]; exact (Below.refl _ _).alloc (Nat.le_refl _) _
  have hr9 : Reads w9 w9.heap.size 1 (some ⟨wa.heap.size, 0, none⟩) 3 (I64 [9, 1, 1]) := by
    rw [hw9, World.size_alloc]
    exact lit_reads wa [9, 1, 1] (wa.heap.size + 1) (by omega)
  rw [← hwa, ← hza, ← hw9]
  have HLA := hide hla
  clear hwa hw9 hga hla
  refine (move_first HE1.out HE2.out HN1.out HN2.out w9 w9.heap.size _ _ (HGA.out.later hl9) hr9 (Nat.le_refl _)).mono ?_
  rintro _ w10 ⟨rfl, hl10⟩
  have hla10 := hl9.trans (hl10.mono hl9.size)
  have HGA10 := hide (HGA.out.later hla10)
  have HL10 := hide ((HL8.out.trans (HLA.out.mono HL8.out.size)).trans (hla10.mono (Nat.le_trans HL8.out.size HLA.out.size)))
  have hown10 := own_later (own_later HOWN8.out HLA.out) hla10
  obtain ⟨gL, cL2, hvL, _, hgl⟩ := hown10.form (by decide)
  injection hvL with hvA _ hvC
  subst hvA hvC
  have c0 := own_cell hown10 (i := 0) (x := 1) rfl
  have c1 := own_cell hown10 (i := 1) (x := 4) rfl
  clear hl9 hl10 hla10 hr9 hown10 hza
  go_wp2_with fail
  obtain ⟨w11, hw11⟩ : ∃ x, x = w10.alloc (.cells #[.int .i64 9, .int .i64 1, .int .i64 1] 3) := ⟨_, rfl⟩
  have hl11 : Below w10.heap.size w10 w11 := by rw [hw11]; exact (Below.refl _ _).alloc (Nat.le_refl _) _
  have hr11 : Reads w11 w11.heap.size 1 (some ⟨w10.heap.size, 0, none⟩) 3 (I64 [9, 1, 1]) := by
    rw [hw11, World.size_alloc]
    exact lit_reads w10 [9, 1, 1] (w10.heap.size + 1) (by omega)
  rw [← hw11]
  clear hw11
  refine (safe_first HE1.out HE2.out HN1.out HN2.out w11 w11.heap.size _ _ (HGA10.out.later hl11) hr11 (Nat.le_refl _)).mono ?_
  rintro _ w12 ⟨rfl, hl12⟩
  have hl1012 := hl11.trans (hl12.mono hl11.size)
  have HGA12 := hide (HGA10.out.later hl1012)
  have HL12 := hide (HL10.out.trans (hl1012.mono HL10.out.size))
  clear hl11 hl12 hl1012 hr11 c0 c1
  go_wp2_with fail
  obtain ⟨w13, hw13⟩ : ∃ x, x = w12.alloc (.cells #[.int .i64 9, .int .i64 2, .int .i64 0] 3) := ⟨_, rfl⟩
  have hl13 : Below w12.heap.size w12 w13 := by rw [hw13]; exact (Below.refl _ _).alloc (Nat.le_refl _) _
  have hr13 : Reads w13 w13.heap.size 1 (some ⟨w12.heap.size, 0, none⟩) 3 (I64 [9, 2, 0]) := by
    rw [hw13, World.size_alloc]
    exact lit_reads w12 [9, 2, 0] (w12.heap.size + 1) (by omega)
  rw [← hw13]
  clear hw13
  refine (safe_second HE1.out HE2.out HN1.out HN2.out w13 w13.heap.size _ _ (HGA12.out.later hl13) hr13 (Nat.le_refl _)).mono ?_
  rintro _ w14 ⟨rfl, hl14⟩
  have hl1214 := hl13.trans (hl14.mono hl13.size)
  have HGA14 := hide (HGA12.out.later hl1214)
  have HL14 := hide (HL12.out.trans (hl1214.mono HL12.out.size))
  clear hl13 hl14 hl1214 hr13
  go_wp2_with fail
  refine (spare_first HE1.out HE2.out HN1.out HN2.out w14 w14.heap.size _ HGA14.out (Nat.le_refl _)).mono ?_
  rintro _ w15 ⟨rfl, hl15⟩
  go_wp2
  go_ret
  exact ⟨rfl, HL14.out.trans (hl15.mono HL14.out.size)⟩
#print axioms shown_any
end Go.Proofs.Ytmaiikmgpeafkaa
