/- The reference's Has, in, most. -/
import Derived.Test.YtmaiikmgpeafkaaGrpQ
import Derived.Test.YtmaiikmgpeafkaaGrpM
import Derived.BigQuiet
namespace Go.Proofs.Ytmaiikmgpeafkaa
open Go.RowKit

theorem any_yes {α : Type} {p : α → Bool} {l : List α} {k : Nat} {x : α} (hx : l[k]? = some x) (hp : p x = true) : l.any p = true := List.any_eq_true.2 ⟨x, List.mem_of_getElem? hx, hp⟩
theorem any_no {α : Type} {p : α → Bool} {l : List α} (h : NoneYet p l l.length) : l.any p = false := by
  rw [List.any_eq_false]
  intro y hy
  obtain ⟨i, hi⟩ := List.getElem?_of_mem hy
  rw [h i y (List.getElem?_eq_some_iff.1 hi).1 hi]
  decide
theorem refHas_any (g : GrV) (d : Int) (B0 : Nat) (w : World) (hg : GrIn w B0 g) (hB0 : B0 ≤ w.heap.size) :
    Calls Try.prog 24 #[.agg (grC g).toArray, .int .i64 d] w fun e w' => e = .returned (.bool (hasB g.ex d)) ∧ Below w.heap.size w w' := by
  have HG := hide hg
  have HL := hide (ExIn.len hg)
  have hcap := hg.2
  unfold hasB
  clear hg
  go_enter Try.func24, Try.ntmps24
  go_wp2_with (first
    | (refine wpList_box_blk rfl 36 (.tmp 0) rfl (.agg (grC g).toArray) rfl ?_; intro w1 hb1q hl1 hs1; have hz1 : w.heap.size < w1.heap.size := (by omega); clear hs1; have hb1 : Blk w1 w.heap.size 36 (grC g).toArray := hb1q; clear hb1q))
  have x2 : w1.cell? ⟨w.heap.size, 2, none⟩ = some (.slice g.A g.n g.c) := hb1.cell 2
  clear hb1
  go_loopw [5] (fun i wr => ∃ k : Nat, k ≤ g.n ∧ i = .int .i64 k ∧ Hid (NoneYet (fun x : Ex => x.1 == d) g.ex k) ∧ wr = w1) (fun i _ => g.n - (intOf i).toNat)
  case atStart => exact ⟨0, Nat.zero_le _, rfl, hide NoneYet.zero, rfl⟩
  case round =>
    obtain ⟨k, hk, rfl, HN, rfl⟩ := hrel
    by_cases hkn : k < g.n
    · obtain ⟨ae, x, hA, hae, hx, hce⟩ := ExIn.at_ (HG.out.below (hl1.mono hB0)) hkn
      have c0 : wr.cell? (ae.add (k * 2)) = some (.int .i64 x.1) := by
        have := hce 0 _ rfl
        rwa [add_of_add, Nat.add_zero] at this
      have HX := hide hx
      rw [hA] at x2
      obtain ⟨y, hy⟩ : ∃ y, y = x.1 := ⟨_, rfl⟩
      rw [← hy] at c0
      have HY := hide hy
      clear hx hce hae hy
      by_cases he : y = d
      · have HR := hide (any_yes (p := fun x : Ex => x.1 == d) HX.out (by rw [← HY.out]; simpa using he))
        have hne : (y == d) = true := by simpa using he
        clear he
        go_wp2
        go_ret
        exact ⟨ret_bool HR.out.symm, hl1⟩
      · have HN2 := hide (HN.out.succ HX.out (by show (x.1 == d) = false; rw [← HY.out]; simpa using he))
        have hne : (y == d) = false := by simpa using he
        go_wp2
        go_roundw
        case rel => exact ⟨k + 1, by omega, by go_num, HN2, trivial⟩
        case measure => simp [intOf]; omega
    · obtain rfl : k = g.n := by omega
      have HR := hide (any_no (p := fun x : Ex => x.1 == d) (by rw [HL.out]; exact HN.out))
      go_wp2
      go_ret
      exact ⟨ret_bool HR.out.symm, hl1⟩
theorem refIn_any (A : Option Addr) (n c : Nat) (l : List Int) (d : Int) (B0 : Nat) (w : World) (hr : Reads w B0 1 A n (I64 l)) (hn : n ≤ maxLen) :
    Calls Try.prog 44 #[.slice A n c, .int .i64 d] w fun e w' => e = .returned (.bool (l.contains d)) ∧ w = w' := by
  have HG := hide hr
  have hll : l.length = n := by have := hr.1; rw [I64_length] at this; omega
  have HL := hide hll
  have hcm : l.contains d = l.any (fun x => x == d) := by
    rw [List.contains_eq_any_beq]
    congr 1
    funext x
    rw [Bool.eq_iff_iff]
    simp only [beq_iff_eq]
    exact eq_comm
  rw [hcm]
  simp only [maxLen] at hn
  clear hr hll hcm
  go_enter Try.func44, Try.ntmps44
  go_wp2
  go_loopw [5] (fun i wr => ∃ k : Nat, k ≤ n ∧ i = .int .i64 k ∧ Hid (NoneYet (fun x : Int => x == d) l k) ∧ wr = w) (fun i _ => n - (intOf i).toNat)
  case atStart => exact ⟨0, Nat.zero_le _, rfl, hide NoneYet.zero, rfl⟩
  case round =>
    obtain ⟨k, hk, rfl, HN, rfl⟩ := hrel
    by_cases hkn : k < n
    · obtain ⟨ad, y, rfl, _, hx, hcx⟩ := HG.out.i64_at hkn
      have HX := hide hx
      clear hx
      by_cases he : y = d
      · have HR := hide (any_yes (p := fun x : Int => x == d) HX.out (by simpa using he))
        have hne : (y == d) = true := by simpa using he
        clear he
        go_wp2
        go_ret
        exact ⟨ret_bool HR.out.symm, rfl⟩
      · have HN2 := hide (HN.out.succ HX.out (by simpa using he))
        have hne : (y == d) = false := by simpa using he
        go_wp2
        go_roundw
        case rel => exact ⟨k + 1, by omega, by go_num, HN2, trivial⟩
        case measure => simp [intOf]; omega
    · obtain rfl : k = n := by omega
      have HR := hide (any_no (p := fun x : Int => x == d) (by rw [HL.out]; exact HN.out))
      go_wp2
      go_ret
      exact ⟨ret_bool HR.out.symm, rfl⟩
/-! ### most -/
def mostI (rm ban : List Int) : Int := match orderL rm ban with
  | [] => -1
  | d :: _ => (d : Int)
/-- The best one of the first k. -/
def Best (rm ban : List Int) (k : Nat) (b : Int) : Prop := (b = -1 ∧ ∀ e, e < k → mayB rm ban e = false) ∨ ∃ d : Nat, b = (d : Int) ∧ d < k ∧ mayB rm ban d = true ∧ ∀ e, e < k → mayB rm ban e = true → e ≠ d → ltR rm d e = true
theorem Best.zero (rm ban : List Int) : Best rm ban 0 (-1) := .inl ⟨rfl, fun e h => by omega⟩
theorem Best.less {rm ban : List Int} {k : Nat} {b : Int} (h : Best rm ban k b) (hk : mayB rm ban k = false) : Best rm ban (k + 1) b := by
  rcases h with ⟨h1, h2⟩ | ⟨d, h1, h2, h3, h4⟩
  · exact .inl ⟨h1, fun e he => by
      by_cases e2 : e = k
      · rw [e2]; exact hk
      · exact h2 e (by omega)⟩
  · exact .inr ⟨d, h1, by omega, h3, fun e he hm hne => by
      by_cases e2 : e = k
      · rw [e2, hk] at hm; cases hm
      · exact h4 e (by omega) hm hne⟩
theorem Best.first {rm ban : List Int} {k : Nat} (h : Best rm ban k (-1)) (hk : mayB rm ban k = true) : Best rm ban (k + 1) (k : Int) := by
  rcases h with ⟨h1, h2⟩ | ⟨d, h1, h2, h3, h4⟩
  · exact .inr ⟨k, rfl, by omega, hk, fun e he hm hne => by
      rw [h2 e (by omega)] at hm; cases hm⟩
  · omega
theorem Best.keep {rm ban : List Int} {k d : Nat} (h : Best rm ban k (d : Int)) (hd : ¬ roomI rm d < roomI rm k) : Best rm ban (k + 1) (d : Int) := by
  rcases h with ⟨h1, h2⟩ | ⟨d', h1, h2, h3, h4⟩
  · omega
  · have : d = d' := by omega
    subst this
    exact .inr ⟨d, rfl, by omega, h3, fun e he hm hne => by
      by_cases e2 : e = k
      · subst e2; rw [ltR_iff]; omega
      · exact h4 e (by omega) hm hne⟩
theorem Best.turn {rm ban : List Int} {k d : Nat} (h : Best rm ban k (d : Int)) (hk : mayB rm ban k = true) (hd : roomI rm d < roomI rm k) : Best rm ban (k + 1) (k : Int) := by
  rcases h with ⟨h1, h2⟩ | ⟨d', h1, h2, h3, h4⟩
  · omega
  · have : d = d' := by omega
    subst this
    refine .inr ⟨k, rfl, by omega, hk, fun e he hm hne => ?_⟩
    have hlt : ltR rm k d = true := by rw [ltR_iff]; omega
    by_cases e2 : e = d
    · subst e2; exact hlt
    · exact ltR_trans hlt (h4 e (by omega) hm e2)
theorem Best.lt {rm ban : List Int} {k d : Nat} (h : Best rm ban k (d : Int)) : d < k := by
  rcases h with ⟨h1, _⟩ | ⟨d', h1, h2, _⟩ <;> omega
theorem Best.ge {rm ban : List Int} {k : Nat} {b : Int} (h : Best rm ban k b) : b = -1 ∨ ∃ d : Nat, b = (d : Int) := by
  rcases h with ⟨h1, _⟩ | ⟨d', h1, _⟩
  · exact .inl h1
  · exact .inr ⟨d', h1⟩
theorem Best.most {rm ban : List Int} {b : Int} (h : Best rm ban rm.length b) : b = mostI rm ban := by
  unfold mostI
  cases ho : orderL rm ban with
  | nil =>
    rcases h with ⟨h1, _⟩ | ⟨d, _, h2, h3, _⟩
    · exact h1
    · have : d ∈ orderL rm ban := orderL_mem.2 ⟨h2, mayB_iff.1 h3⟩
      rw [ho] at this
      cases this
  | cons x t =>
    have hx : x ∈ orderL rm ban := by rw [ho]; exact List.mem_cons_self ..
    obtain ⟨a1, a2⟩ := orderL_mem.1 hx
    rcases h with ⟨_, h2⟩ | ⟨d, h1, h2, h3, h4⟩
    · have := h2 x a1
      rw [mayB_iff.2 a2] at this
      cases this
    · rw [h1]
      have hd : d ∈ orderL rm ban := orderL_mem.2 ⟨h2, mayB_iff.1 h3⟩
      by_cases e : x = d
      · rw [e]
      · have k1 := h4 x a1 (mayB_iff.2 a2) e
        have hs := orderL_sorted rm ban
        rw [ho] at hs hd
        rcases List.mem_cons.1 hd with e2 | e2
        · exact absurd e2.symm e
        · have := ltR_trans k1 ((List.pairwise_cons.1 hs).1 d e2)
          rw [ltR_irrefl] at this
          cases this
set_option maxRecDepth 100000 in
set_option maxHeartbeats 1000000 in
theorem refMost_any (AR : Option Addr) (cR : Nat) (rm : List Int) (AB : Option Addr) (nB cB : Nat) (ban : List Int) (B0 B1 : Nat) (w : World) (hr : Reads w B0 1 AR rm.length (I64 rm)) (hb : Reads w B1 1 AB nB (I64 ban)) (hn : rm.length ≤ 1000000) (hnB : nB ≤ maxLen) :
    Calls Try.prog 27 #[.slice AR rm.length cR, .slice AB nB cB] w fun e w' => e = .returned (.int .i64 (mostI rm ban)) ∧ ∃ q, w' = w.drewN q := by
  have HR := hide hr
  have HIN := hide (fun (W : World) (q : Nat) (hW : W = w.drewN q) (d : Int) => refIn_any AB nB cB ban d B1 W (by rw [hW]; exact hb.drewN q) hnB)
  clear hr hb
  go_enter Try.func27, Try.ntmps27
  go_wp2
  go_loopw [5, 6] (fun s5 i wr => ∃ (k : Nat) (b : Int), k ≤ rm.length ∧ i = .int .i64 k ∧ s5 = .int .i64 b ∧ Hid (Best rm ban k b) ∧ Hid (∃ q, wr = w.drewN q)) (fun _ i _ => rm.length - (intOf i).toNat)
  case atStart => exact ⟨0, -1, Nat.zero_le _, rfl, rfl, hide (Best.zero _ _), hide ⟨0, rfl⟩⟩
  case round =>
    obtain ⟨k, b, hk, rfl, rfl, HB, HW⟩ := hrel
    by_cases hkn : k < rm.length
    · obtain ⟨qw, hqw⟩ := HW.out
      obtain ⟨ad, v, rfl, _, hv, hcv⟩ := HR.out.i64_at hkn
      have hcv2 : wr.cell? (ad.add k) = some (.int .i64 v) := by rw [hqw]; exact hcv
      have hin := HIN.out wr qw hqw (k : Int)
      have hri := roomI_at hv
      have HRI := hide hri
      have HQW := hide hqw
      obtain ⟨o, ho⟩ : ∃ o, o = ban.contains (k : Int) := ⟨_, rfl⟩
      rw [← ho] at hin
      have HI := hide hin
      have HO := hide ho
      clear hin hv hri hqw hcv ho
      by_cases h0 : 0 < v
      · have g0 : decide (0 < v) = true := by simpa using h0
        cases o with
        | true =>
          have HB2 := hide (HB.out.less (by unfold mayB; rw [← HO.out]; simp))
          go_wp2_with (first | (go_at_call 44; refine HI.out.mono ?_; rintro _ _ ⟨rfl, rfl⟩))
          go_quiet (fail)
          go_wp2
          have HW2 : Hid (∃ q, wr.drewN nq = w.drewN q) := hide ⟨qw + nq, by rw [HQW.out]; simp [World.drewN, Nat.add_assoc]⟩
          go_roundw
          case rel => exact ⟨k + 1, b, by omega, by go_num, rfl, HB2, HW2⟩
          case measure => simp [intOf]; omega
        | false =>
          have hmay : mayB rm ban k = true := by
            rw [mayB_iff, HRI.out]
            refine ⟨h0, fun hm => ?_⟩
            have := HO.out
            rw [List.contains_iff_mem.2 hm] at this
            cases this
          rcases HB.out.ge with rfl | ⟨d, rfl⟩
          · have HB2 := hide (HB.out.first hmay)
            go_wp2_with (first | (go_at_call 44; refine HI.out.mono ?_; rintro _ _ ⟨rfl, rfl⟩))
            go_quiet (fail)
            go_wp2
            have HW2 : Hid (∃ q, wr.drewN nq = w.drewN q) := hide ⟨qw + nq, by rw [HQW.out]; simp [World.drewN, Nat.add_assoc]⟩
            go_roundw
            case rel => exact ⟨k + 1, (k : Int), by omega, by go_num, rfl, HB2, HW2⟩
            case measure => simp [intOf]; omega
          · have hdk := HB.out.lt
            obtain ⟨ad', u, hA, _, hu, hcu⟩ := HR.out.i64_at (k := d) (by omega)
            injection hA with hA
            subst hA
            have hcu2 : wr.cell? (ad.add d) = some (.int .i64 u) := by rw [HQW.out]; exact hcu
            have hru := roomI_at hu
            have g1 : decide ((d : Int) < 0) = false := by simp
            have hdn : (d : Int) < (rm.length : Int) := by omega
            have hd0 : (0 : Int) ≤ (d : Int) := by omega
            by_cases hgt : u < v
            · have HB2 := hide (HB.out.turn hmay (by rw [hru, HRI.out]; exact hgt))
              have g2 : decide (u < v) = true := by simpa using hgt
              clear hmay hu hcu hru
              go_wp2_with (first | (go_at_call 44; refine HI.out.mono ?_; rintro _ _ ⟨rfl, rfl⟩))
              go_quiet (fail)
              go_wp2
              have HW2 : Hid (∃ q, wr.drewN nq = w.drewN q) := hide ⟨qw + nq, by rw [HQW.out]; simp [World.drewN, Nat.add_assoc]⟩
              go_roundw
              case rel => exact ⟨k + 1, (k : Int), by omega, by go_num, rfl, HB2, HW2⟩
              case measure => simp [intOf]; omega
            · have HB2 := hide (HB.out.keep (by rw [hru, HRI.out]; exact hgt))
              have g2 : decide (u < v) = false := by simpa using hgt
              clear hmay hu hcu hru
              go_wp2_with (first | (go_at_call 44; refine HI.out.mono ?_; rintro _ _ ⟨rfl, rfl⟩))
              go_quiet (fail)
              go_wp2
              have HW2 : Hid (∃ q, wr.drewN nq = w.drewN q) := hide ⟨qw + nq, by rw [HQW.out]; simp [World.drewN, Nat.add_assoc]⟩
              go_roundw
              case rel => exact ⟨k + 1, (d : Int), by omega, by go_num, rfl, HB2, HW2⟩
              case measure => simp [intOf]; omega
      · have HB2 := hide (HB.out.less (by unfold mayB; rw [HRI.out]; simp [h0]))
        have g0 : decide (0 < v) = false := by simpa using h0
        go_wp2_with (first | (go_at_call 44; refine HI.out.mono ?_; rintro _ _ ⟨rfl, rfl⟩))
        go_quiet (fail)
        go_wp2
        have HW2 : Hid (∃ q, wr.drewN nq = w.drewN q) := hide ⟨qw + nq, by rw [HQW.out]; simp [World.drewN, Nat.add_assoc]⟩
        go_roundw
        case rel => exact ⟨k + 1, b, by omega, by go_num, rfl, HB2, HW2⟩
        case measure => simp [intOf]; omega
    · obtain rfl : k = rm.length := by omega
      have HM := hide HB.out.most
      go_wp2
      go_ret
      exact ⟨ret_of HM.out, HW.out⟩
#print axioms Best.most
#print axioms refIn_any
end Go.Proofs.Ytmaiikmgpeafkaa
