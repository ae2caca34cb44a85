/- What must be in any case (law 16's shown). -/
import Derived.Test.YthodmhjlokfcaaaRcS
namespace Go.Proofs.Ythodmhjlokfcaaa
open Go.RowKit Go.Maps
set_option linter.unusedVariables false
theorem okS {b : Int} (h1 : -9223372036854775808 ≤ b) (h2 : b ≤ 9223372036854775807) : okI64 b := by unfold okI64; omega
theorem run_eql_rc (w : World) (g : Nat) : (binOp .eql 24 (.pointer (some ⟨g, 0, none⟩)) (.pointer none)).run Try.prog w = .ok (.bool false) w := by kernel_rfl
theorem Sta.nums {w0 W : World} {Hs : List Thing} {U : VarsT} {A : Option Addr} {n c : Nat} {x : Int} {l : List Int} (h : Sta w0 W Hs U) (i : Nat) (e : Hs[i]? = some (ilT (.slice A n c) (x :: l))) : ∃ g, A = some ⟨g, 0, none⟩ ∧ ∀ (k : Nat) (y : Int), (x :: l)[k]? = some y → W.cell? ⟨g, k, none⟩ = some (.int .i64 y) := by
  obtain ⟨g, rfl, _, _⟩ := h.num i e (k := 0) (x := x) rfl
  refine ⟨g, rfl, fun k y hk => ?_⟩
  obtain ⟨g', hg, _, hc⟩ := h.num i e hk
  injection hg with hg
  injection hg with hg
  subst hg
  exact hc
set_option maxRecDepth 100000 in
set_option maxHeartbeats 8000000 in
theorem shown16_any (w : World) : Calls Try.prog 8 #[] w fun e w' => e = .returned (.bool true) ∧ Below w.heap.size w w' := by
  have HS_w : Hid (Sta w w [] []) := hide (Sta.begin w)
  have E1 := hide (show tch 1 [] = [1] by rfl)
  have E2 := hide (show tch 2 [1] = [1, 2] by rfl)
  have E3 := hide (show tch 3 [1, 2] = [1, 2, 3] by rfl)
  have E4 := hide (show tch 1 [1, 2, 3] = [2, 3, 1] by rfl)
  have E5 := hide (show wo 3 [2, 3, 1] = [2, 1] by rfl)
  have E6 := hide (show wo 3 [2, 1] = [2, 1] by rfl)
  have D1 := hide (show decide ((3 : Int) ∈ ([2, 3, 1] : List Int)) = true by decide)
  have D2 := hide (show decide ((3 : Int) ∈ ([2, 1] : List Int)) = false by decide)
  have D3 := hide (show decide ((1 : Int) ∈ ([2, 1] : List Int)) = true by decide)
  have OK := hide (show okI64 1 ∧ okI64 2 ∧ okI64 3 by unfold okI64; omega)
  have heq := run_eql_rc
  go_enter Try.func8, Try.ntmps8
  go_upto_region 4 with (first
    | (go_at_call 9; refine (HS_w.out.mk_).mono ?_; rintro _ y1 ⟨m, rfl, hsq⟩; have HS_y1 : Hid (Sta w y1 [rcT m []] []) := hide hsq; clear hsq))
  go_upto_region 5 with (first
    | (go_at_call 20; refine (HS_y1.out.touch_ 0 rfl 1 OK.out.1 (by simp)).mono ?_; rintro _ y2 ⟨rfl, hsq⟩; rw [E1.out] at hsq; have HS_y2 : Hid (Sta w y2 [rcT m [1]] []) := hide hsq; clear hsq))
  go_upto_region 6 with (first
    | (go_at_call 20; refine (HS_y2.out.touch_ 0 rfl 2 OK.out.2.1 (by simp)).mono ?_; rintro _ y3 ⟨rfl, hsq⟩; rw [E2.out] at hsq; have HS_y3 : Hid (Sta w y3 [rcT m [1, 2]] []) := hide hsq; clear hsq))
  go_upto_region 7 with (first
    | (go_at_call 20; refine (HS_y3.out.touch_ 0 rfl 3 OK.out.2.2 (by simp)).mono ?_; rintro _ y4 ⟨rfl, hsq⟩; rw [E3.out] at hsq; have HS_y4 : Hid (Sta w y4 [rcT m [1, 2, 3]] []) := hide hsq; clear hsq))
  go_upto_region 8 with (first
    | (go_at_call 20; refine (HS_y4.out.touch_ 0 rfl 1 OK.out.1 (by simp)).mono ?_; rintro _ y5 ⟨rfl, hsq⟩; rw [E4.out] at hsq; have HS_y5 : Hid (Sta w y5 [rcT m [2, 3, 1]] []) := hide hsq; clear hsq))
  go_upto_region 9 with (first
    | (go_at_call 23; refine (HS_y5.out.all_ 0 rfl (by simp)).mono ?_; rintro _ y6 ⟨A1, c1, rfl, hnA1, hcA1, hsq⟩; have HS_y6 : Hid (Sta w y6 [rcT m [2, 3, 1], ilT (.slice A1 3 c1) [2, 3, 1]] []) := hide hsq; clear hsq))
  go_upto_region 10 with (first
    | (go_at_call 15; refine (HS_y6.out.oldest_ 0 rfl (by simp) 1 [2] rfl).mono ?_; rintro _ y7 ⟨A2, c2, rfl, hnA2, hcA2, hsq⟩; have HS_y7 : Hid (Sta w y7 [rcT m [2, 3, 1], ilT (.slice A1 3 c1) [2, 3, 1], ilT (.slice A2 1 c2) [2]] []) := hide hsq; clear hsq))
  obtain ⟨g1, rfl, hx1⟩ := HS_y7.out.nums 1 rfl
  obtain ⟨g2, rfl, hx2⟩ := HS_y7.out.nums 2 rfl
  have x0 := hx1 0 2 rfl
  have x1 := hx1 1 3 rfl
  have x2 := hx1 2 1 rfl
  have x3 := hx2 0 2 rfl
  clear hx1 hx2
  go_wp2_with (first
    | (go_at_call 13; with_reducible refine HA3.out.mono ?_; rintro _ _ ⟨rfl, rfl⟩)
    | (go_at_call 13; with_reducible refine HA1.out.mono ?_; rintro _ _ ⟨rfl, rfl⟩)
    | (go_at_call 22; refine (HS_y9.out.len_ 0 rfl).mono ?_; rintro _ _ ⟨rfl, rfl⟩)
    | (go_at_call 11; refine (HS_y8.out.drop_ 0 rfl 3 OK.out.2.2).mono ?_; rintro _ y9 ⟨rfl, hsq⟩; rw [D2.out]; rw [E6.out] at hsq; have HS_y9 : Hid (Sta w y9 [rcT m [2, 1], ilT (.slice (some ⟨g1, 0, none⟩) 3 c1) [2, 3, 1], ilT (.slice (some ⟨g2, 0, none⟩) 1 c2) [2]] []) := hide hsq; clear hsq; have HA1 := hide (HS_y9.out.has_ 0 rfl 1 OK.out.1); have HA3 := hide (HS_y9.out.has_ 0 rfl 3 OK.out.2.2); rw [D3.out] at HA1; rw [D2.out] at HA3)
    | (go_at_call 11; refine (HS_y7.out.drop_ 0 rfl 3 OK.out.2.2).mono ?_; rintro _ y8 ⟨rfl, hsq⟩; rw [D1.out]; rw [E5.out] at hsq; have HS_y8 : Hid (Sta w y8 [rcT m [2, 1], ilT (.slice (some ⟨g1, 0, none⟩) 3 c1) [2, 3, 1], ilT (.slice (some ⟨g2, 0, none⟩) 1 c2) [2]] []) := hide hsq; clear hsq))
  go_ret
  exact ⟨rfl, HS_y9.out.low⟩
#print axioms shown16_any
end Go.Proofs.Ythodmhjlokfcaaa
