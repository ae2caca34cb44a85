/- StripeMates' walk over the contracts. -/
import Derived.Test.YtjafhlljigaibaaLump3
import Derived.Deep.DeepCutAuto
import Derived.Deep.CutBlock
namespace Go.Proofs.Ytjafhlljigaibaa
open Go.RowKit
set_option linter.unusedVariables false
theorem yext_zero (w : World) : (zeroValue 36).run Try.prog w = .ok (.agg (plC (0, 0)).toArray) w := by kernel_rfl
theorem yext_built (a b : Int) : Try.prog.built 36 [(0, .int .i64 a), (1, .int .i64 b)] = some (plC (a, b)).toArray := by kernel_rfl
theorem yext_info : (Try.prog.info? 36).map (·.size) = some 2 := by kernel_rfl
theorem yint_info : (Try.prog.info? 3).map (·.size) = some 1 := by kernel_rfl
/-- An extent more behind a row that has nothing beside it. -/
theorem Rox.pushed {w0 W W' : World} {A A' : Option Addr} {n c c' : Nat} {X : List PlI} {p : PlI} (h : Rox w0 W [] A n c X) (hb : Below w0.heap.size W W') (ho : XtOwn W' w0.heap.size A' (n + 1) c' (X ++ [p])) (hp : 0 ≤ p.2 ∧ p.2 ≤ 1000000) (hn : n + 1 ≤ 12) : Rox w0 W' [] A' (n + 1) c' (X ++ [p]) :=
  Rox.of (h.low.trans hb) ho (fun q hq => (List.mem_append.1 hq).elim (h.small q) (fun e => by rw [List.mem_singleton.1 e]; exact hp)) hn
/-- Where the i-th extent of StripeMates stands. -/
def atM (l : List Int) (i : Nat) : Int := match l[i]? with | some v => v % 1024 | none => 7
theorem atM_some {l : List Int} {i : Nat} {v : Int} (h : l[i]? = some v) : atM l i = v % 1024 := by unfold atM; rw [h]
theorem atM_none {l : List Int} {i : Nat} (h : l.length ≤ i) : atM l i = 7 := by unfold atM; rw [List.getElem?_eq_none h]
theorem maskE (v : Int) : bits .and .i64 v 1023 = v % 1024 := i64_mask v 10 (by decide)
theorem ypl_parts : (Try.prog.info? 26).map (fun i => (i.zero, i.size, i.bytes)) = some (some (.agg #[.int .i64 0, .int .i64 0]), 2, 16) := by kernel_rfl
theorem step_noneP {ops : Array Oper} {o : Oper} {ac : Act} {w : World} {K : Act → World → Prop} {Q : Exit → Act → World → Prop} {E : Prop} (hg : o.guard = none) (ho : o.op = .buildSlice 31 0 #[])
    (hK : K (ac.put o.dst (.slice (some ⟨w.heap.size, 0, none⟩) 0 0)) (w.alloc (.cells #[] 26))) : if Region.wanted o (yielded ops ac.tmps) = true then Oper.wp Try.prog o ac w K Q else E := by
  have hw : Region.wanted o (yielded ops ac.tmps) = true := by simp [Region.wanted, hg]
  rw [if_pos hw]
  have hrun : (Instr.buildSlice 31 0 #[]).run Try.prog w = .ok (.slice (some ⟨w.heap.size, 0, none⟩) 0 0) (w.alloc (.cells #[] 26)) := by kernel_rfl
  unfold Oper.wp
  simp [execOp, ho, hrun, Result.andThen]
  exact hK
theorem plsL_drop : ∀ (l : List PlI) (k : Nat), (plsL l).drop (k * 2) = plsL (l.drop k)
  | l, 0 => by simp
  | [], k + 1 => by simp [plsL]
  | p :: l, k + 1 => by
    have h := plsL_drop l k
    have e : plsL (p :: l) = plC p ++ plsL l := by unfold plsL; simp
    rw [e, List.drop_succ_cons, ← h, List.drop_append, show (plC p).length = 2 from rfl, List.drop_of_length_le (show (plC p).length ≤ (k + 1) * 2 by show 2 ≤ _; omega), show (k + 1) * 2 - 2 = k * 2 by omega, List.nil_append]
theorem plsL_one1 (l : List PlI) : ∀ v ∈ plsL l, v.oneCell' = true := by
  intro v hv
  unfold plsL at hv
  obtain ⟨p, _, hp⟩ := List.mem_flatMap.1 hv
  exact plC_one p v hp
/-- A row of places without one of them, made by two appends. -/
theorem yrest {z : World} {A : Option Addr} {m c j : Nat} {D : List PlI} (hr : Reads z z.heap.size 2 A m (plsL D)) (hc : m ≤ c) (hj : j < m) (hm : m ≤ 1000) (t1 t2 : TypeId) (e : Nat) (he : j + (m - (j + 1)) = e) :
    ∃ A7 c7 w7 A8 c8 w8, (Builtin.append_ #[31, 31] t1 #[.slice (some ⟨z.heap.size, 0, none⟩) 0 0, .slice A j c]).run Try.prog (z.alloc (.cells #[] 26)) = .ok (.slice A7 j c7) w7 ∧
      (Builtin.append_ #[31, 31] t2 #[.slice A7 j c7, .slice (if c = j + 1 then A else A.map (·.add ((j + 1) * 2))) (m - (j + 1)) (c - (j + 1))]).run Try.prog w7 = .ok (.slice A8 e c8) w8 ∧
      Below z.heap.size z w7 ∧ Below z.heap.size z w8 ∧ Reads w8 w8.heap.size 2 A8 e (plsL (D.take j ++ D.drop (j + 1))) := by
  subst he
  obtain ⟨i0, hi0, hz0, hz1, hz2⟩ := info_parts ypl_parts
  have hal : Below z.heap.size z (z.alloc (.cells #[] 26)) := (Below.refl _ _).alloc (Nat.le_refl _) _
  have h1 : Reads (z.alloc (.cells #[] 26)) (z.alloc (.cells #[] 26)).heap.size 2 A j (plsL (D.take j)) := by
    rw [← plsL_take]
    exact (hr.later hal).head (by omega)
  obtain ⟨v7, w7, hrun7, hown7, hgb7, _⟩ := run_append_any (P := Try.prog) (z.alloc (.cells #[] 26)) z.heap.size 31 t1 26 i0 _ 2 16 Try.underlying31 hi0 hz0 hz1 hz2 rfl (by decide) _ 0 [] (World.ownsRow_made z #[] 0 (Nat.le_refl _) (Nat.zero_le _) rfl) _ A j c (plsL (D.take j)) h1 (plsL_one1 _) (by simp only [maxLen]; omega) (by omega) (le_alloc (Nat.le_refl _) _)
  have hb7 : Below z.heap.size z w7 := hal.grown hgb7 hal.size (fun g e => by
    have : z.heap.size = g := (by simpa [Value.ownBlock] using e)
    omega)
  have h2 : Reads w7 w7.heap.size 2 (if c = j + 1 then A else A.map (·.add ((j + 1) * 2))) (m - (j + 1)) (plsL (D.drop (j + 1))) := by
    rw [← plsL_drop]
    exact (hr.later hb7).cut (by omega) hc
  rw [Nat.zero_add, List.nil_append] at hown7
  obtain ⟨A7, c7, rfl, _, _⟩ := own_shape hown7
  obtain ⟨v8, w8, hrun8, hown8, hgb8, _⟩ := run_append_any (P := Try.prog) w7 z.heap.size 31 t2 26 i0 _ 2 16 Try.underlying31 hi0 hz0 hz1 hz2 rfl (by decide) _ j _ hown7 _ _ (m - (j + 1)) (c - (j + 1)) (plsL (D.drop (j + 1))) h2 (plsL_one1 _) (by simp only [maxLen]; omega) (by omega) hb7.size
  rw [← plsL_append] at hown8
  obtain ⟨A8, c8, rfl, _, _⟩ := own_shape hown8
  exact ⟨A7, c7, w7, A8, c8, w8, hrun7, hrun8, hb7, hb7.grown hgb8 hb7.size (fun g e => (hown7.lt g e).1), Reads.of_own hown8⟩
theorem run_eqPlC {a : Act} (W : World) (o : Oper) (x y : Operand) (tr : TypeId) (ho : o.op = .binOp .eql 26 x y tr) (p q : PlI) (hp : a.eval x = .agg (plC p).toArray) (hq : a.eval y = .agg (plC q).toArray) (r : Bool) (hr : decide (p = q) = r) : (execOp a.eval o).run Try.prog W = .ok (.value (.bool r)) W := by
  unfold execOp
  simp only [ho, hp, hq, Sem.run_bind, run_eqGuard_agg (P := Try.prog) W .eql 26 x y _ _ spl_guard, Result.andThen_ok, run_eql_struct, run_same_pl p q W, Sem.run_pure, hr]
set_option maxRecDepth 100000 in
set_option maxHeartbeats 8000000 in
theorem stripeMates_walk (K : StrK) (v : Int) (A : Option Addr) (n c : Nat) (l : List Int) (w : World) (hr : Reads w w.heap.size 1 A n (I64 l)) (hn : n ≤ c) (hc : c ≤ 9223372036854775807) :
    Calls Try.prog 7 #[.int .i64 v, .slice A n c] w fun e w' => e = .returned (.bool true) ∧ Below w.heap.size w w' := by
  obtain ⟨N, hN, hN2⟩ := mask16 v
  obtain ⟨Q, hQ⟩ : ∃ Q, Q = 2 + N % 11 := ⟨_, rfl⟩
  have HQ := hide (show (2 + (N : Int) % 11) = (Q : Int) by omega)
  have hQ2 : 2 ≤ Q := by omega
  have hQ12 : Q ≤ 12 := by omega
  have hll : l.length = n := by have := hr.1; rw [I64_length] at this; omega
  have HSH := hide (fun w => shown13_any K w)
  have HR := hide hr
  have HLL := hide hll
  have HQ2 := hide hQ2
  have HQ12 := hide hQ12
  clear hr hc hN2 hQ hQ2 hQ12 hll
  go_enter Try.func7, Try.ntmps7
  go_upto_region 2 with (first
    | (go_at_call 9; refine (HSH.out _).mono ?_; rintro _ x1 ⟨rfl, hlq⟩; have HX1 := hide hlq; clear hlq))
  go_cut [0] (fun v0 wx => x1 = wx ∧ v0 = .int .i64 (Q : Int))
  case first =>
    go_wp2_with fail
    go_meet
    case rel => exact ⟨rfl, by rw [HQ.out]⟩
  obtain ⟨rfl, rfl⟩ := hcut
  clear hN
  go_wp2_with fail
  go_loopw [6, 7] (fun s6 s7 wr => ∃ (k : Nat) (A1 : Option Addr) (c1 : Nat), k ≤ Q ∧ s7 = .int .i64 (k : Int) ∧ s6 = .slice A1 k c1 ∧ Hid (Rox w wr [] A1 k c1 (rowX (atM l) k))) (fun _ s7 _ => Q - (intOf s7).toNat)
  case atStart => exact ⟨0, none, 0, Nat.zero_le _, rfl, rfl, hide (Rox.begin HX1.out)⟩
  case round =>
    obtain ⟨k, A1, c1, hk, rfl, rfl, HX⟩ := hrel
    by_cases hkQ : k < Q
    · have hki : (k : Int) < (Q : Int) := by omega
      have hq12 := HQ12.out
      by_cases hkn : k < n
      · have hkj : (k : Int) < (n : Int) := by omega
        obtain ⟨ad, x, rfl, hab, hx, hcx⟩ := HR.out.i64_at hkn
        have hcw : wr.cell? (ad.add k) = some (.int .i64 x) := (HX.out.low.cell (p := ad.add k) (by rw [block_of_add]; exact hab)).trans hcx
        have hxm := maskE x
        have HAT := hide (atM_some hx)
        clear hcx hx
        go_wp2_with (first
          | ((with_reducible refine at_slot 31 ?_); refine wpList_build_is rfl 36 #[(0, .tmp 30), (1, .const (.int .i64 7))] rfl [(0, .int .i64 (k : Int)), (1, .int .i64 7)] (by simp only [List.map_toArray, List.map_cons, List.map_nil]; rfl) _ (yext_built _ _) ?_)
          | ((with_reducible refine at_slot 8 ?_); refine wpList_alloc_blk rfl 36 rfl _ (yext_zero _) ?_; intro x2 hbq hl1 hs1)
          | ((with_reducible refine at_store 8 ?_); refine wpList_store_all rfl 36 (.tmp 8) (.tmp 31) rfl wr.heap.size 36 _ hbq rfl (plC ((k : Int), 7)) rfl yext_info rfl (plC_one _) ?_; intro x3 hbz hg hs; have hl3 : Below wr.heap.size wr x3 := hl1.grown hg hl1.size (fun g e => by injection e with e; omega); have HB4 := hide hbz; have HL4 := hide hl3; have hcw3 := (hl3.cell (p := ad.add k) (by rw [block_of_add]; have := HX.out.low.size; omega)).trans hcw; clear hbq hl1 hs1 hbz hg hs hl3)
          | ((with_reducible refine at_store 41 ?_); refine wpList_poke rfl 3 (.tmp 41) (.tmp 40) rfl wr.heap.size 1 36 _ HB4.out rfl (.int .i64 (x % 1024)) rfl rfl yint_info (show 1 < 2 by decide) ?_; intro x5 hbq hg hs; have HB5 : Hid (Blk x5 wr.heap.size 36 (plC ((k : Int), x % 1024)).toArray) := hide hbq; have HL5 : Hid (Below wr.heap.size wr x5) := hide (HL4.out.grown hg HL4.out.size (fun g e => by injection e with e; omega)); clear hbq hg hs)
          | ((with_reducible refine at_slot 43 ?_); refine wpList_load_blk rfl 36 (.tmp 8) rfl wr.heap.size 0 36 _ HB5.out rfl (plC ((k : Int), x % 1024)) _ (fun j v hj => by rw [Nat.zero_add]; simpa using hj) Try.underlying36 rfl yext_info ?_)
          | ((with_reducible refine at_slot 44 ?_); refine wpList_oneX rfl (.tmp 43) rfl ((k : Int), x % 1024) rfl ?_)
          | ((with_reducible refine at_slot 45 ?_); refine wpList_pushX rfl (.tmp 42) (.tmp 44) rfl w.heap.size A1 k c1 (rowX (atM l) k) ((k : Int), x % 1024) rfl (own_later HX.out.row HL5.out) rfl rfl (by have := HQ12.out; omega) (by have := HX.out.low.size; have := HL5.out.size; omega) ?_; intro A9 c9 x9 ho9 hl9; have HS9 : Hid (Rox w x9 [] A9 (k + 1) c9 (rowX (atM l) (k + 1))) := hide (by rw [rowX_succ, HAT.out]; exact HX.out.pushed ((HL5.out.mono HX.out.low.size).trans hl9) ho9 (by constructor <;> dsimp only <;> omega) (by have := HQ12.out; omega)); clear ho9 hl9))
        go_roundw
        case rel => exact ⟨k + 1, A9, c9, by omega, by simp, rfl, HS9⟩
        case measure => simp [intOf]; omega
      · have hkj : ¬ (k : Int) < (n : Int) := by omega
        have HAT := hide (atM_none (l := l) (i := k) (by have := HLL.out; omega))
        go_wp2_with (first
          | ((with_reducible refine at_slot 31 ?_); refine wpList_build_is rfl 36 #[(0, .tmp 30), (1, .const (.int .i64 7))] rfl [(0, .int .i64 (k : Int)), (1, .int .i64 7)] (by simp only [List.map_toArray, List.map_cons, List.map_nil]; rfl) _ (yext_built _ _) ?_)
          | ((with_reducible refine at_slot 8 ?_); refine wpList_alloc_blk rfl 36 rfl _ (yext_zero _) ?_; intro x2 hbq hl1 hs1)
          | ((with_reducible refine at_store 8 ?_); refine wpList_store_all rfl 36 (.tmp 8) (.tmp 31) rfl wr.heap.size 36 _ hbq rfl (plC ((k : Int), 7)) rfl yext_info rfl (plC_one _) ?_; intro x3 hbz hg hs; have hl3 : Below wr.heap.size wr x3 := hl1.grown hg hl1.size (fun g e => by injection e with e; omega); have HB5 := hide hbz; have HL5 := hide hl3; clear hbq hl1 hs1 hbz hg hs hl3)
          | ((with_reducible refine at_slot 43 ?_); refine wpList_load_blk rfl 36 (.tmp 8) rfl wr.heap.size 0 36 _ HB5.out rfl (plC ((k : Int), 7)) _ (fun j v hj => by rw [Nat.zero_add]; simpa using hj) Try.underlying36 rfl yext_info ?_)
          | ((with_reducible refine at_slot 44 ?_); refine wpList_oneX rfl (.tmp 43) rfl ((k : Int), 7) rfl ?_)
          | ((with_reducible refine at_slot 45 ?_); refine wpList_pushX rfl (.tmp 42) (.tmp 44) rfl w.heap.size A1 k c1 (rowX (atM l) k) ((k : Int), 7) rfl (own_later HX.out.row HL5.out) rfl rfl (by have := HQ12.out; omega) (by have := HX.out.low.size; have := HL5.out.size; omega) ?_; intro A9 c9 x9 ho9 hl9; have HS9 : Hid (Rox w x9 [] A9 (k + 1) c9 (rowX (atM l) (k + 1))) := hide (by rw [rowX_succ, HAT.out]; exact HX.out.pushed ((HL5.out.mono HX.out.low.size).trans hl9) ho9 (by constructor <;> dsimp only <;> omega) (by have := HQ12.out; omega)); clear ho9 hl9))
        go_roundw
        case rel => exact ⟨k + 1, A9, c9, by omega, by simp, rfl, HS9⟩
        case measure => simp [intOf]; omega
    · obtain rfl : Q = k := by omega
      clear hkQ hk
      obtain ⟨u, hu⟩ : ∃ u, Q = u + 1 := ⟨Q - 1, by have := HQ2.out; omega⟩
      have hu1 : 1 ≤ u := by have := HQ2.out; omega
      have hu11 : u ≤ 11 := by have := HQ12.out; omega
      have hQb : Q ≤ 12 := HQ12.out
      obtain ⟨X, hX⟩ : ∃ X, rowX (atM l) Q = X := ⟨_, rfl⟩
      rw [hX] at HX
      obtain ⟨M, hM⟩ : ∃ M, slotsN Q = M := ⟨_, rfl⟩
      have hM8 : M = 8 * u := by rw [← hM, hu]; rfl
      have hMb : M ≤ 100 := by omega
      have HM8 := hide hM8
      have HXX := hide hX
      have HM := hide hM
      have HQU := hide hu
      clear hX hM hM8 hu
      go_wp2_with fail
      go_loopw [9] (fun s9 wr => ∃ s : Nat, s9 = .int .i64 (s : Int) ∧ s ≤ M ∧ Hid (Rox w wr [] A1 Q c1 X)) (fun s9 _ => M - (intOf s9).toNat)
      case atStart => exact ⟨0, rfl, Nat.zero_le _, HX⟩
      case round =>
        obtain ⟨s, rfl, hs, HS_x2⟩ := hrel
        clear HX
        obtain ⟨x2, hx2⟩ : ∃ x2, x2 = wr := ⟨_, rfl⟩
        rw [← hx2] at HS_x2 ⊢
        clear hx2
        by_cases hsM : s < M
        · have hsi : (s : Int) < (M : Int) := by omega
          obtain ⟨t, ht⟩ : ∃ t, s / u = t := ⟨_, rfl⟩
          obtain ⟨j, hj⟩ : ∃ j, s % u = j := ⟨_, rfl⟩
          have ht8 : t < 8 := by rw [← ht]; exact (Nat.div_lt_iff_lt_mul (by omega)).2 (by have := HM8.out; omega)
          have hju : j < u := by rw [← hj]; exact Nat.mod_lt _ (by omega)
          have HJU := hide hju
          have hdiv : (s : Int).tdiv (u : Int) = (t : Int) := by rw [Int.tdiv_eq_ediv_of_nonneg (by omega), ← ht]; rfl
          have hmod : (s : Int).tmod (u : Int) = (j : Int) := by rw [Int.tmod_eq_emod_of_nonneg (by omega), ← hj]; rfl
          have hu0 : ¬ (u : Int) = 0 := by omega
          have hqu : (Q : Int) - 1 = (u : Int) := by have := HQU.out; omega
          have hXl : X.length = Q := by rw [← HXX.out]; exact rowX_length _ _
          have hQ2 : 2 ≤ Q := HQ2.out
          have he0 : homeE Q (s : Int) = 0 := homeE_in hQ2 (by rw [HM.out]; exact hsM)
          have hse : strE Q (t : Int) = 0 := by unfold strE; rw [if_neg (by omega), if_neg (by omega)]
          have hq1 : Q - 1 = u := by have := HQU.out; omega
          obtain ⟨p, hp⟩ : ∃ p, homeP X s = p := ⟨_, rfl⟩
          obtain ⟨q, hq⟩ : ∃ q, strP X t = q := ⟨_, rfl⟩
          obtain ⟨D, hD⟩ : ∃ D, strD X t = D := ⟨_, rfl⟩
          have hDl : D.length = u := by rw [← hD, strD_length (by omega), hXl, hq1]
          have hDj : D[j]? = some p := by
            have h1 := strD_at (X := X) (slot := s) (by omega) (by rw [hXl, HM.out]; exact hsM)
            rw [hXl, hq1, ht, hj, hD, hp] at h1
            exact h1
          have hpq : p ≠ q := by
            intro e
            have h1 : p.1 = ((skipN (strH Q t) j : Nat) : Int) := by
              rw [← hp, ← HXX.out, row_home (atM l) (n := Q) (slot := s) hQ2]
              show ((skipN (strH Q (s / (Q - 1))) (s % (Q - 1)) : Nat) : Int) = _
              rw [hq1, ht, hj]
            have h2 : q.1 = ((strH Q t : Nat) : Int) := by rw [← hq, ← HXX.out, row_par (atM l) (n := Q) (t := t) hQ2]
            have h3 := skip_ne (strH Q t) j
            rw [e, h2] at h1
            omega
          have HP := hide (show homeR X Q (s : Int) = p ∧ homeE Q (s : Int) = 0 from ⟨by unfold homeR; rw [if_pos he0, Int.toNat_natCast, hp], he0⟩)
          have HT := hide (show matesR X Q (s : Int) = D.eraseIdx j ++ [q] by
            unfold matesR matesP
            rw [if_pos he0, Int.toNat_natCast, hXl, hq1, ht, hj, hD, hq])
          have HDT := hide (show dataR X Q (t : Int) = D ∧ strE Q (t : Int) = 0 from ⟨by unfold dataR; rw [if_pos hse, Int.toNat_natCast, hD], hse⟩)
          have HQT := hide (show parR X Q (t : Int) = q from by unfold parR; rw [if_pos hse, Int.toNat_natCast, hq])
          have HDL := hide hDl
          have HDJ := hide hDj
          have HPQ := hide hpq
          have HSM := hide hsM
          clear hXl he0 hse hp hq hD hDl hDj hpq ht hj hQ2 hq1
          go_upto_region 14 with (first
            | (go_at_call 15; refine (HS_x2.out.slots K (Q : Int) (by omega) (by omega)).mono ?_; rintro _ y1 ⟨rfl, hsq⟩; rw [Int.toNat_natCast, HM.out]; have HS_y1 : Hid (Rox w y1 [] A1 Q c1 X) := hide (hsq); clear hsq))
          go_upto_region 15 with (first
            | (go_at_call 11; refine (HS_y1.out.home K (s : Int) ⟨by omega, by omega⟩).mono ?_; rintro _ y2 ⟨rfl, hsq⟩; rw [HP.out.1, HP.out.2]; have HS_y2 : Hid (Rox w y2 [] A1 Q c1 X) := hide (hsq); clear hsq)
            | ((with_reducible refine at_slot 10 ?_); refine wpList_alloc_blk rfl 26 rfl _ (mplace_zero _) ?_; intro y3 hbq hl1 hs1; clear hs1)
            | ((with_reducible refine at_store 10 ?_); refine wpList_store_all rfl 26 (.tmp 10) (.tmp 56) rfl y2.heap.size 26 _ hbq rfl (plC p) rfl mplace_info rfl (plC_one _) ?_; intro y4 hbz hg hs; have HS_y4 : Hid (Rox w y4 [(y2.heap.size, 26, plC p)] A1 Q c1 X) := hide (HS_y2.out.new hl1 hg hbz); clear hs hbq hl1 hg hbz))
          go_upto_region 16 with (first
            | (go_at_call 19; refine (HS_y4.out.mates K (s : Int) ⟨by omega, by omega⟩).mono ?_; rintro _ y5 ⟨B_y5, m_y5, k_y5, rfl, hrd, hcp, hcm, hlq, hsq⟩; rw [HT.out] at hrd; rw [HP.out.2]; have HR_y5 := hide hrd; have HC_y5 := hide (And.intro hcp hcm); have HL_y5 := hide hlq; have HS_y5 : Hid (Rox w y5 [(y2.heap.size, 26, plC p)] A1 Q c1 X) := hide hsq; clear hsq hrd hcp hcm hlq))
          go_upto_region 17 with (first
            | (go_at_call 17; refine (HS_y5.out.data K (t : Int) ⟨by omega, by omega⟩).mono ?_; rintro _ y6 ⟨B_y6, m_y6, k_y6, rfl, hrd, hcp, hcm, hlq, hsq⟩; rw [HDT.out.1] at hrd; rw [HDT.out.2]; have HR_y6 := hide hrd; have HC_y6 := hide (And.intro hcp hcm); have HL_y6 := hide hlq; have HS_y6 : Hid (Rox w y6 [(y2.heap.size, 26, plC p)] A1 Q c1 X) := hide hsq; clear hsq hrd hcp hcm hlq))
          go_upto_region 18 with (first
            | (go_at_call 13; refine (K.par_any _ A1 Q c1 X HS_y6.out.in_ (t : Int) ⟨by omega, by omega⟩).mono ?_; rintro _ y7 ⟨rfl, hlq⟩; rw [HQT.out, HDT.out.2]; have HL_y7 := hide hlq; have HS_y7 : Hid (Rox w y7 [(y2.heap.size, 26, plC p)] A1 Q c1 X) := hide (HS_y6.out.later hlq); clear hlq)
            | ((with_reducible refine at_slot 16 ?_); refine wpList_alloc_blk rfl 26 rfl _ (mplace_zero _) ?_; intro y8 hbq hl1 hs1; clear hs1)
            | ((with_reducible refine at_store 16 ?_); refine wpList_store_all rfl 26 (.tmp 16) (.tmp 80) rfl y7.heap.size 26 _ hbq rfl (plC q) rfl mplace_info rfl (plC_one _) ?_; intro y9 hbz hg hs; have HL_y9 : Hid (Below y7.heap.size y7 y9) := hide (hl1.grown hg hl1.size (fun g e => by injection e with e; omega)); have HS_y9 : Hid (Rox w y9 [(y2.heap.size, 26, plC p), (y7.heap.size, 26, plC q)] A1 Q c1 X) := hide (HS_y7.out.new hl1 hg hbz); clear hs hbq hl1 hg hbz))
          have HRA := hide (((HR_y5.out.later HL_y6.out).later HL_y7.out).later HL_y9.out)
          have HRB := hide ((HR_y6.out.later HL_y7.out).later HL_y9.out)
          obtain rfl : u = m_y6 := by have := reads_len HRB.out; have := HDL.out; omega
          obtain rfl : u = m_y5 := by
            have h1 := reads_len HRA.out
            rw [List.length_append, List.length_singleton, List.length_eraseIdx_of_lt (by have := HDL.out; omega), HDL.out] at h1
            omega
          obtain ⟨r, hr⟩ : ∃ r, u = r + 1 := ⟨u - 1, by omega⟩
          have hru : r < u := by omega
          have hju2 := HJU.out
          have hu0n : ¬ u = 0 := by omega
          have HRU := hide hr
          have hEl : (D.eraseIdx j).length = r := by rw [List.length_eraseIdx_of_lt (by have := HDL.out; omega), HDL.out]; omega
          have HEL := hide hEl
          clear hEl
          have hri : (r : Int) < (u : Int) := by omega
          have hji : (j : Int) < (u : Int) := by omega
          have HKC := hide (And.intro HC_y5.out HC_y6.out)
          obtain ⟨ad3, rfl, _, c30, c31⟩ := HRA.out.pl_at (k := r) (p := q) (by rw [List.getElem?_append_right (by rw [HEL.out]; exact Nat.le_refl _), HEL.out, Nat.sub_self]; rfl)
          obtain ⟨ad4, rfl, _, c40, c41⟩ := HRB.out.pl_at HDJ.out
          have HQC := hide (show ∀ (jj : Nat) (v : Value), (plC q)[jj]? = some v → y9.cell? ((ad3.add (r * 2)).add jj) = some v from pl_cells c30 c31)
          have HPC := hide (show ∀ (jj : Nat) (v : Value), (plC p)[jj]? = some v → y9.cell? ((ad4.add (j * 2)).add jj) = some v from pl_cells c40 c41)
          clear c30 c31 c40 c41
          have hs2 : (Q : Int) - 2 = (r : Int) := by have := HQU.out; omega
          have hwu : IntKind.i64.wrap (u : Int) = (u : Int) := IntWalk.i64_in _ (by omega)
          have hwr : IntKind.i64.wrap (r : Int) = (r : Int) := IntWalk.i64_in _ (by omega)
          have hwa : IntKind.i64.wrap ((Q : Int) - 1) = (u : Int) := by rw [IntWalk.i64_in _ (by omega)]; exact hqu
          have hwb : IntKind.i64.wrap ((Q : Int) - 2) = (r : Int) := by rw [IntWalk.i64_in _ (by omega)]; exact hs2
          clear hr
          refine wp_region_held_drew (S := (fun W => (∀ (jj : Nat) (v : Value), (plC q)[jj]? = some v → W.cell? ((ad3.add (r * 2)).add jj) = some v) ∧ (∀ (jj : Nat) (v : Value), (plC p)[jj]? = some v → W.cell? ((ad4.add (j * 2)).add jj) = some v) ∧ W.rangeAt (y2.heap.size) 0 (plC p) ∧ W.rangeAt (y7.heap.size) 0 (plC q))) (by kernel_rfl) ?_ (fun hHeld => ?_)
          · exact ⟨HQC.out, HPC.out, HS_y9.out.drew.own.range 0 rfl, HS_y9.out.drew.own.range 1 rfl⟩
          have HSd := hide (HS_y9.out.drew)
          refine heldTake (i := 0) (v := ?_) rfl (by kernel_rfl) (by kernel_rfl) (by kernel_rfl) (fun _ _ _ h => h) (Or.inl ⟨by rfl, ?_⟩) (by assumption) ?_
          rotate_left
          · intro w hSw; (try dsimp only at hSw); go_simp <;> (with_reducible rfl)
          try simp only [Act.put, List.setIfInBounds_toArray, List.set_cons_zero, List.set_cons_succ]
          refine heldTake (i := 1) (v := ?_) rfl (by kernel_rfl) (by kernel_rfl) (by kernel_rfl) (fun _ _ _ h => h) (Or.inl ⟨by rfl, ?_⟩) (by assumption) ?_
          rotate_left
          · intro w hSw; (try dsimp only at hSw); go_simp <;> (with_reducible rfl)
          try simp only [Act.put, List.setIfInBounds_toArray, List.set_cons_zero, List.set_cons_succ]
          refine heldTake (i := 2) (v := ?_) rfl (by kernel_rfl) (by kernel_rfl) (by kernel_rfl) (fun _ _ _ h => h) (Or.inl ⟨by rfl, ?_⟩) (by assumption) ?_
          rotate_left
          · intro w hSw; (try dsimp only at hSw); go_simp <;> (with_reducible rfl)
          try simp only [Act.put, List.setIfInBounds_toArray, List.set_cons_zero, List.set_cons_succ]
          refine heldTake (i := 3) (v := ?_) rfl (by kernel_rfl) (by kernel_rfl) (by kernel_rfl) (fun _ _ _ h => h) (Or.inl ⟨by rfl, ?_⟩) (by assumption) ?_
          rotate_left
          · intro w hSw; (try dsimp only at hSw); go_simp <;> (with_reducible rfl)
          try simp only [Act.put, List.setIfInBounds_toArray, List.set_cons_zero, List.set_cons_succ]
          refine heldTake (i := 4) (v := ?_) rfl (by kernel_rfl) (by kernel_rfl) (by kernel_rfl) (fun _ _ _ h => h) (Or.inl ⟨by rfl, ?_⟩) (by assumption) ?_
          rotate_left
          · intro w hSw; (try dsimp only at hSw); go_simp <;> (with_reducible rfl)
          try simp only [Act.put, List.setIfInBounds_toArray, List.set_cons_zero, List.set_cons_succ]
          refine heldTake (i := 5) (v := ?_) rfl (by kernel_rfl) (by kernel_rfl) (by kernel_rfl) (fun _ _ _ h => h) (Or.inl ⟨by rfl, ?_⟩) (by assumption) ?_
          rotate_left
          · intro w hSw; (try dsimp only at hSw); go_simp <;> (with_reducible rfl)
          try simp only [Act.put, List.setIfInBounds_toArray, List.set_cons_zero, List.set_cons_succ]
          refine heldTake (i := 6) (v := ?_) rfl (by kernel_rfl) (by kernel_rfl) (by kernel_rfl) (fun _ _ _ h => h) (Or.inl ⟨by rfl, ?_⟩) (by assumption) ?_
          rotate_left
          · intro w hSw; (try dsimp only at hSw); go_simp <;> (with_reducible rfl)
          try simp only [Act.put, List.setIfInBounds_toArray, List.set_cons_zero, List.set_cons_succ]
          refine heldTake (i := 7) (v := ?_) rfl (by kernel_rfl) (by kernel_rfl) (by kernel_rfl) (fun _ _ _ h => h) (Or.inl ⟨by rfl, ?_⟩) (by assumption) ?_
          rotate_left
          · intro w hSw; (try dsimp only at hSw); go_simp <;> (with_reducible rfl)
          try simp only [Act.put, List.setIfInBounds_toArray, List.set_cons_zero, List.set_cons_succ]
          refine heldTake (i := 8) (v := ?_) rfl (by kernel_rfl) (by kernel_rfl) (by kernel_rfl) (fun _ _ _ h => h) (Or.inl ⟨by rfl, ?_⟩) (by assumption) ?_
          rotate_left
          · intro w hSw; (try dsimp only at hSw); go_simp <;> (with_reducible rfl)
          try simp only [Act.put, List.setIfInBounds_toArray, List.set_cons_zero, List.set_cons_succ]
          refine heldTake (i := 9) (v := ?_) rfl (by kernel_rfl) (by kernel_rfl) (by kernel_rfl) (fun _ _ _ h => h) (Or.inl ⟨by rfl, ?_⟩) (by assumption) ?_
          rotate_left
          · intro w hSw; (try dsimp only at hSw); go_simp <;> (with_reducible rfl)
          try simp only [Act.put, List.setIfInBounds_toArray, List.set_cons_zero, List.set_cons_succ]
          refine heldTake (i := 10) (v := ?_) rfl (by kernel_rfl) (by kernel_rfl) (by kernel_rfl) (fun _ _ _ h => h) (Or.inl ⟨by rfl, ?_⟩) (by assumption) ?_
          rotate_left
          · intro w hSw; (try dsimp only at hSw); go_simp <;> (with_reducible rfl)
          try simp only [Act.put, List.setIfInBounds_toArray, List.set_cons_zero, List.set_cons_succ]
          refine heldTake (i := 11) (v := ?_) rfl (by kernel_rfl) (by kernel_rfl) (by kernel_rfl) (fun _ _ _ h => h) (Or.inl ⟨by rfl, ?_⟩) (by assumption) ?_
          rotate_left
          · intro w hSw; (try dsimp only at hSw); go_simp <;> (with_reducible rfl)
          try simp only [Act.put, List.setIfInBounds_toArray, List.set_cons_zero, List.set_cons_succ]
          refine heldTake (i := 12) (v := ?_) rfl (by kernel_rfl) (by kernel_rfl) (by kernel_rfl) (fun _ _ _ h => h) (Or.inl ⟨by rfl, ?_⟩) (by assumption) ?_
          rotate_left
          · intro w hSw; (try dsimp only at hSw); go_simp <;> (with_reducible rfl)
          try simp only [Act.put, List.setIfInBounds_toArray, List.set_cons_zero, List.set_cons_succ]
          refine heldTake (i := 13) (v := ?_) rfl (by kernel_rfl) (by kernel_rfl) (by kernel_rfl) (fun _ _ _ h => h) (Or.inl ⟨by rfl, ?_⟩) (by assumption) ?_
          rotate_left
          · intro w hSw; (try dsimp only at hSw); go_simp <;> (with_reducible rfl)
          try simp only [Act.put, List.setIfInBounds_toArray, List.set_cons_zero, List.set_cons_succ]
          refine heldTake (i := 14) (v := ?_) rfl (by kernel_rfl) (by kernel_rfl) (by kernel_rfl) (fun _ _ _ h => h) (Or.inl ⟨by rfl, ?_⟩) (by assumption) ?_
          rotate_left
          · intro w hSw; (try dsimp only at hSw); go_simp <;> (with_reducible rfl)
          try simp only [Act.put, List.setIfInBounds_toArray, List.set_cons_zero, List.set_cons_succ]
          refine heldTake (i := 15) (v := ?_) rfl (by kernel_rfl) (by kernel_rfl) (by kernel_rfl) (fun _ _ _ h => h) (Or.inl ⟨by rfl, ?_⟩) (by assumption) ?_
          rotate_left
          · intro w hSw; (try dsimp only at hSw); go_simp <;> (with_reducible rfl)
          try simp only [Act.put, List.setIfInBounds_toArray, List.set_cons_zero, List.set_cons_succ]
          refine heldTake (i := 16) (v := ?_) rfl (by kernel_rfl) (by kernel_rfl) (by kernel_rfl) (fun _ _ _ h => h) (Or.inl ⟨by rfl, ?_⟩) (by assumption) ?_
          rotate_left
          · intro w hSw; (try dsimp only at hSw); go_simp <;> (with_reducible rfl)
          try simp only [Act.put, List.setIfInBounds_toArray, List.set_cons_zero, List.set_cons_succ]
          refine heldTake (i := 17) (v := ?_) rfl (by kernel_rfl) (by kernel_rfl) (by kernel_rfl) (fun _ _ _ h => h) (Or.inl ⟨by rfl, ?_⟩) (by assumption) ?_
          rotate_left
          · intro w hSw; (try dsimp only at hSw); go_simp <;> (with_reducible rfl)
          try simp only [Act.put, List.setIfInBounds_toArray, List.set_cons_zero, List.set_cons_succ]
          refine heldTake (i := 18) (v := ?_) rfl (by kernel_rfl) (by kernel_rfl) (by kernel_rfl) (fun _ _ _ h => h) (Or.inl ⟨by rfl, ?_⟩) (by assumption) ?_
          rotate_left
          · intro w hSw; (try dsimp only at hSw); go_simp <;> (with_reducible rfl)
          try simp only [Act.put, List.setIfInBounds_toArray, List.set_cons_zero, List.set_cons_succ]
          refine heldTake (i := 19) (v := ?_) rfl (by kernel_rfl) (by kernel_rfl) (by kernel_rfl) (fun _ _ _ h => h) (Or.inl ⟨by rfl, ?_⟩) (by assumption) ?_
          rotate_left
          · intro w hSw; (try dsimp only at hSw); go_simp <;> (with_reducible rfl)
          try simp only [Act.put, List.setIfInBounds_toArray, List.set_cons_zero, List.set_cons_succ]
          refine heldTake (i := 20) (v := ?_) rfl (by kernel_rfl) (by kernel_rfl) (by kernel_rfl) (fun _ _ _ h => h) (Or.inl ⟨by rfl, ?_⟩) (by assumption) ?_
          rotate_left
          · intro w hSw; (try dsimp only at hSw); go_simp <;> (with_reducible rfl)
          try simp only [Act.put, List.setIfInBounds_toArray, List.set_cons_zero, List.set_cons_succ]
          refine heldTake (i := 21) (v := ?_) rfl (by kernel_rfl) (by kernel_rfl) (by kernel_rfl) (fun _ _ _ h => h) (Or.inl ⟨by rfl, ?_⟩) (by assumption) ?_
          rotate_left
          · intro w hSw; (try dsimp only at hSw); go_simp <;> (with_reducible rfl)
          try simp only [Act.put, List.setIfInBounds_toArray, List.set_cons_zero, List.set_cons_succ]
          refine heldTake (i := 22) (v := ?_) rfl (by kernel_rfl) (by kernel_rfl) (by kernel_rfl) (fun _ _ _ h => h) (Or.inl ⟨by rfl, ?_⟩) (by assumption) ?_
          rotate_left
          · intro w hSw; (try dsimp only at hSw); go_simp <;> (with_reducible rfl)
          try simp only [Act.put, List.setIfInBounds_toArray, List.set_cons_zero, List.set_cons_succ]
          refine heldTake (i := 23) (v := ?_) rfl (by kernel_rfl) (by kernel_rfl) (by kernel_rfl) (fun _ _ _ h => h) (Or.inl ⟨by rfl, ?_⟩) (by assumption) ?_
          rotate_left
          · intro w hSw; (try dsimp only at hSw); go_simp <;> (with_reducible rfl)
          try simp only [Act.put, List.setIfInBounds_toArray, List.set_cons_zero, List.set_cons_succ]
          refine heldTake (i := 24) (v := ?_) rfl (by kernel_rfl) (by kernel_rfl) (by kernel_rfl) (fun _ _ _ h => h) (Or.inl ⟨by rfl, ?_⟩) (by assumption) ?_
          rotate_left
          · intro w hSw; (try dsimp only at hSw); go_simp <;> (with_reducible rfl)
          try simp only [Act.put, List.setIfInBounds_toArray, List.set_cons_zero, List.set_cons_succ]
          refine heldTake (i := 25) (v := ?_) rfl (by kernel_rfl) (by kernel_rfl) (by kernel_rfl) (fun _ _ _ h => h) (Or.inl ⟨by rfl, ?_⟩) (by assumption) ?_
          rotate_left
          · intro w hSw; (try dsimp only at hSw); go_simp <;> (with_reducible rfl)
          try simp only [Act.put, List.setIfInBounds_toArray, List.set_cons_zero, List.set_cons_succ]
          refine heldTake (i := 26) (v := ?_) rfl (by kernel_rfl) (by kernel_rfl) (by kernel_rfl) (fun _ _ _ h => h) (Or.inl ⟨by rfl, ?_⟩) (by assumption) ?_
          rotate_left
          · intro w hSw; (try dsimp only at hSw); go_simp <;> (with_reducible rfl)
          try simp only [Act.put, List.setIfInBounds_toArray, List.set_cons_zero, List.set_cons_succ]
          refine heldTake (i := 27) (v := ?_) rfl (by kernel_rfl) (by kernel_rfl) (by kernel_rfl) (fun _ _ _ h => h) (Or.inl ⟨by rfl, ?_⟩) (by assumption) ?_
          rotate_left
          · intro w hSw; (try dsimp only at hSw); go_simp <;> (with_reducible rfl)
          try simp only [Act.put, List.setIfInBounds_toArray, List.set_cons_zero, List.set_cons_succ]
          refine heldTake (i := 28) (v := ?_) rfl (by kernel_rfl) (by kernel_rfl) (by kernel_rfl) (fun _ _ _ h => h) (Or.inl ⟨by rfl, ?_⟩) (by assumption) ?_
          rotate_left
          · intro w hSw; (try dsimp only at hSw); go_simp <;> (with_reducible rfl)
          try simp only [Act.put, List.setIfInBounds_toArray, List.set_cons_zero, List.set_cons_succ]
          refine heldTake (i := 29) (v := ?_) rfl (by kernel_rfl) (by kernel_rfl) (by kernel_rfl) (fun _ _ _ h => h) (Or.inl ⟨by rfl, ?_⟩) (by assumption) ?_
          rotate_left
          · intro w hSw; (try dsimp only at hSw); go_simp <;> (with_reducible rfl)
          try simp only [Act.put, List.setIfInBounds_toArray, List.set_cons_zero, List.set_cons_succ]
          refine heldTake (i := 30) (v := ?_) rfl (by kernel_rfl) (by kernel_rfl) (by kernel_rfl) (fun _ _ _ h => h) (Or.inl ⟨by rfl, ?_⟩) (by assumption) ?_
          rotate_left
          · intro w hSw; (try dsimp only at hSw); go_simp <;> (with_reducible rfl)
          try simp only [Act.put, List.setIfInBounds_toArray, List.set_cons_zero, List.set_cons_succ]
          refine heldTake (i := 31) (v := ?_) rfl (by kernel_rfl) (by kernel_rfl) (by kernel_rfl) (fun _ _ _ h => h) (Or.inl ⟨by rfl, ?_⟩) (by assumption) ?_
          rotate_left
          · intro w hSw; (try dsimp only at hSw); go_simp <;> (with_reducible rfl)
          try simp only [Act.put, List.setIfInBounds_toArray, List.set_cons_zero, List.set_cons_succ]
          refine heldTake (i := 32) (v := ?_) rfl (by kernel_rfl) (by kernel_rfl) (by kernel_rfl) (fun _ _ _ h => h) (Or.inl ⟨by rfl, ?_⟩) (by assumption) ?_
          rotate_left
          · intro w hSw; (try dsimp only at hSw); go_simp <;> (with_reducible rfl)
          try simp only [Act.put, List.setIfInBounds_toArray, List.set_cons_zero, List.set_cons_succ]
          refine heldTake (i := 33) (v := .agg (plC q).toArray) rfl (by kernel_rfl) (by kernel_rfl) (by kernel_rfl) (fun _ _ _ h => h) (Or.inl ⟨by rfl, fun W hW => run_load_pl W _ (.tmp 114) rfl (ad3.add (r * 2)) q hW.1 rfl⟩) (by assumption) ?_
          try simp only [Act.put, List.setIfInBounds_toArray, List.set_cons_zero, List.set_cons_succ]
          refine heldTake (i := 34) (v := .agg (plC q).toArray) rfl (by kernel_rfl) (by kernel_rfl) (by kernel_rfl) (fun _ _ _ h => h) (yieldsIf_load_mid (by rfl) _ _ rfl _ _ rfl (plC q) _ (fun W hW => hW.2.2.2) Try.underlying26 rfl mplace_info) (by assumption) ?_
          try simp only [Act.put, List.setIfInBounds_toArray, List.set_cons_zero, List.set_cons_succ]
          refine heldTake (i := 35) (v := .bool false) rfl (by kernel_rfl) (by kernel_rfl) (by kernel_rfl) (fun _ _ _ h => h) (Or.inl ⟨by rfl, fun W hW => run_nePl W _ (.tmp 115) (.tmp 116) _ rfl q q rfl rfl false (by simp)⟩) (by assumption) ?_
          try simp only [Act.put, List.setIfInBounds_toArray, List.set_cons_zero, List.set_cons_succ]
          refine heldTake (i := 36) (v := ?_) rfl (by kernel_rfl) (by kernel_rfl) (by kernel_rfl) (fun _ _ _ h => h) (Or.inl ⟨by rfl, ?_⟩) (by assumption) ?_
          rotate_left
          · intro w hSw; (try dsimp only at hSw); go_simp <;> (with_reducible rfl)
          try simp only [Act.put, List.setIfInBounds_toArray, List.set_cons_zero, List.set_cons_succ]
          refine heldTake (i := 37) (v := ?_) rfl (by kernel_rfl) (by kernel_rfl) (by kernel_rfl) (fun _ _ _ h => h) (Or.inl ⟨by rfl, ?_⟩) (by assumption) ?_
          rotate_left
          · intro w hSw; (try dsimp only at hSw); go_simp <;> (with_reducible rfl)
          try simp only [Act.put, List.setIfInBounds_toArray, List.set_cons_zero, List.set_cons_succ]
          refine heldTake (i := 38) (v := ?_) rfl (by kernel_rfl) (by kernel_rfl) (by kernel_rfl) (fun _ _ _ h => h) (Or.inl ⟨by rfl, ?_⟩) (by assumption) ?_
          rotate_left
          · intro w hSw; (try dsimp only at hSw); go_simp <;> (with_reducible rfl)
          try simp only [Act.put, List.setIfInBounds_toArray, List.set_cons_zero, List.set_cons_succ]
          refine heldTake (i := 39) (v := ?_) rfl (by kernel_rfl) (by kernel_rfl) (by kernel_rfl) (fun _ _ _ h => h) (Or.inl ⟨by rfl, ?_⟩) (by assumption) ?_
          rotate_left
          · intro w hSw; (try dsimp only at hSw); go_simp <;> (with_reducible rfl)
          try simp only [Act.put, List.setIfInBounds_toArray, List.set_cons_zero, List.set_cons_succ]
          refine heldTake (i := 40) (v := ?_) rfl (by kernel_rfl) (by kernel_rfl) (by kernel_rfl) (fun _ _ _ h => h) (Or.inl ⟨by rfl, ?_⟩) (by assumption) ?_
          rotate_left
          · intro w hSw; (try dsimp only at hSw); go_simp <;> (with_reducible rfl)
          try simp only [Act.put, List.setIfInBounds_toArray, List.set_cons_zero, List.set_cons_succ]
          refine heldTake (i := 41) (v := ?_) rfl (by kernel_rfl) (by kernel_rfl) (by kernel_rfl) (fun _ _ _ h => h) (Or.inl ⟨by rfl, ?_⟩) (by assumption) ?_
          rotate_left
          · intro w hSw; (try dsimp only at hSw); go_simp <;> (with_reducible rfl)
          try simp only [Act.put, List.setIfInBounds_toArray, List.set_cons_zero, List.set_cons_succ]
          refine heldTake (i := 42) (v := ?_) rfl (by kernel_rfl) (by kernel_rfl) (by kernel_rfl) (fun _ _ _ h => h) (Or.inl ⟨by rfl, ?_⟩) (by assumption) ?_
          rotate_left
          · intro w hSw; (try dsimp only at hSw); go_simp <;> (with_reducible rfl)
          try simp only [Act.put, List.setIfInBounds_toArray, List.set_cons_zero, List.set_cons_succ]
          refine heldTake (i := 43) (v := ?_) rfl (by kernel_rfl) (by kernel_rfl) (by kernel_rfl) (fun _ _ _ h => h) (Or.inl ⟨by rfl, ?_⟩) (by assumption) ?_
          rotate_left
          · intro w hSw; (try dsimp only at hSw); go_simp <;> (with_reducible rfl)
          try simp only [Act.put, List.setIfInBounds_toArray, List.set_cons_zero, List.set_cons_succ]
          refine heldTake (i := 44) (v := .agg (plC p).toArray) rfl (by kernel_rfl) (by kernel_rfl) (by kernel_rfl) (fun _ _ _ h => h) (Or.inl ⟨by rfl, fun W hW => run_load_pl W _ (.tmp 125) rfl (ad4.add (j * 2)) p hW.2.1 rfl⟩) (by assumption) ?_
          try simp only [Act.put, List.setIfInBounds_toArray, List.set_cons_zero, List.set_cons_succ]
          refine heldTake (i := 45) (v := .agg (plC p).toArray) rfl (by kernel_rfl) (by kernel_rfl) (by kernel_rfl) (fun _ _ _ h => h) (yieldsIf_load_mid (by rfl) _ _ rfl _ _ rfl (plC p) _ (fun W hW => hW.2.2.1) Try.underlying26 rfl mplace_info) (by assumption) ?_
          try simp only [Act.put, List.setIfInBounds_toArray, List.set_cons_zero, List.set_cons_succ]
          refine heldTake (i := 46) (v := .bool false) rfl (by kernel_rfl) (by kernel_rfl) (by kernel_rfl) (fun _ _ _ h => h) (Or.inl ⟨by rfl, fun W hW => run_nePl W _ (.tmp 126) (.tmp 127) _ rfl p p rfl rfl false (by simp)⟩) (by assumption) ?_
          try simp only [Act.put, List.setIfInBounds_toArray, List.set_cons_zero, List.set_cons_succ]
          refine heldTake (i := 47) (v := ?_) rfl (by kernel_rfl) (by kernel_rfl) (by kernel_rfl) (fun _ _ _ h => h) (Or.inl ⟨by rfl, ?_⟩) (by assumption) ?_
          rotate_left
          · intro w hSw; (try dsimp only at hSw); go_simp <;> (with_reducible rfl)
          try simp only [Act.put, List.setIfInBounds_toArray, List.set_cons_zero, List.set_cons_succ]
          refine wpAnyH_done (by kernel_rfl) ?_ _
          go_upto_region 20 with fail
          have HRA2 := hide (HRA.out.later ((Below.refl _ _).drew))
          obtain ⟨A7, c7, w7, A8, c8, w8, hr7, hr8, hb7, hb8, hrr⟩ := yrest (((HRB.out.later ((Below.refl _ _).drew)).later ((Below.refl _ _).drew))) HKC.out.2.1 HJU.out (by omega) 31 31 r (by have := HJU.out; have := HRU.out; omega)
          have HR8 := hide hrr
          have HB7 := hide hb7
          have HB8 := hide hb8
          clear hrr hb7 hb8
          have ge1 : ¬ (u : Int) ≤ (j : Int) := by omega
          have hq1 : IntKind.i64.wrap ((j : Int) + 1) = (j : Int) + 1 := IntWalk.i64_in _ (by omega)
          have hqc : j ≤ k_y6 := by have := HKC.out.2.1; omega
          have hqc0 : (j : Int) ≤ (k_y6 : Int) := by omega
          have hqn1 : j + 1 ≤ u := by omega
          have hqn2 : (j : Int) + 1 ≤ (u : Int) := by omega
          have hqc1 : j + 1 ≤ k_y6 := by have := HKC.out.2.1; omega
          have hqp : (0 : Int) ≤ (j : Int) + 1 := by omega
          have hqt : ((j : Int) + 1).toNat = j + 1 := by omega
          refine wp_region_held_drew (S := (fun W => Below y9.drew.heap.size y9.drew W)) (by kernel_rfl) ?_ (fun hHeld => ?_)
          · exact (Below.refl _ _).drew
          refine heldTake (i := 1) (v := ?_) rfl (by kernel_rfl) (by kernel_rfl) (by kernel_rfl) (fun _ _ _ h => h) (Or.inl ⟨by rfl, ?_⟩) (by assumption) ?_
          rotate_left
          · intro w hSw; (try dsimp only at hSw); go_simp <;> (with_reducible rfl)
          try simp only [Act.put, List.setIfInBounds_toArray, List.set_cons_zero, List.set_cons_succ]
          refine heldTake (i := 2) (v := ?_) rfl (by kernel_rfl) (by kernel_rfl) (by kernel_rfl) (fun _ _ _ h => h) (Or.inl ⟨by rfl, ?_⟩) (by assumption) ?_
          rotate_left
          · intro w hSw; (try dsimp only at hSw); go_simp <;> (with_reducible rfl)
          try simp only [Act.put, List.setIfInBounds_toArray, List.set_cons_zero, List.set_cons_succ]
          refine heldTake (i := 3) (v := ?_) rfl (by kernel_rfl) (by kernel_rfl) (by kernel_rfl) (fun _ _ _ h => h) (Or.inl ⟨by rfl, ?_⟩) (by assumption) ?_
          rotate_left
          · intro w hSw; (try dsimp only at hSw); go_simp <;> (with_reducible rfl)
          try simp only [Act.put, List.setIfInBounds_toArray, List.set_cons_zero, List.set_cons_succ]
          refine heldTake (i := 4) (v := ?_) rfl (by kernel_rfl) (by kernel_rfl) (by kernel_rfl) (fun _ _ _ h => h) (Or.inl ⟨by rfl, ?_⟩) (by assumption) ?_
          rotate_left
          · intro w hSw; (try dsimp only at hSw); go_simp <;> (with_reducible rfl)
          try simp only [Act.put, List.setIfInBounds_toArray, List.set_cons_zero, List.set_cons_succ]
          refine heldTake (i := 5) (v := ?_) rfl (by kernel_rfl) (by kernel_rfl) (by kernel_rfl) (fun _ _ _ h => h) (Or.inl ⟨by rfl, ?_⟩) (by assumption) ?_
          rotate_left
          · intro w hSw; (try dsimp only at hSw); go_simp <;> (with_reducible rfl)
          try simp only [Act.put, List.setIfInBounds_toArray, List.set_cons_zero, List.set_cons_succ]
          refine heldTake (i := 6) (v := ?_) rfl (by kernel_rfl) (by kernel_rfl) (by kernel_rfl) (fun _ _ _ h => h) (Or.inl ⟨by rfl, ?_⟩) (by assumption) ?_
          rotate_left
          · intro w hSw; (try dsimp only at hSw); go_simp <;> (with_reducible rfl)
          try simp only [Act.put, List.setIfInBounds_toArray, List.set_cons_zero, List.set_cons_succ]
          refine heldTake (i := 8) (v := ?_) rfl (by kernel_rfl) (by kernel_rfl) (by kernel_rfl) (fun _ _ _ h => h) (Or.inl ⟨by rfl, ?_⟩) (by assumption) ?_
          rotate_left
          · intro w hSw; (try dsimp only at hSw); go_simp <;> (with_reducible rfl)
          try simp only [Act.put, List.setIfInBounds_toArray, List.set_cons_zero, List.set_cons_succ]
          refine heldTake (i := 9) (v := ?_) rfl (by kernel_rfl) (by kernel_rfl) (by kernel_rfl) (fun _ _ _ h => h) (Or.inl ⟨by rfl, ?_⟩) (by assumption) ?_
          rotate_left
          · intro w hSw; (try dsimp only at hSw); go_simp <;> (with_reducible rfl)
          try simp only [Act.put, List.setIfInBounds_toArray, List.set_cons_zero, List.set_cons_succ]
          refine heldTake (i := 10) (v := ?_) rfl (by kernel_rfl) (by kernel_rfl) (by kernel_rfl) (fun _ _ _ h => h) (Or.inl ⟨by rfl, ?_⟩) (by assumption) ?_
          rotate_left
          · intro w hSw; (try dsimp only at hSw); go_simp <;> (with_reducible rfl)
          try simp only [Act.put, List.setIfInBounds_toArray, List.set_cons_zero, List.set_cons_succ]
          refine heldTake (i := 11) (v := ?_) rfl (by kernel_rfl) (by kernel_rfl) (by kernel_rfl) (fun _ _ _ h => h) (Or.inl ⟨by rfl, ?_⟩) (by assumption) ?_
          rotate_left
          · intro w hSw; (try dsimp only at hSw); go_simp <;> (with_reducible rfl)
          try simp only [Act.put, List.setIfInBounds_toArray, List.set_cons_zero, List.set_cons_succ]
          refine heldTake (i := 12) (v := ?_) rfl (by kernel_rfl) (by kernel_rfl) (by kernel_rfl) (fun _ _ _ h => h) (Or.inl ⟨by rfl, ?_⟩) (by assumption) ?_
          rotate_left
          · intro w hSw; (try dsimp only at hSw); go_simp <;> (with_reducible rfl)
          try simp only [Act.put, List.setIfInBounds_toArray, List.set_cons_zero, List.set_cons_succ]
          refine heldTake (i := 13) (v := ?_) rfl (by kernel_rfl) (by kernel_rfl) (by kernel_rfl) (fun _ _ _ h => h) (Or.inl ⟨by rfl, ?_⟩) (by assumption) ?_
          rotate_left
          · intro w hSw; (try dsimp only at hSw); go_simp <;> (with_reducible rfl)
          try simp only [Act.put, List.setIfInBounds_toArray, List.set_cons_zero, List.set_cons_succ]
          refine heldTake (i := 14) (v := ?_) rfl (by kernel_rfl) (by kernel_rfl) (by kernel_rfl) (fun _ _ _ h => h) (Or.inl ⟨by rfl, ?_⟩) (by assumption) ?_
          rotate_left
          · intro w hSw; (try dsimp only at hSw); go_simp <;> (with_reducible rfl)
          try simp only [Act.put, List.setIfInBounds_toArray, List.set_cons_zero, List.set_cons_succ]
          refine wpAnyH_ready (rs := [0]) (by kernel_rfl) (by simp) ?_
          refine heldCons (i := 0) rfl (fun Kq hKq => ?_) AllReadyH.nil
          refine step_noneP rfl rfl ?_
          refine hKq.out _ _ (((Below.refl _ _).drew).trans ((Below.refl y9.drew.heap.size y9.drew.drew).alloc (Nat.le_refl _) _)) (fun hHeld => ?_)
          clear hKq Kq
          try simp only [Act.put, List.setIfInBounds_toArray, List.set_cons_zero, List.set_cons_succ]
          refine wpAnyH_ready (rs := [7]) (by kernel_rfl) (by simp) ?_
          refine heldCons (i := 7) rfl (fun Kq hKq => ?_) AllReadyH.nil
          refine step_known rfl (.tmp 130) (.tmp 136) 31 rfl _ _ rfl rfl _ w7 hr7 ?_
          refine hKq.out _ _ (((Below.refl _ _).drew).trans HB7.out) (fun hHeld => ?_)
          clear hKq Kq
          try simp only [Act.put, List.setIfInBounds_toArray, List.set_cons_zero, List.set_cons_succ]
          refine wpAnyH_ready (rs := [15]) (by kernel_rfl) (by simp) ?_
          refine heldCons (i := 15) rfl (fun Kq hKq => ?_) AllReadyH.nil
          refine step_known rfl (.tmp 137) (.tmp 144) 31 rfl _ _ rfl rfl _ w8 hr8 ?_
          refine hKq.out _ _ (((Below.refl _ _).drew).trans HB8.out) (fun hHeld => ?_)
          clear hKq Kq
          try simp only [Act.put, List.setIfInBounds_toArray, List.set_cons_zero, List.set_cons_succ]
          refine heldTake (i := 16) (v := ?_) rfl (by kernel_rfl) (by kernel_rfl) (by kernel_rfl) (fun _ _ _ h => h) (Or.inl ⟨by rfl, ?_⟩) (by assumption) ?_
          rotate_left
          · intro w hSw; (try dsimp only at hSw); go_simp <;> (with_reducible rfl)
          try simp only [Act.put, List.setIfInBounds_toArray, List.set_cons_zero, List.set_cons_succ]
          refine wpAnyH_done (by kernel_rfl) ?_ _
          clear ge1 hq1 hqc hqc0 hqn1 hqn2 hqc1 hqp hqt hwu hwr hwa hwb hdiv hmod hri hji hr7 hr8
          go_upto_region 21 with fail
          have HRT := hide (show Reads w8 w8.heap.size 2 (some ad3) r (plsL (D.eraseIdx j)) from (by
            have h1 := ((HRA2.out.later ((Below.refl _ _).drew)).later HB8.out).head (k := r) (by omega)
            rw [plsL_take, List.take_append_of_le_length (by rw [HEL.out]; exact Nat.le_refl _), List.take_of_length_le (by rw [HEL.out]; exact Nat.le_refl _)] at h1
            exact h1))
          have HS8 : Hid (Rox w w8 [(y2.heap.size, 26, plC p), (y7.heap.size, 26, plC q)] A1 Q c1 X) := hide (HS_y9.out.later (((Below.refl _ _).drew.drew).trans HB8.out))
          have HDD := hide (show decide (D.take j ++ D.drop (j + 1) = D.eraseIdx j) = true by rw [List.eraseIdx_eq_take_drop_succ]; exact decide_eq_true rfl)
          have hrc : (r : Int) ≤ (k_y5 : Int) := by have := HKC.out.1; omega
          go_upto_region 13 with (first
            | (go_at_call 21; refine (refSame_any HR8.out HRT.out (by omega) (by omega)).mono ?_; rintro _ y10 ⟨rfl, hlq⟩; rw [HDD.out]; have HS_y10 : Hid (Rox w y10 [(y2.heap.size, 26, plC p), (y7.heap.size, 26, plC q)] A1 Q c1 X) := hide (HS8.out.later hlq); clear hlq)
            | ((with_reducible refine at_slot 155 ?_); refine when_own rfl (.tmp 10) rfl HS_y10.out.own 0 rfl rfl Try.underlying26 rfl mplace_info ?_)
            | ((with_reducible refine at_slot 156 ?_); refine when_own rfl (.tmp 16) rfl HS_y10.out.own 1 rfl rfl Try.underlying26 rfl mplace_info ?_)
            | ((with_reducible refine at_slot 157 ?_); refine when_gives rfl _ (run_eqPlC _ _ (.tmp 155) (.tmp 156) _ rfl p q rfl rfl false (by simp [HPQ.out])) ?_))
          clear hsM hsi hs hu1 hu11 hu0 hju hju2 hu0n hru hqu hs2
          have hsb : s < 1000 := by have := HSM.out; omega
          go_wp2_with fail
          go_roundw
          case rel => exact ⟨s + 1, by simp, by have := HSM.out; omega, hide (HS_y10.out.cut 0)⟩
          case measure => have := HSM.out; simp [intOf]; omega
        · have hsi : ¬ (s : Int) < (M : Int) := by omega
          go_wp2_with (first
            | (go_at_call 15; refine (HS_x2.out.slots K (Q : Int) (by omega) (by omega)).mono ?_; rintro _ x3 ⟨rfl, hsq⟩; rw [Int.toNat_natCast, HM.out]; have HE := hide hsq; clear hsq))
          go_ret
          exact ⟨rfl, HE.out.low⟩
#print axioms stripeMates_walk
end Go.Proofs.Ytjafhlljigaibaa
