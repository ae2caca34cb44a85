/- StripeHomes' walk over the contracts. -/
import Derived.Test.YtjafhlljigaibaaLump3
import Derived.Deep.DeepCutAuto
import Derived.Deep.CutBlock
namespace Go.Proofs.Ytjafhlljigaibaa
open Go.RowKit
set_option linter.unusedVariables false
theorem hbool_info : (Try.prog.info? 4).map (·.size) = some 1 := by kernel_rfl
theorem hint_info : (Try.prog.info? 3).map (·.size) = some 1 := by kernel_rfl
theorem hext_built (a : Int) : Try.prog.built 36 [(0, .int .i64 a), (1, .int .i64 100)] = some (plC (a, 100)).toArray := by kernel_rfl
/-- Ninety-six flags; twelve counts. -/
def boolL (f : Nat → Bool) : List Value := (List.range 96).map fun i => Value.bool (f i)
def cntL (g : Nat → Nat) : List Value := (List.range 12).map fun i => Value.int .i64 (g i : Int)
theorem hzero38 (w : World) : (zeroValue 38).run Try.prog w = .ok (.agg (boolL (fun _ => false)).toArray) w := by kernel_rfl
theorem hzero39 (w : World) : (zeroValue 39).run Try.prog w = .ok (.agg (cntL (fun _ => 0)).toArray) w := by kernel_rfl
theorem boolL_at (f : Nat → Bool) {i : Nat} (h : i < 96) : (boolL f)[i]? = some (.bool (f i)) := by unfold boolL; simp [h]
theorem cntL_at (g : Nat → Nat) {i : Nat} (h : i < 12) : (cntL g)[i]? = some (.int .i64 (g i : Int)) := by unfold cntL; simp [h]
theorem boolL_size (f : Nat → Bool) : (boolL f).toArray.size = 96 := by simp [boolL]
theorem cntL_size (g : Nat → Nat) : (cntL g).toArray.size = 12 := by simp [cntL]
theorem boolL_set (f : Nat → Bool) {i : Nat} (h : i < 96) : (boolL f).toArray.setIfInBounds i (.bool true) = (boolL (upd f i true)).toArray := by
  apply Array.ext'
  rw [Array.toList_setIfInBounds]
  show (boolL f).set i (.bool true) = boolL (upd f i true)
  unfold boolL
  apply List.ext_getElem?
  intro j
  rw [List.getElem?_set]
  simp only [List.getElem?_map, List.length_map, List.length_range]
  by_cases hj : i = j
  · subst hj
    simp [h, upd_self]
  · rw [if_neg hj]
    by_cases hl : j < 96
    · simp [hl, upd_ne f true (fun e => hj e.symm)]
    · simp [List.getElem?_eq_none (l := List.range 96) (i := j) (by simp; omega)]
theorem cntL_set (g : Nat → Nat) {i : Nat} (h : i < 12) : (cntL g).toArray.setIfInBounds i (.int .i64 ((g i : Int) + 1)) = (cntL (fun j => g j + if i = j then 1 else 0)).toArray := by
  apply Array.ext'
  rw [Array.toList_setIfInBounds]
  show (cntL g).set i (.int .i64 ((g i : Int) + 1)) = cntL (fun j => g j + if i = j then 1 else 0)
  unfold cntL
  apply List.ext_getElem?
  intro j
  rw [List.getElem?_set]
  simp only [List.getElem?_map, List.length_map, List.length_range]
  by_cases hj : i = j
  · subst hj
    simp [h]
  · rw [if_neg hj]
    by_cases hl : j < 12
    · simp [hl, hj]
    · simp [List.getElem?_eq_none (l := List.range 12) (i := j) (by simp; omega)]
/-- Where a slot is flagged. -/
def posH (Q u s : Nat) : Nat := skipN (strH Q (s / u)) (s % u) * 8 + s / u
def seenH (Q u k : Nat) : Nat → Bool := fun i => (List.range k).any fun s => posH Q u s == i
def seenP (Q u M t : Nat) : Nat → Bool := fun i => seenH Q u M i || (List.range t).any fun s => strH Q s * 8 + s == i
theorem seenH_zero (Q u : Nat) : seenH Q u 0 = fun _ => false := rfl
theorem seenP_zero (Q u M : Nat) : seenP Q u M 0 = seenH Q u M := by funext i; simp [seenP]
theorem seenH_succ (Q u k : Nat) : upd (seenH Q u k) (posH Q u k) true = seenH Q u (k + 1) := by
  funext i
  unfold upd seenH
  rw [List.range_succ, List.any_append]
  by_cases h : i = posH Q u k
  · subst h; simp
  · have : (posH Q u k == i) = false := beq_eq_false_iff_ne.mpr (fun e => h e.symm)
    simp [h, this]
theorem seenP_succ (Q u M t : Nat) : upd (seenP Q u M t) (strH Q t * 8 + t) true = seenP Q u M (t + 1) := by
  funext i
  unfold upd seenP
  rw [List.range_succ, List.any_append]
  by_cases h : i = strH Q t * 8 + t
  · subst h; simp
  · have : (strH Q t * 8 + t == i) = false := beq_eq_false_iff_ne.mpr (fun e => h e.symm)
    simp [h, this]
theorem posH_free {Q u s : Nat} (hu : 0 < u) (hs : s < 8 * u) : seenH Q u s (posH Q u s) = false := by
  unfold seenH
  rw [List.any_eq_false]
  intro k hk
  have hk' := List.mem_range.1 hk
  intro e
  have e1 : posH Q u k = posH Q u s := by simpa using e
  unfold posH at e1
  have h1 : k / u < 8 := (Nat.div_lt_iff_lt_mul hu).2 (by omega)
  have h2 : s / u < 8 := (Nat.div_lt_iff_lt_mul hu).2 (by omega)
  have h8 : ∀ a b x y : Nat, a * 8 + x = b * 8 + y → x < 8 → y < 8 → a = b ∧ x = y := fun a b x y h hx hy => by omega
  obtain ⟨h4, h3⟩ := h8 _ _ _ _ e1 h1 h2
  rw [h3] at h4
  have h5 := skip_inj h4
  have h6 := Nat.div_add_mod k u
  have h7 := Nat.div_add_mod s u
  rw [h3, h5] at h6
  omega
theorem parH_free {Q u t : Nat} (hu : 0 < u) (ht : t < 8) : seenP Q u (8 * u) t (strH Q t * 8 + t) = false := by
  unfold seenP seenH
  rw [Bool.or_eq_false_iff, List.any_eq_false, List.any_eq_false]
  constructor
  · intro k hk e
    have hk' := List.mem_range.1 hk
    have e1 : posH Q u k = strH Q t * 8 + t := by simpa using e
    unfold posH at e1
    have h1 : k / u < 8 := (Nat.div_lt_iff_lt_mul hu).2 (by omega)
    have h8 : ∀ a b x y : Nat, a * 8 + x = b * 8 + y → x < 8 → y < 8 → a = b ∧ x = y := fun a b x y h hx hy => by omega
    obtain ⟨h4, h3⟩ := h8 _ _ _ _ e1 h1 ht
    rw [h3] at h4
    exact skip_ne _ _ h4
  · intro k hk e
    have hk' := List.mem_range.1 hk
    have e1 : strH Q k * 8 + k = strH Q t * 8 + t := by simpa using e
    omega
theorem step_pokeH {P : Program} {ops : Array Oper} {o : Oper} {a : Act} {w : World} {K : Act → World → Prop} {Q : Exit → Act → World → Prop} {E : Prop} (hg : o.guard = none) (ty : TypeId) (x y : Operand) (ho : o.op = .store ty x y)
    (g off : Nat) (t : TypeId) (cur : Array Value) (h : Blk w g t cur) (hx : a.eval x = .pointer (some ⟨g, off, none⟩)) (v : Value) (hy : a.eval y = v) (h1 : v.oneCell' = true) (hi : (P.info? ty).map (·.size) = some 1) (hl : off < cur.size)
    (hK : ∀ w', Blk w' g t (cur.setIfInBounds off v) → w.grownBy w' (some g) → w'.heap.size = w.heap.size → K (a.put o.dst undef) w') : if Region.wanted o (yielded ops a.tmps) = true then Oper.wp P o a w K Q else E := by
  have hw : Region.wanted o (yielded ops a.tmps) = true := by simp [Region.wanted, hg]
  rw [if_pos hw]
  obtain ⟨w', hrun, h2, h3, h4⟩ := run_storeVar_poke (P := P) w g off t ty cur h v h1 hi hl
  unfold Oper.wp execOp
  simp only [ho, hx, hy, Instr.storeAt, Instr.sureAddr, Sem.run_bind, Sem.run_pure, Result.andThen_ok, hrun]
  exact hK w' h2 h3 h4
theorem Rox.pushedH {w0 W W' : World} {A A' : Option Addr} {n c c' : Nat} {X : List PlI} {p : PlI} (h : Rox w0 W [] A n c X) (hb : Below w0.heap.size W W') (ho : XtOwn W' w0.heap.size A' (n + 1) c' (X ++ [p])) (hp : 0 ≤ p.2 ∧ p.2 ≤ 1000000) (hn : n + 1 ≤ 12) : Rox w0 W' [] A' (n + 1) c' (X ++ [p]) :=
  Rox.of (h.low.trans hb) ho (fun q hq => (List.mem_append.1 hq).elim (h.small q) (fun e => by rw [List.mem_singleton.1 e]; exact hp)) hn
def hundred : Nat → Int := fun _ => 100
set_option maxRecDepth 100000 in
set_option maxHeartbeats 8000000 in
theorem stripeHomes_walk (K : StrK) (v : Int) (w : World) :
    Calls Try.prog 4 #[.int .i64 v] w fun e w' => e = .returned (.bool true) ∧ Below w.heap.size w w' := by
  obtain ⟨N, hN, hN2⟩ := mask16 v
  obtain ⟨Q, hQ⟩ : ∃ Q, Q = 2 + N % 11 := ⟨_, rfl⟩
  have HQ := hide (show (2 + (N : Int) % 11) = (Q : Int) by omega)
  have hQ2 : 2 ≤ Q := by omega
  have hQ12 : Q ≤ 12 := by omega
  obtain ⟨u, hu⟩ : ∃ u, Q = u + 1 := ⟨Q - 1, by omega⟩
  have HQU := hide hu
  have hu1 : 1 ≤ u := by omega
  have hu11 : u ≤ 11 := by omega
  have HSH := hide (fun w => shown13_any K w)
  clear hN2 hQ hu
  go_enter Try.func4, Try.ntmps4
  go_upto_region 2 with (first
    | (go_at_call 9; refine (HSH.out _).mono ?_; rintro _ x1 ⟨rfl, hlq⟩; have HX1 := hide hlq; clear hlq))
  go_cut [0] (fun v0 wx => x1 = wx ∧ v0 = .int .i64 (Q : Int))
  case first =>
    go_wp2_with fail
    go_meet
    case rel => exact ⟨rfl, by rw [HQ.out]⟩
  obtain ⟨rfl, rfl⟩ := hcut
  clear hN
  go_wp2_with fail
  go_loopw [4, 5] (fun s4 s5 wr => ∃ (k : Nat) (A1 : Option Addr) (c1 : Nat), k ≤ Q ∧ s5 = .int .i64 (k : Int) ∧ s4 = .slice A1 k c1 ∧ Hid (Rox w wr [] A1 k c1 (rowX hundred k))) (fun _ s5 _ => Q - (intOf s5).toNat)
  case atStart => exact ⟨0, none, 0, Nat.zero_le _, rfl, rfl, hide (Rox.begin HX1.out)⟩
  case round =>
    obtain ⟨k, A1, c1, hk, rfl, rfl, HX⟩ := hrel
    by_cases hkQ : k < Q
    · have hki : (k : Int) < (Q : Int) := by omega
      go_wp2_with (first
        | ((with_reducible refine at_slot 29 ?_); refine wpList_build_is rfl 36 #[(0, .tmp 28), (1, .const (.int .i64 100))] rfl [(0, .int .i64 (k : Int)), (1, .int .i64 100)] (by simp only [List.map_toArray, List.map_cons, List.map_nil]; rfl) _ (hext_built _) ?_)
        | ((with_reducible refine at_slot 30 ?_); refine wpList_oneX rfl (.tmp 29) rfl ((k : Int), 100) rfl ?_)
        | ((with_reducible refine at_slot 31 ?_); refine wpList_pushX rfl (.tmp 27) (.tmp 30) rfl w.heap.size A1 k c1 (rowX hundred k) ((k : Int), 100) rfl HX.out.row rfl rfl (by omega) HX.out.low.size ?_; intro A9 c9 x9 ho9 hl9; have HS9 : Hid (Rox w x9 [] A9 (k + 1) c9 (rowX hundred (k + 1))) := hide (by rw [rowX_succ]; exact HX.out.pushedH hl9 ho9 (by show (0 : Int) ≤ 100 ∧ (100 : Int) ≤ 1000000; decide) (by omega)); clear ho9 hl9))
      go_roundw
      case rel => exact ⟨k + 1, A9, c9, by omega, by simp, rfl, HS9⟩
      case measure => simp [intOf]; omega
    · obtain rfl : Q = k := by omega
      clear hkQ hk
      have hqu : (Q : Int) - 1 = (u : Int) := by have := HQU.out; omega
      obtain ⟨X, hX⟩ : ∃ X, rowX hundred Q = X := ⟨_, rfl⟩
      rw [hX] at HX
      obtain ⟨M, hM⟩ : ∃ M, slotsN Q = M := ⟨_, rfl⟩
      have hM8 : M = 8 * u := by have := HQU.out; rw [← hM, this]; rfl
      have hMb : M ≤ 100 := by omega
      have HM8 := hide hM8
      have HXX := hide hX
      have HM := hide hM
      clear hX hM hM8
      obtain ⟨v0, hv0⟩ : ∃ v0, v0 = wr := ⟨_, rfl⟩
      rw [← hv0] at HX ⊢
      clear hv0
      go_wp2_with (first
        | ((with_reducible refine at_slot 6 ?_); refine wpList_alloc_blk rfl 38 rfl _ (hzero38 _) ?_; intro y1 hbq hl1 hs1; have HS_y1 : Hid (Rox w y1 [(v0.heap.size, 38, boolL (fun _ => false))] A1 Q c1 X) := hide (HX.out.var hl1 (Nat.le_refl _) hbq); clear hbq hl1 hs1)
        | ((with_reducible refine at_slot 7 ?_); refine wpList_alloc_blk rfl 39 rfl _ (hzero39 _) ?_; intro y2 hbq hl1 hs1; have HS_y2 : Hid (Rox w y2 [(v0.heap.size, 38, boolL (fun _ => false)), (y1.heap.size, 39, cntL (fun _ => 0))] A1 Q c1 X) := hide (HS_y1.out.var hl1 (Nat.le_refl _) hbq); clear hbq hl1 hs1))
      go_loopw [8, 9] (fun s8 s9 wr => ∃ s : Nat, s8 = .int .i64 (s : Int) ∧ s9 = .int .i64 (s : Int) ∧ s ≤ M ∧ Hid (Rox w wr [(v0.heap.size, 38, boolL (seenH Q u s)), (y1.heap.size, 39, cntL (fun _ => 0))] A1 Q c1 X)) (fun _ s9 _ => M - (intOf s9).toNat)
      case atStart => exact ⟨0, rfl, rfl, Nat.zero_le _, HS_y2⟩
      case round =>
        obtain ⟨s, rfl, rfl, hs, HS_v⟩ := hrel
        clear HX HS_y1 HS_y2
        obtain ⟨v1, hv1⟩ : ∃ v1, v1 = wr := ⟨_, rfl⟩
        rw [← hv1] at HS_v ⊢
        clear hv1
        by_cases hsM : s < M
        · have hsi : (s : Int) < (M : Int) := by omega
          obtain ⟨t, ht⟩ : ∃ t, s / u = t := ⟨_, rfl⟩
          obtain ⟨j, hj⟩ : ∃ j, s % u = j := ⟨_, rfl⟩
          have ht8 : t < 8 := by rw [← ht]; exact (Nat.div_lt_iff_lt_mul (by omega)).2 (by have := HM8.out; omega)
          have hju : j < u := by rw [← hj]; exact Nat.mod_lt _ (by omega)
          obtain ⟨d, hd⟩ : ∃ d, skipN (strH Q t) j = d := ⟨_, rfl⟩
          have hdQ : d < Q := by rw [← hd]; have := HQU.out; exact skip_lt (by omega)
          have hq1 : Q - 1 = u := by have := HQU.out; omega
          have he0 : homeE Q (s : Int) = 0 := homeE_in hQ2 (by rw [HM.out]; exact hsM)
          obtain ⟨pz, hpz⟩ : ∃ z : Int, z = 100 + (t : Int) := ⟨_, rfl⟩
          have HP := hide (show homeR X Q (s : Int) = ((d : Int), pz) ∧ homeE Q (s : Int) = 0 from ⟨by
            unfold homeR
            rw [if_pos he0, Int.toNat_natCast, ← HXX.out, row_home hundred (n := Q) (slot := s) hQ2, hq1, ht, hj, hd, hpz]
            rfl, he0⟩)
          have hpos : posH Q u s = d * 8 + t := by unfold posH; rw [ht, hj, hd]
          have hfree : seenH Q u s (d * 8 + t) = false := by rw [← hpos]; exact posH_free (by omega) (by have := HM8.out; omega)
          have HNX := hide (show upd (seenH Q u s) (d * 8 + t) true = seenH Q u (s + 1) by rw [← hpos]; exact seenH_succ Q u s)
          have HFR := hide hfree
          have hdiv : (s : Int).tdiv (u : Int) = (t : Int) := by rw [Int.tdiv_eq_ediv_of_nonneg (by omega), ← ht]; rfl
          have hz1 : ¬ pz < 100 := by omega
          have hz2 : ¬ pz ≥ 108 := by omega
          have hz2b : ¬ 108 ≤ pz := by omega
          have hz1d : decide (pz < 100) = false := decide_eq_false hz1
          have hz2d : decide (108 ≤ pz) = false := decide_eq_false hz2b
          have hz2e : decide (pz ≥ 108) = false := decide_eq_false hz2b
          have hz1p : 100 ≤ pz := by omega
          have hz2p : pz < 108 := by omega
          have hz3 : IntKind.i64.wrap (pz - 100) = (t : Int) := by rw [IntWalk.i64_in _ (by omega)]; omega
          have hz4 : IntKind.i64.wrap (100 + (t : Int)) = pz := by rw [IntWalk.i64_in _ (by omega)]; omega
          have hwa : IntKind.i64.wrap ((Q : Int) - 1) = (u : Int) := by rw [IntWalk.i64_in _ (by omega)]; exact hqu
          have hwu : IntKind.i64.wrap (u : Int) = (u : Int) := IntWalk.i64_in _ (by omega)
          have hwt : IntKind.i64.wrap (t : Int) = (t : Int) := IntWalk.i64_in _ (by omega)
          have hd12 : (d : Int) < 12 := by omega
          have hd12n : d < 12 := by omega
          have ht8i : (t : Int) < 8 := by omega
          have hdq : ¬ (d : Int) ≥ (Q : Int) := by omega
          have hdq2 : ¬ (Q : Int) ≤ (d : Int) := by omega
          have hu0 : ¬ (u : Int) = 0 := by omega
          have hdqn : ¬ Q ≤ d := by omega
          have hdqm : d < Q := by omega
          have hu0n : ¬ u = 0 := by omega
          have hin : d * 8 + t < 96 := by omega
          have HIN := hide hin
          have HSM := hide hsM
          have HPZ := hide hpz
          clear ht hj hd hq1 he0 hpz hpos hfree hin hju hdQ
          go_upto_region 14 with (first
            | (go_at_call 15; refine (HS_v.out.slots K (Q : Int) (by omega) (by omega)).mono ?_; rintro _ y101 ⟨rfl, hsq⟩; rw [Int.toNat_natCast, HM.out]; have HS_y101 : Hid (Rox w y101 [(v0.heap.size, 38, boolL (seenH Q u s)), (y1.heap.size, 39, cntL (fun _ => 0))] A1 Q c1 X) := hide (hsq); clear hsq))
          go_upto_region 15 with (first
            | (go_at_call 11; refine (HS_y101.out.home K (s : Int) ⟨by omega, by omega⟩).mono ?_; rintro _ y102 ⟨rfl, hsq⟩; rw [HP.out.1, HP.out.2]; have HS_y102 : Hid (Rox w y102 [(v0.heap.size, 38, boolL (seenH Q u s)), (y1.heap.size, 39, cntL (fun _ => 0))] A1 Q c1 X) := hide (hsq); clear hsq)
            | ((with_reducible refine at_slot 10 ?_); refine wpList_alloc_blk rfl 26 rfl _ (mplace_zero _) ?_; intro y103 hbq hl1 hs1; clear hs1)
            | ((with_reducible refine at_store 10 ?_); refine wpList_store_all rfl 26 (.tmp 10) (.tmp 42) rfl y102.heap.size 26 _ hbq rfl (plC (((d : Int), pz))) rfl mplace_info rfl (plC_one _) ?_; intro y104 hbz hg hs; have HS_y104 : Hid (Rox w y104 [(v0.heap.size, 38, boolL (seenH Q u s)), (y1.heap.size, 39, cntL (fun _ => 0)), (y102.heap.size, 26, plC (((d : Int), pz)))] A1 Q c1 X) := hide (HS_y102.out.new hl1 hg hbz); clear hs hbq hl1 hg hbz))
          refine wp_region_held_drew (S := (fun W => W.cell? ⟨y102.heap.size, 0, none⟩ = some (.int .i64 (d : Int)) ∧ W.cell? ⟨y102.heap.size, 1, none⟩ = some (.int .i64 pz) ∧ W.cell? ⟨v0.heap.size, d * 8 + t, none⟩ = some (.bool false))) (by kernel_rfl) ?_ (fun hHeld => ?_)
          · exact ⟨((HS_y104.out.drew.own.blk 2 rfl).cell 0).trans rfl, ((HS_y104.out.drew.own.blk 2 rfl).cell 1).trans rfl, ((HS_y104.out.drew.own.blk 0 rfl).cell _).trans ((by simpa using boolL_at _ HIN.out : (boolL (seenH Q u s)).toArray[d * 8 + t]? = some (.bool (seenH Q u s (d * 8 + t)))).trans (by rw [HFR.out]))⟩
          have HSd := hide (HS_y104.out.drew)
          refine heldTake (i := 0) (v := ?_) rfl (by kernel_rfl) (by kernel_rfl) (by kernel_rfl) (fun _ _ _ h => h) (Or.inl ⟨by rfl, ?_⟩) (by assumption) ?_
          rotate_left
          · intro w hSw; (try dsimp only at hSw); go_simp <;> (with_reducible rfl)
          try simp only [Act.put, List.setIfInBounds_toArray, List.set_cons_zero, List.set_cons_succ]
          refine heldTake (i := 1) (v := ?_) rfl (by kernel_rfl) (by kernel_rfl) (by kernel_rfl) (fun _ _ _ h => h) (Or.inl ⟨by rfl, ?_⟩) (by assumption) ?_
          rotate_left
          · intro w hSw; (try dsimp only at hSw); go_simp <;> (with_reducible rfl)
          try simp only [Act.put, List.setIfInBounds_toArray, List.set_cons_zero, List.set_cons_succ]
          refine heldTake (i := 2) (v := ?_) rfl (by kernel_rfl) (by kernel_rfl) (by kernel_rfl) (fun _ _ _ h => h) (Or.inl ⟨by rfl, ?_⟩) (by assumption) ?_
          rotate_left
          · intro w hSw; (try dsimp only at hSw); go_simp <;> (with_reducible rfl)
          try simp only [Act.put, List.setIfInBounds_toArray, List.set_cons_zero, List.set_cons_succ]
          refine heldTake (i := 3) (v := ?_) rfl (by kernel_rfl) (by kernel_rfl) (by kernel_rfl) (fun _ _ _ h => h) (Or.inl ⟨by rfl, ?_⟩) (by assumption) ?_
          rotate_left
          · intro w hSw; (try dsimp only at hSw); go_simp <;> (with_reducible rfl)
          try simp only [Act.put, List.setIfInBounds_toArray, List.set_cons_zero, List.set_cons_succ]
          refine heldTake (i := 4) (v := .int .i64 (d : Int)) rfl (by kernel_rfl) (by kernel_rfl) (by kernel_rfl) (fun _ _ _ h => h) (Or.inl ⟨by rfl, fun W hW => ?_⟩) (by assumption) ?_
          · dsimp only at hW
            go_split_ands
            go_simp <;> rfl
          try simp only [Act.put, List.setIfInBounds_toArray, List.set_cons_zero, List.set_cons_succ]
          refine heldTake (i := 5) (v := ?_) rfl (by kernel_rfl) (by kernel_rfl) (by kernel_rfl) (fun _ _ _ h => h) (Or.inl ⟨by rfl, ?_⟩) (by assumption) ?_
          rotate_left
          · intro w hSw; (try dsimp only at hSw); go_simp <;> (with_reducible rfl)
          try simp only [Act.put, List.setIfInBounds_toArray, List.set_cons_zero, List.set_cons_succ]
          refine heldTake (i := 6) (v := ?_) rfl (by kernel_rfl) (by kernel_rfl) (by kernel_rfl) (fun _ _ _ h => h) (Or.inl ⟨by rfl, ?_⟩) (by assumption) ?_
          rotate_left
          · intro w hSw; (try dsimp only at hSw); go_simp <;> (with_reducible rfl)
          try simp only [Act.put, List.setIfInBounds_toArray, List.set_cons_zero, List.set_cons_succ]
          refine heldTake (i := 7) (v := ?_) rfl (by kernel_rfl) (by kernel_rfl) (by kernel_rfl) (fun _ _ _ h => h) (Or.inl ⟨by rfl, ?_⟩) (by assumption) ?_
          rotate_left
          · intro w hSw; (try dsimp only at hSw); go_simp <;> (with_reducible rfl)
          try simp only [Act.put, List.setIfInBounds_toArray, List.set_cons_zero, List.set_cons_succ]
          refine heldTake (i := 8) (v := ?_) rfl (by kernel_rfl) (by kernel_rfl) (by kernel_rfl) (fun _ _ _ h => h) (Or.inl ⟨by rfl, ?_⟩) (by assumption) ?_
          rotate_left
          · intro w hSw; (try dsimp only at hSw); go_simp <;> (with_reducible rfl)
          try simp only [Act.put, List.setIfInBounds_toArray, List.set_cons_zero, List.set_cons_succ]
          refine heldTake (i := 9) (v := .int .i64 (d : Int)) rfl (by kernel_rfl) (by kernel_rfl) (by kernel_rfl) (fun _ _ _ h => h) (Or.inl ⟨by rfl, fun W hW => ?_⟩) (by assumption) ?_
          · dsimp only at hW
            go_split_ands
            go_simp <;> rfl
          try simp only [Act.put, List.setIfInBounds_toArray, List.set_cons_zero, List.set_cons_succ]
          refine heldTake (i := 10) (v := ?_) rfl (by kernel_rfl) (by kernel_rfl) (by kernel_rfl) (fun _ _ _ h => h) (Or.inl ⟨by rfl, ?_⟩) (by assumption) ?_
          rotate_left
          · intro w hSw; (try dsimp only at hSw); go_simp <;> (with_reducible rfl)
          try simp only [Act.put, List.setIfInBounds_toArray, List.set_cons_zero, List.set_cons_succ]
          refine heldTake (i := 11) (v := ?_) rfl (by kernel_rfl) (by kernel_rfl) (by kernel_rfl) (fun _ _ _ h => h) (Or.inl ⟨by rfl, ?_⟩) (by assumption) ?_
          rotate_left
          · intro w hSw; (try dsimp only at hSw); go_simp <;> (with_reducible rfl)
          try simp only [Act.put, List.setIfInBounds_toArray, List.set_cons_zero, List.set_cons_succ]
          refine heldTake (i := 12) (v := ?_) rfl (by kernel_rfl) (by kernel_rfl) (by kernel_rfl) (fun _ _ _ h => h) (Or.inl ⟨by rfl, ?_⟩) (by assumption) ?_
          rotate_left
          · intro w hSw; (try dsimp only at hSw); go_simp <;> (with_reducible rfl)
          try simp only [Act.put, List.setIfInBounds_toArray, List.set_cons_zero, List.set_cons_succ]
          refine heldTake (i := 13) (v := ?_) rfl (by kernel_rfl) (by kernel_rfl) (by kernel_rfl) (fun _ _ _ h => h) (Or.inl ⟨by rfl, ?_⟩) (by assumption) ?_
          rotate_left
          · intro w hSw; (try dsimp only at hSw); go_simp <;> (with_reducible rfl)
          try simp only [Act.put, List.setIfInBounds_toArray, List.set_cons_zero, List.set_cons_succ]
          refine heldTake (i := 14) (v := ?_) rfl (by kernel_rfl) (by kernel_rfl) (by kernel_rfl) (fun _ _ _ h => h) (Or.inl ⟨by rfl, ?_⟩) (by assumption) ?_
          rotate_left
          · intro w hSw; (try dsimp only at hSw); go_simp <;> (with_reducible rfl)
          try simp only [Act.put, List.setIfInBounds_toArray, List.set_cons_zero, List.set_cons_succ]
          refine heldTake (i := 15) (v := .int .i64 pz) rfl (by kernel_rfl) (by kernel_rfl) (by kernel_rfl) (fun _ _ _ h => h) (Or.inl ⟨by rfl, fun W hW => ?_⟩) (by assumption) ?_
          · dsimp only at hW
            go_split_ands
            go_simp <;> rfl
          try simp only [Act.put, List.setIfInBounds_toArray, List.set_cons_zero, List.set_cons_succ]
          refine heldTake (i := 16) (v := ?_) rfl (by kernel_rfl) (by kernel_rfl) (by kernel_rfl) (fun _ _ _ h => h) (Or.inl ⟨by rfl, ?_⟩) (by assumption) ?_
          rotate_left
          · intro w hSw; (try dsimp only at hSw); go_simp <;> (with_reducible rfl)
          try simp only [Act.put, List.setIfInBounds_toArray, List.set_cons_zero, List.set_cons_succ]
          refine heldTake (i := 17) (v := ?_) rfl (by kernel_rfl) (by kernel_rfl) (by kernel_rfl) (fun _ _ _ h => h) (Or.inl ⟨by rfl, ?_⟩) (by assumption) ?_
          rotate_left
          · intro w hSw; (try dsimp only at hSw); go_simp <;> (with_reducible rfl)
          try simp only [Act.put, List.setIfInBounds_toArray, List.set_cons_zero, List.set_cons_succ]
          refine heldTake (i := 18) (v := ?_) rfl (by kernel_rfl) (by kernel_rfl) (by kernel_rfl) (fun _ _ _ h => h) (Or.inl ⟨by rfl, ?_⟩) (by assumption) ?_
          rotate_left
          · intro w hSw; (try dsimp only at hSw); go_simp <;> (with_reducible rfl)
          try simp only [Act.put, List.setIfInBounds_toArray, List.set_cons_zero, List.set_cons_succ]
          refine heldTake (i := 19) (v := ?_) rfl (by kernel_rfl) (by kernel_rfl) (by kernel_rfl) (fun _ _ _ h => h) (Or.inl ⟨by rfl, ?_⟩) (by assumption) ?_
          rotate_left
          · intro w hSw; (try dsimp only at hSw); go_simp <;> (with_reducible rfl)
          try simp only [Act.put, List.setIfInBounds_toArray, List.set_cons_zero, List.set_cons_succ]
          refine heldTake (i := 20) (v := .int .i64 pz) rfl (by kernel_rfl) (by kernel_rfl) (by kernel_rfl) (fun _ _ _ h => h) (Or.inl ⟨by rfl, fun W hW => ?_⟩) (by assumption) ?_
          · dsimp only at hW
            go_split_ands
            go_simp <;> rfl
          try simp only [Act.put, List.setIfInBounds_toArray, List.set_cons_zero, List.set_cons_succ]
          refine heldTake (i := 21) (v := ?_) rfl (by kernel_rfl) (by kernel_rfl) (by kernel_rfl) (fun _ _ _ h => h) (Or.inl ⟨by rfl, ?_⟩) (by assumption) ?_
          rotate_left
          · intro w hSw; (try dsimp only at hSw); go_simp <;> (with_reducible rfl)
          try simp only [Act.put, List.setIfInBounds_toArray, List.set_cons_zero, List.set_cons_succ]
          refine heldTake (i := 22) (v := ?_) rfl (by kernel_rfl) (by kernel_rfl) (by kernel_rfl) (fun _ _ _ h => h) (Or.inl ⟨by rfl, ?_⟩) (by assumption) ?_
          rotate_left
          · intro w hSw; (try dsimp only at hSw); go_simp <;> (with_reducible rfl)
          try simp only [Act.put, List.setIfInBounds_toArray, List.set_cons_zero, List.set_cons_succ]
          refine heldTake (i := 23) (v := ?_) rfl (by kernel_rfl) (by kernel_rfl) (by kernel_rfl) (fun _ _ _ h => h) (Or.inl ⟨by rfl, ?_⟩) (by assumption) ?_
          rotate_left
          · intro w hSw; (try dsimp only at hSw); go_simp <;> (with_reducible rfl)
          try simp only [Act.put, List.setIfInBounds_toArray, List.set_cons_zero, List.set_cons_succ]
          refine heldTake (i := 24) (v := ?_) rfl (by kernel_rfl) (by kernel_rfl) (by kernel_rfl) (fun _ _ _ h => h) (Or.inl ⟨by rfl, ?_⟩) (by assumption) ?_
          rotate_left
          · intro w hSw; (try dsimp only at hSw); go_simp <;> (with_reducible rfl)
          try simp only [Act.put, List.setIfInBounds_toArray, List.set_cons_zero, List.set_cons_succ]
          refine heldTake (i := 25) (v := .int .i64 (d : Int)) rfl (by kernel_rfl) (by kernel_rfl) (by kernel_rfl) (fun _ _ _ h => h) (Or.inl ⟨by rfl, fun W hW => ?_⟩) (by assumption) ?_
          · dsimp only at hW
            go_split_ands
            go_simp <;> rfl
          try simp only [Act.put, List.setIfInBounds_toArray, List.set_cons_zero, List.set_cons_succ]
          refine heldTake (i := 26) (v := ?_) rfl (by kernel_rfl) (by kernel_rfl) (by kernel_rfl) (fun _ _ _ h => h) (Or.inl ⟨by rfl, ?_⟩) (by assumption) ?_
          rotate_left
          · intro w hSw; (try dsimp only at hSw); go_simp <;> (with_reducible rfl)
          try simp only [Act.put, List.setIfInBounds_toArray, List.set_cons_zero, List.set_cons_succ]
          refine heldTake (i := 27) (v := .int .i64 pz) rfl (by kernel_rfl) (by kernel_rfl) (by kernel_rfl) (fun _ _ _ h => h) (Or.inl ⟨by rfl, fun W hW => ?_⟩) (by assumption) ?_
          · dsimp only at hW
            go_split_ands
            go_simp <;> rfl
          try simp only [Act.put, List.setIfInBounds_toArray, List.set_cons_zero, List.set_cons_succ]
          refine heldTake (i := 28) (v := ?_) rfl (by kernel_rfl) (by kernel_rfl) (by kernel_rfl) (fun _ _ _ h => h) (Or.inl ⟨by rfl, ?_⟩) (by assumption) ?_
          rotate_left
          · intro w hSw; (try dsimp only at hSw); go_simp <;> (with_reducible rfl)
          try simp only [Act.put, List.setIfInBounds_toArray, List.set_cons_zero, List.set_cons_succ]
          refine heldTake (i := 29) (v := ?_) rfl (by kernel_rfl) (by kernel_rfl) (by kernel_rfl) (fun _ _ _ h => h) (Or.inl ⟨by rfl, ?_⟩) (by assumption) ?_
          rotate_left
          · intro w hSw; (try dsimp only at hSw); go_simp <;> (with_reducible rfl)
          try simp only [Act.put, List.setIfInBounds_toArray, List.set_cons_zero, List.set_cons_succ]
          refine heldTake (i := 30) (v := ?_) rfl (by kernel_rfl) (by kernel_rfl) (by kernel_rfl) (fun _ _ _ h => h) (Or.inl ⟨by rfl, ?_⟩) (by assumption) ?_
          rotate_left
          · intro w hSw; (try dsimp only at hSw); go_simp <;> (with_reducible rfl)
          try simp only [Act.put, List.setIfInBounds_toArray, List.set_cons_zero, List.set_cons_succ]
          refine heldTake (i := 31) (v := .bool false) rfl (by kernel_rfl) (by kernel_rfl) (by kernel_rfl) (fun _ _ _ h => h) (Or.inl ⟨by rfl, fun W hW => ?_⟩) (by assumption) ?_
          · dsimp only at hW
            go_split_ands
            go_simp <;> rfl
          try simp only [Act.put, List.setIfInBounds_toArray, List.set_cons_zero, List.set_cons_succ]
          refine heldTake (i := 32) (v := ?_) rfl (by kernel_rfl) (by kernel_rfl) (by kernel_rfl) (fun _ _ _ h => h) (Or.inl ⟨by rfl, ?_⟩) (by assumption) ?_
          rotate_left
          · intro w hSw; (try dsimp only at hSw); go_simp <;> (with_reducible rfl)
          try simp only [Act.put, List.setIfInBounds_toArray, List.set_cons_zero, List.set_cons_succ]
          refine heldTake (i := 33) (v := ?_) rfl (by kernel_rfl) (by kernel_rfl) (by kernel_rfl) (fun _ _ _ h => h) (Or.inl ⟨by rfl, ?_⟩) (by assumption) ?_
          rotate_left
          · intro w hSw; (try dsimp only at hSw); go_simp <;> (with_reducible rfl)
          try simp only [Act.put, List.setIfInBounds_toArray, List.set_cons_zero, List.set_cons_succ]
          refine heldTake (i := 34) (v := ?_) rfl (by kernel_rfl) (by kernel_rfl) (by kernel_rfl) (fun _ _ _ h => h) (Or.inl ⟨by rfl, ?_⟩) (by assumption) ?_
          rotate_left
          · intro w hSw; (try dsimp only at hSw); go_simp <;> (with_reducible rfl)
          try simp only [Act.put, List.setIfInBounds_toArray, List.set_cons_zero, List.set_cons_succ]
          refine heldTake (i := 35) (v := .int .i64 pz) rfl (by kernel_rfl) (by kernel_rfl) (by kernel_rfl) (fun _ _ _ h => h) (Or.inl ⟨by rfl, fun W hW => ?_⟩) (by assumption) ?_
          · dsimp only at hW
            go_split_ands
            go_simp <;> rfl
          try simp only [Act.put, List.setIfInBounds_toArray, List.set_cons_zero, List.set_cons_succ]
          refine heldTake (i := 36) (v := ?_) rfl (by kernel_rfl) (by kernel_rfl) (by kernel_rfl) (fun _ _ _ h => h) (Or.inl ⟨by rfl, ?_⟩) (by assumption) ?_
          rotate_left
          · intro w hSw; (try dsimp only at hSw); go_simp <;> (with_reducible rfl)
          try simp only [Act.put, List.setIfInBounds_toArray, List.set_cons_zero, List.set_cons_succ]
          refine heldTake (i := 37) (v := ?_) rfl (by kernel_rfl) (by kernel_rfl) (by kernel_rfl) (fun _ _ _ h => h) (Or.inl ⟨by rfl, ?_⟩) (by assumption) ?_
          rotate_left
          · intro w hSw; (try dsimp only at hSw); go_simp <;> (with_reducible rfl)
          try simp only [Act.put, List.setIfInBounds_toArray, List.set_cons_zero, List.set_cons_succ]
          refine heldTake (i := 38) (v := .int .i64 (u : Int)) rfl (by kernel_rfl) (by kernel_rfl) (by kernel_rfl) (fun _ _ _ h => h) (Or.inl ⟨by rfl, fun W hW => ?_⟩) (by assumption) ?_
          · dsimp only at hW
            go_split_ands
            go_simp <;> rfl
          try simp only [Act.put, List.setIfInBounds_toArray, List.set_cons_zero, List.set_cons_succ]
          refine heldTake (i := 39) (v := .int .i64 (t : Int)) rfl (by kernel_rfl) (by kernel_rfl) (by kernel_rfl) (fun _ _ _ h => h) (Or.inl ⟨by rfl, fun W hW => ?_⟩) (by assumption) ?_
          · dsimp only at hW
            go_split_ands
            go_simp <;> rfl
          try simp only [Act.put, List.setIfInBounds_toArray, List.set_cons_zero, List.set_cons_succ]
          refine heldTake (i := 40) (v := .int .i64 pz) rfl (by kernel_rfl) (by kernel_rfl) (by kernel_rfl) (fun _ _ _ h => h) (Or.inl ⟨by rfl, fun W hW => ?_⟩) (by assumption) ?_
          · dsimp only at hW
            go_split_ands
            go_simp <;> rfl
          try simp only [Act.put, List.setIfInBounds_toArray, List.set_cons_zero, List.set_cons_succ]
          refine heldTake (i := 41) (v := .bool false) rfl (by kernel_rfl) (by kernel_rfl) (by kernel_rfl) (fun _ _ _ h => h) (Or.inl ⟨by rfl, fun W hW => ?_⟩) (by assumption) ?_
          · dsimp only at hW
            go_split_ands
            go_simp <;> rfl
          try simp only [Act.put, List.setIfInBounds_toArray, List.set_cons_zero, List.set_cons_succ]
          refine heldTake (i := 42) (v := ?_) rfl (by kernel_rfl) (by kernel_rfl) (by kernel_rfl) (fun _ _ _ h => h) (Or.inl ⟨by rfl, ?_⟩) (by assumption) ?_
          rotate_left
          · intro w hSw; (try dsimp only at hSw); go_simp <;> (with_reducible rfl)
          try simp only [Act.put, List.setIfInBounds_toArray, List.set_cons_zero, List.set_cons_succ]
          refine wpAnyH_done (by kernel_rfl) ?_ _
          go_upto_region 17 with fail
          refine wp_region_held_drew (S := (fun W => W.cell? ⟨y102.heap.size, 0, none⟩ = some (.int .i64 (d : Int)) ∧ W.cell? ⟨y102.heap.size, 1, none⟩ = some (.int .i64 pz))) (by kernel_rfl) ?_ (fun hHeld => ?_)
          · exact ⟨((HSd.out.drew.own.blk 2 rfl).cell 0).trans rfl, ((HSd.out.drew.own.blk 2 rfl).cell 1).trans rfl⟩
          have HSd2 := hide (HSd.out.drew)
          refine heldTake (i := 0) (v := ?_) rfl (by kernel_rfl) (by kernel_rfl) (by kernel_rfl) (fun _ _ _ h => h) (Or.inl ⟨by rfl, ?_⟩) (by assumption) ?_
          rotate_left
          · intro w hSw; (try dsimp only at hSw); go_simp <;> (with_reducible rfl)
          try simp only [Act.put, List.setIfInBounds_toArray, List.set_cons_zero, List.set_cons_succ]
          refine heldTake (i := 1) (v := .int .i64 (d : Int)) rfl (by kernel_rfl) (by kernel_rfl) (by kernel_rfl) (fun _ _ _ h => h) (Or.inl ⟨by rfl, fun W hW => ?_⟩) (by assumption) ?_
          · dsimp only at hW
            go_split_ands
            go_simp <;> rfl
          try simp only [Act.put, List.setIfInBounds_toArray, List.set_cons_zero, List.set_cons_succ]
          refine heldTake (i := 2) (v := ?_) rfl (by kernel_rfl) (by kernel_rfl) (by kernel_rfl) (fun _ _ _ h => h) (Or.inl ⟨by rfl, ?_⟩) (by assumption) ?_
          rotate_left
          · intro w hSw; (try dsimp only at hSw); go_simp <;> (with_reducible rfl)
          try simp only [Act.put, List.setIfInBounds_toArray, List.set_cons_zero, List.set_cons_succ]
          refine heldTake (i := 3) (v := .int .i64 pz) rfl (by kernel_rfl) (by kernel_rfl) (by kernel_rfl) (fun _ _ _ h => h) (Or.inl ⟨by rfl, fun W hW => ?_⟩) (by assumption) ?_
          · dsimp only at hW
            go_split_ands
            go_simp <;> rfl
          try simp only [Act.put, List.setIfInBounds_toArray, List.set_cons_zero, List.set_cons_succ]
          refine heldTake (i := 4) (v := ?_) rfl (by kernel_rfl) (by kernel_rfl) (by kernel_rfl) (fun _ _ _ h => h) (Or.inl ⟨by rfl, ?_⟩) (by assumption) ?_
          rotate_left
          · intro w hSw; (try dsimp only at hSw); go_simp <;> (with_reducible rfl)
          try simp only [Act.put, List.setIfInBounds_toArray, List.set_cons_zero, List.set_cons_succ]
          refine heldTake (i := 5) (v := ?_) rfl (by kernel_rfl) (by kernel_rfl) (by kernel_rfl) (fun _ _ _ h => h) (Or.inl ⟨by rfl, ?_⟩) (by assumption) ?_
          rotate_left
          · intro w hSw; (try dsimp only at hSw); go_simp <;> (with_reducible rfl)
          try simp only [Act.put, List.setIfInBounds_toArray, List.set_cons_zero, List.set_cons_succ]
          refine heldTake (i := 6) (v := ?_) rfl (by kernel_rfl) (by kernel_rfl) (by kernel_rfl) (fun _ _ _ h => h) (Or.inl ⟨by rfl, ?_⟩) (by assumption) ?_
          rotate_left
          · intro w hSw; (try dsimp only at hSw); go_simp <;> (with_reducible rfl)
          try simp only [Act.put, List.setIfInBounds_toArray, List.set_cons_zero, List.set_cons_succ]
          refine wpAnyH_ready (rs := [7]) (by kernel_rfl) (by simp) ?_
          refine heldCons (i := 7) rfl (fun Kq hKq => ?_) AllReadyH.nil
          refine step_pokeH rfl 4 (.tmp 93) (.const (.bool true)) rfl (v0.heap.size) (d * 8 + t) 38 _ (HSd2.out.own.blk 0 rfl) rfl (.bool true) rfl rfl hbool_info (by rw [boolL_size]; exact HIN.out) ?_
          intro z hbz hg hs
          rw [boolL_set _ HIN.out, HNX.out] at hbz
          have HSz : Hid (Rox w z [(v0.heap.size, 38, boolL (seenH Q u (s + 1))), (y1.heap.size, 39, cntL (fun _ => 0)), (y102.heap.size, 26, plC ((d : Int), pz))] A1 Q c1 X) := hide (HSd2.out.poke 0 rfl (by decide) hbz hg)
          clear hbz hg hs
          refine hKq.out _ _ ⟨((HSz.out.own.blk 2 rfl).cell 0).trans rfl, ((HSz.out.own.blk 2 rfl).cell 1).trans rfl⟩ (fun hHeld => ?_)
          clear hKq Kq
          try simp only [Act.put]
          refine wpAnyH_done (by kernel_rfl) ?_ _
          clear hwt hz1 hz2 hz2b hz3 hz4 hz1d hz2d hz2e hz1p hz2p hwa hwu hd12 hd12n ht8i hdq hdq2 hu0 hu0n hdqn hdqm hdiv ht8
          go_wp2_with fail
          go_roundw
          case rel => exact ⟨s + 1, by simp, by simp, by have := HSM.out; omega, hide (HSz.out.cut 2)⟩
          case measure => have := HSM.out; simp [intOf]; omega
        · skip
          have hsi : ¬ (s : Int) < (M : Int) := by omega
          obtain rfl : M = s := by omega
          go_wp2_with (first
            | (go_at_call 15; refine (HS_v.out.slots K (Q : Int) (by omega) (by omega)).mono ?_; rintro _ y201 ⟨rfl, hsq⟩; rw [Int.toNat_natCast, HM.out]; have HS_y201 : Hid (Rox w y201 [(v0.heap.size, 38, boolL (seenH Q u M)), (y1.heap.size, 39, cntL (fun _ => 0))] A1 Q c1 X) := hide (hsq); clear hsq))
          go_loopw [8, 12] (fun s8 s12 wr => ∃ t a : Nat, s12 = .int .i64 (t : Int) ∧ s8 = .int .i64 (a : Int) ∧ t ≤ 8 ∧ Hid (a = M + t) ∧ Hid (Rox w wr [(v0.heap.size, 38, boolL (seenP Q u M t)), (y1.heap.size, 39, cntL (fun q => parsN Q t q))] A1 Q c1 X)) (fun _ s12 _ => 8 - (intOf s12).toNat)
          case atStart => exact ⟨0, M, rfl, rfl, by decide, hide rfl, hide (by rw [seenP_zero]; exact HS_y201.out)⟩
          case round =>
            obtain ⟨t, a, rfl, rfl, ht, HA, HS_u⟩ := hrel
            clear HS_v HS_y201
            obtain ⟨v2, hv2⟩ : ∃ v2, v2 = wr := ⟨_, rfl⟩
            rw [← hv2] at HS_u ⊢
            clear hv2
            by_cases ht8 : t < 8
            · have ht8i : (t : Int) < 8 := by omega
              have hab : a ≤ 200 := by have := HA.out; omega
              obtain ⟨d, hd⟩ : ∃ d, strH Q t = d := ⟨_, rfl⟩
              have hdQ : d < Q := by rw [← hd]; exact strH_lt (by omega)
              obtain ⟨pz, hpz⟩ : ∃ z : Int, z = 100 + (t : Int) := ⟨_, rfl⟩
              have hse : strE Q (t : Int) = 0 := by unfold strE; rw [if_neg (by omega), if_neg (by omega)]
              have HP := hide (show parR X Q (t : Int) = ((d : Int), pz) ∧ strE Q (t : Int) = 0 from ⟨by
                unfold parR
                rw [if_pos hse, Int.toNat_natCast, ← HXX.out, row_par hundred (n := Q) (t := t) hQ2, hd, hpz]
                rfl, hse⟩)
              have hfree : seenP Q u M t (d * 8 + t) = false := by rw [← hd, HM8.out]; exact parH_free (by omega) ht8
              have HNX := hide (show upd (seenP Q u M t) (d * 8 + t) true = seenP Q u M (t + 1) by rw [← hd]; exact seenP_succ Q u M t)
              have hin : d * 8 + t < 96 := by omega
              have hd12n : d < 12 := by omega
              obtain ⟨cn, hcn⟩ : ∃ k, parsN Q t d = k := ⟨_, rfl⟩
              have hcb : cn ≤ 8 := by
                rw [← hcn]
                unfold parsN
                refine Nat.le_trans (List.length_filter_le _ _) ?_
                rw [List.length_range]
                omega
              have HC39 := hide (show (cntL (fun q => parsN Q t q)).toArray.setIfInBounds d (.int .i64 ((cn : Int) + 1)) = (cntL (fun q => parsN Q (t + 1) q)).toArray by
                rw [← hcn, cntL_set (fun q => parsN Q t q) hd12n]
                have : (fun j => parsN Q t j + if d = j then 1 else 0) = fun q => parsN Q (t + 1) q := by
                  funext j
                  rw [parsN_succ, hd]
                rw [this])
              have HCN := hide (show (cntL (fun q => parsN Q t q)).toArray[d]? = some (.int .i64 (cn : Int)) by rw [← hcn]; simpa using cntL_at (fun q => parsN Q t q) hd12n)
              have HFR := hide (show (boolL (seenP Q u M t)).toArray[d * 8 + t]? = some (.bool false) by rw [← hfree]; simpa using boolL_at (seenP Q u M t) hin)
              have HIN := hide hin
              have HD12 := hide hd12n
              have hz4 : (100 : Int) + (t : Int) = pz := hpz.symm
              have hd12 : (d : Int) < 12 := by omega
              have hdq : ¬ (Q : Int) ≤ (d : Int) := by omega
              clear hd hdQ hpz hse hfree hin hcn
              go_upto_region 23 with (first
                | (go_at_call 13; refine (HS_u.out.par K (t : Int) ⟨by omega, by omega⟩).mono ?_; rintro _ y301 ⟨rfl, hsq⟩; rw [HP.out.1, HP.out.2]; have HS_y301 : Hid (Rox w y301 [(v0.heap.size, 38, boolL (seenP Q u M t)), (y1.heap.size, 39, cntL (fun q => parsN Q t q))] A1 Q c1 X) := hide (hsq); clear hsq)
                | ((with_reducible refine at_slot 13 ?_); refine wpList_alloc_blk rfl 26 rfl _ (mplace_zero _) ?_; intro y302 hbq hl1 hs1; clear hs1)
                | ((with_reducible refine at_store 13 ?_); refine wpList_store_all rfl 26 (.tmp 13) (.tmp 104) rfl y301.heap.size 26 _ hbq rfl (plC (((d : Int), pz))) rfl mplace_info rfl (plC_one _) ?_; intro y303 hbz hg hs; have HS_y303 : Hid (Rox w y303 [(v0.heap.size, 38, boolL (seenP Q u M t)), (y1.heap.size, 39, cntL (fun q => parsN Q t q)), (y301.heap.size, 26, plC (((d : Int), pz)))] A1 Q c1 X) := hide (HS_y301.out.new hl1 hg hbz); clear hs hbq hl1 hg hbz))
              have c0a : y303.cell? ⟨y301.heap.size, 0, none⟩ = some (.int .i64 (d : Int)) := ((HS_y303.out.own.blk 2 rfl).cell 0).trans rfl
              have c1a : y303.cell? ⟨y301.heap.size, 1, none⟩ = some (.int .i64 pz) := ((HS_y303.out.own.blk 2 rfl).cell 1).trans rfl
              have c2a : y303.cell? ⟨v0.heap.size, d * 8 + t, none⟩ = some (.bool false) := ((HS_y303.out.own.blk 0 rfl).cell _).trans HFR.out
              go_upto_region 25 with fail
              go_wp2_with (first
                | ((with_reducible refine at_store 138 ?_); go_loud (refine wpList_poke rfl 4 (.tmp 138) (.const (.bool true)) rfl (v0.heap.size) (d * 8 + t) 38 _ (HS_y303.out.own.blk 0 rfl) rfl (.bool true) rfl rfl hbool_info (by rw [boolL_size]; exact HIN.out) ?_; intro z1 hbz hg hs; rw [boolL_set _ HIN.out, HNX.out] at hbz; have HSz1 : Hid (Rox w z1 [(v0.heap.size, 38, boolL (seenP Q u M (t + 1))), (y1.heap.size, 39, cntL (fun q => parsN Q t q)), (y301.heap.size, 26, plC ((d : Int), pz))] A1 Q c1 X) := hide (HS_y303.out.poke 0 rfl (by decide) hbz hg); clear hbz hg hs; have c0b : z1.cell? ⟨y301.heap.size, 0, none⟩ = some (.int .i64 (d : Int)) := ((HSz1.out.own.blk 2 rfl).cell 0).trans rfl; have c1b : z1.cell? ⟨y301.heap.size, 1, none⟩ = some (.int .i64 pz) := ((HSz1.out.own.blk 2 rfl).cell 1).trans rfl; have c3 : z1.cell? ⟨y1.heap.size, d, none⟩ = some (.int .i64 (cn : Int)) := ((HSz1.out.own.blk 1 rfl).cell _).trans HCN.out))
                | ((with_reducible refine at_store 144 ?_); go_loud (refine wpList_poke rfl 3 (.tmp 144) (.tmp 143) rfl (y1.heap.size) d 39 _ (HSz1.out.own.blk 1 rfl) rfl (.int .i64 ((cn : Int) + 1)) rfl rfl hint_info (by rw [cntL_size]; exact HD12.out) ?_; intro z2 hbz hg hs; rw [HC39.out] at hbz; have HSz2 : Hid (Rox w z2 [(v0.heap.size, 38, boolL (seenP Q u M (t + 1))), (y1.heap.size, 39, cntL (fun q => parsN Q (t + 1) q)), (y301.heap.size, 26, plC ((d : Int), pz))] A1 Q c1 X) := hide (HSz1.out.poke 1 rfl (by decide) hbz hg); clear hbz hg hs)))
              go_roundw
              case rel => exact ⟨t + 1, a + 1, by simp, by simp, by omega, hide (by have := HA.out; omega), hide (HSz2.out.cut 2)⟩
              case measure => simp [intOf]; omega
            · skip
              have ht8i : ¬ (t : Int) < 8 := by omega
              have HS_e : Hid (Rox w v2 [(v0.heap.size, 38, boolL (seenP Q u M 8)), (y1.heap.size, 39, cntL (fun q => parsN Q 8 q))] A1 Q c1 X) := hide ((show t = 8 by omega) ▸ HS_u.out)
              have HAQ := hide (show (a : Int) = (Q : Int) * 8 by have := HA.out; have := HM8.out; have := HQU.out; omega)
              clear HS_u HA ht
              go_wp2_with fail
              go_loopw [15] (fun s15 wr => ∃ i : Nat, s15 = .int .i64 (i : Int) ∧ i ≤ Q ∧ Hid (Rox w wr [(v0.heap.size, 38, boolL (seenP Q u M 8)), (y1.heap.size, 39, cntL (fun q => parsN Q 8 q))] A1 Q c1 X)) (fun s15 _ => Q - (intOf s15).toNat)
              case atStart => exact ⟨0, rfl, Nat.zero_le _, HS_e⟩
              case round =>
                obtain ⟨i, rfl, hi, HS_i⟩ := hrel
                clear HS_e
                by_cases hiQ : i < Q
                · have hii : (i : Int) < (Q : Int) := by omega
                  go_wp2_with fail
                  go_loopw [16] (fun s16 wr => ∃ k : Nat, s16 = .int .i64 (k : Int) ∧ k ≤ Q ∧ Hid (Rox w wr [(v0.heap.size, 38, boolL (seenP Q u M 8)), (y1.heap.size, 39, cntL (fun q => parsN Q 8 q))] A1 Q c1 X)) (fun s16 _ => Q - (intOf s16).toNat)
                  case atStart => exact ⟨0, rfl, Nat.zero_le _, HS_i⟩
                  case round =>
                    obtain ⟨k, rfl, hk, HS_k⟩ := hrel
                    clear HS_i
                    by_cases hkQ : k < Q
                    · have hki : (k : Int) < (Q : Int) := by omega
                      have hsp := pars_spread Q hQ2 hQ12 i hiQ k hkQ
                      obtain ⟨ca, hca⟩ : ∃ x, parsN Q 8 i = x := ⟨_, rfl⟩
                      obtain ⟨cb, hcb⟩ : ∃ x, parsN Q 8 k = x := ⟨_, rfl⟩
                      rw [hca, hcb] at hsp
                      have hcb8 : cb ≤ 8 := by
                        rw [← hcb]
                        unfold parsN
                        refine Nat.le_trans (List.length_filter_le _ _) ?_
                        rw [List.length_range]
                        exact Nat.le_refl _
                      have hi12 : (i : Int) < 12 := by omega
                      have hk12 : (k : Int) < 12 := by omega
                      have hi12n : i < 12 := by omega
                      have hk12n : k < 12 := by omega
                      have hcw : IntKind.i64.wrap ((cb : Int) + 1) = (cb : Int) + 1 := IntWalk.i64_in _ (by omega)
                      have hlt : ¬ (cb : Int) + 1 < (ca : Int) := by omega
                      have hltd : decide ((cb : Int) + 1 < (ca : Int)) = false := decide_eq_false hlt
                      have hltn : decide (cb + 1 < ca) = false := decide_eq_false (by omega)
                      have hgt : decide ((ca : Int) > (cb : Int) + 1) = false := decide_eq_false hlt
                      have HCA := hide (show (cntL (fun q => parsN Q 8 q)).toArray[i]? = some (.int .i64 (ca : Int)) by rw [← hca]; simpa using cntL_at (fun q => parsN Q 8 q) hi12n)
                      have HCB := hide (show (cntL (fun q => parsN Q 8 q)).toArray[k]? = some (.int .i64 (cb : Int)) by rw [← hcb]; simpa using cntL_at (fun q => parsN Q 8 q) hk12n)
                      clear hca hcb
                      go_wp2_with fail
                      refine wp_region_held_drew (S := (fun W => W.cell? ⟨y1.heap.size, i, none⟩ = some (.int .i64 (ca : Int)) ∧ W.cell? ⟨y1.heap.size, k, none⟩ = some (.int .i64 (cb : Int)))) (by kernel_rfl) ?_ (fun hHeld => ?_)
                      · exact ⟨((HS_k.out.drew.own.blk 1 rfl).cell _).trans HCA.out, ((HS_k.out.drew.own.blk 1 rfl).cell _).trans HCB.out⟩
                      refine heldTake (i := 0) (v := ?_) rfl (by kernel_rfl) (by kernel_rfl) (by kernel_rfl) (fun _ _ _ h => h) (Or.inl ⟨by rfl, ?_⟩) (by assumption) ?_
                      rotate_left
                      · intro w hSw; (try dsimp only at hSw); go_simp <;> (with_reducible rfl)
                      try simp only [Act.put, List.setIfInBounds_toArray, List.set_cons_zero, List.set_cons_succ]
                      refine heldTake (i := 1) (v := ?_) rfl (by kernel_rfl) (by kernel_rfl) (by kernel_rfl) (fun _ _ _ h => h) (Or.inl ⟨by rfl, ?_⟩) (by assumption) ?_
                      rotate_left
                      · intro w hSw; (try dsimp only at hSw); go_simp <;> (with_reducible rfl)
                      try simp only [Act.put, List.setIfInBounds_toArray, List.set_cons_zero, List.set_cons_succ]
                      refine heldTake (i := 2) (v := .int .i64 (ca : Int)) rfl (by kernel_rfl) (by kernel_rfl) (by kernel_rfl) (fun _ _ _ h => h) (Or.inl ⟨by rfl, fun W hW => ?_⟩) (by assumption) ?_
                      · dsimp only at hW
                        go_split_ands
                        go_simp <;> rfl
                      try simp only [Act.put, List.setIfInBounds_toArray, List.set_cons_zero, List.set_cons_succ]
                      refine heldTake (i := 3) (v := ?_) rfl (by kernel_rfl) (by kernel_rfl) (by kernel_rfl) (fun _ _ _ h => h) (Or.inl ⟨by rfl, ?_⟩) (by assumption) ?_
                      rotate_left
                      · intro w hSw; (try dsimp only at hSw); go_simp <;> (with_reducible rfl)
                      try simp only [Act.put, List.setIfInBounds_toArray, List.set_cons_zero, List.set_cons_succ]
                      refine heldTake (i := 4) (v := ?_) rfl (by kernel_rfl) (by kernel_rfl) (by kernel_rfl) (fun _ _ _ h => h) (Or.inl ⟨by rfl, ?_⟩) (by assumption) ?_
                      rotate_left
                      · intro w hSw; (try dsimp only at hSw); go_simp <;> (with_reducible rfl)
                      try simp only [Act.put, List.setIfInBounds_toArray, List.set_cons_zero, List.set_cons_succ]
                      refine heldTake (i := 5) (v := .int .i64 (cb : Int)) rfl (by kernel_rfl) (by kernel_rfl) (by kernel_rfl) (fun _ _ _ h => h) (Or.inl ⟨by rfl, fun W hW => ?_⟩) (by assumption) ?_
                      · dsimp only at hW
                        go_split_ands
                        go_simp <;> rfl
                      try simp only [Act.put, List.setIfInBounds_toArray, List.set_cons_zero, List.set_cons_succ]
                      refine heldTake (i := 6) (v := ?_) rfl (by kernel_rfl) (by kernel_rfl) (by kernel_rfl) (fun _ _ _ h => h) (Or.inl ⟨by rfl, ?_⟩) (by assumption) ?_
                      rotate_left
                      · intro w hSw; (try dsimp only at hSw); go_simp <;> (with_reducible rfl)
                      try simp only [Act.put, List.setIfInBounds_toArray, List.set_cons_zero, List.set_cons_succ]
                      refine heldTake (i := 7) (v := ?_) rfl (by kernel_rfl) (by kernel_rfl) (by kernel_rfl) (fun _ _ _ h => h) (Or.inl ⟨by rfl, ?_⟩) (by assumption) ?_
                      rotate_left
                      · intro w hSw; (try dsimp only at hSw); go_simp <;> (with_reducible rfl)
                      try simp only [Act.put, List.setIfInBounds_toArray, List.set_cons_zero, List.set_cons_succ]
                      refine wpAnyH_done (by kernel_rfl) ?_ _
                      go_wp2_with fail
                      go_roundw
                      case rel => exact ⟨k + 1, by simp, by omega, hide (HS_k.out.drew)⟩
                      case measure => simp [intOf]; omega
                    · have hki : ¬ (k : Int) < (Q : Int) := by omega
                      go_wp2_with fail
                      go_roundw
                      case rel => exact ⟨i + 1, by simp, by omega, HS_k⟩
                      case measure => simp [intOf]; omega
                · have hii : ¬ (i : Int) < (Q : Int) := by omega
                  have haq := HAQ.out
                  go_wp2_with fail
                  go_ret
                  exact ⟨by simp, HS_i.out.low⟩
#print axioms stripeHomes_walk
end Go.Proofs.Ytjafhlljigaibaa
