/- The calls of a bank at any disk and place, below zero too: what is below zero counts as one that there is not. -/
import Derived.Test.YtmjjnbabfldbcaaGreatCalls
namespace Go.Proofs.YtmjjnbabfldbcaaGreat
open Go.RowKit
/-- A whole number as a disk's or a sector's: one below zero as one that no bank has. -/
def nI (i : Int) : Nat := if i < 0 then 4096 else i.toNat
def Is (i : Int) (n : Nat) : Prop := i = (n : Int) ∨ (i < 0 ∧ 4096 ≤ n)
theorem is_nI (i : Int) : Is i (nI i) := by
  unfold Is nI
  by_cases h : i < 0
  · rw [if_pos h]; exact .inr ⟨h, Nat.le_refl _⟩
  · rw [if_neg h]; exact .inl (by omega)
theorem nI_nat (n : Nat) : nI (n : Int) = n := by
  unfold nI
  rw [if_neg (by omega)]
  omega
theorem nI_neg {i : Int} (h : i < 0) : nI i = 4096 := by unfold nI; rw [if_pos h]
theorem nI_pos {i : Int} (h : 0 ≤ i) : (nI i : Int) = i := by unfold nI; rw [if_neg (by omega)]; omega
theorem nI_lt {i : Int} {n : Nat} (hn : n ≤ 4096) : nI i < n ↔ (0 ≤ i ∧ i < n) := by
  unfold nI
  by_cases h : i < 0
  · rw [if_pos h]; omega
  · rw [if_neg h]; omega
theorem may_out {S : Bank} (hok : S.Ok) {d : Nat} (h : 4096 ≤ d) : S.may d = 8 := by
  have := hok.n_le
  unfold Bank.may
  rw [if_pos (by omega)]
theorem place_out {S : Bank} (hok : S.Ok) {di ki : Int} {d k : Nat} (hd : Is di d) (hk : Is ki k) (hne : ¬ (di = (d : Int) ∧ ki = (k : Int))) : S.place d k ≠ 0 := by
  intro hp
  obtain ⟨hm, hkz⟩ := place_lt hp
  obtain ⟨hdn, _, _⟩ := may_lt hm
  have h1 := hok.n_le
  have h2 := hok.size_le d hdn
  rcases hd with hd | ⟨hd, hd2⟩
  · rcases hk with hk | ⟨hk, hk2⟩
    · exact hne ⟨hd, hk⟩
    · omega
  · omega
section
variable {w : World} {b : Nat} {L : Lay} {S : Bank}
theorem there_neg (b : Nat) (w : World) {di : Int} (hd : di < 0) :
    Calls Tryz.prog 60 #[.pointer (some ⟨b, 0, none⟩), .int .i64 di] w fun e w' => e = .returned (.bool false) ∧ w = w' := by
  have hg : ¬ (di ≥ 0) := by omega
  go_enter Tryz.func60, Tryz.ntmps60
  go_wp2
  go_ret
  exact ⟨rfl, rfl⟩
theorem working_neg (b : Nat) (w : World) {di : Int} (hd : di < 0) :
    Calls Tryz.prog 84 #[.pointer (some ⟨b, 0, none⟩), .int .i64 di] w fun e w' => e = .returned (.tuple #[.pointer none, .int .i64 8]) ∧ w = w' := by
  have HT := hide (fun w => there_neg b w hd)
  clear hd
  go_enter Tryz.func84, Tryz.ntmps84
  go_wp2_with (first | (go_at_call 60; refine (HT.out _).mono ?_; rintro _ _ ⟨rfl, rfl⟩))
  go_ret2
  exact ⟨rfl, rfl⟩
theorem has_neg (a : Addr) (w : World) {ki : Int} (hk : ki < 0) :
    Calls Tryz.prog 87 #[.pointer (some a), .int .i64 ki] w fun e w' => e = .returned (.bool false) ∧ w = w' := by
  have hg : ¬ (ki ≥ 0) := by omega
  go_enter Tryz.func87, Tryz.ntmps87
  go_wp2
  go_ret
  exact ⟨rfl, rfl⟩
set_option maxRecDepth 100000 in
theorem holder_err (di ki : Int) (y : Nat) (hy : y ≠ 0) (hW : ∀ w1, Below w.heap.size w w1 → Calls Tryz.prog 84 #[.pointer (some ⟨b, 0, none⟩), .int .i64 di] w1 fun e w' => e = .returned (.tuple #[.pointer none, .int .i64 (y : Int)]) ∧ w1 = w') :
    Calls Tryz.prog 47 #[.pointer (some ⟨b, 0, none⟩), .agg #[.int .i64 di, .int .i64 ki]] w fun e w' => e = .returned (.tuple #[.pointer none, .int .i64 (y : Int)]) ∧ Below w.heap.size w w' := by
  have hne : ¬ ((y : Int) = 0) := by omega
  have HW := hide hW
  clear hW
  go_enter Tryz.func47, Tryz.ntmps47
  go_wp2_with (first
    | (refine wpList_box_blk rfl 47 (.tmp 1) rfl (.agg #[.int .i64 di, .int .i64 ki]) rfl ?_; intro w1 hb1 hl1 hs1; clear hs1; have p0 : w1.cell? ⟨w.heap.size, 0, none⟩ = some (.int .i64 di) := hb1.cell 0)
    | (go_at_call 84; refine (HW.out w1 hl1).mono ?_; rintro _ _ ⟨rfl, rfl⟩))
  go_quiet (first | fail)
  go_wp2
  go_ret2
  exact ⟨rfl, hl1.trans ⟨rfl, rfl, rfl, Nat.le_refl _, fun _ _ => rfl⟩⟩
set_option maxRecDepth 100000 in
theorem holder_out (h : BankIn w b L S) (hok : S.Ok) {di ki : Int} {d k : Nat} (hd : Is di d) (hk : Is ki k) (hne : ¬ (di = (d : Int) ∧ ki = (k : Int))) :
    Calls Tryz.prog 47 #[.pointer (some ⟨b, 0, none⟩), .agg #[.int .i64 di, .int .i64 ki]] w fun e w' => e = .returned (.tuple #[.pointer none, .int .i64 (S.place d k : Int)]) ∧ Below w.heap.size w w' := by
  have hp := place_out hok hd hk hne
  have HB := hide h
  rcases hd with rfl | ⟨hd, hd2⟩
  · have hk3 : ki < 0 ∧ 4096 ≤ k := hk.resolve_left (fun e => hne ⟨rfl, e⟩)
    by_cases hm : S.may d = 0
    · obtain ⟨hdn, _, _⟩ := may_lt hm
      have hw : workV L S d = .tuple #[.pointer (some ⟨L.mb, d * 5, none⟩), .int .i64 0] := by unfold workV; rw [if_pos hm, hm]; rfl
      have hz := (hok.size_le d hdn).2
      have hp3 : S.place d k = 3 := by unfold Bank.place; rw [if_pos hm, if_neg (by omega)]
      rw [hp3]
      have HWK := hide hw
      have HK := hide hk3.1
      clear hp hm h hw hp3 hz hne hk hk3
      go_enter Tryz.func47, Tryz.ntmps47
      go_wp2_with (first
        | (refine wpList_box_blk rfl 47 (.tmp 1) rfl (.agg #[.int .i64 (d : Int), .int .i64 ki]) rfl ?_; intro w1 hb1 hl1 hs1; clear hs1; have p0 : w1.cell? ⟨w.heap.size, 0, none⟩ = some (.int .i64 (d : Int)) := hb1.cell 0; have p1 : w1.cell? ⟨w.heap.size, 1, none⟩ = some (.int .i64 ki) := hb1.cell 1)
        | (go_at_call 84; refine (working_any (HB.out.later hl1) d).mono ?_; rw [HWK.out]; rintro _ _ ⟨rfl, rfl⟩))
      go_quiet (first | (go_at_call 87; exact quiet_as (has_neg _ _ HK.out)))
      go_wp2
      go_ret2
      exact ⟨rfl, hl1.trans ⟨rfl, rfl, rfl, Nat.le_refl _, fun _ _ => rfl⟩⟩
    · have hp2 : S.place d k = S.may d := by unfold Bank.place; rw [if_neg hm]
      have hw : workV L S d = .tuple #[.pointer none, .int .i64 (S.may d : Int)] := by unfold workV; rw [if_neg hm]
      rw [hp2]
      exact holder_err d ki _ hm (fun w1 hl => by rw [← hw]; exact working_any (h.later hl) d)
  · have h8 := may_out hok hd2
    have hp2 : S.place d k = 8 := by unfold Bank.place; rw [if_neg (by omega), h8]
    rw [hp2]
    exact holder_err di ki 8 (by decide) (fun w1 _ => working_neg b w1 hd)
set_option maxRecDepth 100000 in
theorem read_out (h : BankIn w b L S) (hok : S.Ok) {di ki : Int} {d k : Nat} (hd : Is di d) (hk : Is ki k) (hne : ¬ (di = (d : Int) ∧ ki = (k : Int))) :
    Calls Tryz.prog 13 #[.pointer (some ⟨b, 0, none⟩), .agg #[.int .i64 di, .int .i64 ki]] w fun e w' => e = .returned (readV S d k) ∧ Below w.heap.size w w' := by
  have hp := place_out hok hd hk hne
  have HH := hide (fun w1 (hl : Below w.heap.size w w1) => holder_out (h.later hl) hok hd hk hne)
  unfold readV
  rw [if_neg hp]
  obtain ⟨U, hU⟩ : ∃ U, U = secL zeroSec := ⟨_, rfl⟩
  have hUl : U.length = 64 := by rw [hU, secL_length]
  have hUo : ∀ v ∈ U, v.oneCell' = true := by rw [hU]; exact secL_one _
  have hiU : (Tryz.prog.info? 43).map (·.size) = some U.length := by rw [hUl]; exact sec_info
  rw [show secV zeroSec = .agg U.toArray by rw [hU]; rfl]
  have HUl := hide hUl
  have HUO := hide hUo
  have HIU := hide hiU
  have HBZ := hide (show Tryz.prog.built 43 [] = some U.toArray by rw [hU]; exact sec_none)
  generalize S.place d k = y at hp HH ⊢
  have hy : ¬ ((y : Int) = 0) := by omega
  clear hU hUl hUo hiU h hok hd hk hne hp
  go_enter Tryz.func13, Tryz.ntmps13
  go_wp2_with (first
    | (refine wpList_box_blk rfl 47 (.tmp 1) rfl (.agg #[.int .i64 di, .int .i64 ki]) rfl ?_; intro w1 hb1q hl1 hs1; clear hs1; have hb1 : Blk w1 w.heap.size 47 [.int .i64 di, .int .i64 ki].toArray := hb1q; clear hb1q)
    | (refine wpList_alloc_blk rfl 43 rfl _ (sec_zero w1) ?_; intro w2 hb2 hl2 hs2; clear hs2; have hz1 := hb1.lt; have hb12 := hb1.below hl2 hz1; have p0 : w2.cell? ⟨w.heap.size, 0, none⟩ = some (.int .i64 di) := hb12.cell 0; have p1 : w2.cell? ⟨w.heap.size, 1, none⟩ = some (.int .i64 ki) := hb12.cell 1)
    | (go_at_call 47; refine (HH.out w2 (hl1.trans (hl2.mono hl1.size))).mono ?_; rintro _ w3 ⟨rfl, hl3⟩; have hz2 := hb2.lt; have hl03 : Below w.heap.size w w3 := (hl1.trans (hl2.mono hl1.size)).trans (hl3.mono (by omega)); have hb23 := hb2.below hl3 hz2)
    | (refine wpList_build_is rfl 43 #[] rfl [] (by simp) U.toArray HBZ.out ?_)
    | (refine wpList_store_all rfl 43 (.tmp 4) (.tmp 16) rfl w1.heap.size 43 _ hb23 rfl U rfl HIU.out (HUl.out.trans (secL_length zeroSec).symm) HUO.out ?_; intro w4 hb4 hg4 hs4; clear hs4))
  exact ret_cell_tmp rfl w1.heap.size 43 U _ hb4 rfl Tryz.underlying43 rfl HIU.out (.int .i64 (y : Int)) rfl rfl ⟨rfl, hl03.grown hg4 hl03.size (fun g e => by injection e with e; omega)⟩
set_option maxRecDepth 100000 in
theorem write_out (h : BankIn w b L S) (hok : S.Ok) (hw62 : S.writes < 4611686018427387904) {di ki : Int} {d k : Nat} (hd : Is di d) (hk : Is ki k) (hne : ¬ (di = (d : Int) ∧ ki = (k : Int))) (s : Sec) {F : Nat → Prop} (hsp : Span b L S F) (hhi : ∀ x, F x → x < w.heap.size) :
    Calls Tryz.prog 34 #[.pointer (some ⟨b, 0, none⟩), .agg #[.int .i64 di, .int .i64 ki], secV s] w fun e w' =>
      e = .returned (.int .i64 ((S.write d k s).1 : Int)) ∧ Turn F w w' ∧ ∃ L', BankIn w' b L' (S.write d k s).2 ∧ Span b L' (S.write d k s).2 F := by
  obtain ⟨U, hU⟩ : ∃ U, U = secL s := ⟨_, rfl⟩
  have hs : secV s = .agg U.toArray := by rw [hU]; rfl
  rw [hs]
  have hcnt : ∀ w1, Below w.heap.size w w1 → Calls Tryz.prog 76 #[.pointer (some ⟨b, 0, none⟩)] w1 fun e w' => e = .returned (.bool S.count.1) ∧ Turn F w1 w' ∧ ∃ L', BankIn w' b L' S.count.2 ∧ Span b L' S.count.2 F := fun w1 hl => by
    refine (count_any (h.later hl) hok hw62 hsp (fun x hx => Nat.lt_of_lt_of_le (hhi x hx) hl.size)).mono ?_
    rintro e w' ⟨he, hT, L', h1, h2, _⟩
    exact ⟨he, hT, L', h1, h2⟩
  have hcok := hok.count
  have HC := hide hcnt
  have hwr : S.write d k s = if S.count.1 then (6, S.count.2) else if S.count.2.place d k = 0 then (0, S.count.2.put d k s) else (S.count.2.place d k, S.count.2) := rfl
  have HWR := hide hwr
  have HH := hide (fun w1 L1 (h1 : BankIn w1 b L1 S.count.2) => holder_out h1 hcok hd hk hne)
  have hp := place_out hcok hd hk hne
  clear hU hs hcnt hcok hwr h hok hsp hd hk hne
  generalize hT : S.count.2 = T at HC HWR HH hp
  cases hc1 : S.count.1 with
  | true =>
    rw [hc1] at HC HWR
    clear hc1 HH
    go_enter Tryz.func34, Tryz.ntmps34
    go_wp2_with (first
      | (refine wpList_box_blk rfl 47 (.tmp 1) rfl (.agg #[.int .i64 di, .int .i64 ki]) rfl ?_; intro w1 hb1 hl1 hs1; clear hs1)
      | (refine wpList_box_blk rfl 43 (.tmp 2) rfl (.agg U.toArray) rfl ?_; intro w2 hb2 hl2 hs2; clear hs2; have hl02 : Below w.heap.size w w2 := hl1.trans (hl2.mono hl1.size))
      | (go_at_call 76; refine (HC.out w2 hl02).mono ?_; rintro _ w3 ⟨rfl, hU3, L3, hB3, hS3⟩))
    go_ret
    rw [HWR.out]
    exact ⟨rfl, (Turn.of_below hl02).trans hU3, L3, hB3, hS3⟩
  | false =>
    rw [hc1] at HC HWR
    clear hc1
    have hwr2 : S.write d k s = (T.place d k, T) := by rw [HWR.out, if_neg (by decide), if_neg hp]
    have HW2 := hide hwr2
    have hy : ¬ ((T.place d k : Int) = 0) := by omega
    clear hwr2 hp HWR
    go_enter Tryz.func34, Tryz.ntmps34
    go_wp2_with (first
      | (refine wpList_box_blk rfl 47 (.tmp 1) rfl (.agg #[.int .i64 di, .int .i64 ki]) rfl ?_; intro w1 hb1 hl1 hs1; clear hs1)
      | (refine wpList_box_blk rfl 43 (.tmp 2) rfl (.agg U.toArray) rfl ?_; intro w2 hb2 hl2 hs2; clear hs2; have hl02 : Below w.heap.size w w2 := hl1.trans (hl2.mono hl1.size); have hb12 := hb1.below hl2 hb1.lt)
      | (go_at_call 76; refine (HC.out w2 hl02).mono ?_; rintro _ w3 ⟨rfl, hU3, L3, hB3, hS3⟩; have hb13 := hb12.turned hU3 (fun hf => absurd (hhi _ hf) (by omega)); have q0 : w3.cell? ⟨w.heap.size, 0, none⟩ = some (.int .i64 di) := hb13.cell 0; have q1 : w3.cell? ⟨w.heap.size, 1, none⟩ = some (.int .i64 ki) := hb13.cell 1)
      | (go_at_call 47; refine (HH.out w3 L3 hB3).mono ?_; rintro _ w4 ⟨rfl, hl4⟩))
    go_ret
    rw [HW2.out]
    exact ⟨rfl, ((Turn.of_below hl02).trans hU3).more hl4, L3, hB3.later hl4, hS3⟩
theorem onI_read {F : Nat → Prop} (h : BankOn w b F S) (di ki : Int) :
    Calls Tryz.prog 13 #[.pointer (some ⟨b, 0, none⟩), .agg #[.int .i64 di, .int .i64 ki]] w fun e w' => e = .returned (readV S (nI di) (nI ki)) ∧ Below w.heap.size w w' := by
  by_cases hb : di = (nI di : Int) ∧ ki = (nI ki : Int)
  · rw [congrArg Value.int (rfl : IntKind.i64 = IntKind.i64)]
    have := on_read h (nI di) (nI ki)
    rwa [← hb.1, ← hb.2] at this
  · obtain ⟨_, h2, L, h3, _⟩ := h
    exact read_out h3 h2 (is_nI di) (is_nI ki) hb
theorem onI_write {F : Nat → Prop} (h : BankOn w b F S) (hw : S.writes < 4611686018427387904) (di ki : Int) (s : Sec) :
    Calls Tryz.prog 34 #[.pointer (some ⟨b, 0, none⟩), .agg #[.int .i64 di, .int .i64 ki], secV s] w fun e w' => e = .returned (.int .i64 ((S.write (nI di) (nI ki) s).1 : Int)) ∧ BankOn w' b F (S.write (nI di) (nI ki) s).2 ∧ Turn F w w' := by
  by_cases hb : di = (nI di : Int) ∧ ki = (nI ki : Int)
  · have := on_write h hw (nI di) (nI ki) s
    rwa [← hb.1, ← hb.2] at this
  · obtain ⟨h1, h2, L, h3, h4⟩ := h
    refine (write_out h3 h2 hw (is_nI di) (is_nI ki) hb s h4 h1).mono ?_
    rintro e w' ⟨he, hT, L', h5, h6⟩
    exact ⟨he, ⟨fun x hx => Nat.lt_of_lt_of_le (h1 x hx) hT.size, h2.write _ _ _, L', h5, h6⟩, hT⟩
theorem onI_flush {F : Nat → Prop} (h : BankOn w b F S) (di : Int) :
    Calls Tryz.prog 45 #[.pointer (some ⟨b, 0, none⟩), .int .i64 di] w fun e w' => e = .returned (.int .i64 (S.may (nI di) : Int)) ∧ BankOn w' b F (if S.may (nI di) = 0 then S.flush (nI di) else S) ∧ Turn F w w' := by
  by_cases hd : di < 0
  · have h8 := may_out h.ok (d := nI di) (by rw [nI_neg hd]; decide)
    rw [h8, if_neg (by decide)]
    have HW := hide (fun w => working_neg b w hd)
    have HB := hide h
    clear h h8 hd
    go_enter Tryz.func45, Tryz.ntmps45
    go_wp2_with (first | (go_at_call 84; refine (HW.out _).mono ?_; rintro _ _ ⟨rfl, rfl⟩))
    go_ret
    exact ⟨rfl, HB.out, Turn.refl _ _⟩
  · have := on_flush h (nI di)
    rwa [nI_pos (by omega)] at this
/-- What Fail does, of whatever disk. -/
def Bank.failI (S : Bank) (d : Nat) : Bank := if d < S.n then S.fail d else S
theorem fail_out (h : BankIn w b L S) {di : Int} (hd : ¬ (0 ≤ di ∧ di < S.n)) :
    Calls Tryz.prog 21 #[.pointer (some ⟨b, 0, none⟩), .int .i64 di] w fun e w' => e = .returned (.int .i64 8) ∧ w = w' := by
  have hT : Calls Tryz.prog 60 #[.pointer (some ⟨b, 0, none⟩), .int .i64 di] w fun e w' => e = .returned (.bool false) ∧ w = w' := by
    by_cases hn : di < 0
    · exact there_neg b w hn
    · have := there_no h (nI di) (by rw [← Int.ofNat_le, nI_pos (by omega)]; omega)
      rwa [nI_pos (by omega)] at this
  have HT := hide hT
  clear hT h hd
  go_enter Tryz.func21, Tryz.ntmps21
  go_wp2_with (first
    | (go_at_call 60; refine HT.out.mono ?_; rintro _ _ ⟨rfl, rfl⟩))
  go_ret
  exact ⟨rfl, rfl⟩
theorem onI_fail {F : Nat → Prop} (h : BankOn w b F S) (di : Int) :
    Calls Tryz.prog 21 #[.pointer (some ⟨b, 0, none⟩), .int .i64 di] w fun e w' => e = .returned (.int .i64 ((if nI di < S.n then 0 else 8 : Nat) : Int)) ∧ BankOn w' b F (S.failI (nI di)) ∧ Turn F w w' := by
  unfold Bank.failI
  have hn := h.ok.n_le
  by_cases hd : nI di < S.n
  · rw [if_pos hd, if_pos hd]
    have h0 := ((nI_lt (by omega)).1 hd).1
    have := on_fail h (nI di) hd
    rwa [nI_pos h0] at this
  · rw [if_neg hd, if_neg hd]
    have hq : ¬ (0 ≤ di ∧ di < S.n) := fun e => hd ((nI_lt (by omega)).2 e)
    have hB := h
    obtain ⟨h1, h2, L, h3, h4⟩ := h
    refine (fail_out h3 hq).mono ?_
    rintro _ _ ⟨rfl, rfl⟩
    exact ⟨rfl, hB, Turn.refl _ _⟩
/-- What FailAt does, of whatever disk. -/
def Bank.willI (S : Bank) (d a : Nat) : Bank := if d < S.n then S.willFail d a else S
theorem failAt_out (h : BankIn w b L S) {di : Int} (n : Int) (hd : ¬ (0 ≤ di ∧ di < S.n)) :
    Calls Tryz.prog 37 #[.pointer (some ⟨b, 0, none⟩), .int .i64 di, .int .i64 n] w fun e w' => e = .returned (.tuple #[]) ∧ w = w' := by
  have hT : Calls Tryz.prog 60 #[.pointer (some ⟨b, 0, none⟩), .int .i64 di] w fun e w' => e = .returned (.bool false) ∧ w = w' := by
    by_cases hn : di < 0
    · exact there_neg b w hn
    · have := there_no h (nI di) (by rw [← Int.ofNat_le, nI_pos (by omega)]; omega)
      rwa [nI_pos (by omega)] at this
  have HT := hide hT
  clear hT h hd
  go_enter Tryz.func37, Tryz.ntmps37
  go_wp2_with (first
    | (go_at_call 60; refine HT.out.mono ?_; rintro _ _ ⟨rfl, rfl⟩))
  go_end0
  exact ⟨rfl, rfl⟩
theorem onI_failAt {F : Nat → Prop} (h : BankOn w b F S) (di n : Int) (a : Nat) (ha : (a : Int) = if 0 < n then n else 0) (ha2 : a < 9223372036854775808) :
    Calls Tryz.prog 37 #[.pointer (some ⟨b, 0, none⟩), .int .i64 di, .int .i64 n] w fun e w' => e = .returned (.tuple #[]) ∧ BankOn w' b F (S.willI (nI di) a) ∧ Turn F w w' := by
  unfold Bank.willI
  have hn := h.ok.n_le
  by_cases hd : nI di < S.n
  · rw [if_pos hd]
    have h0 := ((nI_lt (by omega)).1 hd).1
    have := on_failAt h (nI di) hd n a ha ha2
    rwa [nI_pos h0] at this
  · rw [if_neg hd]
    have hq : ¬ (0 ≤ di ∧ di < S.n) := fun e => hd ((nI_lt (by omega)).2 e)
    have hB := h
    obtain ⟨h1, h2, L, h3, h4⟩ := h
    refine (failAt_out h3 n hq).mono ?_
    rintro _ _ ⟨rfl, rfl⟩
    exact ⟨rfl, hB, Turn.refl _ _⟩
theorem onI_writes {F : Nat → Prop} (h : BankOn w b F S) :
    Calls Tryz.prog 10 #[.pointer (some ⟨b, 0, none⟩)] w fun e w' => e = .returned (.int .i64 (S.writes : Int)) ∧ w = w' := by
  obtain ⟨_, _, L, h3, _⟩ := h
  exact writes_any h3
theorem onI_loose {F : Nat → Prop} (h : BankOn w b F S) :
    Calls Tryz.prog 12 #[.pointer (some ⟨b, 0, none⟩)] w fun e w' => e = .returned (.int .i64 (S.order.length : Int)) ∧ w = w' := by
  obtain ⟨_, h2, L, h3, _⟩ := h
  exact loose_any h3 h2
end
end Go.Proofs.YtmjjnbabfldbcaaGreat
