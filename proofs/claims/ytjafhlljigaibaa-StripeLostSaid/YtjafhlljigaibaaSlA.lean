/- StripeLost, part A: what it wants, and the tails of its body. -/
import Derived.Test.YtjafhlljigaibaaLump3
import Derived.Test.YtjafhlljigaibaaLump1
import Derived.Deep.DeepCutAuto
import Derived.Deep.CutBlock

namespace Go.Proofs.Ytjafhlljigaibaa
open Go.RowKit
set_option linter.unusedVariables false
section
variable {N Z : Nat} {S : Bank} {x : Nat} {g : Nat → Nat → Sec}
theorem LivN.willI (h : LivN N Z S x g) (r : Nat) : LivN N Z (S.willI x r) x g := by
  unfold Bank.willI
  split
  · exact ⟨h.n, h.size, h.up, h.calm, fun d hd hne => ⟨(h.well d hd hne).1, by show upd S.failAt x r d = 0; rw [upd_ne _ _ hne]; exact (h.well d hd hne).2⟩, h.holds⟩
  · exact h
theorem LivN.failI (h : LivN N Z S x g) : LivN N Z (S.failI x) x g := by
  unfold Bank.failI
  split
  · refine ⟨h.n, h.size, h.up, h.calm, fun d hd hne => ⟨by show upd S.dead x true d = false; rw [upd_ne _ _ hne]; exact (h.well d hd hne).1, (h.well d hd hne).2⟩, fun d k hd hk hl => ?_⟩
    have hl' : upd S.dead x true d = false := hl
    have hne : d ≠ x := fun e => by rw [e, upd_self] at hl'; cases hl'
    rw [upd_ne _ _ hne] at hl'
    show upd S.newest x (S.flushed x) d k = g d k
    rw [upd_ne _ _ hne]
    exact h.holds d k hd hk hl'
  · exact h
theorem failI_few (S : Bank) (d : Nat) : (S.failI d).writes = S.writes := by
  unfold Bank.failI
  split <;> rfl
theorem willI_few (S : Bank) (d r : Nat) : (S.willI d r).writes = S.writes := by
  unfold Bank.willI
  split <;> rfl
end
section
variable {w0 W W' : World} {b hi n c mI cI mD cD : Nat} {S S' : Bank} {V : List (Nat × TypeId × List Value)} {A AI AD : Option Addr} {X : List PlI} {LI : List Int} {LD : List Sec}
theorem Sux.failAt (h : Sux w0 W b hi S V A n c X AI mI cI LI AD mD cD LD) (di k : Int) (a : Nat) (ha : (a : Int) = if 0 < k then k else 0) (ha2 : a < 9223372036854775808) :
    Calls Try.prog 24 #[.pointer (some ⟨b, 0, none⟩), .int .i64 di, .int .i64 k] W fun e W' => e = .returned (.tuple #[]) ∧ Sux w0 W' b hi (S.willI (nI di) a) V A n c X AI mI cI LI AD mD cD LD :=
  (onI_failAt h.sox.sit.bank.on di k a ha ha2).mono fun _ _ ⟨he, hB, hT⟩ => ⟨he, h.on hB hT⟩
end
/-- What StripeLost writes first. -/
def lostI (k : Nat) : List Int := (List.range k).map fun (j : Nat) => (j : Int) + 1
theorem lostI_succ (k : Nat) : lostI k ++ [(k : Int) + 1] = lostI (k + 1) := by unfold lostI; rw [List.range_succ, List.map_append]; rfl
theorem lostI_at {k j : Nat} (h : j < k) : (lostI k)[j]? = some ((j : Int) + 1) := by unfold lostI; simp [h]
theorem lostI_length (k : Nat) : (lostI k).length = k := by unfold lostI; simp
/-- The stripes' data, from the row of numbers. -/
def lostD (u : Nat) (L : List Int) (t : Nat) : List Sec := (List.range u).map fun (i : Nat) => secOf ((L[t * u + i]?).getD 0)
theorem lostD_length (u : Nat) (L : List Int) (t : Nat) : (lostD u L t).length = u := by unfold lostD; simp
theorem lostD_at {u t i : Nat} {L : List Int} {v : Int} (h : i < u) (hv : L[t * u + i]? = some v) : (lostD u L t)[i]? = some (secOf v) := by unfold lostD; simp [h, hv]
theorem lostD_slot {u s : Nat} {L : List Int} {v : Int} (h : 0 < u) (hv : L[s]? = some v) : (lostD u L (s / u))[s % u]? = some (secOf v) := by
  refine lostD_at (Nat.mod_lt _ h) ?_
  have h1 : s / u * u + s % u = s := by rw [Nat.mul_comm]; exact Nat.div_add_mod s u
  rw [h1]
  exact hv
theorem lostD_set {u s : Nat} {L : List Int} {v : Int} (h : 0 < u) (hs : s < L.length) (t : Nat) : upd (lostD u L) (s / u) ((lostD u L (s / u)).set (s % u) (secOf v)) t = lostD u (L.set s v) t := by
  have h1 : s / u * u + s % u = s := by rw [Nat.mul_comm]; exact Nat.div_add_mod s u
  have hm := Nat.mod_lt s h
  by_cases ht : t = s / u
  · subst ht
    rw [upd_self]
    unfold lostD
    apply List.ext_getElem?
    intro j
    rw [List.getElem?_set]
    simp only [List.getElem?_map, List.length_map, List.length_range]
    by_cases hj : s % u = j
    · subst hj
      rw [if_pos rfl, if_pos hm, List.getElem?_range hm]
      show some (secOf v) = some (secOf (((L.set s v)[s / u * u + s % u]?).getD 0))
      rw [h1, List.getElem?_set_self hs]
      rfl
    · rw [if_neg hj]
      by_cases hl : j < u
      · rw [List.getElem?_range hl]
        show some (secOf ((L[s / u * u + j]?).getD 0)) = some (secOf (((L.set s v)[s / u * u + j]?).getD 0))
        rw [List.getElem?_set_ne (by omega)]
      · rw [List.getElem?_eq_none (l := List.range u) (i := j) (by simp; omega)]
        rfl
  · rw [upd_ne _ _ ht]
    unfold lostD
    apply List.map_congr_left
    intro j hj
    have hju := List.mem_range.1 hj
    rw [List.getElem?_set_ne]
    intro e
    apply ht
    have : (t * u + j) / u = t := by rw [Nat.mul_comm, Nat.mul_add_div h, Nat.div_eq_of_lt hju, Nat.add_zero]
    rw [e, this]
/-- parity.Check, as the law wants it. -/
def CheckK : Prop := ∀ (w : World) (A : Option Addr) (n c : Nat) (L : List Sec), Reads w w.heap.size 64 A n (secD L) → L.length = n → n ≤ c → c ≤ 9223372036854775807 → n ≤ 1000 →
  Calls Try.prog 34 #[.slice A n c] w fun e w' => e = .returned (.bool (decide (parOf (rawS L) = zeroL))) ∧ Below w.heap.size w w'
theorem mask7s (v : Int) : ∃ N : Nat, bits .and .i64 v 127 = (N : Int) ∧ N ≤ 127 := by
  have h := i64_mask v 7 (by decide)
  have h2 : bits .and .i64 v 127 = v % 128 := h
  exact ⟨(v % 128).toNat, by rw [h2]; omega, by omega⟩
/-- What of a function's body comes behind its first n pieces. -/
def tailAt : Nat → Code → Code
  | 0, c => c
  | n + 1, .seq _ r => tailAt n r
  | _ + 1, c => c
/-- StripeLost from its piece n on. -/
def SlTail (n : Nat) (w : World) (a : Act) (wr : World) : Prop :=
  Code.wp Try.prog (tailAt n (Try.f5.body.getD .skip)) (bodyPost Try.prog Try.f5 fun e w' => e = .returned (.bool true) ∧ Below w.heap.size w w') a wr
theorem LivN.gone {N Z : Nat} {S : Bank} {x : Nat} {g : Nat → Nat → Sec} (h : LivN N Z S x g) : ∃ G, G ≤ N ∧ ∀ d, d < N → S.dead d = decide (d = G) := by
  by_cases hd : ∃ d, d < N ∧ S.dead d = true
  · obtain ⟨G, hG, hl⟩ := hd
    refine ⟨G, by omega, fun d hd => ?_⟩
    by_cases he : d = G
    · rw [he, hl]; simp
    · rw [h.other hG hd he hl]; simp [he]
  · refine ⟨N, Nat.le_refl _, fun d hdn => ?_⟩
    have : ¬ d = N := by omega
    cases hq : S.dead d with
    | false => simp [this]
    | true => exact absurd ⟨d, hdn, hq⟩ hd
/-- The first k of a column, without the one that is gone. -/
def liveL (C : List Sec) (G k : Nat) : List Sec := (C.take k).eraseIdx G
theorem liveL_zero (C : List Sec) (G : Nat) : liveL C G 0 = [] := by simp [liveL]
theorem liveL_length (C : List Sec) {G k : Nat} (hk : k ≤ C.length) : (liveL C G k).length = if G < k then k - 1 else k := by
  unfold liveL
  rw [List.length_eraseIdx, List.length_take, Nat.min_eq_left hk]
theorem liveL_gone (C : List Sec) {k : Nat} (hk : k < C.length) : liveL C k (k + 1) = liveL C k k := by
  have h1 : (C.take k).length = k := by rw [List.length_take]; omega
  unfold liveL
  rw [List.take_add_one, List.getElem?_eq_getElem hk, List.eraseIdx_append_of_length_le (by omega), h1, Nat.sub_self, List.eraseIdx_of_length_le (l := C.take k) (by omega)]
  simp
theorem liveL_next (C : List Sec) {G k : Nat} {s : Sec} (h : k ≠ G) (hs : C[k]? = some s) : liveL C G k ++ [s] = liveL C G (k + 1) := by
  have hk : k < C.length := by
    rcases Nat.lt_or_ge k C.length with hl | hl
    · exact hl
    · rw [List.getElem?_eq_none hl] at hs; cases hs
  unfold liveL
  rw [List.take_add_one, hs]
  rcases Nat.lt_or_ge G k with hg | hg
  · rw [List.eraseIdx_append_of_lt_length (by simp; omega)]
    rfl
  · rw [List.eraseIdx_of_length_le (by simp; omega), List.eraseIdx_of_length_le (by simp; omega)]
    rfl
theorem liveL_all (C : List Sec) {G N : Nat} (h : C.length = N) : liveL C G N = C.eraseIdx G := by
  unfold liveL
  rw [List.take_of_length_le (by omega)]
theorem sl_int1 : (Try.prog.info? 3).map (·.size) = some 1 := by kernel_rfl
theorem slpl_two (a b : Int) : Try.prog.built 26 [(0, .int .i64 a), (1, .int .i64 b)] = some (plL a b).toArray := by kernel_rfl
section
variable {n x u : Nat} {S : Bank}
/-- A slot plugged: what Home, Parity and Plug answer, and what stands behind both writes. -/
theorem LivN.plug2 {slot : Nat} {L : List Int} (h : LivN n 20 S x (gridG n (lostD u L) 8)) (hn : 2 ≤ n) (hn12 : n ≤ 12) (hu : n = u + 1) (hs : slot < slotsN n) (hl : slot < L.length) (v : Int) :
    ∃ a1 b1 a2 b2 : Int, ∃ p : Sec, homeR (rowX idN n) n (slot : Int) = (a1, b1) ∧ homeE n (slot : Int) = 0 ∧ parR (rowX idN n) n ((slot / u : Nat) : Int) = (a2, b2) ∧ strE n ((slot / u : Nat) : Int) = 0 ∧ S.splug (rowX idN n) (slot : Int) (secOf v) = (p, 0) ∧
      (S.write (nI a1) (nI b1) (secOf v)).2.writes = S.writes + 1 ∧ LivN n 20 ((S.write (nI a1) (nI b1) (secOf v)).2.write (nI a2) (nI b2) p).2 x (gridG n (lostD u (L.set slot v)) 8) ∧ ((S.write (nI a1) (nI b1) (secOf v)).2.write (nI a2) (nI b2) p).2.writes = S.writes + 2 := by
  have hu1 : n - 1 = u := by omega
  have ht := slot_div hn hs
  have hm : slot % (n - 1) < n - 1 := Nat.mod_lt _ (by omega)
  have hkn : skipN (strH n (slot / (n - 1))) (slot % (n - 1)) < n := skip_lt hm
  have hpq : homeP (rowX idN n) slot = rowPl (slot / (n - 1)) (skipN (strH n (slot / (n - 1))) (slot % (n - 1))) := by rw [row_home idN hn]; rfl
  have hw := (h.write hkn (show skipN (strH n (slot / (n - 1))) (slot % (n - 1)) + slot / (n - 1) < 20 by omega) (secOf v)).2.2
  have hD : ∀ t, t < 8 → (lostD u L t).length = n - 1 := fun t _ => by rw [lostD_length, hu1]
  have hp := h.splug (s0 := secOf L[slot]) (secOf v) hn hn12 hD hs (by rw [hu1]; exact lostD_slot (by omega) (List.getElem?_eq_getElem hl))
  have hg := h.plugged (s := secOf v) hn hn12 hD hs
  rw [hu1] at hp hg ht
  have hfun : upd (lostD u L) (slot / u) ((lostD u L (slot / u)).set (slot % u) (secOf v)) = lostD u (L.set slot v) := funext fun t => lostD_set (by omega) hl t
  unfold Bank.writeP at hg
  rw [hfun] at hg
  have he0 := homeE_in hn hs
  have hz : ∀ y : Nat, y < 8 → strE n (y : Int) = 0 := fun y hy => by
    unfold strE
    rw [if_neg (by omega), if_neg (by omega)]
  have hs0 := hz _ ht
  refine ⟨(homeP (rowX idN n) slot).1, (homeP (rowX idN n) slot).2, (strP (rowX idN n) (slot / u)).1, (strP (rowX idN n) (slot / u)).2, _, ?_, he0, ?_, hs0, hp, ?_, hg.1, hg.2⟩
  · unfold homeR
    rw [if_pos he0, Int.toNat_natCast]
  · unfold parR
    rw [if_pos hs0, Int.toNat_natCast]
  · rw [hpq, (rowPl_nI _ _).1, (rowPl_nI _ _).2]
    exact hw
end
def goneI (G k : Nat) : Int := if G < k then (G : Int) else -1
theorem goneI_gone (k : Nat) : goneI k (k + 1) = (k : Int) := if_pos (by omega)
theorem goneI_next {G k : Nat} (h : k ≠ G) : goneI G k = goneI G (k + 1) := by
  unfold goneI
  by_cases hg : G < k
  · rw [if_pos hg, if_pos (by omega)]
  · rw [if_neg hg, if_neg (by omega)]
/-- The row of sectors checked. -/
theorem Sux.check {w0 W : World} {b hi n c mI cI mD cD : Nat} {S : Bank} {V : List (Nat × TypeId × List Value)} {A AI AD : Option Addr} {X : List PlI} {LI : List Int} {LD : List Sec} (h : Sux w0 W b hi S V A n c X AI mI cI LI AD mD cD LD) (KC : CheckK) (hm : mD ≤ 1000) (hz : parOf (rawS LD) = zeroL) :
    Calls Try.prog 34 #[.slice AD mD cD] W fun e W' => e = .returned (.bool true) ∧ Sux w0 W' b hi S V A n c X AI mI cI LI AD mD cD LD :=
  (KC W AD mD cD LD (Reads.of_own h.secs) h.fewD.2.2 h.fewD.1 h.fewD.2.1 hm).mono fun _ _ ⟨he, hb⟩ => ⟨by rw [he, hz, decide_eq_true (rfl : zeroL = zeroL)], h.later hb⟩
end Go.Proofs.Ytjafhlljigaibaa
