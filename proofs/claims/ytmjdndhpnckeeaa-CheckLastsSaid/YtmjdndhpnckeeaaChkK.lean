/- What check's Load reads of an area, and tells; the contracts of the landed Save and Load. -/
import Derived.Test.YtmjdndhpnckeeaaChkM
import Derived.Test.YtmjdndhpnckeeaaChkP
import Derived.Test.YtmjdndhpnckeeaaStepB
import Derived.Test.YtmjdndhpnckeeaaTwoRows
import Derived.Test.YtmjdndhpnckeeaaWhen
import Derived.Test.YtmjdndhpnckeeaaPoke
import Derived.StillTailTactics
import Derived.Test.YtmjdndhpnckeeaaChkH
import Derived.Test.YtmjdndhpnckeeaaChkC
import Derived.Test.YtmjdndhpnckeeaaCalls
namespace Go.Proofs.Ytmjdndhpnckeeaa
open Go.RowKit
section
variable {P : Program} {ops : Array Oper} {o : Oper} {a : Act} {w : World} {K : Act → World → Prop} {Q : Exit → Act → World → Prop} {E : Prop}
theorem step_build_agg (hg : o.guard = none) (x : Operand) (t : TypeId) (ho : o.op = .buildSlice t 1 #[(0, x)])
    (e : TypeId) (i : TypeInfo) (z : Value) (size : Nat) (ht : P.underlying t = some (.slice e)) (hi : P.info? e = some i) (hz : (zeroValue e).run P w = .ok z w) (hsize : i.size = size) (h0 : 0 < size) (h24 : size ≤ 16777216)
    (F : Array Value) (hx : a.eval x = .agg F) (hF : F.size = size) (hK : K (a.put o.dst (.slice (some ⟨w.heap.size, 0, none⟩) 1 1)) (w.alloc (.cells F e))) : if Region.wanted o (yielded ops a.tmps) = true then Oper.wp P o a w K Q else E := by
  have hw : Region.wanted o (yielded ops a.tmps) = true := by simp [Region.wanted, hg]
  rw [if_pos hw]
  have hrun := run_build_agg (P := P) w t e i z size ht hi hz hsize h0 h24 F hF
  unfold Oper.wp
  simp [execOp, ho, hx, hrun, Result.andThen]
  exact hK
theorem step_poke (hg : o.guard = none) (ty : TypeId) (x y : Operand) (ho : o.op = .store ty x y)
    (g off : Nat) (t : TypeId) (cur : Array Value) (h : Blk w g t cur) (hx : a.eval x = .pointer (some ⟨g, off, none⟩)) (v : Value) (hy : a.eval y = v) (h1 : v.oneCell' = true) (hi : (P.info? ty).map (·.size) = some 1) (hl : off < cur.size)
    (hK : ∀ w', Blk w' g t (cur.setIfInBounds off v) → w.grownBy w' (some g) → w'.heap.size = w.heap.size → K (a.put o.dst undef) w') : if Region.wanted o (yielded ops a.tmps) = true then Oper.wp P o a w K Q else E := by
  have hw : Region.wanted o (yielded ops a.tmps) = true := by simp [Region.wanted, hg]
  rw [if_pos hw]
  obtain ⟨w', hrun, h2, h3, h4⟩ := run_storeVar_poke (P := P) w g off t ty cur h v h1 hi hl
  unfold Oper.wp execOp
  simp only [ho, hx, hy, Instr.storeAt, Instr.sureAddr, Sem.run_bind, Sem.run_pure, Result.andThen_ok, hrun]
  exact hK w' h2 h3 h4
end
theorem run_build_part {a : Act} {s : List UInt8} {U : List Value} (W : World) (o : Oper) (x y : Operand) (ho : o.op = .build 127 #[(0, x), (1, y)]) (hx : a.eval x = .agg (tagC (readT s)).toArray) (hy : a.eval y = .agg U.toArray) (hU : U = B8 s) (hl : s.length = 64) : (execOp a.eval o).run Try.prog W = .ok (.value (.agg (partC s).toArray)) W := by
  subst hU
  unfold execOp
  have h := run_build (P := Try.prog) W 127 #[(0, .agg (tagC (readT s)).toArray), (1, .agg (B8 s).toArray)] _ (built_part hl)
  simp only [ho, List.map_toArray, List.map_cons, List.map_nil, hx, hy, Sem.run_bind, h, Result.andThen_ok, Sem.run_pure]
theorem slice_info : (Try.prog.info? 95).map (·.size) = some 1 := by kernel_rfl
/-- Rows of parts of the call's own, each in a block of its own. -/
structure KepO (w : World) (base : Nat) (vs : List Value) (K : Rows) : Prop where
  len : vs.length = 32
  row : ∀ (t : Nat) (v : Value), vs[t]? = some v → w.ownsRow base 127 69 v (K t).length (partsV (K t))
  apart : ∀ (t u : Nat) (v v' : Value), t ≠ u → vs[t]? = some v → vs[u]? = some v' → Apart v v'
section
variable {w w' : World} {base : Nat} {vs : List Value} {K : Rows}
theorem KepO.later (h : KepO w base vs K) (hb : Below w.heap.size w w') : KepO w' base vs K :=
  ⟨h.len, fun t v ht => own_later (h.row t v ht) hb, h.apart⟩
theorem KepO.grown (h : KepO w base vs K) {g : Nat} (hg : w.grownBy w' (some g)) (hlt : g < base) : KepO w' base vs K :=
  ⟨h.len, fun t v ht => (h.row t v ht).kept hg (.inr (fun e => by
      have := ((h.row t v ht).lt g e).1
      omega)), h.apart⟩
/-- The rows before any part is read. -/
theorem KepO.none (w : World) (base : Nat) : KepO w base (List.replicate 32 (.slice none 0 0)) (fun _ => []) where
  len := by simp
  row := fun t v ht => by
    rw [List.getElem?_replicate] at ht
    split at ht
    · injection ht with ht
      subst ht
      exact World.ownsRow_nil _ _ _ _
    · cases ht
  apart := fun t u v v' _ ht _ => by
    rw [List.getElem?_replicate] at ht
    split at ht
    · injection ht with ht
      subst ht
      exact Apart.nil
    · cases ht
theorem KepO.same {K' : Rows} (h : KepO w base vs K) (he : ∀ t, t < 32 → K' t = K t) : KepO w base vs K' :=
  ⟨h.len, fun t v ht => by
      have hl := h.len
      have := (List.getElem?_eq_some_iff.1 ht).1
      rw [he t (by omega)]
      exact h.row t v ht, h.apart⟩
/-- One row has one more. -/
theorem KepO.more {K' : Rows} {i : Nat} {v v' : Value} {s : List UInt8} (h : KepO w base vs K) (hv : vs[i]? = some v) (ho : w'.ownsRow base 127 69 v' ((K i).length + 1) (partsV (K i) ++ partC s)) (hg : w.grownBy w' v.ownBlock) (hor : v'.ownBlock = v.ownBlock ∨ v'.ownBlock = some w.heap.size)
    (hi : K' i = K i ++ [s]) (he : ∀ t, t ≠ i → K' t = K t) : KepO w' base (vs.set i v') K' where
  len := by rw [List.length_set]; exact h.len
  row := fun t u ht => by
    rw [List.getElem?_set] at ht
    split at ht
    · rename_i e
      subst e
      split at ht
      · injection ht with ht
        subst ht
        rw [hi, partsV_append, partsV_one, List.length_append]
        exact ho
      · cases ht
    · rename_i e
      rw [he t (fun x => e x.symm)]
      exact own_other (h.row t u ht) hg (h.apart i t v u e hv ht)
  apart := fun t u x y htu ht hu => by
    rw [List.getElem?_set] at ht hu
    by_cases e1 : i = t
    · subst e1
      rw [if_pos rfl] at ht
      rw [if_neg htu] at hu
      split at ht
      · injection ht with ht
        subst ht
        exact Apart.next (h.apart i u v y htu hv hu) (h.row u y hu) hor
      · cases ht
    · rw [if_neg e1] at ht
      by_cases e2 : i = u
      · subst e2
        rw [if_pos rfl] at hu
        split at hu
        · injection hu with hu
          subst hu
          exact Apart.symm (Apart.next (h.apart i t v x (fun e => htu e.symm) hv ht) (h.row t x ht) hor)
        · cases hu
      · rw [if_neg e2] at hu
        exact h.apart t u x y htu ht hu
theorem KepO.kep (h : KepO w base vs K) (hl : AllLong K) (hf : ∀ i, i < 32 → (K i).length ≤ 5) : KepAt w vs K where
  len := h.len
  long := hl
  few := hf
  row := fun i hi => by
    obtain ⟨v, hv⟩ : ∃ v, vs[i]? = some v := ⟨vs[i]'(by have := h.len; omega), List.getElem?_eq_getElem _⟩
    have ho := h.row i v hv
    obtain ⟨A, c, rfl, _, _⟩ := own_shape ho
    exact ⟨A, _, c, hv, rfl, Reads.of_own ho⟩
end
/-- What the bank's Read answers of a member that is asked. -/
theorem asks_area {w : World} {b : Nat} {S : Bank} (h : AsksB w b S) (hup : S.down = false) {d q : Nat} (hd : d < S.n) (hq : q < S.size d) (hx : S.dead d = false) (w1 : World) (hb : Below w.heap.size w w1) :
    Calls Try.prog 71 #[.pointer (some ⟨b, 0, none⟩), .agg #[.int .i64 (d : Int), .int .i64 (q : Int)]] w1 fun e w2 => e = .returned (.tuple #[.agg (B8 (S.newest d q).1).toArray, .int .i64 0]) ∧ Below w1.heap.size w1 w2 := by
  have e : S.place d q = 0 := by
    have hn : ¬ S.n ≤ d := by omega
    simp [Bank.place, Bank.may, hn, hx, hup, hq]
  have h1 := h w1 hb d q
  rw [e] at h1
  exact h1
/-- The members' views of both areas. -/
def viewL (S : Bank) (L : List Nat) : List View := L.map fun d => fun j => (S.newest d (50 + j)).1
/-- The rows as far as the i-th, and of that one as far as the j-th member. -/
def rowsTo (S : Bank) (L : List Nat) (a i j : Nat) : Rows := fun t => if t < i then rowsC (viewL S L) a t else if t = i then rowC (viewL S (L.take j)) (32 * a + i) else []
section
variable {S : Bank} {L : List Nat} {a i j : Nat}
theorem rowC_append (V W : List View) (q : Nat) : rowC (V ++ W) q = rowC V q ++ rowC W q := by
  unfold rowC
  rw [List.map_append, List.filter_append]
theorem viewL_append (S : Bank) (l m : List Nat) : viewL S (l ++ m) = viewL S l ++ viewL S m := List.map_append
theorem rowsTo_zero (t : Nat) : rowsTo S L a 0 0 t = [] := by
  unfold rowsTo
  rw [if_neg (by omega)]
  split
  · rfl
  · rfl
theorem rowsTo_no {d : Nat} (hd : L[j]? = some d) (hp : part0 (S.newest d (50 + (32 * a + i))).1 = false) (t : Nat) : rowsTo S L a i (j + 1) t = rowsTo S L a i j t := by
  unfold rowsTo
  rw [List.take_add_one, hd, viewL_append, rowC_append]
  have e : rowC (viewL S (some d).toList) (32 * a + i) = [] := by simp [rowC, viewL, hp]
  rw [e, List.append_nil]
theorem rowsTo_yes {d : Nat} (hd : L[j]? = some d) (hp : part0 (S.newest d (50 + (32 * a + i))).1 = true) : rowsTo S L a i (j + 1) i = rowsTo S L a i j i ++ [(S.newest d (50 + (32 * a + i))).1] := by
  unfold rowsTo
  rw [if_neg (Nat.lt_irrefl i), if_neg (Nat.lt_irrefl i), if_pos rfl, if_pos rfl, List.take_add_one, hd, viewL_append, rowC_append]
  have e : rowC (viewL S (some d).toList) (32 * a + i) = [(S.newest d (50 + (32 * a + i))).1] := by simp [rowC, viewL, hp]
  rw [e]
theorem rowsTo_other (t : Nat) (h : t ≠ i) : rowsTo S L a i (j + 1) t = rowsTo S L a i j t := by
  unfold rowsTo
  rw [if_neg h, if_neg h]
theorem rowsTo_next (hj : j = L.length) (t : Nat) : rowsTo S L a (i + 1) 0 t = rowsTo S L a i j t := by
  unfold rowsTo
  by_cases h1 : t < i
  · rw [if_pos (by omega), if_pos h1]
  · by_cases h2 : t = i
    · subst h2
      rw [if_pos (by omega), if_neg (by omega), if_pos rfl, List.take_of_length_le (by omega)]
      rfl
    · rw [if_neg (by omega), if_neg h1, if_neg h2]
      split
      · rfl
      · rfl
theorem rowsTo_len (t : Nat) : (rowsTo S L a i j t).length ≤ L.length := by
  unfold rowsTo
  split
  · unfold rowsC rowC
    exact Nat.le_trans (List.length_filter_le _ _) (by simp [viewL])
  · split
    · unfold rowC
      exact Nat.le_trans (List.length_filter_le _ _) (by simp [viewL]; omega)
    · exact Nat.zero_le _
theorem rowsTo_all (t : Nat) (ht : t < 32) : rowsTo S L a 32 0 t = rowsC (viewL S L) a t := if_pos ht
theorem rowsTo_row (hj : j < L.length) : (rowsTo S L a i j i).length ≤ j := by
  unfold rowsTo
  rw [if_neg (Nat.lt_irrefl i), if_pos rfl]
  unfold rowC
  exact Nat.le_trans (List.length_filter_le _ _) (by simp [viewL]; omega)
theorem rows_long : AllLong (rowsC (viewL S L) a) := fun i _ s hs => by
  obtain ⟨hm, hp⟩ := List.mem_filter.1 hs
  obtain ⟨v, hv, rfl⟩ := List.mem_map.1 hm
  obtain ⟨d, _, rfl⟩ := List.mem_map.1 hv
  exact ⟨(S.newest d _).2, hp⟩
theorem part0_is (s : List UInt8) : part0 s = (partB s && decide ((tagT s).nr = 0)) := by
  unfold part0
  cases h : partB s with
  | false => rfl
  | true => rw [tagT_yes h]
end
set_option maxRecDepth 100000 in
set_option maxHeartbeats 8000000 in
theorem cread_any (A : Option Addr) (n c : Nat) (L : List Nat) (b a : Nat) (S : Bank) (w : World) (hRd : AsksB w b S) (hup : S.down = false) (hr : Reads w w.heap.size 1 A n (I64 (L.map Int.ofNat))) (hv : ∀ d ∈ L, d < S.n ∧ 114 ≤ S.size d ∧ S.dead d = false) (ha : a ≤ 1) (hn5 : n ≤ 5) :
    Calls Try.prog 48 #[.pointer (some ⟨b, 0, none⟩), .slice A n c, .int .i64 (a : Int)] w fun e w' => ∃ vs : List Value, e = .returned (.tuple #[.agg vs.toArray, .int .i64 0]) ∧ KepAt w' vs (rowsC (viewL S L) a) ∧ Below w.heap.size w w' := by
  obtain ⟨i0, hi0, hz0, hz1, hz2⟩ := info_parts part_parts
  have HI := hide (And.intro hi0 (And.intro hz0 (And.intro hz1 hz2)))
  have hlen : L.length = n := by have := hr.1; rw [I64_length, List.length_map] at this; omega
  have HR := hide hr
  have HV := hide hv
  have HLEN := hide hlen
  have HASK := hide (fun (w1 : World) (hb : Below w.heap.size w w1) (d q : Nat) (hd : d ∈ L) (hq : q < 114) => asks_area hRd hup (hv d hd).1 (Nat.lt_of_lt_of_le hq (hv d hd).2.1) (hv d hd).2.2 w1 hb)
  clear hr hv hlen hRd hup hi0 hz0 hz1 hz2
  go_enter Try.func48, Try.ntmps48
  go_wp2_with (first
    | ((with_reducible refine at_slot 6 ?_); refine wpList_alloc_blk rfl 97 rfl _ (kept_nought _) ?_; intro w1 hb1q hl1 hs1; have HF1 : Hid (Blk w1 w.heap.size 97 (List.replicate 32 (Value.slice none 0 0)).toArray) := hide hb1q; have HL1 := hide hl1; have hz1 : w.heap.size < w1.heap.size := (by omega); clear hb1q hl1 hs1)
    | ((with_reducible refine at_slot 8 ?_); refine wpList_alloc_blk rfl 97 rfl _ (kept_nought _) ?_; intro w2 hb2q hl2 hs2; have HG2 : Hid (Blk w2 w1.heap.size 97 (List.replicate 32 (Value.slice none 0 0)).toArray) := hide hb2q; have HF2 := hide (HF1.out.below hl2 HF1.out.lt); have HL2 := hide (HL1.out.trans (hl2.mono HL1.out.size)); have HL12 := hide hl2; have hz2 : w1.heap.size < w2.heap.size := (by omega); clear hb2q hl2 hs2))
  have HZ := hide (And.intro hz1 hz2)
  clear hz1 hz2
  go_loopw [16] (fun s16 wr => ∃ (i : Nat) (vs : List Value), s16 = .int .i64 (i : Int) ∧ i ≤ 32 ∧ Hid (Blk wr w1.heap.size 97 vs.toArray) ∧ Hid (KepO wr w2.heap.size vs (rowsTo S L a i 0)) ∧ Hid (Below w1.heap.size w1 wr) ∧ Hid (w2.heap.size ≤ wr.heap.size)) (fun s16 _ => 32 - (intOf s16).toNat)
  case atStart => exact ⟨0, _, rfl, by decide, HG2, hide ((KepO.none _ _).same (fun t _ => rowsTo_zero t)), HL12, hide (Nat.le_refl _)⟩
  case round =>
    obtain ⟨i, vs, rfl, hi, hG, hK, hl, hz⟩ := hrel
    obtain ⟨wo, rfl⟩ : ∃ wo, wo = wr := ⟨_, rfl⟩
    by_cases hi32 : i < 32
    · have hiw : (i : Int) < 32 := by omega
      go_wp2_with fail
      go_loopw [21] (fun s21 wr => ∃ (j : Nat) (vs : List Value), s21 = .int .i64 (j : Int) ∧ j ≤ n ∧ Hid (Blk wr w1.heap.size 97 vs.toArray) ∧ Hid (KepO wr w2.heap.size vs (rowsTo S L a i j)) ∧ Hid (Below w1.heap.size w1 wr) ∧ Hid (w2.heap.size ≤ wr.heap.size)) (fun s21 _ => n - (intOf s21).toNat)
      case atStart => exact ⟨0, vs, rfl, Nat.zero_le _, hG, hK, hl, hz⟩
      case round =>
        clear hG hK hl hz vs
        obtain ⟨j, vs, rfl, hj, hG, hK, hl, hz⟩ := hrel
        clear wo
        obtain ⟨wo, rfl⟩ : ∃ wo, wo = wr := ⟨_, rfl⟩
        have HL0 := hide (HL1.out.trans (hl.out.mono HL1.out.size))
        by_cases hjn : j < n
        · have hjw : (j : Int) < (n : Int) := by omega
          obtain ⟨ad, rfl, hab, hcs⟩ := HR.out.2 (by omega)
          obtain ⟨d, hd⟩ : ∃ d, L[j]? = some d := ⟨L[j]'(by have := HLEN.out; omega), List.getElem?_eq_getElem _⟩
          have hdm : d ∈ L := List.mem_of_getElem? hd
          have hce : wo.cell? (ad.add j) = some (.int .i64 (d : Int)) := (HL0.out.cell (p := ad.add j) (by rw [block_of_add]; exact hab)).trans (hcs j _ (by unfold I64; rw [List.getElem?_map, List.getElem?_map, hd]; rfl))
          have hRd := fun (w1 : World) (hb : Below w.heap.size w w1) => HASK.out w1 hb d (50 + (32 * a + i)) hdm (by omega)
          rw [show ((50 + (32 * a + i) : Nat) : Int) = 50 + (a : Int) * 32 + (i : Int) by omega] at hRd
          have HNO2 := hide (fun (h : part0 (S.newest d (50 + (32 * a + i))).1 = false) => rowsTo_no (a := a) hd h)
          have HYES2 := hide (fun (h : part0 (S.newest d (50 + (32 * a + i))).1 = true) => rowsTo_yes (a := a) hd h)
          have hsl := (S.newest d (50 + (32 * a + i))).2
          obtain ⟨s, hs⟩ : ∃ s, s = (S.newest d (50 + (32 * a + i))).1 := ⟨_, rfl⟩
          rw [← hs] at hRd HNO2 HYES2 hsl
          have HSL := hide hsl
          obtain ⟨U, hU⟩ : ∃ U, U = B8 s := ⟨_, rfl⟩
          have HUl := hide (show U.length = 64 by rw [hU, B8_length, hsl])
          have HUO := hide (show ∀ v ∈ U, v.oneCell' = true by rw [hU]; exact B8_one _)
          have HIU := hide (show (Try.prog.info? 51).map (·.size) = some U.length by rw [HUl.out]; exact sec_info)
          have hTag := fun w => tagOf_any s hsl w
          obtain ⟨tg, htg⟩ : ∃ tg, tg = tagT s := ⟨_, rfl⟩
          rw [← hU] at hRd hTag
          rw [← htg] at hTag
          unfold tagV at hTag
          have HU := hide hU
          have HRd := hide hRd
          have HTG := hide htg
          have HP0 := hide (part0_is s)
          clear hcs hd hdm hs hsl hU hRd htg
          cases hp : partB s with
          | false =>
            have HNO := hide (HNO2.out (by rw [HP0.out, hp]; rfl))
            rw [hp] at hTag
            have HTag := hide hTag
            clear hTag hp
            go_wp2_with (first
              | ((with_reducible refine at_slot 33 ?_); refine wpList_build_is rfl 49 _ rfl _ rfl _ (sbuilt_place _ _) ?_)
              | (go_at_call 71; refine (HRd.out wo HL0.out).mono ?_; rintro _ w3 ⟨rfl, hl3⟩; have HL3 := hide hl3; have hz3 := hl3.size; clear hl3)
              | ((with_reducible refine at_slot 12 ?_); refine wpList_alloc_blk rfl 51 rfl _ (sec_zero _) ?_; intro w4 hb4 hl4 hs4; clear hs4)
              | ((with_reducible refine at_store 12 ?_); refine wpList_store_all rfl 51 (.tmp 12) (.tmp 35) rfl w3.heap.size 51 _ hb4 rfl U rfl HIU.out (HUl.out.trans (secL_length zeroSec).symm) HUO.out ?_; intro w5 hb5 hg5 hs5; have hz4 := hb4.lt; have hl35 : Below w3.heap.size w3 w5 := hl4.grown hg5 (by omega) (fun g e => by injection e with e; omega); have HS5 := hide hb5; have HL5 := hide (HL3.out.trans (hl35.mono HL3.out.size)); clear hs5 hl35 hb4 hl4 hg5 hb5)
              | ((with_reducible refine at_slot 42 ?_); refine wpList_load_blk rfl 51 (.tmp 12) rfl w3.heap.size 0 51 _ HS5.out rfl U _ (fun j v hj => by rw [Nat.zero_add]; simpa using hj) Try.underlying51 rfl HIU.out ?_)
              | (go_at_call 63; refine (HTag.out w5).mono ?_; rintro _ w6 ⟨rfl, hl6⟩; have HS6 := hide (HS5.out.below hl6 HS5.out.lt); have HL6 := hide (HL5.out.trans (hl6.mono HL5.out.size)); clear hl6)
              | ((with_reducible refine at_slot 14 ?_); refine wpList_alloc_blk rfl 105 rfl _ (tag_nought _) ?_; intro w7 hb7 hl7 hs7; clear hs7)
              | ((with_reducible refine at_store 14 ?_); refine wpList_store_all rfl 105 (.tmp 14) (.tmp 44) rfl w6.heap.size 105 _ hb7 rfl (tagC tg) rfl tag_info rfl (tagC_one _) ?_; intro w8 hb8 hg8 hs8; have hz7 := hb7.lt; have hl68 : Below w6.heap.size w6 w8 := hl7.grown hg8 (by omega) (fun g e => by injection e with e; omega); have HS8 := hide (HS6.out.below hl68 HS6.out.lt); have HL8 := hide (HL6.out.trans (hl68.mono HL6.out.size)); have HT8 := hide hb8; have y1 := tag_c1 hb8; clear hs8 hl68 hb7 hl7 hg8 hb8))
            go_roundw
            case rel => exact ⟨j + 1, vs, by simp, by omega, hide (hG.out.below HL8.out hG.out.lt), hide ((hK.out.later HL8.out).same (fun t _ => HNO.out t)), hide (hl.out.trans (HL8.out.mono hl.out.size)), hide (Nat.le_trans hz.out HL8.out.size)⟩
            case measure => simp [intOf]; omega
          | true =>
            rw [hp] at hTag
            have HTag := hide hTag
            clear hTag
            by_cases hq : tg.nr = 0
            · have hqw : (tg.nr == 0) = true := by simp [hq]
              have HPP := hide (show part0 s = true by rw [HP0.out, hp, ← HTG.out, decide_eq_true hq]; rfl)
              have HTR := hide (show tg = readT s by rw [HTG.out, tagT_yes hp])
              obtain ⟨vi, hvi⟩ : ∃ vi, vs[i]? = some vi := ⟨vs[i]'(by have := hK.out.len; omega), List.getElem?_eq_getElem _⟩
              have hoi := hK.out.row i vi hvi
              obtain ⟨Ai, ci, hvv, _, _⟩ := own_shape hoi
              obtain ⟨m, hm⟩ : ∃ m, m = (rowsTo S L a i j i).length := ⟨_, rfl⟩
              rw [← hm] at hvv hoi
              subst hvv
              have HVI := hide hvi
              have HOI := hide hoi
              have HM := hide hm
              have hm5 : m ≤ 5 := by have := rowsTo_len (S := S) (L := L) (a := a) (i := i) (j := j) i; have := HLEN.out; omega
              clear hvi hoi hm hp hq
              go_wp2_with (first
                | ((with_reducible refine at_slot 33 ?_); refine wpList_build_is rfl 49 _ rfl _ rfl _ (sbuilt_place _ _) ?_)
                | (go_at_call 71; refine (HRd.out wo HL0.out).mono ?_; rintro _ w3 ⟨rfl, hl3⟩; have HL3 := hide hl3; have hz3 := hl3.size; clear hl3)
                | ((with_reducible refine at_slot 12 ?_); refine wpList_alloc_blk rfl 51 rfl _ (sec_zero _) ?_; intro w4 hb4 hl4 hs4; clear hs4)
                | ((with_reducible refine at_store 12 ?_); refine wpList_store_all rfl 51 (.tmp 12) (.tmp 35) rfl w3.heap.size 51 _ hb4 rfl U rfl HIU.out (HUl.out.trans (secL_length zeroSec).symm) HUO.out ?_; intro w5 hb5 hg5 hs5; have hz4 := hb4.lt; have hl35 : Below w3.heap.size w3 w5 := hl4.grown hg5 (by omega) (fun g e => by injection e with e; omega); have HS5 := hide hb5; have HL5 := hide (HL3.out.trans (hl35.mono HL3.out.size)); clear hs5 hl35 hb4 hl4 hg5 hb5)
                | ((with_reducible refine at_slot 42 ?_); refine wpList_load_blk rfl 51 (.tmp 12) rfl w3.heap.size 0 51 _ HS5.out rfl U _ (fun j v hj => by rw [Nat.zero_add]; simpa using hj) Try.underlying51 rfl HIU.out ?_)
                | (go_at_call 63; refine (HTag.out w5).mono ?_; rintro _ w6 ⟨rfl, hl6⟩; have HS6 := hide (HS5.out.below hl6 HS5.out.lt); have HL6 := hide (HL5.out.trans (hl6.mono HL5.out.size)); clear hl6)
                | ((with_reducible refine at_slot 14 ?_); refine wpList_alloc_blk rfl 105 rfl _ (tag_nought _) ?_; intro w7 hb7 hl7 hs7; clear hs7)
                | ((with_reducible refine at_store 14 ?_); refine wpList_store_all rfl 105 (.tmp 14) (.tmp 44) rfl w6.heap.size 105 _ hb7 rfl (tagC tg) rfl tag_info rfl (tagC_one _) ?_; intro w8 hb8 hg8 hs8; have hz7 := hb7.lt; have hl68 : Below w6.heap.size w6 w8 := hl7.grown hg8 (by omega) (fun g e => by injection e with e; omega); have HS8 := hide (HS6.out.below hl68 HS6.out.lt); have HL8 := hide (HL6.out.trans (hl68.mono HL6.out.size)); have HT8 := hide hb8; have y1 := tag_c1 hb8; clear hs8 hl68 hb7 hl7 hg8 hb8))
              have HG8 := hide (hG.out.below HL8.out hG.out.lt)
              have HK8 := hide (hK.out.later HL8.out)
              have ck : w8.drew.cell? ⟨w1.heap.size, i, none⟩ = some (.slice Ai m ci) := by
                show w8.cell? _ = _
                rw [HG8.out.cell i, List.getElem?_toArray]
                exact HVI.out
              have HZW := hide (show w1.heap.size < wo.heap.size from Nat.lt_of_lt_of_le HZ.out.2 hz.out)
              have HZB := hide (show w1.heap.size < w2.heap.size from HZ.out.2)
              have hz38 : w3.heap.size < w8.heap.size := HS8.out.lt
              have hz68 : w6.heap.size < w8.heap.size := HT8.out.lt
              have hz36 : wo.heap.size ≤ w6.heap.size := HL6.out.size
              have hz30 : wo.heap.size ≤ w3.heap.size := HL3.out.size
              have HS : Hid (∀ W', Turn (fun x => x < wo.heap.size) w8 W' → (W'.rangeAt w6.heap.size 0 (tagC (readT s)) ∧ W'.rangeAt w3.heap.size 0 U)) := hide fun W' h => by
                have h1 := HT8.out.of_block (h.block _ HT8.out.lt (by show ¬ w6.heap.size < wo.heap.size; omega))
                have h2 := HS8.out.of_block (h.block _ HS8.out.lt (by show ¬ w3.heap.size < wo.heap.size; omega))
                rw [HTR.out] at h1
                exact ⟨range_blk9 h1, range_blk9 h2⟩
              obtain ⟨w10, hw10⟩ : ∃ w10, w10 = w8.drew.alloc (.cells (partC s).toArray 127) := ⟨_, rfl⟩
              have HT9 := hide (Turn.drew (Turn.refl (fun x => x < wo.heap.size) w8))
              have HT10 := hide (show Turn (fun x => x < wo.heap.size) w8 w10 by rw [hw10]; exact HT9.out.alloc _)
              have hl810 : Below w8.heap.size w8 w10 := by rw [hw10]; exact ((Below.refl _ w8).drew).alloc (Nat.le_refl _) _
              have HK10 := hide (HK8.out.later hl810)
              have hsz10 : w10.heap.size = w8.heap.size + 1 := by rw [hw10]; exact World.size_alloc _ _
              have HPL := hide (partC_length HSL.out)
              have hrd10 : Reads w10 (w8.heap.size + 1) 69 (some ⟨w8.heap.size, 0, none⟩) 1 (partC s) := by
                have h := Reads.lump (w := w8.drew) (partC s) 127 (w8.heap.size + 1) 69 (Nat.lt_succ_self _) HPL.out
                rw [← hw10] at h
                exact h
              have hro := HK10.out.row i _ HVI.out
              rw [← HM.out] at hro
              obtain ⟨v', w11, hrun, hown11, hgb11, hvb11⟩ := run_append_any (P := Try.prog) w10 w2.heap.size 95 95 127 i0 _ 69 104 Try.underlying95 HI.out.1 HI.out.2.1 HI.out.2.2.1 HI.out.2.2.2 rfl (by decide) _ m _ hro (w8.heap.size + 1) (some ⟨w8.heap.size, 0, none⟩) 1 1 (partC s) hrd10 (partC_one s) (by simp only [maxLen]; omega) (by omega) (by have := HL8.out.size; have := hz.out; omega)
              have HOI2 := hide (HOI.out.lt)
              have HT11 := hide (HT10.out.grown hgb11 (fun g e => .inl (HOI2.out g e).2))
              have HG11 := hide (show Blk w11 w1.heap.size 97 vs.toArray from (HG8.out.below hl810 HG8.out.lt).grown hgb11 (fun e => by have := (HOI2.out _ e.symm).1; have := HZB.out; omega))
              have HOW11 := hide (show w11.ownsRow w2.heap.size 127 69 v' ((rowsTo S L a i j i).length + 1) (partsV (rowsTo S L a i j i) ++ partC s) by rw [← HM.out]; exact hown11)
              have HV1 := hide (show v'.oneCell' = true by obtain ⟨A', c', rfl, _, _⟩ := own_shape hown11; rfl)
              have HVS := hide (show i < vs.toArray.size by rw [List.size_toArray]; have := hK.out.len; omega)
              have HGB := hide hgb11
              have HVB := hide hvb11
              have HROW := hide (HYES2.out HPP.out)
              have HT12 := hide (fun (w12 : World) (hg12 : w11.grownBy w12 (some w1.heap.size)) => (show Below w1.heap.size w8 w12 from (((hl810.mono (by have := HG8.out.lt; omega)).grown hgb11 (by have := HG8.out.lt; omega) (fun g e => by have := (HOI2.out g e).1; have := HZB.out; omega)).grown hg12 (by have := HG11.out.lt; omega) (fun g e => by injection e with e; omega))))
              have HSZ := hide (fun (w12 : World) (hs12 : w12.heap.size = w11.heap.size) => (show w2.heap.size ≤ w12.heap.size by have h1 := hgb11.size; have h2 := HL8.out.size; have h3 := hz.out; omega))
              have HW10 := hide hw10
              have ck10 : w10.cell? ⟨w1.heap.size, i, none⟩ = some (.slice Ai m ci) := by
                rw [(HG8.out.below hl810 HG8.out.lt).cell i, List.getElem?_toArray]
                exact HVI.out
              have HUN : Hid (Try.prog.underlying 51 = some (.array 64 5)) := Try.underlying51
              have HUT := hide (Try.underlying105)
              clear hw10 hrd10 hro hown11 hgb11 hvb11 hz38 hz68 hz36 hz30 hl810 hsz10 y1
              refine wp_region_held_drew (S := (fun W => W.rangeAt w6.heap.size 0 (tagC (readT s)) ∧ W.rangeAt w3.heap.size 0 U)) (by kernel_rfl) ?_ (fun hHeld => ?_)
              · exact HS.out _ HT9.out
              refine heldTake (i := 0) (v := ?_) rfl (by kernel_rfl) (by kernel_rfl) (by kernel_rfl) (fun _ _ _ h => h) (Or.inl ⟨by rfl, ?_⟩) (by assumption) ?_
              rotate_left
              · intro w hSw; (try dsimp only at hSw); go_simp <;> (with_reducible rfl)
              try simp only [Act.put, List.setIfInBounds_toArray, List.set_cons_zero, List.set_cons_succ]
              refine heldTake (i := 1) (v := ?_) rfl (by kernel_rfl) (by kernel_rfl) (by kernel_rfl) (fun _ _ _ h => h) (Or.inl ⟨by rfl, ?_⟩) (by assumption) ?_
              rotate_left
              · intro w hSw; (try dsimp only at hSw); go_simp <;> (with_reducible rfl)
              try simp only [Act.put, List.setIfInBounds_toArray, List.set_cons_zero, List.set_cons_succ]
              refine heldTake (i := 2) (v := ?_) rfl (by kernel_rfl) (by kernel_rfl) (by kernel_rfl) (fun _ _ _ h => h) (Or.inl ⟨by rfl, ?_⟩) (by assumption) ?_
              rotate_left
              · intro w hSw; (try dsimp only at hSw); go_simp <;> (with_reducible rfl)
              try simp only [Act.put, List.setIfInBounds_toArray, List.set_cons_zero, List.set_cons_succ]
              refine heldTake (i := 4) (v := .agg (tagC (readT s)).toArray) rfl (by kernel_rfl) (by kernel_rfl) (by kernel_rfl) (fun _ _ _ h => h) (yieldsIf_load_mid (by rfl) _ _ rfl _ _ rfl (tagC (readT s)) _ (fun W hW => hW.1) HUT.out rfl tag_info) (by assumption) ?_
              try simp only [Act.put, List.setIfInBounds_toArray, List.set_cons_zero, List.set_cons_succ]
              refine heldTake (i := 5) (v := .agg (U).toArray) rfl (by kernel_rfl) (by kernel_rfl) (by kernel_rfl) (fun _ _ _ h => h) (yieldsIf_load_mid (by rfl) _ _ rfl _ _ rfl (U) _ (fun W hW => hW.2) HUN.out rfl HIU.out) (by assumption) ?_
              try simp only [Act.put, List.setIfInBounds_toArray, List.set_cons_zero, List.set_cons_succ]
              refine heldTake (i := 6) (v := .agg (partC s).toArray) rfl (by kernel_rfl) (by kernel_rfl) (by kernel_rfl) (fun _ _ _ h => h) (Or.inl ⟨by rfl, fun W hW => run_build_part W _ (.tmp 56) (.tmp 57) rfl rfl rfl HU.out HSL.out⟩) (by assumption) ?_
              try simp only [Act.put, List.setIfInBounds_toArray, List.set_cons_zero, List.set_cons_succ]
              refine wpAnyH_ready (rs := [3, 7]) (by kernel_rfl) (by simp) ?_
              refine heldCons (i := 3) rfl (fun Kq hKq => ?_) ?_
              · go_simp
                refine hKq.out _ _ (HS.out _ HT9.out) (fun hHeld => ?_)
                clear hKq Kq
                try simp only [Act.put, List.setIfInBounds_toArray, List.set_cons_zero, List.set_cons_succ]
                refine wpAnyH_ready (rs := [7]) (by kernel_rfl) (by simp) ?_
                refine heldCons (i := 7) rfl (fun Kq hKq => ?_) AllReadyH.nil
                refine step_build_agg rfl (.tmp 58) 95 rfl 127 i0 _ 69 Try.underlying95 HI.out.1 (part_nought _) HI.out.2.2.1 (by decide) (by decide) (partC s).toArray rfl (by rw [List.size_toArray]; exact HPL.out) ?_
                rw [← HW10.out]
                refine hKq.out _ _ (HS.out _ HT10.out) (fun hHeld => ?_)
                clear hKq Kq
                try simp only [Act.put, List.setIfInBounds_toArray, List.set_cons_zero, List.set_cons_succ]
                refine wpAnyH_ready (rs := [8]) (by kernel_rfl) (by simp) ?_
                refine heldCons (i := 8) rfl (fun Kq hKq => ?_) AllReadyH.nil
                refine step_known rfl (.tmp 55) (.tmp 59) 95 rfl _ _ rfl rfl v' w11 hrun ?_
                refine hKq.out _ _ (HS.out _ HT11.out) (fun hHeld => ?_)
                clear hKq Kq
                try simp only [Act.put, List.setIfInBounds_toArray, List.set_cons_zero, List.set_cons_succ]
                refine heldTake (i := 9) (v := ?_) rfl (by kernel_rfl) (by kernel_rfl) (by kernel_rfl) (fun _ _ _ h => h) (Or.inl ⟨by rfl, ?_⟩) (by assumption) ?_
                rotate_left
                · intro w hSw; (try dsimp only at hSw); go_simp <;> (with_reducible rfl)
                try simp only [Act.put, List.setIfInBounds_toArray, List.set_cons_zero, List.set_cons_succ]
                refine wpAnyH_ready (rs := [10]) (by kernel_rfl) (by simp) ?_
                refine heldCons (i := 10) rfl (fun Kq hKq => ?_) AllReadyH.nil
                refine step_poke rfl 95 (.tmp 61) (.tmp 60) rfl w1.heap.size i 97 vs.toArray HG11.out rfl v' rfl HV1.out slice_info HVS.out ?_
                intro w12 hb12 hg12 hs12
                refine hKq.out _ _ (HS.out _ (HT11.out.grown hg12 (fun g e => by injection e with e; exact .inl (by have := HZW.out; omega)))) (fun hHeld => ?_)
                clear hKq Kq
                try simp only [Act.put]
                refine wpAnyH_done (by kernel_rfl) ?_ _
                go_wp2_with fail
                go_roundw
                case rel =>
                  refine ⟨j + 1, vs.set i v', by simp, by omega, hide ?_, hide ?_, hide ?_, hide ?_⟩
                  · rw [List.setIfInBounds_toArray] at hb12
                    exact hb12
                  · exact ((HK10.out.more HVI.out HOW11.out HGB.out HVB.out HROW.out (fun t ht => rowsTo_other t ht)).grown hg12 HZB.out)
                  · exact (hl.out.trans (HL8.out.mono hl.out.size)).trans (HT12.out w12 hg12)
                  · exact HSZ.out w12 hs12
                case measure => simp [intOf]; omega
              refine heldCons (i := 7) rfl (fun Kq hKq => ?_) AllReadyH.nil
              refine step_build_agg rfl (.tmp 58) 95 rfl 127 i0 _ 69 Try.underlying95 HI.out.1 (part_nought _) HI.out.2.2.1 (by decide) (by decide) (partC s).toArray rfl (by rw [List.size_toArray]; exact HPL.out) ?_
              rw [← HW10.out]
              refine hKq.out _ _ (HS.out _ HT10.out) (fun hHeld => ?_)
              clear hKq Kq
              try simp only [Act.put, List.setIfInBounds_toArray, List.set_cons_zero, List.set_cons_succ]
              refine wpAnyH_ready (rs := [3]) (by kernel_rfl) (by simp) ?_
              refine heldCons (i := 3) rfl (fun Kq hKq => ?_) AllReadyH.nil
              go_simp
              refine hKq.out _ _ (HS.out _ HT10.out) (fun hHeld => ?_)
              clear hKq Kq
              try simp only [Act.put, List.setIfInBounds_toArray, List.set_cons_zero, List.set_cons_succ]
              refine wpAnyH_ready (rs := [8]) (by kernel_rfl) (by simp) ?_
              refine heldCons (i := 8) rfl (fun Kq hKq => ?_) AllReadyH.nil
              refine step_known rfl (.tmp 55) (.tmp 59) 95 rfl _ _ rfl rfl v' w11 hrun ?_
              refine hKq.out _ _ (HS.out _ HT11.out) (fun hHeld => ?_)
              clear hKq Kq
              try simp only [Act.put, List.setIfInBounds_toArray, List.set_cons_zero, List.set_cons_succ]
              refine heldTake (i := 9) (v := ?_) rfl (by kernel_rfl) (by kernel_rfl) (by kernel_rfl) (fun _ _ _ h => h) (Or.inl ⟨by rfl, ?_⟩) (by assumption) ?_
              rotate_left
              · intro w hSw; (try dsimp only at hSw); go_simp <;> (with_reducible rfl)
              try simp only [Act.put, List.setIfInBounds_toArray, List.set_cons_zero, List.set_cons_succ]
              refine wpAnyH_ready (rs := [10]) (by kernel_rfl) (by simp) ?_
              refine heldCons (i := 10) rfl (fun Kq hKq => ?_) AllReadyH.nil
              refine step_poke rfl 95 (.tmp 61) (.tmp 60) rfl w1.heap.size i 97 vs.toArray HG11.out rfl v' rfl HV1.out slice_info HVS.out ?_
              intro w12 hb12 hg12 hs12
              refine hKq.out _ _ (HS.out _ (HT11.out.grown hg12 (fun g e => by injection e with e; exact .inl (by have := HZW.out; omega)))) (fun hHeld => ?_)
              clear hKq Kq
              try simp only [Act.put]
              refine wpAnyH_done (by kernel_rfl) ?_ _
              go_wp2_with fail
              go_roundw
              case rel =>
                refine ⟨j + 1, vs.set i v', by simp, by omega, hide ?_, hide ?_, hide ?_, hide ?_⟩
                · rw [List.setIfInBounds_toArray] at hb12
                  exact hb12
                · exact ((HK10.out.more HVI.out HOW11.out HGB.out HVB.out HROW.out (fun t ht => rowsTo_other t ht)).grown hg12 HZB.out)
                · exact (hl.out.trans (HL8.out.mono hl.out.size)).trans (HT12.out w12 hg12)
                · exact HSZ.out w12 hs12
              case measure => simp [intOf]; omega
            · have hqw : (tg.nr == 0) = false := by simp [hq]
              have HNO := hide (HNO2.out (by rw [HP0.out, hp, ← HTG.out, decide_eq_false hq]; rfl))
              clear hp hq
              go_wp2_with (first
                | ((with_reducible refine at_slot 33 ?_); refine wpList_build_is rfl 49 _ rfl _ rfl _ (sbuilt_place _ _) ?_)
                | (go_at_call 71; refine (HRd.out wo HL0.out).mono ?_; rintro _ w3 ⟨rfl, hl3⟩; have HL3 := hide hl3; have hz3 := hl3.size; clear hl3)
                | ((with_reducible refine at_slot 12 ?_); refine wpList_alloc_blk rfl 51 rfl _ (sec_zero _) ?_; intro w4 hb4 hl4 hs4; clear hs4)
                | ((with_reducible refine at_store 12 ?_); refine wpList_store_all rfl 51 (.tmp 12) (.tmp 35) rfl w3.heap.size 51 _ hb4 rfl U rfl HIU.out (HUl.out.trans (secL_length zeroSec).symm) HUO.out ?_; intro w5 hb5 hg5 hs5; have hz4 := hb4.lt; have hl35 : Below w3.heap.size w3 w5 := hl4.grown hg5 (by omega) (fun g e => by injection e with e; omega); have HS5 := hide hb5; have HL5 := hide (HL3.out.trans (hl35.mono HL3.out.size)); clear hs5 hl35 hb4 hl4 hg5 hb5)
                | ((with_reducible refine at_slot 42 ?_); refine wpList_load_blk rfl 51 (.tmp 12) rfl w3.heap.size 0 51 _ HS5.out rfl U _ (fun j v hj => by rw [Nat.zero_add]; simpa using hj) Try.underlying51 rfl HIU.out ?_)
                | (go_at_call 63; refine (HTag.out w5).mono ?_; rintro _ w6 ⟨rfl, hl6⟩; have HS6 := hide (HS5.out.below hl6 HS5.out.lt); have HL6 := hide (HL5.out.trans (hl6.mono HL5.out.size)); clear hl6)
                | ((with_reducible refine at_slot 14 ?_); refine wpList_alloc_blk rfl 105 rfl _ (tag_nought _) ?_; intro w7 hb7 hl7 hs7; clear hs7)
                | ((with_reducible refine at_store 14 ?_); refine wpList_store_all rfl 105 (.tmp 14) (.tmp 44) rfl w6.heap.size 105 _ hb7 rfl (tagC tg) rfl tag_info rfl (tagC_one _) ?_; intro w8 hb8 hg8 hs8; have hz7 := hb7.lt; have hl68 : Below w6.heap.size w6 w8 := hl7.grown hg8 (by omega) (fun g e => by injection e with e; omega); have HS8 := hide (HS6.out.below hl68 HS6.out.lt); have HL8 := hide (HL6.out.trans (hl68.mono HL6.out.size)); have HT8 := hide hb8; have y1 := tag_c1 hb8; clear hs8 hl68 hb7 hl7 hg8 hb8))
              go_roundw
              case rel => exact ⟨j + 1, vs, by simp, by omega, hide (hG.out.below HL8.out hG.out.lt), hide ((hK.out.later HL8.out).same (fun t _ => HNO.out t)), hide (hl.out.trans (HL8.out.mono hl.out.size)), hide (Nat.le_trans hz.out HL8.out.size)⟩
              case measure => simp [intOf]; omega
        · obtain rfl : j = n := by omega
          have HKN := hide (hK.out.same (K' := rowsTo S L a (i + 1) 0) (fun t _ => rowsTo_next (by have := HLEN.out; omega) t))
          go_wp2
          go_roundw
          case rel => exact ⟨i + 1, vs, by simp, by omega, hG, HKN, hl, hz⟩
          case measure => simp [intOf]; omega
    · obtain rfl : i = 32 := by omega
      have HKE := hide (((hK.out.same (K' := rowsC (viewL S L) a) (fun t ht => (rowsTo_all t ht).symm)).kep rows_long (fun t ht => by have h1 := rowsTo_len (S := S) (L := L) (a := a) (i := 32) (j := 0) t; rw [rowsTo_all t ht] at h1; have := HLEN.out; omega)))
      have HKX := hide (fun (w9 : World) (hg : wo.grownBy w9 (some w.heap.size)) => ((hK.out.grown hg (by have h1 := HZ.out; omega)).same (K' := rowsC (viewL S L) a) (fun t ht => (rowsTo_all t ht).symm)).kep rows_long (fun t ht => by have h1 := rowsTo_len (S := S) (L := L) (a := a) (i := 32) (j := 0) t; rw [rowsTo_all t ht] at h1; have := HLEN.out; omega))
      have HVL := hide (show (Try.prog.info? 97).map (·.size) = some vs.length by rw [hK.out.len]; exact kept_info)
      have HVZ := hide (show vs.length = (List.replicate 32 (Value.slice none 0 0)).toArray.size by rw [hK.out.len]; rfl)
      have HF1' := hide (HF1.out.below hl.out HF1.out.lt)
      go_wp2_with (first
        | ((with_reducible refine at_slot 64 ?_); refine wpList_load_blk rfl 97 (.tmp 8) rfl w1.heap.size 0 97 _ hG.out rfl vs _ (fun j v hj => by rw [Nat.zero_add]; simpa using hj) Try.underlying97 rfl HVL.out ?_)
        | ((with_reducible refine at_store 6 ?_); refine wpList_store_all rfl 97 (.tmp 6) (.tmp 64) rfl w.heap.size 97 _ HF1'.out rfl vs rfl HVL.out HVZ.out HKE.out.one ?_; intro w9 hb9 hg9 hs9; clear hs9))
      refine ret_cell_tmp rfl w.heap.size 97 vs _ hb9 rfl Try.underlying97 rfl HVL.out (.int .i64 0) rfl rfl ?_
      refine ⟨vs, rfl, HKX.out w9 hg9, (HL1.out.trans (hl.out.mono HL1.out.size)).grown hg9 (Nat.le_trans HL1.out.size hl.out.size) (fun g e => by injection e with e; omega)⟩
def areO (b : Option Ckp) : Nat := match b with | none => 0 | some c => c.area
/-- The newest of the areas ahead of the k-th; the greatest generation in them. -/
def bAt (V : List View) : Nat → Option Ckp
  | 0 => none
  | k + 1 => newerO (bAt V k) (bestC (candC V k) none)
def sAt (V : List View) : Nat → Nat
  | 0 => 0
  | k + 1 => max (sAt V k) (seenTo (rowsC V k) 32)
theorem bAt_two (V : List View) : bAt V 2 = loadC V := by
  rw [loadC_is]
  show newerO (newerO none (bestC (candC V 0) none)) _ = _
  cases bestC (candC V 0) none with
  | none => rfl
  | some c => rfl
theorem sAt_two (V : List View) : sAt V 2 = seenC V := by
  rw [seenC_rows]
  show max (max 0 _) _ = _
  rw [Nat.zero_max]
theorem bAt_skip {V : List View} {k : Nat} (h : bestC (candC V k) none = none) : bAt V (k + 1) = bAt V k := by
  show newerO _ _ = _
  rw [h]
  rfl
theorem bAt_take {V : List View} {k : Nat} {c : Ckp} (h : bestC (candC V k) none = some c) (hb : ∀ b, bAt V k = some b → b.gen < c.gen) : bAt V (k + 1) = some c := by
  show newerO _ _ = _
  rw [h]
  show newer _ _ = _
  cases hq : bAt V k with
  | none => rfl
  | some b =>
    unfold newer
    simp only
    rw [if_pos (hb b hq)]
theorem bAt_keep {V : List View} {k : Nat} {c b : Ckp} (h : bestC (candC V k) none = some c) (hb : bAt V k = some b) (hg : ¬ b.gen < c.gen) : bAt V (k + 1) = some b := by
  show newerO _ _ = _
  rw [h, hb]
  unfold newerO newer
  simp only
  rw [if_neg hg]
/-- What Load answers. -/
def LoadedR (V : List View) (w : World) (e : Ending) (w' : World) : Prop :=
  ∃ (a g s : Nat) (x : List UInt8) (er : Nat) (B : Option Addr) (m q : Nat), e = .returned (.tuple #[.agg (fndC a g s B m q).toArray, .int .i64 (er : Int)]) ∧ m ≤ q ∧ q ≤ maxLen ∧ w'.ownsRow w.heap.size 5 1 (.slice B m q) m (B8 x) ∧ Below w.heap.size w w' ∧
    ((V = [] ∧ a = 0 ∧ g = 0 ∧ s = 0 ∧ x = [] ∧ er = 5) ∨ (V ≠ [] ∧ a = areO (loadC V) ∧ g = genO (loadC V) ∧ s = seenC V ∧ x = bytO (loadC V) ∧ er = if (loadC V).isSome = true then 0 else 8))
theorem newest_as {V : List View} {k : Nat} {fn : FuncId} {args : Array Value} {w : World} {b : Option Ckp} (h : Calls Try.prog fn args w (NewestR (newestTo (rowsC V k) k (rowsC V k 0).length) w)) (hb : bestC (candC V k) none = b) : Calls Try.prog fn args w fun e w' => ∃ (B : Option Addr) (m q : Nat), e = .returned (.tuple #[.agg (fndC 0 (genO b) 0 B m q).toArray, .bool b.isSome]) ∧ (m ≤ q ∧ q ≤ maxLen ∧ w'.ownsRow w.heap.size 5 1 (.slice B m q) m (B8 (bytO b))) ∧ Below w.heap.size w w' := by
  rw [newestTo_all, hb] at h
  exact h.mono fun e w' ⟨B, m, q, h1, h2, h3, h4, h5⟩ => ⟨B, m, q, h1, ⟨h2, h3, h4⟩, h5⟩
set_option maxRecDepth 100000 in
set_option maxHeartbeats 8000000 in
theorem cload_any (A : Option Addr) (n c : Nat) (live : List Nat) (b : Nat) (S : Bank) (w : World) (hD : DeadB w b S) (hRd : AsksB w b S) (hup : S.down = false) (hr : Reads w w.heap.size 1 A n (I64 (live.map Int.ofNat))) (hv : ∀ d ∈ live, d < S.n ∧ 114 ≤ S.size d) (hnd : live.Nodup) (hn5 : n ≤ 5) :
    Calls Try.prog 30 #[.pointer (some ⟨b, 0, none⟩), .slice A n c] w (LoadedR (viewsC S live) w) := by
  have hle : (askedL S live).length ≤ 5 := by
    have h1 := hr.1
    rw [I64_length, List.length_map] at h1
    have h2 := asked_le S live
    omega
  have HMEM := hide (fun (w1 : World) (hb : Below w.heap.size w w1) => readable_any A n c live b S w1 (hD.later hb) ((hr.below hb).more hb.size) (fun d hd => (hv d hd).1) hnd hn5)
  have HVV := hide (fun d (hd : d ∈ askedL S live) => (show d < S.n ∧ 114 ≤ S.size d ∧ S.dead d = false from by
    obtain ⟨h1, h2⟩ := List.mem_filter.1 hd
    exact ⟨(hv d h1).1, (hv d h1).2, by simpa using h2⟩))
  have HASK := hide hRd
  have HUP := hide hup
  have hVS : viewsC S live = viewL S (askedL S live) := rfl
  rw [hVS]
  obtain ⟨L, hL⟩ : ∃ L, L = askedL S live := ⟨_, rfl⟩
  rw [← hL] at HMEM HVV hle ⊢
  obtain ⟨V, hV⟩ : ∃ V, V = viewL S L := ⟨_, rfl⟩
  have HVL := hide (show V.length = L.length by rw [hV]; simp [viewL])
  have HRD := hide (fun (w1 : World) (hb : Below w.heap.size w w1) (A1 : Option Addr) (n1 c1 k : Nat) (h1 : Reads w1 w1.heap.size 1 A1 n1 (I64 (L.map Int.ofNat))) (hk : k ≤ 1) => (show Calls Try.prog 48 #[.pointer (some ⟨b, 0, none⟩), .slice A1 n1 c1, .int .i64 (k : Int)] w1 fun e w' => ∃ vs : List Value, e = .returned (.tuple #[.agg vs.toArray, .int .i64 0]) ∧ KepAt w' vs (rowsC V k) ∧ Below w1.heap.size w1 w' from by
    rw [hV]
    exact cread_any A1 n1 c1 L b k S w1 (HASK.out.later hb) HUP.out h1 HVV.out hk (by have := h1.1; rw [I64_length, List.length_map] at this; omega)))
  rw [← hV]
  obtain ⟨X, hX⟩ : ∃ X, X = LoadedR V w := ⟨_, rfl⟩
  rw [← hX]
  have HX := hide hX
  have HLE := hide hle
  clear hD hRd hup hr hv hnd hVS hL hV hX hle
  have HMEM := hide (fun w1 hb => HMEM.out w1 hb)
  by_cases hL0 : L.length = 0
  · have HL0 := hide hL0
    clear hL0
    go_enter Try.func30, Try.ntmps30
    go_wp2_with (first
      | ((with_reducible refine at_slot 4 ?_); refine wpList_alloc_blk rfl 55 rfl _ (fnd_nought _) ?_; intro w1 hb1q hl1 hs1; have HF1 : Hid (Blk w1 w.heap.size 55 (fndC 0 0 0 none 0 0).toArray) := hide hb1q; have HL1 := hide hl1; clear hb1q hl1 hs1)
      | (go_at_call 47; refine (HMEM.out w1 HL1.out).mono ?_; rintro _ w2 ⟨v, rfl, hown, hl2⟩; obtain ⟨A1, c1, rfl, _, _⟩ := own_shape hown; rw [HL0.out]; have HL2 := hide (HL1.out.trans (hl2.mono HL1.out.size)); have HF2 := hide (HF1.out.below hl2 HF1.out.lt); clear hl2 hown)
      | ((with_reducible refine at_slot 21 ?_); refine wpList_build_is rfl 55 #[] rfl [] (by simp) _ fnd_built0 ?_)
      | ((with_reducible refine at_store 4 ?_); refine wpList_store_all rfl 55 (.tmp 4) (.tmp 21) rfl w.heap.size 55 _ HF2.out rfl (fndC 0 0 0 none 0 0) rfl fnd_info rfl (fndC_one _ _ _ _ _ _) ?_; intro w3 hb3 hg3 hs3; clear hs3))
    refine ret_cell_tmp rfl w.heap.size 55 (fndC 0 0 0 none 0 0) _ hb3 rfl Try.underlying55 rfl fnd_info (.int .i64 5) rfl rfl ?_
    rw [HX.out]
    have hV0 : V = [] := List.eq_nil_of_length_eq_zero (by rw [HVL.out]; exact HL0.out)
    exact ⟨0, 0, 0, [], 5, none, 0, 0, rfl, Nat.le_refl _, Nat.zero_le _, World.ownsRow_nil _ _ _ _, HL2.out.grown hg3 HL2.out.size (fun g e => by injection e with e; omega), .inl ⟨hV0, rfl, rfl, rfl, rfl, rfl⟩⟩
  · have hLw : ((L.length : Int) == 0) = false := by rw [beq_eq_false_iff_ne]; omega
    have hLx : (L.length == 0) = false := by rw [beq_eq_false_iff_ne]; omega
    have HLN := hide (show V ≠ [] from fun h => by have h1 := HVL.out; rw [h] at h1; simp at h1; omega)
    go_enter Try.func30, Try.ntmps30
    go_wp2_with (first
      | ((with_reducible refine at_slot 4 ?_); refine wpList_alloc_blk rfl 55 rfl _ (fnd_nought _) ?_; intro w1 hb1q hl1 hs1; have HF1 : Hid (Blk w1 w.heap.size 55 (fndC 0 0 0 none 0 0).toArray) := hide hb1q; have HL1 := hide hl1; clear hb1q hl1 hs1)
      | (go_at_call 47; refine (HMEM.out w1 HL1.out).mono ?_; rintro _ w2 ⟨v, rfl, hown, hl2⟩; obtain ⟨A1, c1, rfl, _, _⟩ := own_shape hown; have HR2 := hide (Reads.of_own hown); have HL2 := hide (HL1.out.trans (hl2.mono HL1.out.size)); have HF2 := hide (HF1.out.below hl2 HF1.out.lt); clear hl2 hown)
      | ((with_reducible refine at_slot 7 ?_); refine wpList_alloc_blk rfl 55 rfl _ (fnd_nought _) ?_; intro w3 hb3q hl3 hs3; have HG3 : Hid (Blk w3 w2.heap.size 55 (fndC 0 0 0 none 0 0).toArray) := hide hb3q; have HL23 := hide hl3; clear hb3q hl3 hs3))
    have HZ2 := hide (show w.heap.size < w2.heap.size from HF2.out.lt)
    clear hLw hLx hL0
    go_loopw [8, 9, 22] (fun s8 s9 s22 wr => ∃ (k : Nat) (B : Option Addr) (m q : Nat), s22 = .int .i64 (k : Int) ∧ k ≤ 2 ∧ s8 = .bool (bAt V k).isSome ∧ s9 = .int .i64 (sAt V k : Int) ∧ Hid (Blk wr w2.heap.size 55 (fndC (areO (bAt V k)) (genO (bAt V k)) 0 B m q).toArray) ∧ Hid (m ≤ q ∧ q ≤ maxLen ∧ wr.ownsRow w.heap.size 5 1 (.slice B m q) m (B8 (bytO (bAt V k)))) ∧ Hid (∀ g, (Value.slice B m q).ownBlock = some g → w2.heap.size < g) ∧ Hid (Below w2.heap.size w2 wr)) (fun _ _ s22 _ => 2 - (intOf s22).toNat)
    case atStart => exact ⟨0, none, 0, 0, rfl, by decide, rfl, rfl, HG3, hide ⟨Nat.le_refl _, Nat.zero_le _, World.ownsRow_nil _ _ _ _⟩, hide (fun g e => by simp [Value.ownBlock] at e), HL23⟩
    case round =>
      obtain ⟨k, B, m, q, rfl, hk, rfl, rfl, hG, hO, hF, hl⟩ := hrel
      obtain ⟨wo, rfl⟩ : ∃ wo, wo = wr := ⟨_, rfl⟩
      have HLo := hide (HL2.out.trans (hl.out.mono HL2.out.size))
      have HZo := hide (show w2.heap.size < wo.heap.size from hG.out.lt)
      by_cases hk2 : k < 2
      · have hkw : (k : Int) < 2 := by omega
        have hRK := hide (HRD.out wo HLo.out A1 L.length c1 k (HR2.out.later hl.out) (by omega))
        have HSN := hide (show sAt V (k + 1) = max (sAt V k) (seenTo (rowsC V k) 32) from rfl)
        obtain ⟨s0, hs0⟩ : ∃ s0 : Nat, s0 = sAt V k := ⟨_, rfl⟩
        rw [← hs0] at HSN ⊢
        obtain ⟨s1, hs1⟩ : ∃ s1 : Nat, s1 = seenTo (rowsC V k) 32 := ⟨_, rfl⟩
        have HS1 := hide hs1
        rw [← hs1] at HSN
        clear hs0 hs1
        cases hc : bestC (candC V k) none with
        | none =>
          have HC := hide hc
          have HSAME := hide (bAt_skip hc)
          obtain ⟨b0, hb0⟩ : ∃ b0, b0 = bAt V k := ⟨_, rfl⟩
          rw [← hb0] at HSAME hG hO ⊢
          clear hc hb0
          go_wp2_with (first
            | (go_at_call 48; refine hRK.out.mono ?_; rintro _ x1 ⟨vs, rfl, hkp, hl1⟩; have HKP1 := hide hkp; have HX1 := hide hl1; have HIK := hide (show (Try.prog.info? 97).map (·.size) = some vs.length by rw [hkp.len]; exact kept_info); have HIZ := hide (show vs.length = (List.replicate 32 (Value.slice none 0 0)).toArray.size by rw [hkp.len]; rfl); clear hkp hl1)
            | ((with_reducible refine at_slot 11 ?_); refine wpList_alloc_blk rfl 97 rfl _ (kept_nought _) ?_; intro x2 hb2q hl2 hs2; have hb2 : Blk x2 x1.heap.size 97 (List.replicate 32 (Value.slice none 0 0)).toArray := hb2q; clear hb2q hs2)
            | ((with_reducible refine at_store 11 ?_); refine wpList_store_all rfl 97 (.tmp 11) (.tmp 30) rfl x1.heap.size 97 _ hb2 rfl vs rfl HIK.out HIZ.out HKP1.out.one ?_; intro x3 hb3 hg3 hs3; have hz2 := hb2.lt; have hl13 : Below x1.heap.size x1 x3 := hl2.grown hg3 (by omega) (fun g e => by injection e with e; omega); have HA3 := hide hb3; have HKP3 := hide (HKP1.out.later hl13); have HX3 := hide (HX1.out.trans (hl13.mono HX1.out.size)); have hSE := seen_any vs (rowsC V k) x3 HKP3.out; rw [← HS1.out] at hSE; have HSE := hide hSE; clear hs3 hb3 hg3 hb2 hl2 hl13 hSE)
            | ((with_reducible refine at_slot 37 ?_); refine wpList_load_blk rfl 97 (.tmp 11) rfl x1.heap.size 0 97 _ HA3.out rfl vs _ (fun j v hj => by rw [Nat.zero_add]; simpa using hj) Try.underlying97 rfl HIK.out ?_)
            | (go_at_call 49; refine HSE.out.mono ?_; rintro _ x4 ⟨rfl, hl4⟩; have HA4 := hide (HA3.out.below hl4 HA3.out.lt); have HNW := hide (newest_as (cnewest_any vs (rowsC V k) k x4 (HKP3.out.later hl4)) HC.out); have HX4 := hide (HX3.out.trans (hl4.mono HX3.out.size)); clear hl4)
            | ((with_reducible refine at_slot 41 ?_); refine wpList_load_blk rfl 97 (.tmp 11) rfl x1.heap.size 0 97 _ HA4.out rfl vs _ (fun j v hj => by rw [Nat.zero_add]; simpa using hj) Try.underlying97 rfl HIK.out ?_)
            | (go_at_call 50; refine HNW.out.mono ?_; rintro _ x5 ⟨R, mr, qr, rfl, hOR, hl5⟩; have HX5 := hide (HX4.out.trans (hl5.mono HX4.out.size)); have HOR := hide hOR; have hx45 := hl5.size; clear hl5 hOR)
            | ((with_reducible refine at_slot 13 ?_); refine wpList_alloc_blk rfl 55 rfl _ (fnd_nought _) ?_; intro x6 hb6 hl6 hs6; clear hs6)
            | ((with_reducible refine at_store 13 ?_); refine wpList_store_all rfl 55 (.tmp 13) (.tmp 43) rfl x5.heap.size 55 _ hb6 rfl (fndC 0 (genO (none : Option Ckp)) 0 R mr qr) rfl fnd_info rfl (fndC_one _ _ _ _ _ _) ?_; intro x7 hb7 hg7 hs7; have hz6 := hb6.lt; have hl57 : Below x5.heap.size x5 x7 := hl6.grown hg7 (by omega) (fun g e => by injection e with e; omega); have HT7 := hide hb7; have z13 := fnd_c1 hb7; have HX7 := hide (HX5.out.trans (hl57.mono HX5.out.size)); have HG7 := hide (hG.out.below HX7.out hG.out.lt); have z7 := fnd_c1 HG7.out; have HO7 := hide (own_later hO.out.2.2 HX7.out); have HOR7 := hide (own_later HOR.out.2.2 hl57); clear hs7 hb7 hg7 hb6 hl6 hl57))
          go_roundw
          case rel => exact ⟨k + 1, B, m, q, by simp, by omega, by rw [HSAME.out], by rw [HSN.out]; congr 1; omega, hide (by rw [HSAME.out]; exact HG7.out), hide ⟨hO.out.1, hO.out.2.1, by rw [HSAME.out]; exact HO7.out⟩, hF, hide (hl.out.trans (HX7.out.mono hl.out.size))⟩
          case measure => simp [intOf]; omega
        | some ck =>
          have HC := hide hc
          have HAR := hide (best_area (cand_area (V := V) (a := k)) none (fun c h => by cases h) ck hc)
          cases hb : bAt V k with
          | none =>
            rw [hb] at hG hO
            have HNEW := hide (bAt_take hc (fun b h => by rw [hb] at h; cases h))
            clear hc hb
            go_wp2_with (first
              | (go_at_call 48; refine hRK.out.mono ?_; rintro _ x1 ⟨vs, rfl, hkp, hl1⟩; have HKP1 := hide hkp; have HX1 := hide hl1; have HIK := hide (show (Try.prog.info? 97).map (·.size) = some vs.length by rw [hkp.len]; exact kept_info); have HIZ := hide (show vs.length = (List.replicate 32 (Value.slice none 0 0)).toArray.size by rw [hkp.len]; rfl); clear hkp hl1)
              | ((with_reducible refine at_slot 11 ?_); refine wpList_alloc_blk rfl 97 rfl _ (kept_nought _) ?_; intro x2 hb2q hl2 hs2; have hb2 : Blk x2 x1.heap.size 97 (List.replicate 32 (Value.slice none 0 0)).toArray := hb2q; clear hb2q hs2)
              | ((with_reducible refine at_store 11 ?_); refine wpList_store_all rfl 97 (.tmp 11) (.tmp 30) rfl x1.heap.size 97 _ hb2 rfl vs rfl HIK.out HIZ.out HKP1.out.one ?_; intro x3 hb3 hg3 hs3; have hz2 := hb2.lt; have hl13 : Below x1.heap.size x1 x3 := hl2.grown hg3 (by omega) (fun g e => by injection e with e; omega); have HA3 := hide hb3; have HKP3 := hide (HKP1.out.later hl13); have HX3 := hide (HX1.out.trans (hl13.mono HX1.out.size)); have hSE := seen_any vs (rowsC V k) x3 HKP3.out; rw [← HS1.out] at hSE; have HSE := hide hSE; clear hs3 hb3 hg3 hb2 hl2 hl13 hSE)
              | ((with_reducible refine at_slot 37 ?_); refine wpList_load_blk rfl 97 (.tmp 11) rfl x1.heap.size 0 97 _ HA3.out rfl vs _ (fun j v hj => by rw [Nat.zero_add]; simpa using hj) Try.underlying97 rfl HIK.out ?_)
              | (go_at_call 49; refine HSE.out.mono ?_; rintro _ x4 ⟨rfl, hl4⟩; have HA4 := hide (HA3.out.below hl4 HA3.out.lt); have HNW := hide (newest_as (cnewest_any vs (rowsC V k) k x4 (HKP3.out.later hl4)) HC.out); have HX4 := hide (HX3.out.trans (hl4.mono HX3.out.size)); clear hl4)
              | ((with_reducible refine at_slot 41 ?_); refine wpList_load_blk rfl 97 (.tmp 11) rfl x1.heap.size 0 97 _ HA4.out rfl vs _ (fun j v hj => by rw [Nat.zero_add]; simpa using hj) Try.underlying97 rfl HIK.out ?_)
              | (go_at_call 50; refine HNW.out.mono ?_; rintro _ x5 ⟨R, mr, qr, rfl, hOR, hl5⟩; have HX5 := hide (HX4.out.trans (hl5.mono HX4.out.size)); have HOR := hide hOR; have hx45 := hl5.size; clear hl5 hOR)
              | ((with_reducible refine at_slot 13 ?_); refine wpList_alloc_blk rfl 55 rfl _ (fnd_nought _) ?_; intro x6 hb6 hl6 hs6; clear hs6)
              | ((with_reducible refine at_store 13 ?_); refine wpList_store_all rfl 55 (.tmp 13) (.tmp 43) rfl x5.heap.size 55 _ hb6 rfl (fndC 0 (genO (some ck)) 0 R mr qr) rfl fnd_info rfl (fndC_one _ _ _ _ _ _) ?_; intro x7 hb7 hg7 hs7; have hz6 := hb6.lt; have hl57 : Below x5.heap.size x5 x7 := hl6.grown hg7 (by omega) (fun g e => by injection e with e; omega); have HT7 := hide hb7; have z13 := fnd_c1 hb7; have HX7 := hide (HX5.out.trans (hl57.mono HX5.out.size)); have HG7 := hide (hG.out.below HX7.out hG.out.lt); have z7 := fnd_c1 HG7.out; have HO7 := hide (own_later hO.out.2.2 HX7.out); have HOR7 := hide (own_later HOR.out.2.2 hl57); clear hs7 hb7 hg7 hb6 hl6 hl57)
              | ((with_reducible refine at_slot 57 ?_); refine wpList_load_blk rfl 55 (.tmp 13) rfl x5.heap.size 0 55 _ HT7.out rfl (fndC 0 (genO (some ck)) 0 R mr qr) _ (fun j v hj => by rw [Nat.zero_add]; simpa using hj) Try.underlying55 rfl fnd_info ?_)
              | ((with_reducible refine at_store 7 ?_); refine wpList_store_all rfl 55 (.tmp 7) (.tmp 57) rfl w2.heap.size 55 _ HG7.out rfl (fndC 0 (genO (some ck)) 0 R mr qr) rfl fnd_info rfl (fndC_one _ _ _ _ _ _) ?_; intro x8 hb8 hg8 hs8; clear hs8)
              | ((with_reducible refine at_store 59 ?_); refine wpList_poke rfl 3 (.tmp 59) (.tmp 58) rfl w2.heap.size 0 55 _ hb8 rfl (.int .i64 (k : Int)) rfl rfl cint_info1 (show 0 < 4 by decide) ?_; intro x9 hb9 hg9 hs9; clear hs9))
            have hxo : w2.heap.size < x4.heap.size := Nat.lt_of_lt_of_le HZo.out HX4.out.size
            have hgF := own_from HOR7.out hxo
            have hown := (HOR7.out.kept hg8 (.inr (fun e => by have := hgF _ e; omega))).kept hg9 (.inr (fun e => by have := hgF _ e; omega))
            have hx7 : w2.heap.size < x7.heap.size := HG7.out.lt
            have hx8 := hg8.size
            go_roundw
            case rel => exact ⟨k + 1, R, mr, qr, by simp, by omega, by rw [HNEW.out]; rfl, by rw [HSN.out]; congr 1; omega, hide (by rw [HNEW.out]; show Blk _ _ _ (fndC ck.area ck.gen 0 R mr qr).toArray; rw [HAR.out]; exact hb9), hide ⟨HOR.out.1, HOR.out.2.1, by rw [HNEW.out]; exact own_lower hown (Nat.le_trans HLo.out.size HX4.out.size)⟩, hide hgF, hide (((hl.out.trans (HX7.out.mono hl.out.size)).grown hg8 (Nat.le_of_lt hx7) (fun g e => by injection e with e; omega)).grown hg9 (by omega) (fun g e => by injection e with e; omega))⟩
            case measure => simp [intOf]; omega
          | some b0 =>
            rw [hb] at hG hO
            by_cases hgt : b0.gen < ck.gen
            · have hgw : decide ((genO (some b0) : Int) < (genO (some ck) : Int)) = true := by show decide ((b0.gen : Int) < (ck.gen : Int)) = true; simp; omega
              have hgx : decide (genO (some b0) < genO (some ck)) = true := by show decide (b0.gen < ck.gen) = true; simp; omega
              have HNEW := hide (bAt_take hc (fun b h => by rw [hb] at h; injection h with h; rw [← h]; exact hgt))
              clear hc hb hgt
              go_wp2_with (first
                | (go_at_call 48; refine hRK.out.mono ?_; rintro _ x1 ⟨vs, rfl, hkp, hl1⟩; have HKP1 := hide hkp; have HX1 := hide hl1; have HIK := hide (show (Try.prog.info? 97).map (·.size) = some vs.length by rw [hkp.len]; exact kept_info); have HIZ := hide (show vs.length = (List.replicate 32 (Value.slice none 0 0)).toArray.size by rw [hkp.len]; rfl); clear hkp hl1)
                | ((with_reducible refine at_slot 11 ?_); refine wpList_alloc_blk rfl 97 rfl _ (kept_nought _) ?_; intro x2 hb2q hl2 hs2; have hb2 : Blk x2 x1.heap.size 97 (List.replicate 32 (Value.slice none 0 0)).toArray := hb2q; clear hb2q hs2)
                | ((with_reducible refine at_store 11 ?_); refine wpList_store_all rfl 97 (.tmp 11) (.tmp 30) rfl x1.heap.size 97 _ hb2 rfl vs rfl HIK.out HIZ.out HKP1.out.one ?_; intro x3 hb3 hg3 hs3; have hz2 := hb2.lt; have hl13 : Below x1.heap.size x1 x3 := hl2.grown hg3 (by omega) (fun g e => by injection e with e; omega); have HA3 := hide hb3; have HKP3 := hide (HKP1.out.later hl13); have HX3 := hide (HX1.out.trans (hl13.mono HX1.out.size)); have hSE := seen_any vs (rowsC V k) x3 HKP3.out; rw [← HS1.out] at hSE; have HSE := hide hSE; clear hs3 hb3 hg3 hb2 hl2 hl13 hSE)
                | ((with_reducible refine at_slot 37 ?_); refine wpList_load_blk rfl 97 (.tmp 11) rfl x1.heap.size 0 97 _ HA3.out rfl vs _ (fun j v hj => by rw [Nat.zero_add]; simpa using hj) Try.underlying97 rfl HIK.out ?_)
                | (go_at_call 49; refine HSE.out.mono ?_; rintro _ x4 ⟨rfl, hl4⟩; have HA4 := hide (HA3.out.below hl4 HA3.out.lt); have HNW := hide (newest_as (cnewest_any vs (rowsC V k) k x4 (HKP3.out.later hl4)) HC.out); have HX4 := hide (HX3.out.trans (hl4.mono HX3.out.size)); clear hl4)
                | ((with_reducible refine at_slot 41 ?_); refine wpList_load_blk rfl 97 (.tmp 11) rfl x1.heap.size 0 97 _ HA4.out rfl vs _ (fun j v hj => by rw [Nat.zero_add]; simpa using hj) Try.underlying97 rfl HIK.out ?_)
                | (go_at_call 50; refine HNW.out.mono ?_; rintro _ x5 ⟨R, mr, qr, rfl, hOR, hl5⟩; have HX5 := hide (HX4.out.trans (hl5.mono HX4.out.size)); have HOR := hide hOR; have hx45 := hl5.size; clear hl5 hOR)
                | ((with_reducible refine at_slot 13 ?_); refine wpList_alloc_blk rfl 55 rfl _ (fnd_nought _) ?_; intro x6 hb6 hl6 hs6; clear hs6)
                | ((with_reducible refine at_store 13 ?_); refine wpList_store_all rfl 55 (.tmp 13) (.tmp 43) rfl x5.heap.size 55 _ hb6 rfl (fndC 0 (genO (some ck)) 0 R mr qr) rfl fnd_info rfl (fndC_one _ _ _ _ _ _) ?_; intro x7 hb7 hg7 hs7; have hz6 := hb6.lt; have hl57 : Below x5.heap.size x5 x7 := hl6.grown hg7 (by omega) (fun g e => by injection e with e; omega); have HT7 := hide hb7; have z13 := fnd_c1 hb7; have HX7 := hide (HX5.out.trans (hl57.mono HX5.out.size)); have HG7 := hide (hG.out.below HX7.out hG.out.lt); have z7 := fnd_c1 HG7.out; have HO7 := hide (own_later hO.out.2.2 HX7.out); have HOR7 := hide (own_later HOR.out.2.2 hl57); clear hs7 hb7 hg7 hb6 hl6 hl57)
                | ((with_reducible refine at_slot 57 ?_); refine wpList_load_blk rfl 55 (.tmp 13) rfl x5.heap.size 0 55 _ HT7.out rfl (fndC 0 (genO (some ck)) 0 R mr qr) _ (fun j v hj => by rw [Nat.zero_add]; simpa using hj) Try.underlying55 rfl fnd_info ?_)
                | ((with_reducible refine at_store 7 ?_); refine wpList_store_all rfl 55 (.tmp 7) (.tmp 57) rfl w2.heap.size 55 _ HG7.out rfl (fndC 0 (genO (some ck)) 0 R mr qr) rfl fnd_info rfl (fndC_one _ _ _ _ _ _) ?_; intro x8 hb8 hg8 hs8; clear hs8)
                | ((with_reducible refine at_store 59 ?_); refine wpList_poke rfl 3 (.tmp 59) (.tmp 58) rfl w2.heap.size 0 55 _ hb8 rfl (.int .i64 (k : Int)) rfl rfl cint_info1 (show 0 < 4 by decide) ?_; intro x9 hb9 hg9 hs9; clear hs9))
              have hxo : w2.heap.size < x4.heap.size := Nat.lt_of_lt_of_le HZo.out HX4.out.size
              have hgF := own_from HOR7.out hxo
              have hown := (HOR7.out.kept hg8 (.inr (fun e => by have := hgF _ e; omega))).kept hg9 (.inr (fun e => by have := hgF _ e; omega))
              have hx7 : w2.heap.size < x7.heap.size := HG7.out.lt
              have hx8 := hg8.size
              go_roundw
              case rel => exact ⟨k + 1, R, mr, qr, by simp, by omega, by rw [HNEW.out]; rfl, by rw [HSN.out]; congr 1; omega, hide (by rw [HNEW.out]; show Blk _ _ _ (fndC ck.area ck.gen 0 R mr qr).toArray; rw [HAR.out]; exact hb9), hide ⟨HOR.out.1, HOR.out.2.1, by rw [HNEW.out]; exact own_lower hown (Nat.le_trans HLo.out.size HX4.out.size)⟩, hide hgF, hide (((hl.out.trans (HX7.out.mono hl.out.size)).grown hg8 (Nat.le_of_lt hx7) (fun g e => by injection e with e; omega)).grown hg9 (by omega) (fun g e => by injection e with e; omega))⟩
              case measure => simp [intOf]; omega
            · have hgw : decide ((genO (some b0) : Int) < (genO (some ck) : Int)) = false := by show decide ((b0.gen : Int) < (ck.gen : Int)) = false; simp; omega
              have hgx : decide (genO (some b0) < genO (some ck)) = false := by show decide (b0.gen < ck.gen) = false; simp; omega
              have HSAME := hide (bAt_keep hc hb hgt)
              clear hc hb hgt
              go_wp2_with (first
                | (go_at_call 48; refine hRK.out.mono ?_; rintro _ x1 ⟨vs, rfl, hkp, hl1⟩; have HKP1 := hide hkp; have HX1 := hide hl1; have HIK := hide (show (Try.prog.info? 97).map (·.size) = some vs.length by rw [hkp.len]; exact kept_info); have HIZ := hide (show vs.length = (List.replicate 32 (Value.slice none 0 0)).toArray.size by rw [hkp.len]; rfl); clear hkp hl1)
                | ((with_reducible refine at_slot 11 ?_); refine wpList_alloc_blk rfl 97 rfl _ (kept_nought _) ?_; intro x2 hb2q hl2 hs2; have hb2 : Blk x2 x1.heap.size 97 (List.replicate 32 (Value.slice none 0 0)).toArray := hb2q; clear hb2q hs2)
                | ((with_reducible refine at_store 11 ?_); refine wpList_store_all rfl 97 (.tmp 11) (.tmp 30) rfl x1.heap.size 97 _ hb2 rfl vs rfl HIK.out HIZ.out HKP1.out.one ?_; intro x3 hb3 hg3 hs3; have hz2 := hb2.lt; have hl13 : Below x1.heap.size x1 x3 := hl2.grown hg3 (by omega) (fun g e => by injection e with e; omega); have HA3 := hide hb3; have HKP3 := hide (HKP1.out.later hl13); have HX3 := hide (HX1.out.trans (hl13.mono HX1.out.size)); have hSE := seen_any vs (rowsC V k) x3 HKP3.out; rw [← HS1.out] at hSE; have HSE := hide hSE; clear hs3 hb3 hg3 hb2 hl2 hl13 hSE)
                | ((with_reducible refine at_slot 37 ?_); refine wpList_load_blk rfl 97 (.tmp 11) rfl x1.heap.size 0 97 _ HA3.out rfl vs _ (fun j v hj => by rw [Nat.zero_add]; simpa using hj) Try.underlying97 rfl HIK.out ?_)
                | (go_at_call 49; refine HSE.out.mono ?_; rintro _ x4 ⟨rfl, hl4⟩; have HA4 := hide (HA3.out.below hl4 HA3.out.lt); have HNW := hide (newest_as (cnewest_any vs (rowsC V k) k x4 (HKP3.out.later hl4)) HC.out); have HX4 := hide (HX3.out.trans (hl4.mono HX3.out.size)); clear hl4)
                | ((with_reducible refine at_slot 41 ?_); refine wpList_load_blk rfl 97 (.tmp 11) rfl x1.heap.size 0 97 _ HA4.out rfl vs _ (fun j v hj => by rw [Nat.zero_add]; simpa using hj) Try.underlying97 rfl HIK.out ?_)
                | (go_at_call 50; refine HNW.out.mono ?_; rintro _ x5 ⟨R, mr, qr, rfl, hOR, hl5⟩; have HX5 := hide (HX4.out.trans (hl5.mono HX4.out.size)); have HOR := hide hOR; have hx45 := hl5.size; clear hl5 hOR)
                | ((with_reducible refine at_slot 13 ?_); refine wpList_alloc_blk rfl 55 rfl _ (fnd_nought _) ?_; intro x6 hb6 hl6 hs6; clear hs6)
                | ((with_reducible refine at_store 13 ?_); refine wpList_store_all rfl 55 (.tmp 13) (.tmp 43) rfl x5.heap.size 55 _ hb6 rfl (fndC 0 (genO (some ck)) 0 R mr qr) rfl fnd_info rfl (fndC_one _ _ _ _ _ _) ?_; intro x7 hb7 hg7 hs7; have hz6 := hb6.lt; have hl57 : Below x5.heap.size x5 x7 := hl6.grown hg7 (by omega) (fun g e => by injection e with e; omega); have HT7 := hide hb7; have z13 := fnd_c1 hb7; have HX7 := hide (HX5.out.trans (hl57.mono HX5.out.size)); have HG7 := hide (hG.out.below HX7.out hG.out.lt); have z7 := fnd_c1 HG7.out; have HO7 := hide (own_later hO.out.2.2 HX7.out); have HOR7 := hide (own_later HOR.out.2.2 hl57); clear hs7 hb7 hg7 hb6 hl6 hl57))
              go_roundw
              case rel => exact ⟨k + 1, B, m, q, by simp, by omega, by rw [HSAME.out]; rfl, by rw [HSN.out]; congr 1; omega, hide (by rw [HSAME.out]; exact HG7.out), hide ⟨hO.out.1, hO.out.2.1, by rw [HSAME.out]; exact HO7.out⟩, hF, hide (hl.out.trans (HX7.out.mono hl.out.size))⟩
              case measure => simp [intOf]; omega
      · obtain rfl : k = 2 := by omega
        have HB2 := hide (bAt_two V)
        have HS2 := hide (sAt_two V)
        have HFo := hide (HF2.out.below hl.out HF2.out.lt)
        rw [HB2.out] at hG hO
        rw [HB2.out, HS2.out]
        obtain ⟨bq, hbq⟩ : ∃ bq, bq = loadC V := ⟨_, rfl⟩
        rw [← hbq] at hG hO ⊢
        have HBQ := hide hbq
        obtain ⟨sq, hsq⟩ : ∃ sq, sq = seenC V := ⟨_, rfl⟩
        rw [← hsq]
        have HSQ := hide hsq
        clear hbq hsq
        cases hbs : bq.isSome with
        | false =>
          have HBS := hide hbs
          clear hbs
          go_wp2_with (first
            | ((with_reducible refine at_store 62 ?_); refine wpList_poke rfl 3 (.tmp 62) (.tmp 61) rfl w2.heap.size 3 55 _ hG.out rfl (.int .i64 (sq : Int)) rfl rfl cint_info1 (show 3 < 4 by decide) ?_; intro x1 hb1q hg1 hs1; have hb1 : Blk x1 w2.heap.size 55 (fndC (areO bq) (genO bq) sq B m q).toArray := hb1q; clear hb1q hs1)
            | ((with_reducible refine at_slot 65 ?_); refine wpList_load_blk rfl 55 (.tmp 7) rfl w2.heap.size 0 55 _ hb1 rfl (fndC (areO bq) (genO bq) sq B m q) _ (fun j v hj => by rw [Nat.zero_add]; simpa using hj) Try.underlying55 rfl fnd_info ?_)
            | ((with_reducible refine at_store 4 ?_); refine wpList_store_all rfl 55 (.tmp 4) (.tmp 65) rfl w.heap.size 55 _ (HFo.out.grown hg1 (fun e => (by injection e with e; have := HZ2.out; omega))) rfl (fndC (areO bq) (genO bq) sq B m q) rfl fnd_info rfl (fndC_one _ _ _ _ _ _) ?_; intro x2 hb2 hg2 hs2; clear hs2))
          refine ret_cell_tmp rfl w.heap.size 55 (fndC (areO bq) (genO bq) sq B m q) _ hb2 rfl Try.underlying55 rfl fnd_info (.int .i64 8) rfl rfl ?_
          rw [HX.out]
          have hgF := hF.out
          have hz2 := HZ2.out
          have hown := (hO.out.2.2.kept hg1 (.inr (fun e => by have := hgF _ e; omega))).kept hg2 (.inr (fun e => by have := hgF _ e; omega))
          exact ⟨areO bq, genO bq, sq, bytO bq, 8, B, m, q, rfl, hO.out.1, hO.out.2.1, hown, (HLo.out.grown hg1 HLo.out.size (fun g e => by injection e with e; omega)).grown hg2 (Nat.le_trans HLo.out.size hg1.size) (fun g e => by injection e with e; omega), .inr ⟨HLN.out, by rw [HBQ.out], by rw [HBQ.out], HSQ.out, by rw [HBQ.out], by rw [← HBQ.out, HBS.out]; rfl⟩⟩
        | true =>
          have HBS := hide hbs
          clear hbs
          go_wp2_with (first
            | ((with_reducible refine at_store 62 ?_); refine wpList_poke rfl 3 (.tmp 62) (.tmp 61) rfl w2.heap.size 3 55 _ hG.out rfl (.int .i64 (sq : Int)) rfl rfl cint_info1 (show 3 < 4 by decide) ?_; intro x1 hb1q hg1 hs1; have hb1 : Blk x1 w2.heap.size 55 (fndC (areO bq) (genO bq) sq B m q).toArray := hb1q; clear hb1q hs1)
            | ((with_reducible refine at_slot 66 ?_); refine wpList_load_blk rfl 55 (.tmp 7) rfl w2.heap.size 0 55 _ hb1 rfl (fndC (areO bq) (genO bq) sq B m q) _ (fun j v hj => by rw [Nat.zero_add]; simpa using hj) Try.underlying55 rfl fnd_info ?_)
            | ((with_reducible refine at_store 4 ?_); refine wpList_store_all rfl 55 (.tmp 4) (.tmp 66) rfl w.heap.size 55 _ (HFo.out.grown hg1 (fun e => (by injection e with e; have := HZ2.out; omega))) rfl (fndC (areO bq) (genO bq) sq B m q) rfl fnd_info rfl (fndC_one _ _ _ _ _ _) ?_; intro x2 hb2 hg2 hs2; clear hs2))
          refine ret_cell_tmp rfl w.heap.size 55 (fndC (areO bq) (genO bq) sq B m q) _ hb2 rfl Try.underlying55 rfl fnd_info (.int .i64 0) rfl rfl ?_
          rw [HX.out]
          have hgF := hF.out
          have hz2 := HZ2.out
          have hown := (hO.out.2.2.kept hg1 (.inr (fun e => by have := hgF _ e; omega))).kept hg2 (.inr (fun e => by have := hgF _ e; omega))
          exact ⟨areO bq, genO bq, sq, bytO bq, 0, B, m, q, rfl, hO.out.1, hO.out.2.1, hown, (HLo.out.grown hg1 HLo.out.size (fun g e => by injection e with e; omega)).grown hg2 (Nat.le_trans HLo.out.size hg1.size) (fun g e => by injection e with e; omega), .inr ⟨HLN.out, by rw [HBQ.out], by rw [HBQ.out], HSQ.out, by rw [HBQ.out], by rw [← HBQ.out, HBS.out]; rfl⟩⟩
#print axioms cload_any
theorem cwritesB (b : Nat) (F : Nat → Prop) : WritesB b F := fun _ _ h hw d k s => on_write h hw d k s
theorem cflushesB (b : Nat) (F : Nat → Prop) : FlushesB b F := fun _ _ h d => on_flush h d
theorem casksB {w : World} {b : Nat} {F : Nat → Prop} {S : Bank} (h : BankOn w b F S) : AsksB w b S := fun _ hb d k => on_read (h.later hb) d k
theorem cdeadB {w : World} {b : Nat} {F : Nat → Prop} {S : Bank} (h : BankOn w b F S) : DeadB w b S := fun w1 hb d hd => by
  obtain ⟨_, _, L, h3, _⟩ := h.later hb
  exact dead_any h3 d hd
theorem loadR_none {V : List View} (h : V = []) : loadR V = ⟨0, 0, [], 0, 5⟩ := if_pos h
theorem loadR_some {V : List View} (h : V ≠ []) : loadR V = ⟨areO (loadC V), genO (loadC V), bytO (loadC V), seenC V, if (loadC V).isSome = true then 0 else 8⟩ := by
  unfold loadR
  rw [if_neg h]
  cases loadC V with
  | none => rfl
  | some c => rfl
theorem checkK : CheckK where
  save_any := fun w b F S A n c live area gen B m k x hB hr _ _ hn hA hx hmk hk _ hw => csave_any w b F S A n c live area gen B m k x (cwritesB b F) (cflushesB b F) hB hr hn hA hx hmk hk hw
  load_any := fun w b F S A n c live hB hup hr _ _ hn hv hnd => (cload_any A n c live b S w (cdeadB hB) (casksB hB) hup hr hv hnd hn).mono fun e w' ⟨a, g, s, x, er, B, m, q, h1, h2, h3, h4, h5, h6⟩ => by
    have hL : loadR (viewsC S live) = ⟨a, g, x, s, er⟩ := by
      rcases h6 with ⟨h, rfl, rfl, rfl, rfl, rfl⟩ | ⟨h, rfl, rfl, rfl, rfl, rfl⟩
      · exact loadR_none h
      · exact loadR_some h
    rw [hL]
    exact ⟨B, m, q, h1, Reads.of_own h4, fun ad e => (h4.lt ad.block (by rw [e]; rfl)).1, h2, by simpa [maxLen] using h3, h5⟩
#print axioms checkK
end Go.Proofs.Ytmjdndhpnckeeaa
