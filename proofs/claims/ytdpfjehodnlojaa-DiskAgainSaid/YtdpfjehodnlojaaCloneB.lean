/- A bank of its own that is as another one. -/
import Derived.Test.YtdpfjehodnlojaaTwin
import Derived.Test.YtdpfjehodnlojaaCalls
namespace Go.Proofs.Ytdpfjehodnlojaa
open Go.RowKit
set_option linter.unusedVariables false

theorem bank_info : (Try.prog.info? 68).map (·.size) = some 5 := by kernel_rfl
theorem bank_zero (w : World) : (zeroValue 68).run Try.prog w = .ok (.agg #[.slice none 0 0, .bool false, .int .i64 0, .int .i64 0, .int .u64 0]) w := by kernel_rfl
theorem member_size (w : World) : (Go.sizeOf 63).run Try.prog w = .ok 5 w := by kernel_rfl
/-- The maps of the first i members are copied, into blocks from base on. -/
structure Copied (w : World) (base : Nat) (L : Lay) (S : Bank) (fl lo : Nat → Option Nat) (i : Nat) : Prop where
  gone : ∀ j, j < i → S.dead j = true → fl j = none ∧ lo j = none
  flat : ∀ j, j < i → S.dead j = false → ∃ x f, fl j = some x ∧ MapIs w x f ∧ Flat f (S.flushed j)
  loose : ∀ j, j < i → S.dead j = false → ∃ x, lo j = some x ∧ MapIs w x (looseF S L j)
  low : ∀ j x, j < i → fl j = some x ∨ lo j = some x → base ≤ x ∧ x < w.heap.size
  apart1 : ∀ j k x, j < i → k < i → fl j = some x → fl k = some x → j = k
  apart2 : ∀ j k x, j < i → k < i → lo j = some x → lo k = some x → j = k
  apart3 : ∀ j k x, j < i → k < i → fl j = some x → lo k ≠ some x
  rest : ∀ j, i ≤ j → fl j = L.fl j ∧ lo j = L.lo j
section
variable {w w' : World} {b base : Nat} {L : Lay} {S : Bank} {fl lo : Nat → Option Nat} {i : Nat}
theorem Copied.start (w : World) (base : Nat) (L : Lay) (S : Bank) : Copied w base L S L.fl L.lo 0 :=
  ⟨fun j h => absurd h (Nat.not_lt_zero j), fun j h => absurd h (Nat.not_lt_zero j), fun j h => absurd h (Nat.not_lt_zero j), fun j x h => absurd h (Nat.not_lt_zero j), fun j k x h => absurd h (Nat.not_lt_zero j), fun j k x h => absurd h (Nat.not_lt_zero j), fun j k x h => absurd h (Nat.not_lt_zero j), fun _ _ => ⟨rfl, rfl⟩⟩
theorem Copied.kept (h : Copied w base L S fl lo i) (hs : w.heap.size ≤ w'.heap.size) (hk : ∀ x f, MapIs w x f → MapIs w' x f) : Copied w' base L S fl lo i :=
  ⟨h.gone, fun j hj hd => (h.flat j hj hd).imp fun x ⟨f, e, hm, hf⟩ => ⟨f, e, hk x f hm, hf⟩, fun j hj hd => (h.loose j hj hd).imp fun x ⟨e, hm⟩ => ⟨e, hk x _ hm⟩, fun j x hj e => ⟨(h.low j x hj e).1, Nat.lt_of_lt_of_le (h.low j x hj e).2 hs⟩, h.apart1, h.apart2, h.apart3, h.rest⟩
theorem Copied.skip (h : Copied w base L S fl lo i) (hd : S.dead i = true) (hL : L.fl i = none ∧ L.lo i = none) : Copied w base L S fl lo (i + 1) := by
  obtain ⟨r1, r2⟩ := h.rest i (Nat.le_refl _)
  rw [hL.1] at r1
  rw [hL.2] at r2
  have hj1 : ∀ {j x}, j < i + 1 → fl j = some x → j < i := fun {j x} hj e => by
    by_cases e1 : j = i
    · subst e1; rw [r1] at e; cases e
    · omega
  have hj2 : ∀ {j x}, j < i + 1 → lo j = some x → j < i := fun {j x} hj e => by
    by_cases e1 : j = i
    · subst e1; rw [r2] at e; cases e
    · omega
  have hj3 : ∀ {j}, j < i + 1 → S.dead j = false → j < i := fun {j} hj e => by
    by_cases e1 : j = i
    · subst e1; rw [hd] at e; cases e
    · omega
  refine ⟨fun j hj e => ?_, fun j hj e => h.flat j (hj3 hj e) e, fun j hj e => h.loose j (hj3 hj e) e, fun j x hj e => h.low j x (e.elim (hj1 hj) (hj2 hj)) e, fun j k x hj hk e1 e2 => h.apart1 j k x (hj1 hj e1) (hj1 hk e2) e1 e2, fun j k x hj hk e1 e2 => h.apart2 j k x (hj2 hj e1) (hj2 hk e2) e1 e2, fun j k x hj hk e1 e2 => h.apart3 j k x (hj1 hj e1) (hj2 hk e2) e1 e2, fun j hj => h.rest j (by omega)⟩
  by_cases e1 : j = i
  · subst e1; exact ⟨r1, r2⟩
  · exact h.gone j (by omega) e
theorem Copied.step (h : Copied w base L S fl lo i) (hd : S.dead i = false) {x' l' : Nat} {f : Nat → Option Value} (hs : w.heap.size ≤ w'.heap.size) (hk : ∀ x f, MapIs w x f → MapIs w' x f) (hx : MapIs w' x' f) (hf : Flat f (S.flushed i)) (hl : MapIs w' l' (looseF S L i))
    (hxl : x' ≠ l') (hx0 : w.heap.size ≤ x') (hl0 : w.heap.size ≤ l') (hb : base ≤ w.heap.size) : Copied w' base L S (upd fl i (some x')) (upd lo i (some l')) (i + 1) := by
  have hxlt := hx.lt
  have hllt := hl.lt
  refine ⟨fun j hj e => ?_, fun j hj e => ?_, fun j hj e => ?_, fun j x hj e => ?_, fun j k x hj hk' e1 e2 => ?_, fun j k x hj hk' e1 e2 => ?_, fun j k x hj hk' e1 e2 => ?_, fun j hj => ?_⟩
  · have e1 : j ≠ i := by rintro rfl; rw [hd] at e; cases e
    rw [upd_ne _ _ e1, upd_ne _ _ e1]
    exact h.gone j (by omega) e
  · by_cases e1 : j = i
    · subst e1; exact ⟨x', f, upd_self _ _ _, hx, hf⟩
    · rw [upd_ne _ _ e1]
      exact (h.flat j (by omega) e).imp fun x ⟨f, e, hm, hf⟩ => ⟨f, e, hk x f hm, hf⟩
  · by_cases e1 : j = i
    · subst e1; exact ⟨l', upd_self _ _ _, hl⟩
    · rw [upd_ne _ _ e1]
      exact (h.loose j (by omega) e).imp fun x ⟨e, hm⟩ => ⟨e, hk x _ hm⟩
  · by_cases e1 : j = i
    · subst e1
      rw [upd_self, upd_self] at e
      rcases e with e | e
      · injection e with e; omega
      · injection e with e; omega
    · rw [upd_ne _ _ e1, upd_ne _ _ e1] at e
      have := h.low j x (by omega) e
      omega
  · by_cases ej : j = i
    · by_cases ek : k = i
      · rw [ej, ek]
      · rw [ej, upd_self] at e1
        rw [upd_ne _ _ ek] at e2
        injection e1 with e1
        have := h.low k x (by omega) (.inl e2)
        omega
    · rw [upd_ne _ _ ej] at e1
      by_cases ek : k = i
      · rw [ek, upd_self] at e2
        injection e2 with e2
        have := h.low j x (by omega) (.inl e1)
        omega
      · rw [upd_ne _ _ ek] at e2
        exact h.apart1 j k x (by omega) (by omega) e1 e2
  · by_cases ej : j = i
    · by_cases ek : k = i
      · rw [ej, ek]
      · rw [ej, upd_self] at e1
        rw [upd_ne _ _ ek] at e2
        injection e1 with e1
        have := h.low k x (by omega) (.inr e2)
        omega
    · rw [upd_ne _ _ ej] at e1
      by_cases ek : k = i
      · rw [ek, upd_self] at e2
        injection e2 with e2
        have := h.low j x (by omega) (.inr e1)
        omega
      · rw [upd_ne _ _ ek] at e2
        exact h.apart2 j k x (by omega) (by omega) e1 e2
  · by_cases ej : j = i
    · rw [ej, upd_self] at e1
      injection e1 with e1
      by_cases ek : k = i
      · rw [ek, upd_self] at e2
        injection e2 with e2
        omega
      · rw [upd_ne _ _ ek] at e2
        have := h.low k x (by omega) (.inr e2)
        omega
    · rw [upd_ne _ _ ej] at e1
      have hj1 := h.low j x (by omega) (.inl e1)
      by_cases ek : k = i
      · rw [ek, upd_self] at e2
        injection e2 with e2
        omega
      · rw [upd_ne _ _ ek] at e2
        exact h.apart3 j k x (by omega) (by omega) e1 e2
  · rw [upd_ne _ _ (by omega), upd_ne _ _ (by omega)]
    exact h.rest j (by omega)
/-- What stands in the copied row of members. -/
def RowOf (cur : Array Value) (S : Bank) (fl lo : Nat → Option Nat) : Prop := ∀ i, i < S.n →
  cur[i * 5]? = some (.int .i64 (S.size i : Int)) ∧ cur[i * 5 + 1]? = some (.bool (S.dead i)) ∧ cur[i * 5 + 2]? = some (.map (fl i)) ∧ cur[i * 5 + 3]? = some (.map (lo i)) ∧ cur[i * 5 + 4]? = some (.int .i64 (S.failAt i : Int))
/-- Cells i*5 .. i*5+3 of a row, written over. -/
def put4 (cur : Array Value) (i : Nat) (a b c d : Value) : Array Value := (((cur.setIfInBounds (i * 5) a).setIfInBounds (i * 5 + 1) b).setIfInBounds (i * 5 + 2) c).setIfInBounds (i * 5 + 3) d
theorem put4_size (cur : Array Value) (i : Nat) (a b c d : Value) : (put4 cur i a b c d).size = cur.size := by simp [put4]
theorem put4_at {cur : Array Value} {i : Nat} (a b c d : Value) (hi : i * 5 + 4 < cur.size) (j e : Nat) (he : e < 5) :
    (put4 cur i a b c d)[j * 5 + e]? = if j = i then (if e = 0 then some a else if e = 1 then some b else if e = 2 then some c else if e = 3 then some d else cur[j * 5 + e]?) else cur[j * 5 + e]? := by
  unfold put4
  simp only [Array.getElem?_setIfInBounds, Array.size_setIfInBounds]
  by_cases hj : j = i
  · subst hj
    have : e = 0 ∨ e = 1 ∨ e = 2 ∨ e = 3 ∨ e = 4 := by omega
    rcases this with rfl | rfl | rfl | rfl | rfl
    · rw [if_neg (by omega), if_neg (by omega), if_neg (by omega), if_pos (by omega), if_pos (by omega)]; simp
    · rw [if_neg (by omega), if_neg (by omega), if_pos (by omega), if_pos (by omega)]; simp
    · rw [if_neg (by omega), if_pos (by omega), if_pos (by omega)]; simp
    · rw [if_pos (by omega), if_pos (by omega)]; simp
    · rw [if_neg (by omega), if_neg (by omega), if_neg (by omega), if_neg (by omega)]; simp
  · rw [if_neg (by omega), if_neg (by omega), if_neg (by omega), if_neg (by omega), if_neg hj]
theorem RowOf.put {cur : Array Value} (h : RowOf cur S fl lo) {i : Nat} (hi : i * 5 + 4 < cur.size) (p q : Option Nat) :
    RowOf (put4 cur i (.int .i64 (S.size i : Int)) (.bool (S.dead i)) (.map p) (.map q)) S (upd fl i p) (upd lo i q) := by
  intro j hj
  obtain ⟨h0, h1, h2, h3, h4⟩ := h j hj
  have e0 := put4_at (.int .i64 (S.size i : Int)) (.bool (S.dead i)) (.map p) (.map q) hi j 0 (by decide)
  have e1 := put4_at (.int .i64 (S.size i : Int)) (.bool (S.dead i)) (.map p) (.map q) hi j 1 (by decide)
  have e2 := put4_at (.int .i64 (S.size i : Int)) (.bool (S.dead i)) (.map p) (.map q) hi j 2 (by decide)
  have e3 := put4_at (.int .i64 (S.size i : Int)) (.bool (S.dead i)) (.map p) (.map q) hi j 3 (by decide)
  have e4 := put4_at (.int .i64 (S.size i : Int)) (.bool (S.dead i)) (.map p) (.map q) hi j 4 (by decide)
  rw [Nat.add_zero] at e0
  rw [e0, e1, e2, e3, e4]
  by_cases hji : j = i
  · subst hji
    rw [upd_self, upd_self]
    refine ⟨?_, ?_, ?_, ?_, ?_⟩
    · rw [if_pos rfl, if_pos rfl]
    · rw [if_pos rfl, if_neg (by decide), if_pos rfl]
    · rw [if_pos rfl, if_neg (by decide), if_neg (by decide), if_pos rfl]
    · rw [if_pos rfl, if_neg (by decide), if_neg (by decide), if_neg (by decide), if_pos rfl]
    · rw [if_pos rfl, if_neg (by decide), if_neg (by decide), if_neg (by decide), if_neg (by decide)]; exact h4
  · simp only [if_neg hji, upd_ne _ _ hji]
    exact ⟨h0, h1, h2, h3, h4⟩
theorem Copied.bank (h : BankIn w b L S) {c g cap : Nat} {cur : Array Value} (hc : Copied w' base L S fl lo S.n) (hh : Blk w' c 68 #[.slice (some ⟨g, 0, none⟩) S.n cap, .bool S.down, .int .i64 (S.writes : Int), .int .i64 (S.armed : Int), .int .u64 (S.mask : Int)])
    (h0 : 0 < S.n) (hcap : S.n ≤ cap ∧ cap ≤ maxLen) (hr : Blk w' g 63 cur) (hsz : cur.size = cap * 5) (hrow : RowOf cur S fl lo) : BankIn w' c { L with mb := g, cap := cap, fl := fl, lo := lo } S := by
  refine { head := ?_, cap := ⟨hcap.1, hcap.2, fun e => by omega⟩, row := fun _ => ⟨cur, hr, hsz, hrow⟩, gone := hc.gone, flat := hc.flat, loose := hc.loose, apart1 := hc.apart1, apart2 := hc.apart2, apart3 := hc.apart3, rising := h.rising, past := h.past }
  rw [Lay.ad_pos _ h0]
  exact hh
theorem upd_same {α : Type} {f : Nat → α} {k : Nat} {v : α} (h : f k = v) : upd f k v = f := by
  funext j
  by_cases e : j = k
  · subst e; rw [upd_self, h]
  · rw [upd_ne _ _ e]
theorem MapIs.not_blk {x g : Nat} {f : Nat → Option Value} {t : TypeId} {cs : Array Value} (h : MapIs w x f) (hb : Blk w g t cs) : x ≠ g := by
  rintro rfl
  obtain ⟨D, ⟨es, clock, h1, _⟩, _⟩ := h
  unfold Blk at hb
  rw [h1] at hb
  cases hb
theorem row_one (h : BankIn w b L S) {cs : Array Value} (hsz : cs.size = L.cap * 5) (hc : ∀ i, i < S.n →
    cs[i * 5]? = some (.int .i64 (S.size i : Int)) ∧ cs[i * 5 + 1]? = some (.bool (S.dead i)) ∧ cs[i * 5 + 2]? = some (.map (L.fl i)) ∧ cs[i * 5 + 3]? = some (.map (L.lo i)) ∧ cs[i * 5 + 4]? = some (.int .i64 (S.failAt i : Int))) :
    ∀ u ∈ cs.toList.take (S.n * 5), u.oneCell' = true := by
  intro u hu
  obtain ⟨j, hj⟩ := List.getElem?_of_mem hu
  have hjn : j < S.n * 5 := by
    have := (List.getElem?_eq_some_iff.1 hj).1
    rw [List.length_take] at this
    omega
  rw [List.getElem?_take_of_lt hjn, Array.getElem?_toList] at hj
  obtain ⟨h0, h1, h2, h3, h4⟩ := hc (j / 5) (by omega)
  have : j = j / 5 * 5 ∨ j = j / 5 * 5 + 1 ∨ j = j / 5 * 5 + 2 ∨ j = j / 5 * 5 + 3 ∨ j = j / 5 * 5 + 4 := by omega
  rcases this with e | e | e | e | e <;> rw [e] at hj
  · rw [h0] at hj; injection hj with hj; rw [← hj]; rfl
  · rw [h1] at hj; injection hj with hj; rw [← hj]; rfl
  · rw [h2] at hj; injection hj with hj; rw [← hj]; rfl
  · rw [h3] at hj; injection hj with hj; rw [← hj]; rfl
  · rw [h4] at hj; injection hj with hj; rw [← hj]; rfl
set_option maxRecDepth 100000 in
set_option maxHeartbeats 2000000 in
theorem cloneB_any (h : BankIn w b L S) (hok : S.Ok) (h0 : 0 < S.n) :
    Calls Try.prog 24 #[.pointer (some ⟨b, 0, none⟩)] w fun e w' => e = .returned (.pointer (some ⟨w.heap.size, 0, none⟩)) ∧ BankAt w' w.heap.size w.heap.size w'.heap.size S ∧ Below w.heap.size w w' := by
  obtain ⟨cs, hcb, hcsz, hcs⟩ := h.row h0
  have hone := row_one h hcsz hcs
  have hcap := h.cap
  have hn32 := hok.n_le
  have hlen : (cs.toList.take (S.n * 5)).length = S.n * 5 := by rw [List.length_take, Array.length_toList, hcsz]; have := Nat.mul_le_mul_right 5 hcap.1; omega
  obtain ⟨i0, hi0, hz0, hz1, hz2⟩ := member_info
  have hblt := h.head.lt
  have hmlt := hcb.lt
  have had := L.ad_pos h0
  have HCL : Hid (∀ W, Below w.heap.size w W → Calls Try.prog 39 #[.slice (some ⟨L.mb, 0, none⟩) S.n L.cap] W fun e w' => ∃ g cap cur, e = .returned (.slice (some ⟨g, 0, none⟩) S.n cap) ∧ W.heap.size ≤ g ∧ Blk w' g 63 cur ∧ S.n ≤ cap ∧ cap ≤ maxLen ∧ cur.size = cap * 5 ∧ RowOf cur S L.fl L.lo ∧ Below W.heap.size W w') := by
    intro W hW
    refine (AnyE.slices_Clone lay_cloneM i0 _ 5 40 hi0 hz0 hz1 hz2 rfl (by decide) member_size L.mb 0 S.n L.cap (cs.toList.take (S.n * 5)) W hlen (by have := hcap; omega) (by omega) (fun j u hj => ?_) hone).mono ?_
    · rw [Nat.zero_add, hW.cell (p := ⟨L.mb, j, none⟩) hmlt, hcb.cell j]
      have hjn : j < S.n * 5 := by have := (List.getElem?_eq_some_iff.1 hj).1; omega
      rw [List.getElem?_take_of_lt hjn, Array.getElem?_toList] at hj
      exact hj
    · rintro e w' ⟨v', rfl, hown, hne, hbel⟩
      rcases hown.2 with ⟨e, _⟩ | ⟨g, cap, cur, rfl, hg, hb', h1, h2, h3, h4⟩
      · exact absurd e hne
      · refine ⟨g, cap, cur, rfl, hg, hb', h1, h2, h3, fun i hi => ?_, hbel⟩
        have hat : ∀ c, c < 5 → cur[i * 5 + c]? = cs[i * 5 + c]? := fun c hc => by
          have e1 : (cur.toList.take (S.n * 5))[i * 5 + c]? = (cs.toList.take (S.n * 5))[i * 5 + c]? := by rw [h4]
          rw [List.getElem?_take_of_lt (by omega), List.getElem?_take_of_lt (by omega), Array.getElem?_toList, Array.getElem?_toList] at e1
          exact e1
        obtain ⟨q0, q1, q2, q3, q4⟩ := hcs i hi
        exact ⟨(hat 0 (by decide)).trans q0, (hat 1 (by decide)).trans q1, (hat 2 (by decide)).trans q2, (hat 3 (by decide)).trans q3, (hat 4 (by decide)).trans q4⟩
  have HB := hide h
  have HOK := hide hok
  have hhd := h.head
  rw [had] at hhd
  have HHD := hide hhd
  have c0 := h.c0
  rw [had] at c0
  clear h hok hone hcs hcsz hlen hi0 hz0 hz1 hz2 hcb hhd had
  go_enter Try.func24, Try.ntmps24
  go_wp2_with (first
    | (refine wpList_load_blk rfl 68 (.tmp 6) rfl b 0 68 _ HHD.out rfl [.slice (some ⟨L.mb, 0, none⟩) S.n L.cap, .bool S.down, .int .i64 (S.writes : Int), .int .i64 (S.armed : Int), .int .u64 (S.mask : Int)] _ (fun j v hj => by rw [Nat.zero_add]; simpa using hj) Try.underlying68 rfl bank_info ?_)
    | (refine wpList_alloc_blk rfl 68 rfl _ (bank_zero _) ?_; intro w1 hb1 hl1 hs1)
    | (refine wpList_store_all rfl 68 (.tmp 3) (.tmp 7) rfl w.heap.size 68 _ hb1 rfl [.slice (some ⟨L.mb, 0, none⟩) S.n L.cap, .bool S.down, .int .i64 (S.writes : Int), .int .i64 (S.armed : Int), .int .u64 (S.mask : Int)] rfl bank_info rfl (by intro v hv; simp at hv; rcases hv with rfl | rfl | rfl | rfl | rfl <;> rfl) ?_; intro w2 hb2 hg2 hs2; have hl02 : Below w.heap.size w w2 := (hl1.grown hg2 (by omega) (fun g e => by injection e with e; omega)); have c02 : w2.cell? ⟨b, 0, none⟩ = some (.slice (some ⟨L.mb, 0, none⟩) S.n L.cap) := (hl02.cell (p := ⟨b, 0, none⟩) hblt).trans c0))
  refine (HCL.out w2 hl02).mono ?_
  rintro _ w3 ⟨g, cap, cur, rfl, hg, hr3, hcap1, hcap2, hcs3, hrow3, hl23⟩
  have hwlt2 : w.heap.size < w2.heap.size := by omega
  have hsz3 := hl23.size
  have hl03 := hl02.trans (hl23.mono hl02.size)
  have hb3 := hb2.below hl23 hwlt2
  have c03 : w3.cell? ⟨w.heap.size, 0, none⟩ = some (.slice (some ⟨L.mb, 0, none⟩) S.n L.cap) := hb3.cell 0
  have f03 := hb3.frozen 0
  have hg0 : w.heap.size < g := by omega
  have HR3 := hide hr3
  have HB3 := hide hb3
  have HROW3 := hide hrow3
  have HCL2 : Hid (cap = cap) := rfl
  clear hl1 hb1 hg2 hs1 hs2 c02 hb2 hr3 hb3 hrow3 HCL
  go_wp2
  have hb4 := HB3.out.set_ 0 (.slice (some ⟨g, 0, none⟩) S.n cap)
  have hr4 : Blk (w3.setCell ⟨w.heap.size, 0, none⟩ (.slice (some ⟨g, 0, none⟩) S.n cap)) g 63 cur := HR3.out.far (fun e => by have e2 : g = w.heap.size := e; omega) _
  have hg4 := grown_set (grown_refl w3 (some w.heap.size)) ⟨w.heap.size, 0, none⟩ rfl (.slice (some ⟨g, 0, none⟩) S.n cap)
  obtain ⟨w4, hw4⟩ : ∃ W, W = w3.setCell ⟨w.heap.size, 0, none⟩ (.slice (some ⟨g, 0, none⟩) S.n cap) := ⟨_, rfl⟩
  rw [← hw4] at hb4 hr4 hg4 ⊢
  have hsz4 := hg4.size
  have hl04 : Below w.heap.size w w4 := hl03.grown hg4 (by omega) (fun g e => by injection e with e; omega)
  have HB4 : Hid (Blk w4 w.heap.size 68 #[.slice (some ⟨g, 0, none⟩) S.n cap, .bool S.down, .int .i64 (S.writes : Int), .int .i64 (S.armed : Int), .int .u64 (S.mask : Int)]) := hb4
  have HR4 := hide hr4
  clear hw4 hb4 hr4 hg4 c03 f03 hl23 c0
  go_loopw [4, 17] (fun _ s17 wr => ∃ (i : Nat) (fl lo : Nat → Option Nat) (cur' : Array Value), s17 = .int .i64 (i : Int) ∧ i ≤ S.n ∧ Copied wr w.heap.size L S fl lo i ∧ Blk wr g 63 cur' ∧ cur'.size = cap * 5 ∧ RowOf cur' S fl lo ∧ Blk wr w.heap.size 68 #[.slice (some ⟨g, 0, none⟩) S.n cap, .bool S.down, .int .i64 (S.writes : Int), .int .i64 (S.armed : Int), .int .u64 (S.mask : Int)] ∧ Below w.heap.size w wr) (fun _ s17 _ => S.n - (intOf s17).toNat)
  case atStart => exact ⟨0, _, _, cur, rfl, Nat.zero_le _, Copied.start _ _ _ _, HR4.out, hcs3, HROW3.out, HB4.out, hl04⟩
  case round =>
    obtain ⟨i, fl, lo, cur', rfl, hi, hcop, hr, hcsz, hrow, hbk, hlr⟩ := hrel
    obtain ⟨wo, rfl⟩ : ∃ wo, wo = wr := ⟨_, rfl⟩
    have hglt := hr.lt
    have hszr := hlr.size
    have HR := hide hr
    have HBK := hide hbk
    have HCOP := hide hcop
    have HROW := hide hrow
    have hc1 : wo.cell? ⟨w.heap.size, 0, none⟩ = some (.slice (some ⟨g, 0, none⟩) S.n cap) := hbk.cell 0
    have hc0 : wo.drew.cell? ⟨w.heap.size, 0, none⟩ = some (.slice (some ⟨g, 0, none⟩) S.n cap) := hbk.cell 0
    by_cases hin : i < S.n
    · have hiw : (i : Int) < (S.n : Int) := by omega
      obtain ⟨q0, q1, q2, q3, q4⟩ := hrow i hin
      have hi5 : i * 5 + 4 < cur'.size := by rw [hcsz]; have := Nat.mul_le_mul_right 5 hcap1; omega
      have p0 : wo.drew.cell? ⟨g, i * 5, none⟩ = some (.int .i64 (S.size i : Int)) := (hr.cell _).trans q0
      have p1 : wo.drew.cell? ⟨g, i * 5 + 1, none⟩ = some (.bool (S.dead i)) := (hr.cell _).trans q1
      have p2 : wo.drew.cell? ⟨g, i * 5 + 2, none⟩ = some (.map (fl i)) := (hr.cell _).trans q2
      have p3 : wo.drew.cell? ⟨g, i * 5 + 3, none⟩ = some (.map (lo i)) := (hr.cell _).trans q3
      obtain ⟨r1, r2⟩ := hcop.rest i (Nat.le_refl _)
      have P0 := hide p0
      have P1 := hide p1
      have P2 := hide p2
      have P3 := hide p3
      have R1 := hide r1
      have R2 := hide r2
      clear hr hbk hcop hrow q0 q1 q2 q3 q4 p0 p1 p2 p3 r1 r2
      have hglt' : g < wo.drew.heap.size := hglt
      cases hdead : S.dead i with
      | true =>
        have hgone := HB.out.gone i hin hdead
        have HTW : Hid (Calls Try.prog 40 #[.pointer (some ⟨g, i * 5, none⟩)] wo.drew fun e w' => e = .returned (.agg #[.int .i64 (S.size i : Int), .bool true, .map none, .map none]) ∧ Below wo.heap.size wo w') :=
          (twin_none (S.size i) true hglt' P0.out (by rw [← hdead]; exact P1.out) (by rw [P2.out, R1.out, hgone.1]) (by rw [P3.out, R2.out, hgone.2])).mono fun e w' ⟨h1, h2⟩ => ⟨h1, ((Below.refl _ wo).drew).trans h2⟩
        go_wp2
        go_region_with (first
          | (go_at_call 40; refine HTW.out.mono ?_; rintro _ w5 ⟨rfl, hl5⟩; have hr5 := HR.out.below hl5 hglt; have d0 : w5.cell? ⟨g, i * 5, none⟩ = some (.int .i64 (S.size i : Int)) := (hl5.cell (p := ⟨g, i * 5, none⟩) hglt).trans P0.out; have d1 : w5.cell? ⟨g, i * 5 + 1, none⟩ = some (.bool (S.dead i)) := (hl5.cell (p := ⟨g, i * 5 + 1, none⟩) hglt).trans P1.out; have d2 : w5.cell? ⟨g, i * 5 + 2, none⟩ = some (.map (fl i)) := (hl5.cell (p := ⟨g, i * 5 + 2, none⟩) hglt).trans P2.out; have d3 : w5.cell? ⟨g, i * 5 + 3, none⟩ = some (.map (lo i)) := (hl5.cell (p := ⟨g, i * 5 + 3, none⟩) hglt).trans P3.out; have f0 := hr5.frozen (i * 5); have f1 := hr5.frozen (i * 5 + 1); have f2 := hr5.frozen (i * 5 + 2); have f3 := hr5.frozen (i * 5 + 3); have e0 : w5.cell? ⟨w.heap.size, 0, none⟩ = some (.slice (some ⟨g, 0, none⟩) S.n cap) := (HBK.out.below hl5 HBK.out.lt).cell 0))
        all_goals
          have hg6 := grown_set (grown_set (grown_set (grown_set (grown_refl w5 (some g)) ⟨g, i * 5, none⟩ rfl (.int .i64 (S.size i : Int))) ⟨g, i * 5 + 1, none⟩ rfl (.bool true)) ⟨g, i * 5 + 2, none⟩ rfl (.map none)) ⟨g, i * 5 + 3, none⟩ rfl (.map none)
          have hr6 : Blk _ g 63 (put4 cur' i (.int .i64 (S.size i : Int)) (.bool true) (.map none) (.map none)) := (((hr5.set_ (i * 5) (.int .i64 (S.size i : Int))).set_ (i * 5 + 1) (.bool true)).set_ (i * 5 + 2) (.map none)).set_ (i * 5 + 3) (.map none)
          obtain ⟨w6, hw6⟩ : ∃ W, W = (((w5.setCell ⟨g, i * 5, none⟩ (.int .i64 (S.size i : Int))).setCell ⟨g, i * 5 + 1, none⟩ (.bool true)).setCell ⟨g, i * 5 + 2, none⟩ (.map none)).setCell ⟨g, i * 5 + 3, none⟩ (.map none) := ⟨_, rfl⟩
          rw [← hw6] at hg6 hr6 ⊢
          have HR6 := hide hr6
          have HG6 := hide hg6
          have hsz5 := hl5.size
          have hsz6 := hg6.size
          clear hw6 hg6 hr6 d0 d1 d2 d3 f0 f1 f2 f3 e0 hc0 hc1
          have hkm : Hid (∀ x f, MapIs wo x f → MapIs w6 x f) := fun x f hm => (hm.below hl5 hm.lt).grown HG6.out (fun e => hm.not_blk HR.out (by injection e))
          go_wp2
          go_roundw
          case rel =>
            have hrow6 := HROW.out.put hi5 none none
            rw [hdead] at hrow6
            rw [upd_same (R1.out.trans hgone.1), upd_same (R2.out.trans hgone.2)] at hrow6
            exact ⟨i + 1, fl, lo, _, by simp, by omega, (HCOP.out.kept (by omega) hkm.out).skip hdead hgone, HR6.out, (by rw [put4_size]; exact hcsz), hrow6, (HBK.out.below hl5 HBK.out.lt).grown HG6.out (fun e => by injection e with e; omega), (hlr.trans (hl5.mono hszr)).grown HG6.out (by omega) (fun g e => by injection e with e; omega)⟩
          case measure => simp only [intOf]; omega
      | false =>
        obtain ⟨x, f, ex, hmx, hfl⟩ := (HB.out.later hlr).flat i hin hdead
        obtain ⟨l, el, hml⟩ := (HB.out.later hlr).loose i hin hdead
        have HTW : Hid (Calls Try.prog 40 #[.pointer (some ⟨g, i * 5, none⟩)] wo.drew fun e w' => ∃ x' l', e = .returned (.agg #[.int .i64 (S.size i : Int), .bool false, .map (some x'), .map (some l')]) ∧ MapIs w' x' f ∧ MapIs w' l' (looseF S L i) ∧ x' ≠ l' ∧ wo.heap.size ≤ x' ∧ wo.heap.size ≤ l' ∧ Below wo.heap.size wo w') :=
          (twin_some (S.size i) false hglt' P0.out (by rw [← hdead]; exact P1.out) (by rw [P2.out, R1.out, ex]) hmx.drew (by rw [P3.out, R2.out, el]) hml.drew).mono fun e w' ⟨x', l', h1, h2, h3, h4, h5, h6, h7⟩ => ⟨x', l', h1, h2, h3, h4, h5, h6, ((Below.refl _ wo).drew).trans h7⟩
        clear ex hmx el hml
        go_wp2
        go_region_with (first
          | (go_at_call 40; refine HTW.out.mono ?_; rintro _ w5 ⟨x', l', rfl, hx', hl', hxl, hx0, hl0, hl5⟩; have hr5 := HR.out.below hl5 hglt; have d0 : w5.cell? ⟨g, i * 5, none⟩ = some (.int .i64 (S.size i : Int)) := (hl5.cell (p := ⟨g, i * 5, none⟩) hglt).trans P0.out; have d1 : w5.cell? ⟨g, i * 5 + 1, none⟩ = some (.bool (S.dead i)) := (hl5.cell (p := ⟨g, i * 5 + 1, none⟩) hglt).trans P1.out; have d2 : w5.cell? ⟨g, i * 5 + 2, none⟩ = some (.map (fl i)) := (hl5.cell (p := ⟨g, i * 5 + 2, none⟩) hglt).trans P2.out; have d3 : w5.cell? ⟨g, i * 5 + 3, none⟩ = some (.map (lo i)) := (hl5.cell (p := ⟨g, i * 5 + 3, none⟩) hglt).trans P3.out; have f0 := hr5.frozen (i * 5); have f1 := hr5.frozen (i * 5 + 1); have f2 := hr5.frozen (i * 5 + 2); have f3 := hr5.frozen (i * 5 + 3); have e0 : w5.cell? ⟨w.heap.size, 0, none⟩ = some (.slice (some ⟨g, 0, none⟩) S.n cap) := (HBK.out.below hl5 HBK.out.lt).cell 0))
        all_goals
          have hg6 := grown_set (grown_set (grown_set (grown_set (grown_refl w5 (some g)) ⟨g, i * 5, none⟩ rfl (.int .i64 (S.size i : Int))) ⟨g, i * 5 + 1, none⟩ rfl (.bool false)) ⟨g, i * 5 + 2, none⟩ rfl (.map (some x'))) ⟨g, i * 5 + 3, none⟩ rfl (.map (some l'))
          have hr6 : Blk _ g 63 (put4 cur' i (.int .i64 (S.size i : Int)) (.bool false) (.map (some x')) (.map (some l'))) := (((hr5.set_ (i * 5) (.int .i64 (S.size i : Int))).set_ (i * 5 + 1) (.bool false)).set_ (i * 5 + 2) (.map (some x'))).set_ (i * 5 + 3) (.map (some l'))
          obtain ⟨w6, hw6⟩ : ∃ W, W = (((w5.setCell ⟨g, i * 5, none⟩ (.int .i64 (S.size i : Int))).setCell ⟨g, i * 5 + 1, none⟩ (.bool false)).setCell ⟨g, i * 5 + 2, none⟩ (.map (some x'))).setCell ⟨g, i * 5 + 3, none⟩ (.map (some l')) := ⟨_, rfl⟩
          rw [← hw6] at hg6 hr6 ⊢
          have HR6 := hide hr6
          have HG6 := hide hg6
          have hsz5 := hl5.size
          have hsz6 := hg6.size
          clear hw6 hg6 hr6 d0 d1 d2 d3 f0 f1 f2 f3 e0 hc0 hc1
          have hkm : Hid (∀ x f, MapIs wo x f → MapIs w6 x f) := fun x f hm => (hm.below hl5 hm.lt).grown HG6.out (fun e => hm.not_blk HR.out (by injection e))
          go_wp2
          go_roundw
          case rel =>
            have hrow6 := HROW.out.put hi5 (some x') (some l')
            rw [hdead] at hrow6
            exact ⟨i + 1, _, _, _, by simp, by omega, HCOP.out.step hdead (w' := w6) (by omega) hkm.out (hx'.grown HG6.out (fun e => hx'.not_blk hr5 (by injection e))) hfl (hl'.grown HG6.out (fun e => hl'.not_blk hr5 (by injection e))) hxl hx0 hl0 hszr, HR6.out, (by rw [put4_size]; exact hcsz), hrow6, (HBK.out.below hl5 HBK.out.lt).grown HG6.out (fun e => by injection e with e; omega), (hlr.trans (hl5.mono hszr)).grown HG6.out (by omega) (fun g e => by injection e with e; omega)⟩
          case measure => simp only [intOf]; omega
    · have hiw : ¬ ((i : Int) < (S.n : Int)) := by omega
      have hin2 : i = S.n := by omega
      clear hc0 hc1
      go_wp2
      go_ret
      have hcop2 := HCOP.out
      rw [hin2] at hcop2
      refine ⟨rfl, ⟨Nat.le_refl _, HOK.out, _, hcop2.bank HB.out HBK.out h0 ⟨hcap1, hcap2⟩ HR.out hcsz HROW.out, ⟨fun x hx => ?_⟩⟩, hlr⟩
      rcases hx with rfl | ⟨_, rfl⟩ | ⟨j, hj, e⟩
      · have := HBK.out.lt; omega
      · exact ⟨Nat.le_of_lt hg0, hglt⟩
      · exact hcop2.low j x hj e
/-- A bank of its own that is as this one. -/
theorem bank_clone {lo hi : Nat} (h : BankAt w b lo hi S) (h0 : 0 < S.n) :
    Calls Try.prog 24 #[.pointer (some ⟨b, 0, none⟩)] w fun e w' => e = .returned (.pointer (some ⟨w.heap.size, 0, none⟩)) ∧ BankAt w' w.heap.size w.heap.size w'.heap.size S ∧ Below w.heap.size w w' := by
  obtain ⟨h1, h2, L, h3, h4⟩ := h
  exact cloneB_any h3 h2 h0
end
end Go.Proofs.Ytdpfjehodnlojaa
