/- The parts of a record on the members; what metalog's partsOf and Scan tell. -/
import Derived.Test.YtmjdndhpnckeeaaMjA
import Derived.Test.YtmjdndhpnckeeaaRecJ
import Derived.Test.YtmjdndhpnckeeaaMjFA
import Derived.Test.YtmjdndhpnckeeaaMjFB
import Derived.Test.YtmjdndhpnckeeaaPoke
import Derived.Test.YtmjdndhpnckeeaaTwoRows
import Derived.Test.YtmjdndhpnckeeaaArgY
import Derived.OwnWalk
namespace Go.Proofs.Ytmjdndhpnckeeaa
open Go.RowKit
theorem find_cases (V : List View) (p : List UInt8 → Bool) (at_ : Nat) :
    (V = [] ∧ findE V p at_ = 5) ∨ (V ≠ [] ∧ hit V p at_ = none ∧ findE V p at_ = 8) ∨ (V ≠ [] ∧ ∃ s, hit V p at_ = some s ∧ findE V p at_ = 0 ∧ findS V p at_ = s) := by
  unfold findE findS
  by_cases hV : V = []
  · left
    rw [if_pos hV]
    exact ⟨hV, rfl⟩
  · right
    rw [if_neg hV]
    cases hit V p at_ with
    | none => left; exact ⟨hV, rfl, rfl⟩
    | some s => right; exact ⟨hV, s, rfl, rfl, rfl⟩
theorem hit_mem {V : List View} {p : List UInt8 → Bool} {at_ : Nat} {s : List UInt8} (h : hit V p at_ = some s) : (∃ v ∈ V, v at_ = s) ∧ p s = true := by
  unfold hit at h
  have h1 := List.mem_of_find?_eq_some h
  obtain ⟨v, hv, e⟩ := List.mem_map.1 h1
  exact ⟨⟨v, hv, e⟩, by simpa using List.find?_some h⟩
/-- All that the members have are sectors. -/
def Sized (V : List View) : Prop := ∀ v ∈ V, ∀ j, (v j).length = 64
theorem views_sized (S : Bank) (live : List Nat) : Sized (viewsOf S live) := by
  intro v hv j
  obtain ⟨d, _, _, rfl⟩ := views_mem hv
  exact (S.newest d (2 + j)).2
theorem hit_len {V : List View} {p : List UInt8 → Bool} {at_ : Nat} {s : List UInt8} (hV : Sized V) (h : hit V p at_ = some s) : s.length = 64 := by
  obtain ⟨⟨v, hv, e⟩, _⟩ := hit_mem h
  rw [← e]
  exact hV v hv _
theorem findS_len {V : List View} (hV : Sized V) (p : List UInt8 → Bool) (at_ : Nat) : (findS V p at_).length = 64 := by
  unfold findS
  cases h : hit V p at_ with
  | none => rfl
  | some s => exact hit_len hV h
/-- The part of this place, where there is one. -/
def hitB (V : List View) (gen nr : Int) (N at_ i : Nat) : List UInt8 := (hit V (okT gen nr N i) (at_ + i)).getD []
def HitOk (V : List View) (gen nr : Int) (N at_ k : Nat) : Prop := ∀ i, i < k → ∃ s, hit V (okT gen nr N i) (at_ + i) = some s
theorem HitOk.zero {V : List View} {gen nr : Int} {N at_ : Nat} : HitOk V gen nr N at_ 0 := fun i h => absurd h (Nat.not_lt_zero i)
theorem HitOk.succ {V : List View} {gen nr : Int} {N at_ k : Nat} {s : List UInt8} (h : HitOk V gen nr N at_ k) (hs : hit V (okT gen nr N k) (at_ + k) = some s) : HitOk V gen nr N at_ (k + 1) := fun i hi => by
  by_cases h1 : i < k
  · exact h i h1
  · obtain rfl : i = k := by omega
    exact ⟨s, hs⟩
theorem first_parts {gen nr : Int} {s : List UInt8} (h : firstT gen nr s = true) : partB s = true ∧ (readT s).gen = gen ∧ (readT s).nr = nr ∧ (readT s).part = 0 ∧ ∃ N : Nat, (readT s).parts = (N : Int) ∧ 1 ≤ N ∧ N ≤ 40 := by
  unfold firstT at h
  rw [Bool.and_eq_true, decide_eq_true_eq] at h
  obtain ⟨h1, h2, h3, h4⟩ := h
  refine ⟨h1, h2, h3, h4, (readT s).parts.toNat, ?_⟩
  have hr : rightT (readT s) = true := by
    unfold partB at h1
    rw [Bool.and_eq_true] at h1
    exact h1.1
  obtain ⟨k1, k2, _⟩ := (right_iff _).1 hr
  rw [h4] at k2
  omega
/-- The first part is the one that is looked for as any other. -/
theorem hit_zero {V : List View} {gen nr : Int} {at_ N : Nat} {s : List UInt8} (h : hit V (firstT gen nr) at_ = some s) (hN : (readT s).parts = (N : Int)) : hit V (okT gen nr N 0) (at_ + 0) = some s := by
  unfold hit at h ⊢
  rw [Nat.add_zero]
  have hp := List.find?_some h
  have hsub : ∀ x, okT gen nr N 0 x = true → firstT gen nr x = true := by
    intro x hx
    unfold okT at hx
    unfold firstT
    rw [Bool.and_eq_true, decide_eq_true_eq] at hx ⊢
    exact ⟨hx.1, hx.2.1, hx.2.2.1, hx.2.2.2.1⟩
  have hs : okT gen nr N 0 s = true := by
    have hp2 : firstT gen nr s = true := by simpa using hp
    unfold firstT at hp2
    unfold okT
    rw [Bool.and_eq_true, decide_eq_true_eq] at hp2 ⊢
    exact ⟨hp2.1, hp2.2.1, hp2.2.2.1, hp2.2.2.2, hN⟩
  generalize V.map (fun v => v at_) = l at h
  induction l with
  | nil => cases h
  | cons x l ih =>
    rw [List.find?_cons] at h ⊢
    cases hx : firstT gen nr x with
    | true =>
      rw [hx] at h
      injection h with h
      rw [h, hs]
    | false =>
      rw [hx] at h
      have : okT gen nr N 0 x = false := by
        cases ho : okT gen nr N 0 x with
        | false => rfl
        | true => rw [hsub x ho] at hx; cases hx
      rw [this]
      exact ih h
theorem recAt_first {V : List View} {gen nr : Int} {at_ : Nat} (h : hit V (firstT gen nr) at_ = none) : recAt V gen nr at_ = none := by
  unfold recAt
  rw [h]
theorem recAt_long {V : List View} {gen nr : Int} {at_ N : Nat} {s : List UInt8} (h : hit V (firstT gen nr) at_ = some s) (hN : (readT s).parts = (N : Int)) (hl : 48 < at_ + N) : recAt V gen nr at_ = none := by
  unfold recAt
  rw [h]
  have e : (readT s).parts.toNat = N := by omega
  simp only [e]
  rw [if_pos hl]
theorem recAt_gap {V : List View} {gen nr : Int} {at_ N i : Nat} {s : List UInt8} (h : hit V (firstT gen nr) at_ = some s) (hN : (readT s).parts = (N : Int)) (hl : at_ + N ≤ 48) (hi : i < N) (hg : hit V (okT gen nr N i) (at_ + i) = none) : recAt V gen nr at_ = none := by
  unfold recAt
  rw [h]
  have e : (readT s).parts.toNat = N := by omega
  simp only [e]
  rw [if_neg (by omega), if_neg]
  intro ha
  rw [List.all_eq_true] at ha
  have := ha i (List.mem_range.2 hi)
  rw [hg] at this
  cases this
theorem recAt_all {V : List View} {gen nr : Int} {at_ N : Nat} {s : List UInt8} (hV : Sized V) (h : hit V (firstT gen nr) at_ = some s) (hN : (readT s).parts = (N : Int)) (h1 : 1 ≤ N) (hl : at_ + N ≤ 48) (ha : HitOk V gen nr N at_ N) :
    ∃ r, recAt V gen nr at_ = some (r, N) ∧ (cat (hitB V gen nr N at_) N).length = N * 64 ∧ joinB gen nr N (cat (hitB V gen nr N at_) N) = true ∧ joinL gen nr N (cat (hitB V gen nr N at_) N) = r := by
  have hlen : ∀ i, i < N → (hitB V gen nr N at_ i).length = 64 := by
    intro i hi
    obtain ⟨x, hx⟩ := ha i hi
    unfold hitB
    rw [hx]
    exact hit_len hV hx
  have hsec : ∀ i, i < N → secAt (cat (hitB V gen nr N at_) N) i = hitB V gen nr N at_ i := fun i hi => secAt_cat hlen hi
  have hok : AllOk gen nr N (cat (hitB V gen nr N at_) N) N := by
    intro i hi
    rw [hsec i hi]
    obtain ⟨x, hx⟩ := ha i hi
    unfold hitB
    rw [hx]
    exact (hit_mem hx).2
  obtain ⟨j1, j2⟩ := join_all hok
  refine ⟨cat (contAt (cat (hitB V gen nr N at_) N)) N, ?_, cat_length hlen, ?_, j2⟩
  · unfold recAt
    rw [h]
    have e : (readT s).parts.toNat = N := by omega
    simp only [e]
    rw [if_neg (by omega), if_pos]
    · refine congrArg some (congrArg (fun x => (x, N)) ?_)
      apply cat_congr
      intro i hi
      obtain ⟨x, hx⟩ := ha i hi
      rw [hx]
      unfold contAt
      rw [hsec i hi]
      unfold hitB
      rw [hx]
      rfl
    · rw [List.all_eq_true]
      intro i hi
      obtain ⟨x, hx⟩ := ha i (List.mem_range.1 hi)
      rw [hx]
      rfl
  · rw [j1]
    exact decide_eq_true h1
theorem firstT_as (gen nr : Int) : (fun s => partB s && askA gen nr (tagT s)) = firstT gen nr := funext fun _ => askA_sec
theorem okT_as (gen nr : Int) (N i : Nat) : (fun s => partB s && askB gen nr (N : Int) (i : Int) (tagT s)) = okT gen nr N i := funext fun _ => askB_sec
/-- What partsOf tells. -/
def PartsR (V : List View) (gen nr : Int) (at_ : Nat) (e : Ending) (w' : World) : Prop :=
  (V = [] ∧ e = .returned (.tuple #[.slice none 0 0, .int .i64 5])) ∨ (V ≠ [] ∧ recAt V gen nr at_ = none ∧ e = .returned (.tuple #[.slice none 0 0, .int .i64 8])) ∨
  (V ≠ [] ∧ ∃ (N k : Nat) (B : Option Addr) (bs r : List UInt8), recAt V gen nr at_ = some (r, N) ∧ e = .returned (.tuple #[.slice B N k, .int .i64 0]) ∧ N ≤ k ∧ k ≤ 9223372036854775807 ∧ 1 ≤ N ∧ at_ + N ≤ 48 ∧ Reads w' w'.heap.size 64 B N (B8 bs) ∧ joinB gen nr N bs = true ∧ joinL gen nr N bs = r)
theorem own_lump (w : World) (F : List Value) (t : TypeId) (size base : Nat) (hF : F.length = size) (hb : base ≤ w.heap.size) : (w.alloc (.cells F.toArray t)).ownsRow base t size (.slice (some ⟨w.heap.size, 0, none⟩) 1 1) 1 F :=
  ⟨by omega, .inr ⟨w.heap.size, 1, F.toArray, rfl, hb, heap_alloc_new _ _, Nat.le_refl _, by decide, by rw [List.size_toArray]; omega, by rw [Nat.one_mul]; exact List.take_of_length_le (by simp; omega)⟩⟩
theorem PartsR.any {V : List View} {gen nr : Int} {at_ : Nat} {e : Int} {w w' : World} (h : PartsR V gen nr at_ (.returned (.tuple #[.slice none 0 0, .int .i64 e])) w) (he : e ≠ 0) : PartsR V gen nr at_ (.returned (.tuple #[.slice none 0 0, .int .i64 e])) w' := by
  rcases h with h | h | ⟨_, N, k, B, bs, r, _, h, _⟩
  · exact .inl h
  · exact .inr (.inl h)
  · simp at h
    exact absurd h.2 he
theorem int_nought (w : World) : (zeroValue 3).run Try.prog w = .ok (.int .i64 0) w := by kernel_rfl
theorem int_info1 : (Try.prog.info? 3).map (·.size) = some 1 := by kernel_rfl
#print axioms recAt_all
#print axioms hit_zero
#print axioms own_lump
set_option maxRecDepth 100000 in
set_option maxHeartbeats 8000000 in
theorem partsOf_any (A : Option Addr) (n c : Nat) (live : List Nat) (b at_ : Nat) (S : Bank) (gen nr : Int) (w : World) (hRd : AsksB w b S) (hr : Reads w w.heap.size 1 A n (I64 (live.map Int.ofNat))) (hv : Askable S live) (hat : at_ < 48) (hn63 : n ≤ 9223372036854775807) :
    Calls Try.prog 42 #[.pointer (some ⟨b, 0, none⟩), .slice A n c, .int .i64 gen, .int .i64 nr, .int .i64 (at_ : Int)] w fun e w' => PartsR (viewsOf S live) gen nr at_ e w' ∧ Below w.heap.size w w' := by
  obtain ⟨i0, hi0, hz0, hz1, hz2⟩ := info_parts sec_parts
  have HI0 := hide hi0
  have HZ0 := hide hz0
  have HZ1 := hide hz1
  have HZ2 := hide hz2
  clear hi0 hz0 hz1 hz2
  obtain ⟨V, hV⟩ : ∃ V, V = viewsOf S live := ⟨_, rfl⟩
  have HSZ := hide (show Sized V by rw [hV]; exact views_sized S live)
  have hFA := fun (w1 : World) (hb : Below w.heap.size w w1) (g gm : Nat) (cg : w1.cell? ⟨g, 0, none⟩ = some (.int .i64 gen)) (cm : w1.cell? ⟨gm, 0, none⟩ = some (.int .i64 nr)) (hg : g < w1.heap.size) (hgm : gm < w1.heap.size) =>
    findA_any A n c live b at_ S (askA gen nr) g gm w1 (hRd.later hb) ((hr.below hb).more hb.size) hv hat hn63 (fun w2 hb2 t => askA_any t g gm gen nr w2 ((hb2.cell (p := ⟨g, 0, none⟩) hg).trans cg) ((hb2.cell (p := ⟨gm, 0, none⟩) hgm).trans cm) (Nat.lt_of_lt_of_le hg hb2.size) (Nat.lt_of_lt_of_le hgm hb2.size))
  simp only [firstT_as, ← hV] at hFA
  have hFB := fun (t0 : Tg) (N : Nat) (hN : t0.parts = (N : Int)) (i : Nat) (hi : at_ + i < 48) (w1 : World) (hb : Below w.heap.size w w1) (g gm gi gt : Nat) (cg : w1.cell? ⟨g, 0, none⟩ = some (.int .i64 gen)) (cm : w1.cell? ⟨gm, 0, none⟩ = some (.int .i64 nr)) (ci : w1.cell? ⟨gi, 0, none⟩ = some (.int .i64 (i : Int))) (ct : w1.cell? ⟨gt, 3, none⟩ = some (.int .i64 (N : Int))) (hg : g < w1.heap.size) (hgm : gm < w1.heap.size) (hgi : gi < w1.heap.size) (hgt : gt < w1.heap.size) =>
    findB_any A n c live b (at_ + i) S (askB gen nr (N : Int) (i : Int)) g gm gi gt w1 (hRd.later hb) ((hr.below hb).more hb.size) hv hi hn63 (fun w2 hb2 t => by
      have h := askB_any t t0 g gm gi gt gen nr (i : Int) w2 ((hb2.cell (p := ⟨g, 0, none⟩) hg).trans cg) ((hb2.cell (p := ⟨gm, 0, none⟩) hgm).trans cm) ((hb2.cell (p := ⟨gi, 0, none⟩) hgi).trans ci) (by rw [hN]; exact (hb2.cell (p := ⟨gt, 3, none⟩) hgt).trans ct) (Nat.lt_of_lt_of_le hg hb2.size) (Nat.lt_of_lt_of_le hgm hb2.size) (Nat.lt_of_lt_of_le hgi hb2.size) (Nat.lt_of_lt_of_le hgt hb2.size)
      rwa [hN] at h)
  simp only [okT_as, ← hV, Int.natCast_add] at hFB
  rw [← hV]
  have HFA := hide hFA
  have HFB := hide hFB
  clear hFA hFB hRd hr hv hV
  -- HEAD
  rcases find_cases V (firstT gen nr) at_ with ⟨hV0, he⟩ | ⟨hV1, hh, he⟩ | ⟨hV1, s, hs, he, hfs⟩
  · rw [he] at HFA
    clear he
    have HVF := hide (show PartsR V gen nr at_ (.returned (.tuple #[.slice none 0 0, .int .i64 5])) w from .inl ⟨hV0, rfl⟩)
    have HFL := hide (findS_len HSZ.out (firstT gen nr) at_)
    obtain ⟨U, hU⟩ : ∃ U, U = B8 (findS V (firstT gen nr) at_) := ⟨_, rfl⟩
    have HUl := hide (show U.length = 64 by rw [hU, B8_length, HFL.out])
    have HUO := hide (show ∀ v ∈ U, v.oneCell' = true by rw [hU]; exact B8_one _)
    have HIU := hide (show (Try.prog.info? 51).map (·.size) = some U.length by rw [HUl.out]; exact sec_info)
    have HUI := hide (show (Try.prog.info? 51).map (·.size) = some U.toArray.size by rw [List.size_toArray, HUl.out]; exact sec_info)
    rw [← hU] at HFA
    clear hU hV0 HSZ HFB
    go_enter Try.func42, Try.ntmps42
    go_wp2_with (first
      | ((with_reducible refine at_slot 7 ?_); refine wpList_box_blk rfl 3 _ rfl (.int .i64 gen) rfl ?_; intro w1 hb1q hl1 hs1; have hb1 : Blk w1 w.heap.size 3 #[.int .i64 gen] := hb1q; have hz1 := hb1q.lt; clear hs1 hb1q)
      | ((with_reducible refine at_slot 8 ?_); refine wpList_box_blk rfl 3 _ rfl (.int .i64 nr) rfl ?_; intro w2 hb2q hl2 hs2; have hb2 : Blk w2 w1.heap.size 3 #[.int .i64 nr] := hb2q; have hz2 := hb2q.lt; have HG2 := hide (hb1.below hl2 hz1); have HM2 := hide hb2; have HL2 := hide (hl1.trans (hl2.mono (Nat.le_of_lt hz1))); clear hs2 hb2q hb1 hb2 hl1 hl2)
      | (go_at_call 61; refine (HFA.out w2 HL2.out w.heap.size w1.heap.size (HG2.out.cell 0) (HM2.out.cell 0) HG2.out.lt HM2.out.lt).mono ?_; rintro _ w3 ⟨rfl, hl3⟩; have HG3 := hide (HG2.out.below hl3 HG2.out.lt); have HM3 := hide (HM2.out.below hl3 HM2.out.lt); have HL3 := hide (HL2.out.trans (hl3.mono HL2.out.size)); clear hl3)
      | ((with_reducible refine at_slot 12 ?_); refine wpList_alloc_blk rfl 51 rfl _ (sec_zero _) ?_; intro w4 hb4 hl4 hs4; clear hs4)
      | ((with_reducible refine at_store 12 ?_); refine wpList_store_all rfl 51 (.tmp 12) (.tmp 26) rfl w3.heap.size 51 _ hb4 rfl U rfl HIU.out (HUl.out.trans (secL_length zeroSec).symm) HUO.out ?_; intro w5 hb5 hg5 hs5; have hz4 := hb4.lt; have hl35 : Below w3.heap.size w3 w5 := hl4.grown hg5 (by omega) (fun g e => by injection e with e; omega); have HG5 := hide (HG3.out.below hl35 HG3.out.lt); have HM5 := hide (HM3.out.below hl35 HM3.out.lt); have HS5 := hide hb5; have HL5 := hide (HL3.out.trans (hl35.mono HL3.out.size)); clear hs5 hl35 hb4 hl4 hg5 hb5))
    go_ret2
    exact ⟨HVF.out.any (by omega), HL5.out⟩
  · rw [he] at HFA
    clear he
    have HVF := hide (show PartsR V gen nr at_ (.returned (.tuple #[.slice none 0 0, .int .i64 8])) w from .inr (.inl ⟨hV1, recAt_first hh, rfl⟩))
    have HFL := hide (findS_len HSZ.out (firstT gen nr) at_)
    obtain ⟨U, hU⟩ : ∃ U, U = B8 (findS V (firstT gen nr) at_) := ⟨_, rfl⟩
    have HUl := hide (show U.length = 64 by rw [hU, B8_length, HFL.out])
    have HUO := hide (show ∀ v ∈ U, v.oneCell' = true by rw [hU]; exact B8_one _)
    have HIU := hide (show (Try.prog.info? 51).map (·.size) = some U.length by rw [HUl.out]; exact sec_info)
    have HUI := hide (show (Try.prog.info? 51).map (·.size) = some U.toArray.size by rw [List.size_toArray, HUl.out]; exact sec_info)
    rw [← hU] at HFA
    clear hU hV1 hh HSZ HFB
    go_enter Try.func42, Try.ntmps42
    go_wp2_with (first
      | ((with_reducible refine at_slot 7 ?_); refine wpList_box_blk rfl 3 _ rfl (.int .i64 gen) rfl ?_; intro w1 hb1q hl1 hs1; have hb1 : Blk w1 w.heap.size 3 #[.int .i64 gen] := hb1q; have hz1 := hb1q.lt; clear hs1 hb1q)
      | ((with_reducible refine at_slot 8 ?_); refine wpList_box_blk rfl 3 _ rfl (.int .i64 nr) rfl ?_; intro w2 hb2q hl2 hs2; have hb2 : Blk w2 w1.heap.size 3 #[.int .i64 nr] := hb2q; have hz2 := hb2q.lt; have HG2 := hide (hb1.below hl2 hz1); have HM2 := hide hb2; have HL2 := hide (hl1.trans (hl2.mono (Nat.le_of_lt hz1))); clear hs2 hb2q hb1 hb2 hl1 hl2)
      | (go_at_call 61; refine (HFA.out w2 HL2.out w.heap.size w1.heap.size (HG2.out.cell 0) (HM2.out.cell 0) HG2.out.lt HM2.out.lt).mono ?_; rintro _ w3 ⟨rfl, hl3⟩; have HG3 := hide (HG2.out.below hl3 HG2.out.lt); have HM3 := hide (HM2.out.below hl3 HM2.out.lt); have HL3 := hide (HL2.out.trans (hl3.mono HL2.out.size)); clear hl3)
      | ((with_reducible refine at_slot 12 ?_); refine wpList_alloc_blk rfl 51 rfl _ (sec_zero _) ?_; intro w4 hb4 hl4 hs4; clear hs4)
      | ((with_reducible refine at_store 12 ?_); refine wpList_store_all rfl 51 (.tmp 12) (.tmp 26) rfl w3.heap.size 51 _ hb4 rfl U rfl HIU.out (HUl.out.trans (secL_length zeroSec).symm) HUO.out ?_; intro w5 hb5 hg5 hs5; have hz4 := hb4.lt; have hl35 : Below w3.heap.size w3 w5 := hl4.grown hg5 (by omega) (fun g e => by injection e with e; omega); have HG5 := hide (HG3.out.below hl35 HG3.out.lt); have HM5 := hide (HM3.out.below hl35 HM3.out.lt); have HS5 := hide hb5; have HL5 := hide (HL3.out.trans (hl35.mono HL3.out.size)); clear hs5 hl35 hb4 hl4 hg5 hb5))
    go_ret2
    exact ⟨HVF.out.any (by omega), HL5.out⟩
  · rw [he, hfs] at HFA
    clear he hfs
    have HH := hide hs
    obtain ⟨hps, hp2, hp3, hp4, N, hN, hN1, hN40⟩ := first_parts (hit_mem hs).2
    have HSL := hide (hit_len HSZ.out hs)
    have HV1 := hide hV1
    have HTag := hide (fun w => tagOf_any s HSL.out w)
    rw [hps, tagT_yes hps] at HTag
    obtain ⟨t0, ht0⟩ : ∃ t0, t0 = readT s := ⟨_, rfl⟩
    have HN : Hid ((readT s).parts = (N : Int)) := hide hN
    rw [← ht0] at HTag hN
    have HFB := hide (HFB.out t0 N hN)
    have HTN := hide hN
    have HCU := hide (show hit V (okT gen nr N 0) (at_ + 0) = some s from hit_zero hs HN.out)
    obtain ⟨U, hU⟩ : ∃ U, U = B8 (s) := ⟨_, rfl⟩
    have HUl := hide (show U.length = 64 by rw [hU, B8_length, HSL.out])
    have HUO := hide (show ∀ v ∈ U, v.oneCell' = true by rw [hU]; exact B8_one _)
    have HIU := hide (show (Try.prog.info? 51).map (·.size) = some U.length by rw [HUl.out]; exact sec_info)
    have HUI := hide (show (Try.prog.info? 51).map (·.size) = some U.toArray.size by rw [List.size_toArray, HUl.out]; exact sec_info)
    rw [← hU] at HFA HTag
    have HU := hide hU
    clear hU hs hps hp2 hp3 hp4 hN ht0 hV1
    have HLONG := hide (fun (h : 48 < at_ + N) => (show PartsR V gen nr at_ (.returned (.tuple #[.slice none 0 0, .int .i64 8])) w from .inr (.inl ⟨HV1.out, recAt_long HH.out HN.out h, rfl⟩)))
    by_cases hlong : 48 < at_ + N
    · have hlw : ((48 : Int) < (at_ : Int) + (N : Int)) := by omega
      go_enter Try.func42, Try.ntmps42
      go_wp2_with (first
        | ((with_reducible refine at_slot 7 ?_); refine wpList_box_blk rfl 3 _ rfl (.int .i64 gen) rfl ?_; intro w1 hb1q hl1 hs1; have hb1 : Blk w1 w.heap.size 3 #[.int .i64 gen] := hb1q; have hz1 := hb1q.lt; clear hs1 hb1q)
        | ((with_reducible refine at_slot 8 ?_); refine wpList_box_blk rfl 3 _ rfl (.int .i64 nr) rfl ?_; intro w2 hb2q hl2 hs2; have hb2 : Blk w2 w1.heap.size 3 #[.int .i64 nr] := hb2q; have hz2 := hb2q.lt; have HG2 := hide (hb1.below hl2 hz1); have HM2 := hide hb2; have HL2 := hide (hl1.trans (hl2.mono (Nat.le_of_lt hz1))); clear hs2 hb2q hb1 hb2 hl1 hl2)
        | (go_at_call 61; refine (HFA.out w2 HL2.out w.heap.size w1.heap.size (HG2.out.cell 0) (HM2.out.cell 0) HG2.out.lt HM2.out.lt).mono ?_; rintro _ w3 ⟨rfl, hl3⟩; have HG3 := hide (HG2.out.below hl3 HG2.out.lt); have HM3 := hide (HM2.out.below hl3 HM2.out.lt); have HL3 := hide (HL2.out.trans (hl3.mono HL2.out.size)); clear hl3)
        | ((with_reducible refine at_slot 12 ?_); refine wpList_alloc_blk rfl 51 rfl _ (sec_zero _) ?_; intro w4 hb4 hl4 hs4; clear hs4)
        | ((with_reducible refine at_store 12 ?_); refine wpList_store_all rfl 51 (.tmp 12) (.tmp 26) rfl w3.heap.size 51 _ hb4 rfl U rfl HIU.out (HUl.out.trans (secL_length zeroSec).symm) HUO.out ?_; intro w5 hb5 hg5 hs5; have hz4 := hb4.lt; have hl35 : Below w3.heap.size w3 w5 := hl4.grown hg5 (by omega) (fun g e => by injection e with e; omega); have HG5 := hide (HG3.out.below hl35 HG3.out.lt); have HM5 := hide (HM3.out.below hl35 HM3.out.lt); have HS5 := hide hb5; have HL5 := hide (HL3.out.trans (hl35.mono HL3.out.size)); clear hs5 hl35 hb4 hl4 hg5 hb5)
        | ((with_reducible refine at_slot 32 ?_); refine wpList_load_blk rfl 51 (.tmp 12) rfl w3.heap.size 0 51 _ HS5.out rfl U _ (fun j v hj => by rw [Nat.zero_add]; simpa using hj) Try.underlying51 rfl HIU.out ?_)
        | (go_at_call 63; refine (HTag.out w5).mono ?_; rintro _ w6 ⟨rfl, hl6⟩; have HG6 := hide (HG5.out.below hl6 HG5.out.lt); have HM6 := hide (HM5.out.below hl6 HM5.out.lt); have HS6 := hide (HS5.out.below hl6 HS5.out.lt); have HL6 := hide (HL5.out.trans (hl6.mono HL5.out.size)); clear hl6)
        | ((with_reducible refine at_slot 14 ?_); refine wpList_alloc_blk rfl 105 rfl _ (tag_nought _) ?_; intro w7 hb7 hl7 hs7; clear hs7)
        | ((with_reducible refine at_store 14 ?_); refine wpList_store_all rfl 105 (.tmp 14) (.tmp 34) rfl w6.heap.size 105 _ hb7 rfl (tagC t0) rfl tag_info rfl (tagC_one _) ?_; intro w8 hb8 hg8 hs8; have hz7 := hb7.lt; have hl68 : Below w6.heap.size w6 w8 := hl7.grown hg8 (by omega) (fun g e => by injection e with e; omega); have HG8 := hide (HG6.out.below hl68 HG6.out.lt); have HM8 := hide (HM6.out.below hl68 HM6.out.lt); have HS8 := hide (HS6.out.below hl68 HS6.out.lt); have HT8 := hide hb8; have HL8 := hide (HL6.out.trans (hl68.mono HL6.out.size)); have ct8 := tag_c3 hb8; rw [HTN.out] at ct8; clear hs8 hl68 hb7 hl7 hg8 hb8))
      go_ret2
      exact ⟨(HLONG.out hlong).any (by omega), HL8.out⟩
    · have hlw : ¬ ((48 : Int) < (at_ : Int) + (N : Int)) := by omega
      go_enter Try.func42, Try.ntmps42
      go_wp2_with (first
        | ((with_reducible refine at_slot 7 ?_); refine wpList_box_blk rfl 3 _ rfl (.int .i64 gen) rfl ?_; intro w1 hb1q hl1 hs1; have hb1 : Blk w1 w.heap.size 3 #[.int .i64 gen] := hb1q; have hz1 := hb1q.lt; clear hs1 hb1q)
        | ((with_reducible refine at_slot 8 ?_); refine wpList_box_blk rfl 3 _ rfl (.int .i64 nr) rfl ?_; intro w2 hb2q hl2 hs2; have hb2 : Blk w2 w1.heap.size 3 #[.int .i64 nr] := hb2q; have hz2 := hb2q.lt; have HG2 := hide (hb1.below hl2 hz1); have HM2 := hide hb2; have HL2 := hide (hl1.trans (hl2.mono (Nat.le_of_lt hz1))); clear hs2 hb2q hb1 hb2 hl1 hl2)
        | (go_at_call 61; refine (HFA.out w2 HL2.out w.heap.size w1.heap.size (HG2.out.cell 0) (HM2.out.cell 0) HG2.out.lt HM2.out.lt).mono ?_; rintro _ w3 ⟨rfl, hl3⟩; have HG3 := hide (HG2.out.below hl3 HG2.out.lt); have HM3 := hide (HM2.out.below hl3 HM2.out.lt); have HL3 := hide (HL2.out.trans (hl3.mono HL2.out.size)); clear hl3)
        | ((with_reducible refine at_slot 12 ?_); refine wpList_alloc_blk rfl 51 rfl _ (sec_zero _) ?_; intro w4 hb4 hl4 hs4; clear hs4)
        | ((with_reducible refine at_store 12 ?_); refine wpList_store_all rfl 51 (.tmp 12) (.tmp 26) rfl w3.heap.size 51 _ hb4 rfl U rfl HIU.out (HUl.out.trans (secL_length zeroSec).symm) HUO.out ?_; intro w5 hb5 hg5 hs5; have hz4 := hb4.lt; have hl35 : Below w3.heap.size w3 w5 := hl4.grown hg5 (by omega) (fun g e => by injection e with e; omega); have HG5 := hide (HG3.out.below hl35 HG3.out.lt); have HM5 := hide (HM3.out.below hl35 HM3.out.lt); have HS5 := hide hb5; have HL5 := hide (HL3.out.trans (hl35.mono HL3.out.size)); clear hs5 hl35 hb4 hl4 hg5 hb5)
        | ((with_reducible refine at_slot 32 ?_); refine wpList_load_blk rfl 51 (.tmp 12) rfl w3.heap.size 0 51 _ HS5.out rfl U _ (fun j v hj => by rw [Nat.zero_add]; simpa using hj) Try.underlying51 rfl HIU.out ?_)
        | (go_at_call 63; refine (HTag.out w5).mono ?_; rintro _ w6 ⟨rfl, hl6⟩; have HG6 := hide (HG5.out.below hl6 HG5.out.lt); have HM6 := hide (HM5.out.below hl6 HM5.out.lt); have HS6 := hide (HS5.out.below hl6 HS5.out.lt); have HL6 := hide (HL5.out.trans (hl6.mono HL5.out.size)); clear hl6)
        | ((with_reducible refine at_slot 14 ?_); refine wpList_alloc_blk rfl 105 rfl _ (tag_nought _) ?_; intro w7 hb7 hl7 hs7; clear hs7)
        | ((with_reducible refine at_store 14 ?_); refine wpList_store_all rfl 105 (.tmp 14) (.tmp 34) rfl w6.heap.size 105 _ hb7 rfl (tagC t0) rfl tag_info rfl (tagC_one _) ?_; intro w8 hb8 hg8 hs8; have hz7 := hb7.lt; have hl68 : Below w6.heap.size w6 w8 := hl7.grown hg8 (by omega) (fun g e => by injection e with e; omega); have HG8 := hide (HG6.out.below hl68 HG6.out.lt); have HM8 := hide (HM6.out.below hl68 HM6.out.lt); have HS8 := hide (HS6.out.below hl68 HS6.out.lt); have HT8 := hide hb8; have HL8 := hide (HL6.out.trans (hl68.mono HL6.out.size)); have ct8 := tag_c3 hb8; rw [HTN.out] at ct8; clear hs8 hl68 hb7 hl7 hg8 hb8)
        | ((with_reducible refine at_slot 41 ?_); refine wpList_load_blk rfl 51 (.tmp 12) rfl w3.heap.size 0 51 _ HS8.out rfl U _ (fun j v hj => by rw [Nat.zero_add]; simpa using hj) Try.underlying51 rfl HIU.out ?_)
        | ((with_reducible refine at_slot 42 ?_); refine wpList_build_agg _ rfl (.tmp 41) 73 rfl 51 i0 _ 64 Try.underlying73 HI0.out (sec_nought _) HZ1.out (by omega) (by omega) U.toArray rfl (by rw [List.size_toArray]; exact HUl.out) ?_; have hown9 := own_lump w8 U 51 64 w8.heap.size HUl.out (Nat.le_refl _); have hl9 : Below w8.heap.size w8 (w8.alloc (.cells U.toArray 51)) := (Below.refl _ _).alloc (Nat.le_refl _) _; have hsz9 := World.size_alloc w8 (.cells U.toArray 51); generalize w8.alloc (.cells U.toArray 51) = w9 at hown9 hl9 hsz9 ⊢)
        | ((with_reducible refine at_slot 17 ?_); refine wpList_alloc_blk rfl 3 rfl _ (int_nought _) ?_; intro w10 hb10q hl10 hs10; have hb10 : Blk w10 w9.heap.size 3 #[.int .i64 0] := hb10q; clear hb10q)
        | ((with_reducible refine at_store 17 ?_); refine wpList_poke rfl 3 (.tmp 17) (.const (.int .i64 1)) rfl w9.heap.size 0 3 _ hb10 rfl (.int .i64 1) rfl rfl int_info1 (by decide) ?_; intro w11 hb11 hg11 hs11))
      simp only [Act.put, List.setIfInBounds_toArray, List.set_cons_zero, List.set_cons_succ]
      have hl911 : Below w9.heap.size w9 w11 := hl10.grown hg11 (by omega) (fun g e => by injection e with e; omega)
      have hb11' : Blk w11 w9.heap.size 3 #[.int .i64 ((1 : Nat) : Int)] := hb11
      have HI11 := hide hb11'
      have HL811 := hide (hl9.trans (hl911.mono (by omega)))
      have HO11 : Hid (w11.ownsRow w8.heap.size 51 64 (.slice (some ⟨w8.heap.size, 0, none⟩) 1 1) 1 (B8 (cat (hitB V gen nr N at_) 1))) := hide (by
        have h := own_later hown9 hl911
        rw [cat_succ, cat_zero, List.nil_append]
        unfold hitB
        rw [HCU.out]
        rw [HU.out] at h
        exact h)
      have HGI : Hid ((∀ g, (Value.slice (some ⟨w8.heap.size, 0, none⟩) 1 1).ownBlock = some g → g < w9.heap.size) ∧ w8.heap.size ≤ w9.heap.size) := hide ⟨fun g e => by injection e with e; have e2 : w8.heap.size = g := e; omega, by omega⟩
      have HCT8 := hide ct8
      have HHO : Hid (HitOk V gen nr N at_ 1) := hide (HitOk.zero.succ HCU.out)
      clear hl911 hb11 hb11' hg11 hs11 hb10 hl10 hs10 hown9 hl9 hsz9 ct8
      go_loopw [16, 17] (fun s16 s17 wr => ∃ (k : Nat) (B : Option Addr) (cp gi : Nat), s16 = .slice B k cp ∧ s17 = .pointer (some ⟨gi, 0, none⟩) ∧ 1 ≤ k ∧ k ≤ N ∧ Hid (wr.ownsRow w8.heap.size 51 64 (.slice B k cp) k (B8 (cat (hitB V gen nr N at_) k))) ∧ Hid (Blk wr gi 3 #[.int .i64 (k : Int)]) ∧ Hid ((∀ g, (Value.slice B k cp).ownBlock = some g → g < gi) ∧ w8.heap.size ≤ gi) ∧ Hid (HitOk V gen nr N at_ k) ∧ Hid (Below w8.heap.size w8 wr)) (fun s16 _ _ => N - lenOf s16)
      case atStart => exact ⟨1, _, _, _, rfl, rfl, Nat.le_refl _, hN1, HO11, HI11, HGI, HHO, HL811⟩
      case round =>
        obtain ⟨k, B, cp, gi, rfl, rfl, hk1, hkN, hO, hI, hGI, hH, hl⟩ := hrel
        obtain ⟨wo, rfl⟩ : ∃ wo, wo = wr := ⟨_, rfl⟩
        have ci : wo.cell? ⟨gi, 0, none⟩ = some (.int .i64 (k : Int)) := hI.out.cell 0
        have ct : wo.cell? ⟨w6.heap.size, 3, none⟩ = some (.int .i64 (N : Int)) := (hl.out.cell (p := ⟨w6.heap.size, 3, none⟩) HT8.out.lt).trans HCT8.out
        have HLO := hide (HL8.out.trans (hl.out.mono HL8.out.size))
        by_cases hkn : k < N
        · have hkw : (k : Int) < (N : Int) := by omega
          have hFB2 := HFB.out k (by omega) wo HLO.out w.heap.size w1.heap.size gi w6.heap.size ((HG8.out.below hl.out HG8.out.lt).cell 0) ((HM8.out.below hl.out HM8.out.lt).cell 0) ci ct (Nat.lt_of_lt_of_le HG8.out.lt hl.out.size) (Nat.lt_of_lt_of_le HM8.out.lt hl.out.size) hI.out.lt (Nat.lt_of_lt_of_le HT8.out.lt hl.out.size)
          rcases find_cases V (okT gen nr N k) (at_ + k) with ⟨hV0, _⟩ | ⟨_, hh, he⟩ | ⟨_, s2, hs2, he, hfs⟩
          · exact absurd hV0 HV1.out
          · rw [he] at hFB2
            have HVF := hide (show PartsR V gen nr at_ (.returned (.tuple #[.slice none 0 0, .int .i64 8])) w from .inr (.inl ⟨HV1.out, recAt_gap HH.out HN.out (by omega) hkn hh, rfl⟩))
            clear he hh
            obtain ⟨U2, hU2⟩ : ∃ U2, U2 = B8 (findS V (okT gen nr N k) (at_ + k)) := ⟨_, rfl⟩
            have HUl2 := hide (show U2.length = 64 by rw [hU2, B8_length, findS_len HSZ.out])
            have HUO2 := hide (show ∀ v ∈ U2, v.oneCell' = true by rw [hU2]; exact B8_one _)
            have HIU2 := hide (show (Try.prog.info? 51).map (·.size) = some U2.length by rw [HUl2.out]; exact sec_info)
            have HUI2 := hide (show (Try.prog.info? 51).map (·.size) = some U2.toArray.size by rw [List.size_toArray, HUl2.out]; exact sec_info)
            rw [← hU2] at hFB2
            have HFB2 := hide hFB2
            clear hU2 hFB2
            go_wp2_with (first
              | (go_at_call 61; refine HFB2.out.mono ?_; rintro _ x2 ⟨rfl, hl2⟩; have HO2 := hide (own_later hO.out hl2); have HI2 := hide (hI.out.below hl2 hI.out.lt); have HL2' := hide (hl.out.trans (hl2.mono hl.out.size)); have hx2 := hl2.size; clear hl2)
              | ((with_reducible refine at_slot 18 ?_); refine wpList_alloc_blk rfl 51 rfl _ (sec_zero _) ?_; intro x3 hb3 hl3 hs3; clear hs3)
              | ((with_reducible refine at_store 18 ?_); refine wpList_store_all rfl 51 (.tmp 18) (.tmp 57) rfl x2.heap.size 51 _ hb3 rfl U2 rfl HIU2.out (HUl2.out.trans (secL_length zeroSec).symm) HUO2.out ?_; intro x4 hb4 hg4 hs4; have hx3 := hb3.lt; have hl24 : Below x2.heap.size x2 x4 := hl3.grown hg4 (by omega) (fun g e => by injection e with e; omega); have HO4 := hide (own_later HO2.out hl24); have HI4 := hide (HI2.out.below hl24 HI2.out.lt); have HS4 := hide hb4; have HL4 := hide (HL2'.out.trans (hl24.mono HL2'.out.size)); have hx4 := hl24.size; clear hs4 hl24 hb3 hl3 hg4 hb4))
            go_ret2
            exact ⟨HVF.out.any (by omega), HL8.out.trans (HL4.out.mono HL8.out.size)⟩
          · rw [he, hfs] at hFB2
            have HSL2 := hide (hit_len HSZ.out hs2)
            have HHO2 := hide (hH.out.succ hs2)
            have HCA := hide (show cat (hitB V gen nr N at_) (k + 1) = cat (hitB V gen nr N at_) k ++ s2 by rw [cat_succ]; unfold hitB; rw [hs2]; rfl)
            clear he hfs hs2
            obtain ⟨U2, hU2⟩ : ∃ U2, U2 = B8 (s2) := ⟨_, rfl⟩
            have HUl2 := hide (show U2.length = 64 by rw [hU2, B8_length, HSL2.out])
            have HUO2 := hide (show ∀ v ∈ U2, v.oneCell' = true by rw [hU2]; exact B8_one _)
            have HIU2 := hide (show (Try.prog.info? 51).map (·.size) = some U2.length by rw [HUl2.out]; exact sec_info)
            have HUI2 := hide (show (Try.prog.info? 51).map (·.size) = some U2.toArray.size by rw [List.size_toArray, HUl2.out]; exact sec_info)
            rw [← hU2] at hFB2
            have HFB2 := hide hFB2
            have HU2 := hide hU2
            have hk3 : k + 1 ≤ maxLen := by simp only [maxLen]; omega
            have hk4 : (k + 1) * 64 ≤ 140737488355328 := by omega
            clear hU2 hFB2
            go_wp2_with (first
              | (go_at_call 61; refine HFB2.out.mono ?_; rintro _ x2 ⟨rfl, hl2⟩; have HO2 := hide (own_later hO.out hl2); have HI2 := hide (hI.out.below hl2 hI.out.lt); have HL2' := hide (hl.out.trans (hl2.mono hl.out.size)); have hx2 := hl2.size; clear hl2)
              | ((with_reducible refine at_slot 18 ?_); refine wpList_alloc_blk rfl 51 rfl _ (sec_zero _) ?_; intro x3 hb3 hl3 hs3; clear hs3)
              | ((with_reducible refine at_store 18 ?_); refine wpList_store_all rfl 51 (.tmp 18) (.tmp 57) rfl x2.heap.size 51 _ hb3 rfl U2 rfl HIU2.out (HUl2.out.trans (secL_length zeroSec).symm) HUO2.out ?_; intro x4 hb4 hg4 hs4; have hx3 := hb3.lt; have hl24 : Below x2.heap.size x2 x4 := hl3.grown hg4 (by omega) (fun g e => by injection e with e; omega); have HO4 := hide (own_later HO2.out hl24); have HI4 := hide (HI2.out.below hl24 HI2.out.lt); have HS4 := hide hb4; have HL4 := hide (HL2'.out.trans (hl24.mono HL2'.out.size)); have hx4 := hl24.size; clear hs4 hl24 hb3 hl3 hg4 hb4)
              | ((with_reducible refine at_slot 63 ?_); refine wpList_load_blk rfl 51 (.tmp 18) rfl x2.heap.size 0 51 _ HS4.out rfl U2 _ (fun j v hj => by rw [Nat.zero_add]; simpa using hj) Try.underlying51 rfl HIU2.out ?_)
              | ((with_reducible refine at_slot 64 ?_); refine wpList_build_agg _ rfl (.tmp 63) 73 rfl 51 i0 _ 64 Try.underlying73 HI0.out (sec_nought _) HZ1.out (by omega) (by omega) U2.toArray rfl (by rw [List.size_toArray]; exact HUl2.out) ?_; have hlump := Reads.lump (w := x4) U2 51 (x4.heap.size + 1) 64 (by omega) HUl2.out; have hl5 : Below x4.heap.size x4 (x4.alloc (.cells U2.toArray 51)) := (Below.refl _ _).alloc (Nat.le_refl _) _; have hsz5 := World.size_alloc x4 (.cells U2.toArray 51); generalize x4.alloc (.cells U2.toArray 51) = x5 at hlump hl5 hsz5 ⊢; have HO5 := hide (own_later HO4.out hl5); have HI5 := hide (HI4.out.below hl5 HI4.out.lt); have HL5' := hide (HL4.out.trans (hl5.mono HL4.out.size)); clear hl5)
              | ((with_reducible refine at_slot 65 ?_); refine wpList_append_two _ rfl (.tmp 62) (.tmp 64) 73 rfl w8.heap.size 51 i0 _ 64 64 Try.underlying73 HI0.out HZ0.out HZ1.out HZ2.out rfl (by omega) _ k _ rfl HO5.out (x4.heap.size + 1) (some ⟨x4.heap.size, 0, none⟩) 1 1 U2 rfl hlump HUO2.out hk3 hk4 HL5'.out.size ?_; intro v6 x6 hown6 hg6 hor6; obtain ⟨B6, cp6, rfl, _, _⟩ := own_shape hown6; have HI6 := hide (HI5.out.grown hg6 (fun e => by have := hGI.out.1 _ e.symm; omega)); have ci6 : x6.cell? ⟨gi, 0, none⟩ = some (.int .i64 (k : Int)) := HI6.out.cell 0; have HL6' := hide (HL5'.out.grown hg6 HL5'.out.size (fun g e => (HO5.out.lt g e).1)); have hz6 := hg6.size; clear hg6 hor6)
              | ((with_reducible refine at_slot 17 ?_); refine wpList_alloc_blk rfl 3 rfl _ (int_nought _) ?_; intro x7 hb7q hl7 hs7; have hb7 : Blk x7 x6.heap.size 3 #[.int .i64 0] := hb7q; clear hb7q)
              | ((with_reducible refine at_store 17 ?_); refine wpList_poke rfl 3 (.tmp 17) (.tmp 66) rfl x6.heap.size 0 3 _ hb7 rfl (.int .i64 (k : Int)) rfl rfl int_info1 (by decide) ?_; intro x8 hb8q hg8' hs8'; have hb8 : Blk x8 x6.heap.size 3 #[.int .i64 (k : Int)] := hb8q; have ci8 : x8.cell? ⟨x6.heap.size, 0, none⟩ = some (.int .i64 (k : Int)) := hb8.cell 0; have cf8 : x8.frozen? ⟨x6.heap.size, 0, none⟩ = false := hb8.frozen 0; clear hb8q))
            have hb9 := hb8.set_ 0 (.int .i64 ((k : Int) + 1))
            have hg9 := grown_set hg8' (⟨x6.heap.size, 0, none⟩ : Addr) rfl (.int .i64 ((k : Int) + 1))
            generalize x8.setCell (⟨x6.heap.size, 0, none⟩ : Addr) (.int .i64 ((k : Int) + 1)) = x9 at hb9 hg9 ⊢
            have hl69 : Below x6.heap.size x6 x9 := hl7.grown hg9 (by omega) (fun g e => by injection e with e; omega)
            go_roundw
            case rel =>
              refine ⟨k + 1, B6, cp6, x6.heap.size, rfl, rfl, by omega, by omega, hide ?_, hide ?_, hide ⟨fun g e => (hown6.lt g e).2, HL6'.out.size⟩, HHO2, hide (HL6'.out.trans (hl69.mono HL6'.out.size))⟩
              · rw [HCA.out, B8_append, ← HU2.out]
                exact own_later hown6 hl69
              · rw [show ((k + 1 : Nat) : Int) = (k : Int) + 1 by omega]
                exact hb9
            case measure => simp [lenOf]; omega
        · obtain rfl : k = N := by omega
          have hkw : ¬ ((k : Int) < (k : Int)) := by omega
          go_wp2
          go_ret2
          obtain ⟨r, q1, q2, q3, q4⟩ := recAt_all HSZ.out HH.out HN.out hk1 (by omega) hH.out
          obtain ⟨_, _, e, hc1, hc2⟩ := own_shape hO.out
          injection e with e1 e2 e3
          subst e1
          subst e3
          exact ⟨.inr (.inr ⟨HV1.out, k, _, _, _, r, q1, rfl, hc1, hc2, hk1, by omega, Reads.of_own hO.out, q3, q4⟩), HLO.out⟩
#print axioms partsOf_any
theorem scan_some {V : List View} {gen : Int} {f nr at_ N : Nat} {r : List UInt8} (h : recAt V gen (nr : Nat) at_ = some (r, N)) : scanL V gen (f + 1) nr at_ = (r :: (scanL V gen f (nr + 1) (at_ + N)).1, (scanL V gen f (nr + 1) (at_ + N)).2) := by
  rw [scanL, h]
theorem scan_none {V : List View} {gen : Int} {f nr at_ : Nat} (h : recAt V gen (nr : Nat) at_ = none) : scanL V gen (f + 1) nr at_ = ([], at_) := by
  rw [scanL, h]
theorem recAt_end {V : List View} {gen nr : Int} : recAt V gen nr 48 = none := by
  cases h : hit V (firstT gen nr) 48 with
  | none => exact recAt_first h
  | some s =>
    obtain ⟨_, _, _, _, N, hN, hN1, _⟩ := first_parts (hit_mem h).2
    exact recAt_long h hN (by omega)
theorem bytes_info9 : ∃ i, Try.prog.info? 32 = some i ∧ i.zero = some (.slice none 0 0) ∧ i.size = 1 ∧ i.bytes = 24 := ⟨(Try.prog.info? 32).get!, by kernel_rfl, by kernel_rfl, by kernel_rfl, by kernel_rfl⟩
def BsV.v (x : BsV) : Value := .slice x.A x.n x.c
def rowsV (f : Nat → BsV) (n : Nat) : List Value := (List.range n).map fun i => (f i).v
theorem rowsV_succ (f : Nat → BsV) (n : Nat) : rowsV f (n + 1) = rowsV f n ++ [(f n).v] := by simp [rowsV, List.range_succ]
theorem rowsV_congr {f g : Nat → BsV} {n : Nat} (h : ∀ i, i < n → f i = g i) : rowsV f n = rowsV g n := by
  unfold rowsV
  apply List.map_congr_left
  intro i hi
  rw [h i (List.mem_range.1 hi)]
theorem rowsV_get (f : Nat → BsV) {n i : Nat} (h : i < n) : (rowsV f n)[i]? = some (f i).v := by simp [rowsV, h]
theorem own_apart {w : World} {b1 b2 s1 s2 n1 n2 : Nat} {e1 e2 : TypeId} {v1 v2 : Value} {x1 x2 : List Value} (h1 : w.ownsRow b1 e1 s1 v1 n1 x1) (h2 : w.ownsRow b2 e2 s2 v2 n2 x2) (he : e1 ≠ e2) : ∀ g, v1.ownBlock = some g → v2.ownBlock ≠ some g := by
  intro g hg1 hg2
  rcases h1.2 with ⟨rfl, _⟩ | ⟨g1, _, _, rfl, _, hh1, _⟩
  · cases hg1
  · rcases h2.2 with ⟨rfl, _⟩ | ⟨g2, _, _, rfl, _, hh2, _⟩
    · cases hg2
    · injection hg1 with hg1
      injection hg2 with hg2
      have q1 : g1 = g := hg1
      have q2 : g2 = g := hg2
      rw [q1] at hh1
      rw [q2, hh1] at hh2
      injection hh2 with hh2
      injection hh2 with _ hh2
      exact he hh2
theorem own_lower {w : World} {b1 b2 s1 n1 : Nat} {e1 : TypeId} {v1 : Value} {x1 : List Value} (h : w.ownsRow b1 e1 s1 v1 n1 x1) (hb : b2 ≤ b1) : w.ownsRow b2 e1 s1 v1 n1 x1 := by
  refine ⟨h.1, ?_⟩
  rcases h.2 with h2 | ⟨g, cap, cur, e, hg, hr⟩
  · exact .inl h2
  · exact .inr ⟨g, cap, cur, e, Nat.le_trans hb hg, hr⟩
/-- Bytes of the call's own. -/
def BsOwn (w : World) (base : Nat) (x : BsV) : Prop := w.ownsRow base 5 1 x.v x.n (B8 x.l)
theorem BsOwn.in_ {w : World} {base : Nat} {x : BsV} (h : BsOwn w base x) : BsIn w w.heap.size x := by
  obtain ⟨_, _, e, h1, h2⟩ := own_shape h
  unfold BsV.v at e
  injection e with e1 e2 e3
  subst e3
  exact ⟨Reads.of_own h, h1, h2⟩
theorem scan_over {x : List (List UInt8) × Nat} {m u : Nat} {f : Nat → BsV} (h : x = ((List.range m).map (fun i => (f i).l) ++ [], u)) : (List.range m).map (fun i => (f i).l) = x.1 ∧ u = x.2 := by
  rw [h]
  simp
theorem rows_next {f : Nat → BsV} {m : Nat} {x : BsV} : (List.range (m + 1)).map (fun i => ((fun i => if i < m then f i else x) i).l) = (List.range m).map (fun i => (f i).l) ++ [x.l] := by
  rw [List.range_succ, List.map_append]
  refine congr (congrArg _ (List.map_congr_left fun i hi => ?_)) ?_
  · simp only []
    rw [if_pos (List.mem_range.1 hi)]
  · simp
theorem rows_of_own {w : World} {base b2 m k : Nat} {B : Option Addr} {f : Nat → BsV} (hO : w.ownsRow base 32 1 (.slice B m k) m (rowsV f m)) (hR : ∀ i, i < m → BsOwn w b2 (f i)) : RowsIn w w.heap.size B m k f := by
  obtain ⟨_, _, e, h1, h2⟩ := own_shape hO
  injection e with e1 e2 e3
  subst e3
  refine ⟨h1, h2, fun h0 => ?_⟩
  obtain ⟨ad, e, hb, hc⟩ := (Reads.of_own hO).2 (by omega)
  exact ⟨ad, e, hb, fun i hi => ⟨hc i _ (rowsV_get f hi), (hR i hi).in_⟩⟩
theorem BsOwn.later {w w' : World} {base : Nat} {x : BsV} (h : BsOwn w base x) (hb : Below w.heap.size w w') : BsOwn w' base x := own_later h hb
theorem BsOwn.other {w w' : World} {base b2 n : Nat} {x : BsV} {v : Value} {xs : List Value} (h : BsOwn w base x) (hv : w.ownsRow b2 32 1 v n xs) (hg : w.grownBy w' v.ownBlock) : BsOwn w' base x :=
  own_other h hg (own_apart hv h (by decide))
/-- What Scan tells of these members. -/
def ScanR (V : List View) (X : List (List UInt8) × Nat) (w : World) (e : Ending) (w' : World) : Prop :=
  ∃ (B : Option Addr) (m k : Nat) (f : Nat → BsV), e = .returned (.tuple #[.slice B m k, .int .i64 ((if V = [] then 0 else X.2 : Nat) : Int), .int .i64 ((if V = [] then 5 else 0 : Nat) : Int)]) ∧ RowsIn w' w'.heap.size B m k f ∧ (List.range m).map (fun i => (f i).l) = (if V = [] then [] else X.1) ∧ Below w.heap.size w w'
theorem ScanR.none_ {V : List View} {X : List (List UInt8) × Nat} {w w' : World} (hV : V = []) (hl : Below w.heap.size w w') : ScanR V X w (.returned (.tuple #[.slice none 0 0, .int .i64 0, .int .i64 5])) w' :=
  ⟨none, 0, 0, fun _ => BsV.none_, by rw [if_pos hV, if_pos hV]; rfl, ⟨Nat.le_refl _, by decide, fun h => absurd h (Nat.lt_irrefl 0)⟩, by rw [if_pos hV]; rfl, hl⟩
theorem ScanR.some_ {V : List View} {X : List (List UInt8) × Nat} {w w' : World} {B : Option Addr} {m k u : Nat} {f : Nat → BsV} (hV : V ≠ []) (h : (List.range m).map (fun i => (f i).l) = X.1 ∧ u = X.2) (hR : RowsIn w' w'.heap.size B m k f) (hl : Below w.heap.size w w') : ScanR V X w (.returned (.tuple #[.slice B m k, .int .i64 (u : Int), .int .i64 0])) w' :=
  ⟨B, m, k, f, by rw [if_neg hV, if_neg hV, ← h.2]; rfl, hR, by rw [if_neg hV]; exact h.1, hl⟩
set_option maxRecDepth 100000 in
set_option maxHeartbeats 8000000 in
theorem scan_any (A : Option Addr) (n c : Nat) (live : List Nat) (b : Nat) (S : Bank) (gen : Int) (w : World) (hRd : AsksB w b S) (hr : Reads w w.heap.size 1 A n (I64 (live.map Int.ofNat))) (hv : Askable S live) (hn63 : n ≤ 9223372036854775807) :
    Calls Try.prog 22 #[.pointer (some ⟨b, 0, none⟩), .slice A n c, .int .i64 gen] w (ScanR (viewsOf S live) (scanL (viewsOf S live) gen 49 0 0) w) := by
  obtain ⟨i9, hi9, hz9, hs9, hb9⟩ := bytes_info9
  have HI9 := hide hi9
  have HZ9 := hide hz9
  have HS9 := hide hs9
  have HB9 := hide hb9
  clear hi9 hz9 hs9 hb9
  obtain ⟨V, hV⟩ : ∃ V, V = viewsOf S live := ⟨_, rfl⟩
  have hP := fun (w1 : World) (hb : Below w.heap.size w w1) (at_ : Nat) (nr : Int) (hat : at_ < 48) => partsOf_any A n c live b at_ S gen nr w1 (hRd.later hb) ((hr.below hb).more hb.size) hv hat hn63
  rw [← hV] at hP ⊢
  have HP := hide hP
  clear hP hRd hr hv hV
  obtain ⟨X, hX⟩ : ∃ X, X = scanL V gen 49 0 0 := ⟨_, rfl⟩
  rw [← hX]
  have HX := hide hX
  clear hX
  go_enter Try.func22, Try.ntmps22
  go_wp2_with fail
  go_loopw [9, 10] (fun s9 s10 wr => ∃ (m u k : Nat) (B : Option Addr) (f : Nat → BsV), s9 = .slice B m k ∧ s10 = .int .i64 (u : Int) ∧ m ≤ u ∧ u ≤ 48 ∧ Hid (wr.ownsRow w.heap.size 32 1 (.slice B m k) m (rowsV f m)) ∧ Hid (∀ i, i < m → BsOwn wr w.heap.size (f i)) ∧ Hid (X = ((List.range m).map (fun i => (f i).l) ++ (scanL V gen (49 - m) m u).1, (scanL V gen (49 - m) m u).2)) ∧ Hid (Below w.heap.size w wr)) (fun _ s10 _ => 48 - (intOf s10).toNat)
  case atStart => exact ⟨0, 0, 0, none, fun _ => BsV.none_, rfl, rfl, Nat.le_refl _, by decide, hide (World.ownsRow_nil _ _ _ _), hide (fun i h => absurd h (Nat.not_lt_zero i)), hide (by rw [HX.out]; rfl), hide (Below.refl _ _)⟩
  case round =>
    obtain ⟨m, u, k, B, f, rfl, rfl, hmu, hu, hO, hR, hE, hl⟩ := hrel
    obtain ⟨wo, rfl⟩ : ∃ wo, wo = wr := ⟨_, rfl⟩
    by_cases hu48 : u < 48
    · have huw : (u : Int) < 48 := by omega
      have hcall := HP.out wo hl.out u (m : Int) hu48
      have hfu : 49 - m = (48 - m) + 1 := by omega
      have hE1 := hE.out
      rw [hfu] at hE1
      have HE1 := hide hE1
      clear hE1 hfu
      go_wp2_with fail
      refine hcall.mono ?_
      rintro _ w1 ⟨⟨hV0, rfl⟩ | ⟨hV1, hn, rfl⟩ | ⟨hV1, N, kp, B1, bs, r, hrec, rfl, hNk, hkp, hN1, huN, hrd, hj1, hj2⟩, hl1⟩
      · clear hcall
        go_wp2
        go_ret3
        exact ScanR.none_ hV0 (hl.out.trans (hl1.mono hl.out.size))
      · have HN := hide (scan_over (HE1.out.trans (by rw [scan_none hn])))
        clear hcall hn
        go_wp2
        go_ret3
        exact ScanR.some_ hV1 HN.out (rows_of_own (own_later hO.out hl1) (fun i hi => (hR.out i hi).later hl1)) (hl.out.trans (hl1.mono hl.out.size))
      · have hJ := recJoin_any gen (m : Int) B1 N kp bs w1.heap.size w1 hrd (Nat.le_refl _) (by omega)
        unfold Joined at hJ
        rw [hj1, hj2] at hJ
        have HJ := hide hJ
        have HE2 := hide (HE1.out.trans (by rw [scan_some hrec]))
        have HO1 := hide (own_later hO.out hl1)
        have HR1 := hide (fun i (hi : i < m) => (hR.out i hi).later hl1)
        have HL1 := hide (hl.out.trans (hl1.mono hl.out.size))
        have hm1 : m + 1 ≤ maxLen := by simp only [maxLen]; omega
        have hm2 : (m + 1) * 24 ≤ 140737488355328 := by omega
        clear hcall hJ hrec hrd hj1 hj2 hl1 hV1
        go_wp2_with (first
          | (go_at_call 43; refine HJ.out.mono ?_; rintro _ w2 ⟨R, kr, d, rfl, hk, hd, hown, hl2⟩; have hlump := Reads.lump (w := w2) [.slice R kr d] 32 (w2.heap.size + 1) 1 (by omega) rfl; have HLUMP := hide hlump; have HOW := hide hown; have HO2 := hide (own_later HO1.out hl2); have HR2 := hide (fun i (hi : i < m) => (HR1.out i hi).later hl2); have HL2 := hide (HL1.out.trans (hl2.mono HL1.out.size)); have hz12 := hl2.size; clear hlump hown hl2)
          | ((with_reducible refine at_slot 43 ?_); refine wpList_append_two _ rfl (.tmp 40) (.tmp 42) 22 rfl w.heap.size 32 i9 _ 1 24 Try.underlying22 HI9.out HZ9.out HS9.out HB9.out rfl (by decide) _ m _ rfl (HO2.out.alloc _) (w2.heap.size + 1) (some ⟨w2.heap.size, 0, none⟩) 1 1 [.slice R kr d] rfl HLUMP.out (by intro v hv; simp at hv; rw [hv]; rfl) hm1 hm2 (by rw [World.size_alloc]; have := HL2.out.size; omega) ?_; intro v3 w3 hown3 hg3 hor3; obtain ⟨B3, c3, rfl, _, _⟩ := own_shape hown3))
        go_roundw
        case rel =>
          have hal : Below w2.heap.size w2 (w2.alloc (.cells #[.slice R kr d] 32)) := (Below.refl _ _).alloc (Nat.le_refl _) _
          refine ⟨m + 1, u + N, c3, B3, fun i => if i < m then f i else ⟨R, kr, d, r⟩, rfl, by simp, by omega, by omega, hide ?_, hide ?_, hide ?_, hide ?_⟩
          · rw [rowsV_succ, rowsV_congr (g := f) (fun i hi => if_pos hi)]
            simp only [Nat.lt_irrefl, if_false]
            exact hown3
          · intro i hi
            by_cases him : i < m
            · simp only [if_pos him]
              exact ((HR2.out i him).later hal).other (HO2.out.alloc _) hg3
            · simp only [if_neg him]
              have hb : BsOwn w2 w.heap.size ⟨R, kr, d, r⟩ := own_lower HOW.out HL1.out.size
              exact (hb.later hal).other (HO2.out.alloc _) hg3
          · rw [rows_next, HE2.out, show 49 - (m + 1) = 48 - m by omega]
            simp
          · exact (HL2.out.alloc HL2.out.size _).grown hg3 (by rw [World.size_alloc]; have := HL2.out.size; omega) (fun g e => (HO2.out.lt g e).1)
        case measure => simp [intOf]; omega
    · obtain rfl : u = 48 := by omega
      have HN := hide (scan_over (hE.out.trans (by rw [show 49 - m = (48 - m) + 1 by omega, scan_none recAt_end])))
      by_cases hV0 : V = []
      · exfalso
        have h1 := HN.out.2
        rw [HX.out, hV0] at h1
        exact absurd h1 (by rw [scan_none (show recAt [] gen ((0 : Nat) : Int) 0 = none from recAt_first rfl)]; decide)
      · go_wp2
        go_ret3
        exact ScanR.some_ hV0 HN.out (rows_of_own hO.out hR.out) hl.out
#print axioms scan_any
end Go.Proofs.Ytmjdndhpnckeeaa
