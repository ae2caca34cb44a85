/- A law's bank and its own variables, as one fact that is carried on (Sit); each call by it; what stage 12's laws want of the code's own Home, Write, Read, Alike and Copy (MirK). -/
import Derived.Test.YtgfbndmdndpelaaMirA
import Derived.Test.YtgfbndmdndpelaaMirP
import Derived.Test.YtgfbndmdndpelaaNegP
import Derived.Test.YtgfbndmdndpelaaStepK
namespace Go.Proofs.Ytgfbndmdndpelaa
open Go.RowKit
theorem mplace_zero (w : World) : (zeroValue 33).run Try.prog w = .ok (.agg #[.int .i64 0, .int .i64 0]) w := by kernel_rfl
theorem mplace_info : (Try.prog.info? 33).map (·.size) = some 2 := by kernel_rfl
theorem mplace_one (x y : Int) : ∀ v ∈ [Value.int .i64 x, Value.int .i64 y], v.oneCell' = true := by
  intro v hv
  simp at hv
  rcases hv with rfl | rfl <;> rfl
theorem mplace_built : Try.prog.built 33 [] = some #[.int .i64 0, .int .i64 0] := by kernel_rfl
/-- A place's cells. -/
abbrev plL (d k : Int) : List Value := [.int .i64 d, .int .i64 k]
/-- Blocks of a law's own: each with its type and cells; all lie behind the bank. -/
def OwnV (W : World) (hi : Nat) (V : List (Nat × TypeId × List Value)) : Prop := ∀ (i : Nat) (p : Nat × TypeId × List Value), V[i]? = some p → hi ≤ p.1 ∧ Blk W p.1 p.2.1 p.2.2.toArray
section
variable {W W' : World} {hi : Nat} {V : List (Nat × TypeId × List Value)}
theorem OwnV.blk (h : OwnV W hi V) (i : Nat) {g : Nat} {t : TypeId} {cs : List Value} (e : V[i]? = some (g, t, cs)) : Blk W g t cs.toArray := (h i _ e).2
theorem OwnV.range (h : OwnV W hi V) (i : Nat) {g : Nat} {t : TypeId} {cs : List Value} (e : V[i]? = some (g, t, cs)) : W.rangeAt g 0 cs := fun j v hj => by rw [Nat.zero_add, (h.blk i e).cell j]; simpa using hj
theorem OwnV.nil (W : World) (hi : Nat) : OwnV W hi [] := fun i p e => by simp at e
theorem OwnV.later (h : OwnV W hi V) (hb : Below W.heap.size W W') : OwnV W' hi V := fun i p e => ⟨(h i p e).1, (h i p e).2.below hb (h i p e).2.lt⟩
theorem OwnV.upto {lo : Nat} (h : OwnV W hi V) (hu : Upto lo hi W W') : OwnV W' hi V := fun i p e => ⟨(h i p e).1, (h i p e).2.upto hu (.inl (h i p e).1)⟩
theorem OwnV.add (h : OwnV W hi V) {g : Nat} {t : TypeId} {cs : List Value} (hg : hi ≤ g) (hb : Blk W g t cs.toArray) : OwnV W hi (V ++ [(g, t, cs)]) := fun i p e => by
  rw [List.getElem?_append] at e
  split at e
  · exact h i p e
  · have : p = (g, t, cs) := by
      have h2 : i - V.length = 0 := by
        by_cases hz : i - V.length = 0
        · exact hz
        · rw [List.getElem?_eq_none (by simp; omega)] at e; cases e
      rw [h2] at e
      simpa using e.symm
    rw [this]
    exact ⟨hg, hb⟩
/-- One of them is written over. -/
theorem OwnV.poke (h : OwnV W hi V) (k : Nat) {g : Nat} {t : TypeId} {cs cs' : List Value} (e : V[k]? = some (g, t, cs)) (hne : ∀ i p, V[i]? = some p → i ≠ k → p.1 ≠ g) (hb : Blk W' g t cs'.toArray) (hg : W.grownBy W' (some g)) : OwnV W' hi (V.set k (g, t, cs')) := fun i p ei => by
  rw [List.getElem?_set] at ei
  split at ei
  · split at ei
    · injection ei with ei
      subst ei
      exact ⟨(h k _ e).1, hb⟩
    · cases ei
  · rename_i hik
    obtain ⟨h1, h2⟩ := h i p ei
    exact ⟨h1, h2.grown hg (fun hs => by injection hs with hs; exact hne i p ei (fun e => hik e.symm) hs)⟩
end
/-- A law at work: nothing that was there ahead of it has turned; block b is bank S, below hi; V: its own variables. -/
structure Sit (w0 W : World) (b hi : Nat) (S : Bank) (V : List (Nat × TypeId × List Value)) : Prop where
  low : Below w0.heap.size w0 W
  bank : BankAt W b w0.heap.size hi S
  own : OwnV W hi V
  rise : (V.map (·.1)).Nodup
theorem nodup_other {V : List (Nat × TypeId × List Value)} (h : (V.map (·.1)).Nodup) {i k : Nat} {p q : Nat × TypeId × List Value} (hi : V[i]? = some p) (hk : V[k]? = some q) (hne : i ≠ k) : p.1 ≠ q.1 := by
  intro e
  have h1 : (V.map (·.1))[i]? = some p.1 := by rw [List.getElem?_map, hi]; rfl
  have h2 : (V.map (·.1))[k]? = some p.1 := by rw [List.getElem?_map, hk, e]; rfl
  have hil : i < (V.map (·.1)).length := by
    rcases Nat.lt_or_ge i (V.map (·.1)).length with h | h
    · exact h
    · rw [List.getElem?_eq_none h] at h1; cases h1
  exact hne ((List.getElem?_inj hil h).1 (h1.trans h2.symm))
section
variable {w0 W W' : World} {b hi : Nat} {S S' : Bank} {V : List (Nat × TypeId × List Value)}
theorem Sit.hi_le (h : Sit w0 W b hi S V) : hi ≤ W.heap.size := h.bank.1
theorem Sit.later (h : Sit w0 W b hi S V) (hb : Below W.heap.size W W') : Sit w0 W' b hi S V := ⟨h.low.trans (hb.mono h.low.size), h.bank.later hb, h.own.later hb, h.rise⟩
theorem Sit.drew (h : Sit w0 W b hi S V) : Sit w0 W.drew b hi S V := h.later ((Below.refl _ _).drew)
theorem Sit.turned (h : Sit w0 W b hi S V) (hB : BankAt W' b w0.heap.size hi S') (hu : Upto w0.heap.size hi W W') : Sit w0 W' b hi S' V := ⟨h.low.trans (hu.low (Nat.le_refl _) h.low.size), hB, h.own.upto hu, h.rise⟩
theorem Sit.var (h : Sit w0 W b hi S V) {g : Nat} {t : TypeId} {cs : List Value} (hb : Below W.heap.size W W') (hg : W.heap.size ≤ g) (hk : Blk W' g t cs.toArray) : Sit w0 W' b hi S (V ++ [(g, t, cs)]) :=
  ⟨h.low.trans (hb.mono h.low.size), h.bank.later hb, (h.own.later hb).add (Nat.le_trans h.hi_le hg) hk, by
    rw [List.map_append, List.nodup_append]
    refine ⟨h.rise, by simp, fun a ha c hc e => ?_⟩
    have hc' : c = g := by simpa using hc
    obtain ⟨p, hp, hpa⟩ := List.mem_map.1 ha
    obtain ⟨i, hip⟩ := List.getElem?_of_mem hp
    have hl := (h.own i p hip).2.lt
    omega⟩
/-- A new variable, and what is stored in it. -/
theorem Sit.new {Wa : World} (h : Sit w0 W b hi S V) {t : TypeId} {cs : List Value} (hl : Below W.heap.size W Wa) (hg : Wa.grownBy W' (some W.heap.size)) (hk : Blk W' W.heap.size t cs.toArray) : Sit w0 W' b hi S (V ++ [(W.heap.size, t, cs)]) :=
  h.var (hl.grown hg hl.size (fun g e => by injection e with e; omega)) (Nat.le_refl _) hk
theorem Sit.poke (h : Sit w0 W b hi S V) (k : Nat) {g : Nat} {t : TypeId} {cs cs' : List Value} (e : V[k]? = some (g, t, cs)) (hb : Blk W' g t cs'.toArray) (hg : W.grownBy W' (some g)) : Sit w0 W' b hi S (V.set k (g, t, cs')) :=
  have h1 := (h.own k _ e).1
  have h2 : w0.heap.size ≤ g := by
    obtain ⟨_, _, L, _, h4⟩ := h.bank
    have hq : w0.heap.size ≤ b ∧ b < hi := h4.inside b (.inl rfl)
    omega
  ⟨h.low.grown hg h.low.size (fun x ex => by injection ex with ex; omega), h.bank.grown hg (fun x ex => by injection ex with ex; exact .inr (by omega)), h.own.poke k e (fun i p hi hne => nodup_other h.rise hi e hne) hb hg, by
    have hm : (V.set k (g, t, cs')).map (·.1) = V.map (·.1) := by
      rw [List.map_set]
      apply List.ext_getElem?
      intro j
      rw [List.getElem?_set]
      split
      · rename_i hj
        split
        · rw [← hj, List.getElem?_map, e]; rfl
        · rename_i hl
          rw [List.getElem?_eq_none (by omega)]
      · rfl
    rw [hm]
    exact h.rise⟩
theorem Sit.cut (h : Sit w0 W b hi S V) (n : Nat) : Sit w0 W b hi S (V.take n) := ⟨h.low, h.bank, fun i p e => h.own i p (by
  rw [List.getElem?_take] at e
  split at e
  · exact e
  · cases e), by rw [List.map_take]; exact h.rise.sublist (List.take_sublist _ _)⟩
theorem Sit.ok (h : Sit w0 W b hi S V) : S.Ok := h.bank.ok
/-- From what lies in its blocks to what lies in its span. -/
theorem sit_on (h : Sit w0 W b hi S V) (hB : BankOn W' b (In w0.heap.size hi) S') (hT : Turn (In w0.heap.size hi) W W') : Sit w0 W' b hi S' V := h.turned (hB.at_ (Nat.le_trans h.hi_le hT.size)) hT.upto_in
theorem Sit.write (h : Sit w0 W b hi S V) (hw : S.writes < 4611686018427387904) {di ki : Int} {d k : Nat} (hd : nI di = d) (hk : nI ki = k) (s : Sec) :
    Calls Try.prog 29 #[.pointer (some ⟨b, 0, none⟩), .agg #[.int .i64 di, .int .i64 ki], secV s] W fun e W' => e = .returned (.int .i64 ((S.write d k s).1 : Int)) ∧ Sit w0 W' b hi (S.write d k s).2 V := by
  subst hd hk
  exact (onI_write h.bank.on hw di ki s).mono fun _ _ ⟨he, hB, hT⟩ => ⟨he, sit_on h hB hT⟩
theorem Sit.read (h : Sit w0 W b hi S V) {di ki : Int} {d k : Nat} (hd : nI di = d) (hk : nI ki = k) :
    Calls Try.prog 17 #[.pointer (some ⟨b, 0, none⟩), .agg #[.int .i64 di, .int .i64 ki]] W fun e W' => e = .returned (.tuple #[secV (S.readS d k), .int .i64 (S.place d k : Int)]) ∧ Sit w0 W' b hi S V := by
  subst hd hk
  exact (onI_read h.bank.on di ki).mono fun _ _ ⟨he, hb⟩ => ⟨he, h.later hb⟩
theorem Sit.flush (h : Sit w0 W b hi S V) {di : Int} (d : Nat) (hdi : di = (d : Int)) :
    Calls Try.prog 26 #[.pointer (some ⟨b, 0, none⟩), .int .i64 di] W fun e W' => e = .returned (.int .i64 (S.may d : Int)) ∧ Sit w0 W' b hi (if S.may d = 0 then S.flush d else S) V :=
  hdi ▸ (bank_flush h.bank d).mono fun _ _ ⟨he, hB, hu⟩ => ⟨he, h.turned hB hu⟩
theorem Sit.fail (h : Sit w0 W b hi S V) {di : Int} (d : Nat) (hdi : di = (d : Int)) (hd : d < S.n) :
    Calls Try.prog 30 #[.pointer (some ⟨b, 0, none⟩), .int .i64 di] W fun e W' => e = .returned (.int .i64 0) ∧ Sit w0 W' b hi (S.fail d) V :=
  hdi ▸ (bank_fail h.bank d hd).mono fun _ _ ⟨he, hB, hu⟩ => ⟨he, h.turned hB hu⟩
theorem Sit.failAt (h : Sit w0 W b hi S V) {di : Int} (d : Nat) (hdi : di = (d : Int)) (hd : d < S.n) (n : Int) (a : Nat) (ha : (a : Int) = if 0 < n then n else 0) (ha2 : a < 9223372036854775808) :
    Calls Try.prog 21 #[.pointer (some ⟨b, 0, none⟩), .int .i64 di, .int .i64 n] W fun e W' => e = .returned (.tuple #[]) ∧ Sit w0 W' b hi (S.willFail d a) V :=
  hdi ▸ (bank_failAt h.bank d hd n a ha ha2).mono fun _ _ ⟨he, hB, hu⟩ => ⟨he, h.turned hB hu⟩
theorem Sit.arm (h : Sit w0 W b hi S V) (n : Int) (a m : Nat) (ha : (a : Int) = if 0 < n then n else 0) (ha2 : a < 9223372036854775808) (hm : m < 18446744073709551616) :
    Calls Try.prog 33 #[.pointer (some ⟨b, 0, none⟩), .int .i64 n, .int .u64 (m : Int)] W fun e W' => e = .returned (.tuple #[]) ∧ Sit w0 W' b hi (S.arm a m) V :=
  (bank_arm h.bank n a m ha ha2 hm).mono fun _ _ ⟨he, hB, hu⟩ => ⟨he, h.turned hB hu⟩
theorem Sit.crash (h : Sit w0 W b hi S V) (m : Nat) (hm : m < 18446744073709551616) :
    Calls Try.prog 27 #[.pointer (some ⟨b, 0, none⟩), .int .u64 (m : Int)] W fun e W' => e = .returned (.tuple #[]) ∧ Sit w0 W' b hi (S.crash m) V :=
  (bank_crash h.bank m hm).mono fun _ _ ⟨he, hB, hu⟩ => ⟨he, h.turned hB hu⟩
theorem Sit.start (h : Sit w0 W b hi S V) :
    Calls Try.prog 28 #[.pointer (some ⟨b, 0, none⟩)] W fun e W' => e = .returned (.tuple #[]) ∧ Sit w0 W' b hi S.start V :=
  (bank_start h.bank).mono fun _ _ ⟨he, hB, hu⟩ => ⟨he, h.turned hB hu⟩
theorem Sit.dead (h : Sit w0 W b hi S V) {di : Int} (d : Nat) (hdi : di = (d : Int)) (hd : d < S.n) :
    Calls Try.prog 32 #[.pointer (some ⟨b, 0, none⟩), .int .i64 di] W fun e W' => e = .returned (.bool (S.dead d)) ∧ W = W' := hdi ▸ bank_dead h.bank d hd
end
/-- What Home answers. -/
def homeV (ed ea slot : Int) : Value := if 0 ≤ slot ∧ slot < 8 then .tuple #[.agg #[.int .i64 ed, .int .i64 (ea + slot)], .bool true] else .tuple #[.agg #[.int .i64 0, .int .i64 0], .bool false]
/-- What the code's own calls tell. -/
structure MirK : Prop where
  home_any : ∀ (w : World) (ed ea slot : Int), -9223372036854775808 ≤ ea → ea + 8 ≤ 9223372036854775807 → -9223372036854775808 ≤ slot → slot ≤ 9223372036854775807 →
    Calls Try.prog 19 #[.agg #[.int .i64 ed, .int .i64 ea], .int .i64 slot] w fun e w' => e = .returned (homeV ed ea slot) ∧ Below w.heap.size w w'
  write_any : ∀ (w : World) (b : Nat) (F : Nat → Prop) (S : Bank), BankOn w b F S → S.writes < 4611686018427387000 → ∀ (xd xk yd yk : Int) (s : Sec),
    Calls Try.prog 22 #[.pointer (some ⟨b, 0, none⟩), .agg #[.int .i64 xd, .int .i64 xk], .agg #[.int .i64 yd, .int .i64 yk], secV s] w fun e w' =>
      e = .returned (.int .i64 ((S.mwrite (nI xd) (nI xk) (nI yd) (nI yk) s).1 : Int)) ∧ BankOn w' b F (S.mwrite (nI xd) (nI xk) (nI yd) (nI yk) s).2 ∧ Turn F w w'
  read_any : ∀ (w : World) (b : Nat) (F : Nat → Prop) (S : Bank), BankOn w b F S → ∀ (xd xk yd yk : Int),
    Calls Try.prog 24 #[.pointer (some ⟨b, 0, none⟩), .agg #[.int .i64 xd, .int .i64 xk], .agg #[.int .i64 yd, .int .i64 yk]] w fun e w' =>
      e = .returned (.tuple #[secV (S.mread (nI xd) (nI xk) (nI yd) (nI yk)).1, .int .i64 ((S.mread (nI xd) (nI xk) (nI yd) (nI yk)).2 : Int)]) ∧ Below w.heap.size w w'
  alike_any : ∀ (w : World) (b : Nat) (F : Nat → Prop) (S : Bank), BankOn w b F S → S.writes < 4611686018427387000 → ∀ (xd xk yd yk : Int),
    Calls Try.prog 25 #[.pointer (some ⟨b, 0, none⟩), .agg #[.int .i64 xd, .int .i64 xk], .agg #[.int .i64 yd, .int .i64 yk]] w fun e w' =>
      e = .returned (.tuple #[.bool (S.malike (nI xd) (nI xk) (nI yd) (nI yk)).1.1, .int .i64 ((S.malike (nI xd) (nI xk) (nI yd) (nI yk)).1.2 : Int)]) ∧ BankOn w' b F (S.malike (nI xd) (nI xk) (nI yd) (nI yk)).2 ∧ Turn F w w'
  copy_any : ∀ (w : World) (b : Nat) (F : Nat → Prop) (S : Bank), BankOn w b F S → S.writes < 4611686018427387000 → ∀ (xd xk yd yk : Int),
    Calls Try.prog 31 #[.pointer (some ⟨b, 0, none⟩), .agg #[.int .i64 xd, .int .i64 xk], .agg #[.int .i64 yd, .int .i64 yk]] w fun e w' =>
      e = .returned (.int .i64 ((S.mcopy (nI xd) (nI xk) (nI yd) (nI yk)).1 : Int)) ∧ BankOn w' b F (S.mcopy (nI xd) (nI xk) (nI yd) (nI yk)).2 ∧ Turn F w w'
section
variable {w0 W W' : World} {b hi : Nat} {S S' : Bank} {V : List (Nat × TypeId × List Value)}
theorem Sit.mwrite (h : Sit w0 W b hi S V) (K : MirK) (hw : S.writes < 4611686018427387000) {xd xk yd yk : Int} {d k d' k' : Nat} (h1 : nI xd = d) (h2 : nI xk = k) (h3 : nI yd = d') (h4 : nI yk = k') (s : Sec) :
    Calls Try.prog 22 #[.pointer (some ⟨b, 0, none⟩), .agg #[.int .i64 xd, .int .i64 xk], .agg #[.int .i64 yd, .int .i64 yk], secV s] W fun e W' =>
      e = .returned (.int .i64 ((S.mwrite d k d' k' s).1 : Int)) ∧ Sit w0 W' b hi (S.mwrite d k d' k' s).2 V := by
  subst h1 h2 h3 h4
  exact (K.write_any W b _ S h.bank.on hw xd xk yd yk s).mono fun _ _ ⟨he, hB, hT⟩ => ⟨he, sit_on h hB hT⟩
theorem Sit.mread (h : Sit w0 W b hi S V) (K : MirK) {xd xk yd yk : Int} {d k d' k' : Nat} (h1 : nI xd = d) (h2 : nI xk = k) (h3 : nI yd = d') (h4 : nI yk = k') :
    Calls Try.prog 24 #[.pointer (some ⟨b, 0, none⟩), .agg #[.int .i64 xd, .int .i64 xk], .agg #[.int .i64 yd, .int .i64 yk]] W fun e W' =>
      e = .returned (.tuple #[secV (S.mread d k d' k').1, .int .i64 ((S.mread d k d' k').2 : Int)]) ∧ Sit w0 W' b hi S V := by
  subst h1 h2 h3 h4
  exact (K.read_any W b _ S h.bank.on xd xk yd yk).mono fun _ _ ⟨he, hb⟩ => ⟨he, h.later hb⟩
theorem Sit.malike (h : Sit w0 W b hi S V) (K : MirK) (hw : S.writes < 4611686018427387000) {xd xk yd yk : Int} {d k d' k' : Nat} (h1 : nI xd = d) (h2 : nI xk = k) (h3 : nI yd = d') (h4 : nI yk = k') :
    Calls Try.prog 25 #[.pointer (some ⟨b, 0, none⟩), .agg #[.int .i64 xd, .int .i64 xk], .agg #[.int .i64 yd, .int .i64 yk]] W fun e W' =>
      e = .returned (.tuple #[.bool (S.malike d k d' k').1.1, .int .i64 ((S.malike d k d' k').1.2 : Int)]) ∧ Sit w0 W' b hi (S.malike d k d' k').2 V := by
  subst h1 h2 h3 h4
  exact (K.alike_any W b _ S h.bank.on hw xd xk yd yk).mono fun _ _ ⟨he, hB, hT⟩ => ⟨he, sit_on h hB hT⟩
theorem Sit.mcopy (h : Sit w0 W b hi S V) (K : MirK) (hw : S.writes < 4611686018427387000) {xd xk yd yk : Int} {d k d' k' : Nat} (h1 : nI xd = d) (h2 : nI xk = k) (h3 : nI yd = d') (h4 : nI yk = k') :
    Calls Try.prog 31 #[.pointer (some ⟨b, 0, none⟩), .agg #[.int .i64 xd, .int .i64 xk], .agg #[.int .i64 yd, .int .i64 yk]] W fun e W' =>
      e = .returned (.int .i64 ((S.mcopy d k d' k').1 : Int)) ∧ Sit w0 W' b hi (S.mcopy d k d' k').2 V := by
  subst h1 h2 h3 h4
  exact (K.copy_any W b _ S h.bank.on hw xd xk yd yk).mono fun _ _ ⟨he, hB, hT⟩ => ⟨he, sit_on h hB hT⟩
end
/-- The laws' bank, and nothing beside it. -/
theorem sit_laid (w0 w : World) (h : Below w0.heap.size w0 w) (n : Nat) (hn : n ≤ 8) :
    Calls Try.prog 10 #[.int .i64 (n : Int)] w fun e w' => e = .returned (.pointer (some ⟨w.heap.size, 0, none⟩)) ∧ Sit w0 w' w.heap.size w'.heap.size (LaidN n) [] := by
  refine (laid_any w n hn).mono ?_
  rintro _ w' ⟨rfl, hB, hl⟩
  have hs := h.size
  obtain ⟨h1, h2, L, h3, h4⟩ := hB
  exact ⟨rfl, h.trans (hl.mono hs), ⟨h1, h2, L, h3, h4.wider (fun x hx => ⟨by have := hx.1; omega, hx.2⟩)⟩, OwnV.nil _ _, by simp⟩
#print axioms Sit.mcopy
end Go.Proofs.Ytgfbndmdndpelaa
