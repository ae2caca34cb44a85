/- Texts of the proof laid one behind the other: ZMirT RGat ZOx ParM. -/
import Derived.Test.YtmjjnbabfldbcaaGreatLump8
import Derived.Test.YtmjjnbabfldbcaaGreatLump4
import Derived.Test.YtmjjnbabfldbcaaGreatLump2
import Derived.Test.YtmjjnbabfldbcaaGreatLump1
import Derived.Test.YtmjjnbabfldbcaaGreatLump3
import Derived.Test.YtmjjnbabfldbcaaGreatProg
import Derived.Test.YtmjjnbabfldbcaaGreatParP
import Derived.Test.YtmjjnbabfldbcaaGreatBlk
import Derived.Test.YtmjjnbabfldbcaaGreatStill
import Derived.Test.YtmjjnbabfldbcaaGreatTwoRows
import Derived.Test.YtmjjnbabfldbcaaGreatPoke
import Derived.Test.YtmjjnbabfldbcaaGreatWhen
import Derived.Test.YtmjjnbabfldbcaaGreatStepB
import Derived.StillTailTactics
namespace Go.Proofs.YtmjjnbabfldbcaaGreat
open Go.RowKit
set_option linter.unusedVariables false
theorem vars_add {V : List (Nat × TypeId × List Value)} {g : Nat} {t : TypeId} {cs : List Value} {p : Nat → Prop} (h : ∀ (i : Nat) (q : Nat × TypeId × List Value), V[i]? = some q → p q.1) (hg : p g) : ∀ (i : Nat) (q : Nat × TypeId × List Value), (V ++ [(g, t, cs)])[i]? = some q → p q.1 := fun i q e => by
  rw [List.getElem?_append] at e
  split at e
  · exact h i q e
  · by_cases hz : i - V.length = 0
    · rw [hz] at e
      have : q = (g, t, cs) := by simpa using e.symm
      rw [this]
      exact hg
    · rw [List.getElem?_eq_none (by simp; omega)] at e; cases e
theorem OwnV.turned {W W' : World} {V : List (Nat × TypeId × List Value)} {F : Nat → Prop} (h : OwnV W 0 V) (hT : Turn F W W') (hn : ∀ (i : Nat) (p : Nat × TypeId × List Value), V[i]? = some p → ¬ F p.1) : OwnV W' 0 V := fun i p e => ⟨Nat.zero_le _, (h i p e).2.turned hT (hn i p e)⟩
theorem nodup_add {W : World} {hi g : Nat} {t : TypeId} {cs : List Value} {V : List (Nat × TypeId × List Value)} (h : (V.map (·.1)).Nodup) (ho : OwnV W hi V) (hg : W.heap.size ≤ g) : ((V ++ [(g, t, cs)]).map (·.1)).Nodup := by
  rw [List.map_append, List.nodup_append]
  refine ⟨h, by simp, fun a ha c hc e => ?_⟩
  have hc' : c = g := by simpa using hc
  obtain ⟨p, hp, hpa⟩ := List.mem_map.1 ha
  obtain ⟨i, hip⟩ := List.getElem?_of_mem hp
  have hl := (ho i p hip).2.lt
  omega
structure Rit (w0 W : World) (r : Nat) (G : Nat → Prop) (S : Bank) (V : List (Nat × TypeId × List Value)) : Prop where
  ex : ∃ G' : Nat → Prop, RefOn W r G' S ∧ (∀ x, G' x → G x ∨ w0.heap.size ≤ x) ∧ ∀ (i : Nat) (p : Nat × TypeId × List Value), V[i]? = some p → ¬ G' p.1
  turn : Turn G w0 W
  own : OwnV W 0 V
  rise : (V.map (·.1)).Nodup
  past : ∀ (i : Nat) (p : Nat × TypeId × List Value), V[i]? = some p → w0.heap.size ≤ p.1
section
variable {w0 W W' : World} {r : Nat} {G : Nat → Prop} {S S' : Bank} {V : List (Nat × TypeId × List Value)}
theorem Rit.begin (h : RefOn w0 r G S) : Rit w0 w0 r G S [] := ⟨⟨G, h, fun x hx => .inl hx, fun i p e => by simp at e⟩, Turn.refl _ _, OwnV.nil _ _, by simp, fun i p e => by simp at e⟩
theorem Rit.later (h : Rit w0 W r G S V) (hb : Below W.heap.size W W') : Rit w0 W' r G S V := by
  obtain ⟨⟨G', h1, h2, h3⟩, h4, h5, h6, h7⟩ := h
  exact ⟨⟨G', h1.later hb, h2, h3⟩, h4.below hb, h5.later hb, h6, h7⟩
theorem Rit.drew (h : Rit w0 W r G S V) : Rit w0 W.drew r G S V := h.later ((Below.refl _ _).drew)
theorem Rit.var (h : Rit w0 W r G S V) {g : Nat} {t : TypeId} {cs : List Value} (hb : Below W.heap.size W W') (hg : W.heap.size ≤ g) (hk : Blk W' g t cs.toArray) : Rit w0 W' r G S (V ++ [(g, t, cs)]) := by
  obtain ⟨⟨G', h1, h2, h3⟩, h4, h5, h6, h7⟩ := h
  have hs := h4.size
  exact ⟨⟨G', h1.later hb, h2, vars_add (p := fun x => ¬ G' x) h3 (fun hx => absurd (h1.1 g hx) (by omega))⟩, h4.below hb, (h5.later hb).add (Nat.zero_le _) hk, nodup_add h6 h5 hg, vars_add (p := fun x => w0.heap.size ≤ x) h7 (by omega)⟩
theorem Rit.new {Wa : World} (h : Rit w0 W r G S V) {t : TypeId} {cs : List Value} (hl : Below W.heap.size W Wa) (hg : Wa.grownBy W' (some W.heap.size)) (hk : Blk W' W.heap.size t cs.toArray) : Rit w0 W' r G S (V ++ [(W.heap.size, t, cs)]) :=
  h.var (hl.grown hg hl.size (fun g e => by injection e with e; omega)) (Nat.le_refl _) hk
theorem Rit.fin (h : Rit w0 W r G S V) (hl : ∀ x, G x → x < w0.heap.size) : RefOn W r (More G w0 W) S ∧ Turn G w0 W := by
  obtain ⟨⟨G', h1, h2, h3⟩, h4, h5, _, _⟩ := h
  have hs := h4.size
  obtain ⟨k1, k2, R, k3, k4⟩ := h1
  refine ⟨⟨fun x hx => hx.elim (fun q => Nat.lt_of_lt_of_le (hl x q) hs) (fun q => q.2), k2, R, k3, fun x hx => ?_⟩, h4⟩
  exact (h2 x (k4 x hx)).imp id (fun q => ⟨q, k1 x (k4 x hx)⟩)
/-- A call that turns the document's bank. -/
theorem Rit.call (h : Rit w0 W r G S V) {R : Ending → Prop} {f : FuncId} {args : Array Value} (hc : ∀ G', RefOn W r G' S → Calls Tryz.prog f args W fun e W' => R e ∧ RefOn W' r (More G' W W') S' ∧ Turn G' W W') : Calls Tryz.prog f args W fun e W' => R e ∧ Rit w0 W' r G S' V := by
  obtain ⟨⟨G', h1, h2, h3⟩, h4, h5, h6, h7⟩ := h
  refine (hc G' h1).mono ?_
  rintro e W' ⟨he, hB, hT⟩
  have hs := h4.size
  refine ⟨he, ⟨_, hB, fun x hx => ?_, fun i p e hx => ?_⟩, ⟨hT.os.trans h4.os, hT.tape.trans h4.tape, hT.output.trans h4.output, Nat.le_trans hs hT.size, fun i hi hn => ?_⟩, h5.turned hT h3, h6, h7⟩
  · rcases hx with hx | hx
    · exact h2 x hx
    · exact .inr (by omega)
  · rcases hx with hx | hx
    · exact h3 i p e hx
    · have := (h5 i p e).2.lt
      omega
  · exact (hT.block i (Nat.lt_of_lt_of_le hi hs) (fun q => (h2 i q).elim hn (fun q => by omega))).trans (h4.block i hi hn)
theorem Rit.write (h : Rit w0 W r G S V) (hw : S.writes < 4611686018427387904) {di ki : Int} {d k : Nat} (hd : nI di = d) (hk : nI ki = k) (s : Sec) :
    Calls Tryz.prog 35 #[.pointer (some ⟨r, 0, none⟩), .agg #[.int .i64 di, .int .i64 ki], secV s] W fun e W' => e = .returned (.int .i64 ((S.write d k s).1 : Int)) ∧ Rit w0 W' r G (S.write d k s).2 V := by
  subst hd hk
  exact h.call (fun G' hB => rOnI_write hB hw di ki s)
end
/-- The same for the code's bank. -/
structure Cit (w0 W : World) (b : Nat) (F : Nat → Prop) (S : Bank) (V : List (Nat × TypeId × List Value)) : Prop where
  bank : BankOn W b F S
  turn : Turn F w0 W
  own : OwnV W 0 V
  off : ∀ (i : Nat) (p : Nat × TypeId × List Value), V[i]? = some p → ¬ F p.1
  rise : (V.map (·.1)).Nodup
  past : ∀ (i : Nat) (p : Nat × TypeId × List Value), V[i]? = some p → w0.heap.size ≤ p.1
section
variable {w0 W W' : World} {b : Nat} {F : Nat → Prop} {S S' : Bank} {V : List (Nat × TypeId × List Value)}
end
end Go.Proofs.YtmjjnbabfldbcaaGreat
namespace Go.Proofs.YtmjjnbabfldbcaaGreat
open Go.RowKit
set_option linter.unusedVariables false
theorem rlost_any (e : Nat) (w : World) : Calls Tryz.prog 66 #[.int .i64 (e : Int)] w fun x w' => x = .returned (.bool (lostB e)) ∧ w = w' := by
  by_cases h8 : e = 8
  · subst h8
    go_enter Tryz.func66, Tryz.ntmps66
    go_wp2
    go_ret
    exact ⟨rfl, rfl⟩
  · by_cases h7 : e = 7
    · subst h7
      go_enter Tryz.func66, Tryz.ntmps66
      go_wp2
      go_ret
      exact ⟨rfl, rfl⟩
    · have hL : lostB e = false := by unfold lostB; simp [h8, h7]
      rw [hL]
      have n8 : ¬ ((e : Int) = 8) := by omega
      have n7 : ¬ ((e : Int) = 7) := by omega
      clear h8 h7 hL
      go_enter Tryz.func66, Tryz.ntmps66
      go_wp2
      go_ret
      exact ⟨by simp [n8, n7], rfl⟩
theorem gsec_size (s : Sec) : (Tryz.prog.info? 43).map (·.size) = some (secL s).length := by rw [secL_length]; exact sec_info
theorem gsec_len (s t : Sec) : (secL s).length = (secV t).cells.size := (secL_length s).trans (secL_length t).symm
theorem gsec_parts : (Tryz.prog.info? 43).map (fun i => (i.zero, i.size, i.bytes)) = some (some (secV zeroSec), 64, 64) := by kernel_rfl
/-- Sectors, one behind the other, as cells. -/
def gD (L : List Sec) : List Value := B8 (rawS L).flatten
theorem gD_push (L : List Sec) (s : Sec) : gD (L ++ [s]) = gD L ++ secL s := by
  unfold gD
  rw [rawS_append, List.flatten_append, B8_append]
  simp [rawS, secL]
/-- A row of sectors of the call's own. -/
def SecOwn (w : World) (base : Nat) (A : Option Addr) (n c : Nat) (L : List Sec) : Prop := w.ownsRow base 43 64 (.slice A n c) n (gD L)
theorem wpList_noneG {ops : Array Oper} {rest : List Oper} {o : Oper} {ac : Act} {w : World} {Q : Exit → Act → World → Prop} (hgd : o.guard = none) (ho : o.op = .buildSlice 56 0 #[])
    (h : wpList Tryz.prog ops Q rest (ac.put o.dst (.slice (some ⟨w.heap.size, 0, none⟩) 0 0)) (w.alloc (.cells #[] 43))) : wpList Tryz.prog ops Q (o :: rest) ac w :=
  wpList_plain hgd fun _ hK => by
    have hrun : (Instr.buildSlice 56 0 #[]).run Tryz.prog w = .ok (.slice (some ⟨w.heap.size, 0, none⟩) 0 0) (w.alloc (.cells #[] 43)) := by kernel_rfl
    unfold Oper.wp
    simp [execOp, ho, hrun, Result.andThen]
    exact hK _ _ h
theorem wpList_pushG {ops : Array Oper} {rest : List Oper} {o : Oper} {a : Act} {Q : Exit → Act → World → Prop} {w w0 : World} (hgd : o.guard = none) (s x : Operand) (ho : o.op = .call { callee := .builtin .append, args := #[s, x], argTypes := #[56, 56] })
    (base : Nat) (A : Option Addr) (n c : Nat) (L : List Sec) (p : Sec) (hs : a.eval s = .slice A n c) (hown : SecOwn w0 base A n c L) (hw : w = w0.alloc (.cells (secL p).toArray 43)) (hx : a.eval x = .slice (some ⟨w0.heap.size, 0, none⟩) 1 1) (hn : n ≤ 1000000) (hb : base ≤ w0.heap.size)
    (h : ∀ A' c' w', SecOwn w' base A' (n + 1) c' (L ++ [p]) → Below base w0 w' → wpList Tryz.prog ops Q rest (a.put o.dst (.slice A' (n + 1) c')) w') : wpList Tryz.prog ops Q (o :: rest) a w := by
  obtain ⟨i0, hi0, hz0, hz1, hz2⟩ := info_parts gsec_parts
  subst hw
  refine wpList_append_any _ hgd s x 56 ho base 43 i0 _ 64 64 Tryz.underlying56 hi0 hz0 hz1 hz2 (secL_length zeroSec) (by decide) _ n _ hs (own_later hown ((Below.refl _ _).alloc (Nat.le_refl _) _)) (w0.heap.size + 1) _ 1 1 (secL p) hx (Reads.lump _ (secL p) _ _ 64 (by omega) (by rw [secL_length])) (secL_one p) (by simp only [maxLen]; omega) (by omega) (le_alloc hb _) ?_
  intro v' w' ho' hl'
  obtain ⟨A', c', rfl, _, _⟩ := own_shape ho'
  refine h A' c' w' ?_ (((Below.refl _ _).alloc hb _).trans hl')
  unfold SecOwn
  rw [gD_push]
  exact ho'
theorem wpList_oneG {ops : Array Oper} {rest : List Oper} {o : Oper} {a : Act} {Q : Exit → Act → World → Prop} {w : World} (hgd : o.guard = none) (x : Operand) (ho : o.op = .buildSlice 56 1 #[(0, x)]) (u : Sec) (hx : a.eval x = .agg (secL u).toArray)
    (h : wpList Tryz.prog ops Q rest (a.put o.dst (.slice (some ⟨w.heap.size, 0, none⟩) 1 1)) (w.alloc (.cells (secL u).toArray 43))) : wpList Tryz.prog ops Q (o :: rest) a w := by
  obtain ⟨i0, hi0, hz0, hz1, hz2⟩ := info_parts gsec_parts
  exact wpList_build_agg _ hgd x 56 ho 43 i0 _ 64 Tryz.underlying56 hi0 (sec_zero _) hz1 (by decide) (by decide) (secL u).toArray hx (by rw [List.size_toArray, secL_length]) h
section
variable {w : World} {r : Nat} {S : Bank} {G : Nat → Prop} {A : Option Addr} {n c : Nat} {L : List PlI}
set_option maxRecDepth 100000 in
set_option maxHeartbeats 8000000 in
/-- Many places read over the document's bank. -/
theorem rgather_any (h : RefOn w r G S) (hr : Reads w w.heap.size 2 A n (plsL L)) (hn : n ≤ 1000) :
    Calls Tryz.prog 68 #[.pointer (some ⟨r, 0, none⟩), .slice A n c] w fun e w' => ∃ A' m c', e = .returned (.tuple #[.slice A' m c', .int .i64 (S.gatherE L : Int)]) ∧ (S.gatherE L = 0 → m = n ∧ SecOwn w' w.heap.size A' m c' (L.map S.readP)) ∧ Below w.heap.size w w' := by
  have hl : L.length = n := reads_len hr
  have HR := hide hr
  have HB0 := hide h
  have HLL := hide hl
  clear hr h hl
  go_enter Tryz.func68, Tryz.ntmps68
  go_wp2_with (first
    | ((with_reducible refine at_slot 12 ?_); refine wpList_noneG rfl rfl ?_))
  go_loopw [6, 7, 8] (fun s6 s7 s8 wr => ∃ (k m : Nat) (A1 : Option Addr) (c1 : Nat), k ≤ n ∧ m ≤ k ∧ s8 = .int .i64 (k : Int) ∧ s7 = .int .i64 (S.goneP (L.take k) : Int) ∧ s6 = .slice A1 m c1 ∧ Hid ((S.hasP (L.take k)).length = m) ∧ Hid (SecOwn wr w.heap.size A1 m c1 (S.hasP (L.take k))) ∧ Hid (S.badP (L.take k) = 0) ∧ Hid (Below w.heap.size w wr)) (fun _ _ s8 _ => n - (intOf s8).toNat)
  case atStart => exact ⟨0, 0, _, _, Nat.zero_le _, Nat.le_refl _, rfl, rfl, rfl, hide rfl, hide (World.ownsRow_made w #[] 0 (Nat.le_refl _) (Nat.zero_le _) rfl), hide rfl, hide ((Below.refl _ _).alloc (Nat.le_refl _) _)⟩
  case round =>
    obtain ⟨k, m, A1, c1, hk, hmk, rfl, rfl, rfl, HM, HO, HZ, HL⟩ := hrel
    by_cases hkn : k < n
    · have hki : (k : Int) < (n : Int) := by omega
      obtain ⟨p, hp⟩ : ∃ p, L[k]? = some p := ⟨_, List.getElem?_eq_getElem (by rw [HLL.out]; exact hkn)⟩
      have htk : L.take (k + 1) = L.take k ++ [p] := by rw [List.take_add_one, hp]; rfl
      have HTK := hide htk
      obtain ⟨ad, rfl, hab, d0, d1⟩ := (HR.out.below HL.out).pl_at hp
      obtain ⟨e, he⟩ : ∃ e, S.placeP p = e := ⟨_, rfl⟩
      obtain ⟨s, hs⟩ : ∃ s, S.readP p = s := ⟨_, rfl⟩
      have HRD := hide (show ∀ (W : World), Below w.heap.size w W → Calls Tryz.prog 14 #[.pointer (some ⟨r, 0, none⟩), .agg (plC p).toArray] W fun x W' => x = .returned (.tuple #[secV s, .int .i64 (e : Int)]) ∧ Below W.heap.size W W' from fun W hb => by
        rw [← he, ← hs]
        exact rOnI_read (HB0.out.later hb) p.1 p.2)
      obtain ⟨v1, hv1⟩ : ∃ v1, v1 = wr := ⟨_, rfl⟩
      rw [← hv1] at HO HL d0 d1 ⊢
      clear hv1
      by_cases he0 : e = 0
      · subst he0
        have hG : S.goneP (L.take (k + 1)) = S.goneP (L.take k) := by rw [htk, gone_snoc, if_pos he]; rfl
        have hH : S.hasP (L.take (k + 1)) = S.hasP (L.take k) ++ [s] := by rw [htk, has_snoc, if_pos he, hs]
        have hZ : S.badP (L.take (k + 1)) = 0 := by rw [htk, bad_snoc HZ.out, if_pos (.inl he)]
        have HH := hide hH
        have HGG := hide hG
        have HZ2 := hide hZ
        clear hG hH hZ he hs hp htk
        go_wp2_with (first
          | ((with_reducible refine at_slot 24 ?_); refine wpList_load_at rfl 47 (.tmp 23) rfl (ad.add (k * 2)) rfl (plC p) _ (pl_cells d0 d1) Tryz.underlying47 rfl pl_info ?_)
          | (go_at_call 14; refine (HRD.out _ HL.out).mono ?_; rintro _ w2 ⟨rfl, hl2⟩; have HL2 := hide (HL.out.trans (hl2.mono HL.out.size)); have HO2 := hide (own_later HO.out hl2); clear hl2)
          | ((with_reducible refine at_slot 9 ?_); refine wpList_alloc_blk rfl 43 rfl _ (sec_zero _) ?_; intro w3 hbq hl1 hs1; clear hs1)
          | ((with_reducible refine at_store 9 ?_); refine wpList_store_all rfl 43 (.tmp 9) (.tmp 26) rfl w2.heap.size 43 _ hbq rfl (secL s) rfl (gsec_size _) (gsec_len _ _) (secL_one _) ?_; intro w4 hbz hg hs4; have hlw : Below w2.heap.size w2 w4 := hl1.grown hg hl1.size (fun g e => by injection e with e; omega); have HL4 := hide (HL2.out.trans (hlw.mono HL2.out.size)); have HO4 := hide (own_later HO2.out hlw); clear hbq hl1 hlw hs4 hg)
          | ((with_reducible refine at_slot 31 ?_); refine wpList_load_blk rfl 43 (.tmp 9) rfl w2.heap.size 0 43 _ hbz rfl (secL s) _ (fun j v hj => by rw [Nat.zero_add]; simpa using hj) Tryz.underlying43 rfl (gsec_size _) ?_)
          | ((with_reducible refine at_slot 32 ?_); refine wpList_oneG rfl (.tmp 31) rfl s rfl ?_)
          | ((with_reducible refine at_slot 33 ?_); refine wpList_pushG rfl (.tmp 30) (.tmp 32) rfl w.heap.size A1 m c1 (S.hasP (L.take k)) s rfl HO4.out rfl rfl (by omega) HL4.out.size ?_; intro A3 c3 w5 ho3 hl3; have HO5 := hide (HH.out ▸ ho3); have HL5 := hide (HL4.out.trans hl3); clear ho3 hl3))
        go_roundw
        case rel => exact ⟨k + 1, m + 1, A3, c3, by omega, by omega, by simp, by rw [HGG.out], rfl, hide (by rw [HH.out, List.length_append, HM.out]; rfl), HO5, HZ2, HL5⟩
        case measure => simp [intOf]; omega
      · have hc0 : ¬ (e : Int) = 0 := by omega
        have hc1 : ((e : Int) == 0) = false := by simpa using hc0
        have hpn : ¬ S.placeP p = 0 := by rw [he]; exact he0
        by_cases hlo : lostB e = true
        · have HLO := hide (fun w => hlo ▸ rlost_any e w)
          have hG : S.goneP (L.take (k + 1)) = S.goneP (L.take k) + 1 := by rw [htk, gone_snoc, if_neg hpn]
          have hH : S.hasP (L.take (k + 1)) = S.hasP (L.take k) := by rw [htk, has_snoc, if_neg hpn, List.append_nil]
          have hZ : S.badP (L.take (k + 1)) = 0 := by rw [htk, bad_snoc HZ.out, if_pos (.inr (by rw [he]; exact hlo))]
          have hgb : S.goneP (L.take k) ≤ 1000 := Nat.le_trans (gone_le _) (by rw [List.length_take]; omega)
          obtain ⟨q, hq⟩ : ∃ q, S.goneP (L.take k) = q := ⟨_, rfl⟩
          rw [hq] at hG hgb ⊢
          have HH := hide hH
          have HGG := hide hG
          have HZ2 := hide hZ
          clear hG hH hZ he hs hp htk hpn hlo he0 hq
          go_wp2_with (first
            | ((with_reducible refine at_slot 24 ?_); refine wpList_load_at rfl 47 (.tmp 23) rfl (ad.add (k * 2)) rfl (plC p) _ (pl_cells d0 d1) Tryz.underlying47 rfl pl_info ?_)
            | (go_at_call 14; refine (HRD.out _ HL.out).mono ?_; rintro _ w2 ⟨rfl, hl2⟩; have HL2 := hide (HL.out.trans (hl2.mono HL.out.size)); have HO2 := hide (own_later HO.out hl2); clear hl2)
            | ((with_reducible refine at_slot 9 ?_); refine wpList_alloc_blk rfl 43 rfl _ (sec_zero _) ?_; intro w3 hbq hl1 hs1; clear hs1)
            | ((with_reducible refine at_store 9 ?_); refine wpList_store_all rfl 43 (.tmp 9) (.tmp 26) rfl w2.heap.size 43 _ hbq rfl (secL s) rfl (gsec_size _) (gsec_len _ _) (secL_one _) ?_; intro w4 hbz hg hs4; have hlw : Below w2.heap.size w2 w4 := hl1.grown hg hl1.size (fun g e => by injection e with e; omega); have HL4 := hide (HL2.out.trans (hlw.mono HL2.out.size)); have HO4 := hide (own_later HO2.out hlw); clear hbq hl1 hlw hs4 hg)
            | (go_at_call 66; refine (HLO.out _).mono ?_; rintro _ _ ⟨rfl, rfl⟩))
          go_roundw
          case rel => exact ⟨k + 1, m, A1, c1, by omega, by omega, by simp, by rw [HGG.out]; simp, rfl, hide (by rw [HH.out]; exact HM.out), hide (by rw [HH.out]; exact HO4.out), HZ2, HL4⟩
          case measure => simp [intOf]; omega
        · have hlo2 : lostB e = false := by simpa using hlo
          have HLO := hide (fun w => hlo2 ▸ rlost_any e w)
          have hZ : S.badP L = e := by
            have h1 : S.badP (L.take (k + 1)) = e := by rw [htk, bad_snoc HZ.out, if_neg (by rw [he]; exact fun q => q.elim he0 hlo), he]
            have h2 := bad_more (S := S) (l := L.take (k + 1)) (L.drop (k + 1)) (by rw [h1]; exact he0)
            rw [List.take_append_drop, h1] at h2
            exact h2
          have hE : S.gatherE L = e := by
            unfold Bank.gatherE
            rw [if_neg (by rw [hZ]; exact he0), hZ]
          have HEE := hide hE
          have HE0 := hide he0
          clear hZ he hs hp htk hpn hlo hlo2 he0 hE
          go_wp2_with (first
            | ((with_reducible refine at_slot 24 ?_); refine wpList_load_at rfl 47 (.tmp 23) rfl (ad.add (k * 2)) rfl (plC p) _ (pl_cells d0 d1) Tryz.underlying47 rfl pl_info ?_)
            | (go_at_call 14; refine (HRD.out _ HL.out).mono ?_; rintro _ w2 ⟨rfl, hl2⟩; have HL2 := hide (HL.out.trans (hl2.mono HL.out.size)); clear hl2)
            | ((with_reducible refine at_slot 9 ?_); refine wpList_alloc_blk rfl 43 rfl _ (sec_zero _) ?_; intro w3 hbq hl1 hs1; clear hs1)
            | ((with_reducible refine at_store 9 ?_); refine wpList_store_all rfl 43 (.tmp 9) (.tmp 26) rfl w2.heap.size 43 _ hbq rfl (secL s) rfl (gsec_size _) (gsec_len _ _) (secL_one _) ?_; intro w4 hbz hg hs4; have hlw : Below w2.heap.size w2 w4 := hl1.grown hg hl1.size (fun g e => by injection e with e; omega); have HL4 := hide (HL2.out.trans (hlw.mono HL2.out.size)); clear hbq hl1 hlw hs4 hg)
            | (go_at_call 66; refine (HLO.out _).mono ?_; rintro _ _ ⟨rfl, rfl⟩))
          go_ret2
          exact ⟨none, 0, 0, by rw [HEE.out]; rfl, fun q => absurd (HEE.out.symm.trans q) HE0.out, HL4.out⟩
    · have hki : ¬ (k : Int) < (n : Int) := by omega
      have htk : L.take k = L := List.take_of_length_le (by rw [HLL.out]; omega)
      rw [htk] at HM HO HZ ⊢
      have HAL := hide (fun (q : S.goneP L = 0) => has_all q)
      have HGE := hide (show S.gatherE L = if S.goneP L = 0 then 0 else 5 from if_pos HZ.out)
      obtain ⟨q, hq⟩ : ∃ q, S.goneP L = q := ⟨_, rfl⟩
      rw [hq] at HGE HAL ⊢
      by_cases hq0 : q = 0
      · subst hq0
        have HG0 := hide (HGE.out.trans (if_pos rfl))
        have hgt : ¬ (((0 : Nat) : Int) > 0) := by omega
        clear hq htk
        go_wp2
        go_ret2
        refine ⟨_, _, _, by rw [HG0.out]; rfl, fun _ => ⟨?_, ?_⟩, HL.out⟩
        · rw [← HM.out, HAL.out (by trivial), List.length_map, HLL.out]
        · rw [← HAL.out (by trivial)]
          exact HO.out
      · have HG0 := hide (HGE.out.trans (if_neg hq0))
        have hgt : (q : Int) > 0 := by omega
        clear hq htk
        go_wp2
        go_ret2
        exact ⟨none, 0, 0, by rw [HG0.out]; rfl, fun z => absurd (HG0.out.symm.trans z) (by decide), HL.out⟩
end
end Go.Proofs.YtmjjnbabfldbcaaGreat
namespace Go.Proofs.YtmjjnbabfldbcaaGreat
open Go.RowKit
set_option linter.unusedVariables false
section
variable {w : World} {A : Option Addr} {n c : Nat} {X : List PlI}
theorem strE_at {n : Nat} {t : Int} (h : strE n t = 0) : ∃ k : Nat, t = (k : Int) ∧ k < 8 ∧ 2 ≤ n := by
  obtain ⟨h1, h2, h3⟩ := strE_ok h
  exact ⟨t.toNat, by omega, by omega, h1⟩
theorem homeE_at {n : Nat} {s : Int} (h : homeE n s = 0) : ∃ k : Nat, s = (k : Int) ∧ k < slotsN n ∧ 2 ≤ n := by
  obtain ⟨h1, h2, h3⟩ := homeE_ok h
  exact ⟨s.toNat, by omega, by omega, h1⟩
theorem refParR (h : XtIn w A n c X) (t : Int) : Calls Tryz.prog 33 #[.slice A n c, .int .i64 t] w fun e w' => e = .returned (.tuple #[.agg (plC (parR X n t)).toArray, .int .i64 (strE n t : Int)]) ∧ Below w.heap.size w w' := by
  have hn := h.few
  by_cases he : strE n t = 0
  · obtain ⟨k, rfl, hk, hn2⟩ := strE_at he
    unfold parR
    rw [if_pos he, he]
    exact refPar_yes h.reads h.small (by omega) hn2 hk
  · unfold parR
    rw [if_neg he]
    exact refPar_no t (by omega) he w
theorem refMatesR (h : XtIn w A n c X) (s : Int) : Calls Tryz.prog 67 #[.slice A n c, .int .i64 s] w fun e w' => ∃ A' m c', e = .returned (.tuple #[.slice A' m c', .int .i64 (homeE n s : Int)]) ∧ Reads w' w'.heap.size 2 A' m (plsL (matesR X n s)) ∧ m ≤ c' ∧ c' ≤ 9223372036854775807 ∧ Below w.heap.size w w' := by
  have hn := h.few
  by_cases he : homeE n s = 0
  · obtain ⟨k, rfl, hk, hn2⟩ := homeE_at he
    unfold matesR
    rw [if_pos he, he]
    refine (refMates_yes (c := c) h.reads h.small (by omega) hn2 hk).mono ?_
    rintro _ w' ⟨A', c', rfl, ho, hb⟩
    obtain ⟨_, _, e, h1, h2⟩ := own_shape ho
    injection e with e1 e2 e3
    subst e3
    exact ⟨A', n - 1, c', rfl, Reads.of_own ho, h1, by simpa [maxLen] using h2, hb⟩
  · unfold matesR
    rw [if_neg he]
    refine (refMates_no (c := c) s h.reads h.small (by omega) he).mono ?_
    rintro _ w' ⟨rfl, hb⟩
    exact ⟨none, 0, 0, rfl, ⟨rfl, fun h => by omega⟩, Nat.le_refl _, by decide, hb⟩
end
structure Rox (w0 W : World) (V : List (Nat × TypeId × List Value)) (A : Option Addr) (n c : Nat) (X : List PlI) : Prop where
  low : Below w0.heap.size w0 W
  own : OwnV W w0.heap.size V
  rise : (V.map (·.1)).Nodup
  row : Reads W w0.heap.size 2 A n (plsL X)
  small : SmallX X
  few : n ≤ 12
  cap : n ≤ c
  max : c ≤ 9223372036854775807
section
variable {w0 W W' : World} {n c : Nat} {V : List (Nat × TypeId × List Value)} {A : Option Addr} {X : List PlI}
theorem Rox.ask (h : XtIn w0 A n c X) : Rox w0 w0 [] A n c X := ⟨Below.refl _ _, OwnV.nil _ _, by simp, h.reads, h.small, h.few, h.cap, h.max⟩
theorem Rox.later (h : Rox w0 W V A n c X) (hb : Below W.heap.size W W') : Rox w0 W' V A n c X := ⟨h.low.trans (hb.mono h.low.size), h.own.later hb, h.rise, h.row.below (hb.mono h.low.size), h.small, h.few, h.cap, h.max⟩
theorem Rox.var (h : Rox w0 W V A n c X) {g : Nat} {t : TypeId} {cs : List Value} (hb : Below W.heap.size W W') (hg : W.heap.size ≤ g) (hk : Blk W' g t cs.toArray) : Rox w0 W' (V ++ [(g, t, cs)]) A n c X :=
  ⟨h.low.trans (hb.mono h.low.size), (h.own.later hb).add (Nat.le_trans h.low.size hg) hk, by
    rw [List.map_append, List.nodup_append]
    refine ⟨h.rise, by simp, fun a ha c hc e => ?_⟩
    have hc' : c = g := by simpa using hc
    obtain ⟨p, hp, hpa⟩ := List.mem_map.1 ha
    obtain ⟨i, hip⟩ := List.getElem?_of_mem hp
    have hl := (h.own i p hip).2.lt
    omega, h.row.below (hb.mono h.low.size), h.small, h.few, h.cap, h.max⟩
theorem Rox.new {Wa : World} (h : Rox w0 W V A n c X) {t : TypeId} {cs : List Value} (hl : Below W.heap.size W Wa) (hg : Wa.grownBy W' (some W.heap.size)) (hk : Blk W' W.heap.size t cs.toArray) : Rox w0 W' (V ++ [(W.heap.size, t, cs)]) A n c X :=
  h.var (hl.grown hg hl.size (fun g e => by injection e with e; omega)) (Nat.le_refl _) hk
theorem ymap_same {V : List (Nat × TypeId × List Value)} {k g : Nat} {t : TypeId} {cs cs' : List Value} (e : V[k]? = some (g, t, cs)) : (V.set k (g, t, cs')).map (·.1) = V.map (·.1) := by
  rw [List.map_set]
  apply List.ext_getElem?
  intro j
  rw [List.getElem?_set]
  split
  · rename_i hj
    split
    · rw [← hj, List.getElem?_map, e]; rfl
    · rename_i hl
      rw [List.getElem?_eq_none (by omega)]
  · rfl
theorem Rox.poke (h : Rox w0 W V A n c X) (k : Nat) {g : Nat} {t : TypeId} {cs cs' : List Value} (e : V[k]? = some (g, t, cs)) (_hne : 64 ≠ t) (hb : Blk W' g t cs'.toArray) (hg : W.grownBy W' (some g)) : Rox w0 W' (V.set k (g, t, cs')) A n c X :=
  ⟨h.low.grown hg h.low.size (fun x ex => by injection ex with ex; rw [← ex]; exact (h.own k _ e).1), h.own.poke k e (fun i p hi hne => nodup_other h.rise hi e hne) hb hg, by rw [ymap_same e]; exact h.rise, h.row.grown hg h.low.size (fun x ex => by injection ex with ex; rw [← ex]; exact (h.own k _ e).1), h.small, h.few, h.cap, h.max⟩
theorem Rox.in_ (h : Rox w0 W V A n c X) : XtIn W A n c X := ⟨h.row.more h.low.size, h.small, h.few, h.cap, h.max⟩
theorem Rox.rhome (h : Rox w0 W V A n c X) (slot : Int) : Calls Tryz.prog 32 #[.slice A n c, .int .i64 slot] W fun e W' => e = .returned (.tuple #[.agg (plC (homeR X n slot)).toArray, .int .i64 (homeE n slot : Int)]) ∧ Rox w0 W' V A n c X :=
  (refHome_any (c := c) slot h.in_.reads h.small (by have := h.few; omega)).mono fun _ _ ⟨he, hb⟩ => ⟨he, h.later hb⟩
theorem Rox.rpar (h : Rox w0 W V A n c X) (t : Int) : Calls Tryz.prog 33 #[.slice A n c, .int .i64 t] W fun e W' => e = .returned (.tuple #[.agg (plC (parR X n t)).toArray, .int .i64 (strE n t : Int)]) ∧ Rox w0 W' V A n c X :=
  (refParR h.in_ t).mono fun _ _ ⟨he, hb⟩ => ⟨he, h.later hb⟩
theorem Rox.rmates (h : Rox w0 W V A n c X) (slot : Int) : Calls Tryz.prog 67 #[.slice A n c, .int .i64 slot] W fun e W' => ∃ A' m c', e = .returned (.tuple #[.slice A' m c', .int .i64 (homeE n slot : Int)]) ∧ Reads W' W'.heap.size 2 A' m (plsL (matesR X n slot)) ∧ m ≤ c' ∧ c' ≤ 9223372036854775807 ∧ Below W.heap.size W W' ∧ Rox w0 W' V A n c X :=
  (refMatesR h.in_ slot).mono fun _ _ ⟨A', m, c', he, h1, h2, h3, hb⟩ => ⟨A', m, c', he, h1, h2, h3, hb, h.later hb⟩
end
end Go.Proofs.YtmjjnbabfldbcaaGreat
namespace Go.Proofs.YtmjjnbabfldbcaaGreat
open Go.RowKit
theorem psec_info : (Tryz.prog.info? 43).map (·.size) = some 64 := by kernel_rfl
theorem psec_parts : (Tryz.prog.info? 43).map (fun i => (i.zero, i.size, i.bytes)) = some (some (.agg (Array.replicate 64 (.int .u8 0))), 64, 64) := by kernel_rfl
theorem psec_nought (w : World) : (zeroValue 43).run Tryz.prog w = .ok (.agg (B8 zeroL).toArray) w := by kernel_rfl
theorem psec_zero (w : World) : (zeroValue 43).run Tryz.prog w = .ok (.agg (Array.replicate 64 (.int .u8 0))) w := by kernel_rfl
theorem psec_built : Tryz.prog.built 43 [] = some (B8 zeroL).toArray := by kernel_rfl
theorem bits_xor8 (x y : UInt8) : bits .xor .u8 ((x.toNat : Nat) : Int) ((y.toNat : Nat) : Int) = (((x ^^^ y).toNat : Nat) : Int) := by
  have hx := x.toNat_lt
  have hy := y.toNat_lt
  have h1 : (BitVec.ofInt 8 ((x.toNat : Nat) : Int)).toNat = x.toNat := by
    rw [BitVec.ofInt_natCast, BitVec.toNat_ofNat]; exact Nat.mod_eq_of_lt (by omega)
  have h2 : (BitVec.ofInt 8 ((y.toNat : Nat) : Int)).toNat = y.toNat := by
    rw [BitVec.ofInt_natCast, BitVec.toNat_ofNat]; exact Nat.mod_eq_of_lt (by omega)
  have h3 : x.toNat ^^^ y.toNat < 2 ^ 8 := Nat.xor_lt_two_pow (by omega) (by omega)
  show IntKind.u8.wrap ((BitVec.ofInt 8 ((x.toNat : Nat) : Int) ^^^ BitVec.ofInt 8 ((y.toNat : Nat) : Int)).toNat : Int) = _
  rw [BitVec.toNat_xor, h1, h2, UInt8.toNat_xor]
  simp [IntKind.wrap, IntKind.bits, IntKind.signed]
  omega
theorem u8_info1 : (Tryz.prog.info? 5).map (·.size) = some 1 := by kernel_rfl
set_option maxRecDepth 100000 in
set_option maxHeartbeats 4000000 in
theorem refXor_any (a b : List UInt8) (w : World) (ha : a.length = 64) (hb : b.length = 64) :
    Calls Tryz.prog 94 #[.agg (B8 a).toArray, .agg (B8 b).toArray] w fun e w' => e = .returned (.agg (B8 (xorL a b)).toArray) ∧ Below w.heap.size w w' := by
  have HA := hide ha
  have HB := hide hb
  have HVA := hide (show (Value.agg (B8 a).toArray).cells = (B8 a).toArray from rfl)
  have HVB := hide (show (Value.agg (B8 b).toArray).cells = (B8 b).toArray from rfl)
  have HXL := hide (xorL_length ha hb)
  clear ha hb
  go_enter Tryz.func94, Tryz.ntmps94
  go_wp2_with (first
    | ((with_reducible refine at_slot 2 ?_); refine wpList_box_blk rfl 43 _ rfl (.agg (B8 a).toArray) rfl ?_; intro w1 hb1 hl1 hs1; rw [HVA.out] at hb1; have HA1 := hide hb1; have HL1 := hide hl1; clear hb1 hl1 hs1)
    | ((with_reducible refine at_slot 3 ?_); refine wpList_box_blk rfl 43 _ rfl (.agg (B8 b).toArray) rfl ?_; intro w2 hb2 hl2 hs2; rw [HVB.out] at hb2; have HB2 := hide hb2; have HA2 := hide (HA1.out.below hl2 HA1.out.lt); have HL2 := hide (HL1.out.trans (hl2.mono HL1.out.size)); clear hb2 hl2 hs2)
    | ((with_reducible refine at_slot 4 ?_); refine wpList_alloc_blk rfl 43 rfl _ (psec_nought _) ?_; intro w3 hb3q hl3 hs3; have HC3 : Hid (Blk w3 w2.heap.size 43 (B8 zeroL).toArray) := hide hb3q; have HB3 := hide (HB2.out.below hl3 HB2.out.lt); have HA3 := hide (HA2.out.below hl3 HA2.out.lt); have HL3 := hide (HL2.out.trans (hl3.mono HL2.out.size)); clear hb3q hl3 hs3)
    | ((with_reducible refine at_slot 7 ?_); refine wpList_build_is rfl 43 #[] rfl [] (by simp) _ psec_built ?_)
    | ((with_reducible refine at_slot 5 ?_); refine wpList_alloc_blk rfl 43 rfl _ (psec_nought _) ?_; intro w4 hb4q hl4 hs4; have hb4 : Blk w4 w3.heap.size 43 (B8 zeroL).toArray := hb4q; clear hb4q hs4)
    | ((with_reducible refine at_store 5 ?_); refine wpList_store_all rfl 43 (.tmp 5) (.tmp 7) rfl w3.heap.size 43 _ hb4 rfl (B8 zeroL) rfl psec_info rfl (B8_one _) ?_; intro w5 hb5 hg5 hs5; have hz4 := hb4.lt; have hl35 : Below w3.heap.size w3 w5 := hl4.grown hg5 (by omega) (fun g e => by injection e with e; omega); have HO5 := hide hb5; have HL35 := hide hl35; clear hs5 hl4 hg5 hb4 hb5 hl35))
  go_loopw [6] (fun s6 wr => ∃ i : Nat, s6 = .int .i64 (i : Int) ∧ i ≤ 64 ∧ Hid (Blk wr w3.heap.size 43 (B8 (mixL (xorL a b) zeroL i)).toArray) ∧ Hid (Below w3.heap.size w3 wr)) (fun s6 _ => 64 - (intOf s6).toNat)
  case atStart => exact ⟨0, rfl, by decide, hide (by rw [mix_zero]; exact HO5.out), HL35⟩
  case round =>
    obtain ⟨i, rfl, hi, hO, hl⟩ := hrel
    obtain ⟨wo, rfl⟩ : ∃ wo, wo = wr := ⟨_, rfl⟩
    by_cases hi64 : i < 64
    · have hiw : (i : Int) < 64 := by omega
      obtain ⟨x, hx⟩ : ∃ x, a[i]? = some x := ⟨a[i]'(by have := HA.out; omega), List.getElem?_eq_getElem _⟩
      obtain ⟨y, hy⟩ : ∃ y, b[i]? = some y := ⟨b[i]'(by have := HB.out; omega), List.getElem?_eq_getElem _⟩
      have ca : wo.drew.cell? ⟨w.heap.size, i, none⟩ = some (.int .u8 ((x.toNat : Nat) : Int)) := by
        show wo.cell? _ = _
        rw [(HA3.out.below hl.out HA3.out.lt).cell i, List.getElem?_toArray]
        unfold B8
        rw [List.getElem?_map, hx]
        rfl
      have cb : wo.drew.cell? ⟨w1.heap.size, i, none⟩ = some (.int .u8 ((y.toNat : Nat) : Int)) := by
        show wo.cell? _ = _
        rw [(HB3.out.below hl.out HB3.out.lt).cell i, List.getElem?_toArray]
        unfold B8
        rw [List.getElem?_map, hy]
        rfl
      go_wp2_with fail
      go_still_tail 9, (by kernel_rfl)
      change wpList _ _ _ _ _ wo.drew
      clear ca cb
      have hdr := (Below.refl w3.heap.size wo).drew
      have HO9 := hide (hO.out.drew)
      have HM := hide (mix_succ HXL.out zeroL_length (xorL_at hx hy))
      have HSZ := hide (show i < (B8 (mixL (xorL a b) zeroL i)).toArray.size by rw [List.size_toArray, B8_length, mix_length HXL.out zeroL_length hi]; exact hi64)
      rw [bits_xor8]
      generalize wo.drew = w9 at *
      clear hx hy
      go_wp2_with ((with_reducible refine at_store 20 ?_); refine wpList_poke rfl 5 (.tmp 20) (.tmp 19) rfl w3.heap.size i 43 _ HO9.out rfl (.int .u8 (((x ^^^ y).toNat : Nat) : Int)) rfl rfl u8_info1 HSZ.out ?_; intro w10 hb10 hg10 hs10; clear hs10)
      go_roundw
      case rel => exact ⟨i + 1, by simp, by omega, hide (by rw [← HM.out, ← List.setIfInBounds_toArray]; exact hb10), hide ((hl.out.trans hdr).grown hg10 (Nat.le_trans hl.out.size hdr.size) (fun g e => by injection e with e; omega))⟩
      case measure => simp [intOf]; omega
    · obtain rfl : i = 64 := by omega
      have HX := hide (mix_all HXL.out zeroL_length)
      rw [HX.out] at hO
      have HC := hide (HC3.out.below hl.out HC3.out.lt)
      have HXI := hide (show (Tryz.prog.info? 43).map (·.size) = some (B8 (xorL a b)).length by rw [B8_length, HXL.out]; exact psec_info)
      have HXZ := hide (show (B8 (xorL a b)).length = (B8 zeroL).toArray.size by rw [List.size_toArray, B8_length, B8_length, HXL.out, zeroL_length])
      go_wp2_with (first
        | ((with_reducible refine at_slot 21 ?_); refine wpList_load_blk rfl 43 (.tmp 5) rfl w3.heap.size 0 43 _ hO.out rfl (B8 (xorL a b)) _ (fun j v hj => by rw [Nat.zero_add]; simpa using hj) Tryz.underlying43 rfl HXI.out ?_)
        | ((with_reducible refine at_store 4 ?_); refine wpList_store_all rfl 43 (.tmp 4) (.tmp 21) rfl w2.heap.size 43 _ HC.out rfl (B8 (xorL a b)) rfl HXI.out HXZ.out (B8_one _) ?_; intro w6 hb6 hg6 hs6; clear hs6))
      refine ret_cell rfl w2.heap.size 43 (B8 (xorL a b)) _ hb6 rfl Tryz.underlying43 rfl HXI.out rfl ⟨rfl, ?_⟩
      exact (HL3.out.trans (hl.out.mono HL3.out.size)).grown hg6 (Nat.le_trans HL3.out.size hl.out.size) (fun g e => by injection e with e; have := HL2.out.size; omega)
set_option maxRecDepth 100000 in
set_option maxHeartbeats 4000000 in
theorem refBuild_any (A : Option Addr) (n c : Nat) (bs : List UInt8) (B0 : Nat) (w : World) (hr : Reads w B0 64 A n (B8 bs)) (hB0 : B0 ≤ w.heap.size) (hn : n ≤ 1000000) :
    Calls Tryz.prog 65 #[.slice A n c] w fun e w' => e = .returned (.agg (B8 (parOf (secsOf bs n))).toArray) ∧ Below w.heap.size w w' := by
  have hlb : bs.length = n * 64 := by have := hr.1; rwa [B8_length] at this
  have HR := hide hr
  have HLB := hide hlb
  have HB0 := hide hB0
  have HSS := hide (fun k (hk : k ≤ n) => (show Secs (secsOf bs k) from by rw [← secsOf_take hk]; exact (secs_of hlb).take k))
  clear hr hlb hB0
  go_enter Tryz.func65, Tryz.ntmps65
  go_wp2_with (first
    | ((with_reducible refine at_slot 2 ?_); refine wpList_alloc_blk rfl 43 rfl _ (psec_nought _) ?_; intro w1 hb1q hl1 hs1; have HC1 : Hid (Blk w1 w.heap.size 43 (B8 zeroL).toArray) := hide hb1q; have HL1 := hide hl1; clear hb1q hl1 hs1)
    | ((with_reducible refine at_slot 5 ?_); refine wpList_build_is rfl 43 #[] rfl [] (by simp) _ psec_built ?_)
    | ((with_reducible refine at_slot 3 ?_); refine wpList_alloc_blk rfl 43 rfl _ (psec_nought _) ?_; intro w4 hb4q hl4 hs4; have hb4 : Blk w4 w1.heap.size 43 (B8 zeroL).toArray := hb4q; clear hb4q hs4)
    | ((with_reducible refine at_store 3 ?_); refine wpList_store_all rfl 43 (.tmp 3) (.tmp 5) rfl w1.heap.size 43 _ hb4 rfl (B8 zeroL) rfl psec_info rfl (B8_one _) ?_; intro w5 hb5 hg5 hs5; have hz4 := hb4.lt; have hl15 : Below w1.heap.size w1 w5 := hl4.grown hg5 (by omega) (fun g e => by injection e with e; omega); have HO5 := hide hb5; have HL15 := hide hl15; clear hs5 hl4 hg5 hb4 hb5 hl15))
  go_loopw [4] (fun s4 wr => ∃ k : Nat, s4 = .int .i64 (k : Int) ∧ k ≤ n ∧ Hid (Blk wr w1.heap.size 43 (B8 (parOf (secsOf bs k))).toArray) ∧ Hid (Below w1.heap.size w1 wr)) (fun s4 _ => n - (intOf s4).toNat)
  case atStart => exact ⟨0, rfl, Nat.zero_le _, HO5, HL15⟩
  case round =>
    obtain ⟨k, rfl, hk, hO, hl⟩ := hrel
    obtain ⟨wo, rfl⟩ : ∃ wo, wo = wr := ⟨_, rfl⟩
    have HLo := hide (HL1.out.trans (hl.out.mono HL1.out.size))
    by_cases hkn : k < n
    · have hkw : (k : Int) < (n : Int) := by omega
      obtain ⟨ad, rfl, hab, hca⟩ := (HR.out.below (HLo.out.mono HB0.out)).sec_at hkn
      have hsl := secAt_length HLB.out hkn
      have HNX := hide (show parOf (secsOf bs (k + 1)) = xorL (parOf (secsOf bs k)) (secAt bs k) by rw [secsOf_succ, par_snoc (HSS.out k hk) hsl])
      have hal := par_length (HSS.out k hk)
      obtain ⟨acc, hacc⟩ : ∃ acc, acc = parOf (secsOf bs k) := ⟨_, rfl⟩
      rw [← hacc] at hO HNX hal
      obtain ⟨s, hs⟩ : ∃ s, s = secAt bs k := ⟨_, rfl⟩
      rw [← hs] at hca hsl HNX
      have HX := hide (fun w => refXor_any acc s w hal hsl)
      have HAI := hide (show (Tryz.prog.info? 43).map (·.size) = some (B8 acc).length by rw [B8_length, hal]; exact psec_info)
      have HSI := hide (show (Tryz.prog.info? 43).map (·.size) = some (B8 s).length by rw [B8_length, hsl]; exact psec_info)
      have HXI := hide (show (Tryz.prog.info? 43).map (·.size) = some (B8 (xorL acc s)).length by rw [B8_length, xorL_length hal hsl]; exact psec_info)
      have HXZ := hide (show (B8 (xorL acc s)).length = (B8 acc).toArray.size by rw [List.size_toArray, B8_length, B8_length, xorL_length hal hsl, hal])
      have HCA := hide hca
      have HO0 := hide (fun (j : Nat) (v : Value) (hj : (B8 acc)[j]? = some v) => (show wo.drew.cell? ((⟨w1.heap.size, 0, none⟩ : Addr).add j) = some v from blk_at hO.out j v hj))
      have HC0 := hide (fun (j : Nat) (v : Value) (hj : (B8 s)[j]? = some v) => (show wo.drew.cell? ((ad.add (k * 64)).add j) = some v from HCA.out j v hj))
      have hdr := (Below.refl w1.heap.size wo).drew
      have HO9 := hide (hO.out.drew)
      clear hca hacc hs hal hsl
      go_wp2_with fail
      refine wp_region_still_tail 5 (by kernel_rfl) (by kernel_rfl) ?_
      change wpStill _ _ wo.drew _ _ _
      simp only [List.take_succ_cons, List.take_zero, List.drop_succ_cons, List.drop_zero]
      refine still_load_at rfl 43 (.tmp 3) rfl ⟨w1.heap.size, 0, none⟩ rfl (B8 acc) _ HO0.out Tryz.underlying43 rfl HAI.out ?_
      iterate 3 still_step
      refine still_load_at rfl 43 (.tmp 15) rfl (ad.add (k * 64)) rfl (B8 s) _ HC0.out Tryz.underlying43 rfl HSI.out ?_
      refine wpStill_nil ?_
      change wpList _ _ _ _ _ wo.drew
      clear HO0 HC0
      generalize wo.drew = w9 at *
      go_wp2_with (first
        | (go_at_call 94; refine (HX.out w9).mono ?_; rintro _ w10 ⟨rfl, hl10⟩; have HO10 := hide (HO9.out.below hl10 HO9.out.lt))
        | ((with_reducible refine at_store 3 ?_); refine wpList_store_all rfl 43 (.tmp 3) (.tmp 17) rfl w1.heap.size 43 _ HO10.out rfl (B8 (xorL acc s)) rfl HXI.out HXZ.out (B8_one _) ?_; intro w11 hb11 hg11 hs11; clear hs11))
      go_roundw
      case rel => exact ⟨k + 1, by simp, by omega, hide (by rw [HNX.out]; exact hb11), hide (((hl.out.trans hdr).trans (hl10.mono (Nat.le_trans hl.out.size hdr.size))).grown hg11 (Nat.le_trans hl.out.size (Nat.le_trans hdr.size hl10.size)) (fun g e => by injection e with e; omega))⟩
      case measure => simp [intOf]; omega
    · obtain rfl : k = n := by omega
      have HXL := hide (par_length (HSS.out k (Nat.le_refl _)))
      have HC := hide (HC1.out.below hl.out HC1.out.lt)
      have HXI := hide (show (Tryz.prog.info? 43).map (·.size) = some (B8 (parOf (secsOf bs k))).length by rw [B8_length, HXL.out]; exact psec_info)
      have HXZ := hide (show (B8 (parOf (secsOf bs k))).length = (B8 zeroL).toArray.size by rw [List.size_toArray, B8_length, B8_length, HXL.out, zeroL_length])
      go_wp2_with (first
        | ((with_reducible refine at_slot 18 ?_); refine wpList_load_blk rfl 43 (.tmp 3) rfl w1.heap.size 0 43 _ hO.out rfl (B8 (parOf (secsOf bs k))) _ (fun j v hj => by rw [Nat.zero_add]; simpa using hj) Tryz.underlying43 rfl HXI.out ?_)
        | ((with_reducible refine at_store 2 ?_); refine wpList_store_all rfl 43 (.tmp 2) (.tmp 18) rfl w.heap.size 43 _ HC.out rfl (B8 (parOf (secsOf bs k))) rfl HXI.out HXZ.out (B8_one _) ?_; intro w6 hb6 hg6 hs6; clear hs6))
      refine ret_cell rfl w.heap.size 43 (B8 (parOf (secsOf bs k))) _ hb6 rfl Tryz.underlying43 rfl HXI.out rfl ⟨rfl, ?_⟩
      exact HLo.out.grown hg6 HLo.out.size (fun g e => by injection e with e; omega)
theorem range_of {w : World} {g : Nat} {T : TypeId} {l : List Value} (h : Blk w g T l.toArray) : w.rangeAt g 0 l := fun j v hj => by rw [Nat.zero_add, h.cell j]; simpa using hj
set_option maxRecDepth 100000 in
set_option maxHeartbeats 4000000 in
theorem refPlug_any (a b c : List UInt8) (w : World) (ha : a.length = 64) (hb : b.length = 64) (hc : c.length = 64) :
    Calls Tryz.prog 72 #[.agg (B8 a).toArray, .agg (B8 b).toArray, .agg (B8 c).toArray] w fun e w' => e = .returned (.agg (B8 (xorL (xorL a b) c)).toArray) ∧ Below w.heap.size w w' := by
  have HVA := hide (show (Value.agg (B8 a).toArray).cells = (B8 a).toArray from rfl)
  have HVB := hide (show (Value.agg (B8 b).toArray).cells = (B8 b).toArray from rfl)
  have HVC := hide (show (Value.agg (B8 c).toArray).cells = (B8 c).toArray from rfl)
  have hxl := xorL_length ha hb
  have HX1 := hide (fun w => refXor_any a b w ha hb)
  have HX2 := hide (fun w => refXor_any (xorL a b) c w hxl hc)
  have HAI := hide (show (Tryz.prog.info? 43).map (·.size) = some (B8 a).length by rw [B8_length, ha]; exact psec_info)
  have HBI := hide (show (Tryz.prog.info? 43).map (·.size) = some (B8 b).length by rw [B8_length, hb]; exact psec_info)
  have HCI := hide (show (Tryz.prog.info? 43).map (·.size) = some (B8 c).length by rw [B8_length, hc]; exact psec_info)
  have HXI := hide (show (Tryz.prog.info? 43).map (·.size) = some (B8 (xorL (xorL a b) c)).length by rw [B8_length, xorL_length hxl hc]; exact psec_info)
  have HXZ := hide (show 0 + (B8 (xorL (xorL a b) c)).length ≤ (B8 zeroL).toArray.size by rw [List.size_toArray, B8_length, B8_length, xorL_length hxl hc, zeroL_length]; decide)
  have HXY := hide (show (B8 (xorL (xorL a b) c)).length = (B8 zeroL).toArray.size by rw [List.size_toArray, B8_length, B8_length, xorL_length hxl hc, zeroL_length])
  have HUN : Hid (Tryz.prog.underlying 43 = some (.array 64 5)) := Tryz.underlying43
  clear ha hb hc hxl
  go_enter Tryz.func72, Tryz.ntmps72
  go_wp2_with (first
    | ((with_reducible refine at_slot 3 ?_); refine wpList_box_blk rfl 43 _ rfl (.agg (B8 a).toArray) rfl ?_; intro w1 hb1 hl1 hs1; rw [HVA.out] at hb1; have HA1 := hide hb1; have HL1 := hide hl1; clear hb1 hl1 hs1)
    | ((with_reducible refine at_slot 4 ?_); refine wpList_box_blk rfl 43 _ rfl (.agg (B8 b).toArray) rfl ?_; intro w2 hb2 hl2 hs2; rw [HVB.out] at hb2; have HB2 := hide hb2; have HA2 := hide (HA1.out.below hl2 HA1.out.lt); have HL2 := hide (HL1.out.trans (hl2.mono HL1.out.size)); clear hb2 hl2 hs2)
    | ((with_reducible refine at_slot 5 ?_); refine wpList_box_blk rfl 43 _ rfl (.agg (B8 c).toArray) rfl ?_; intro w3 hb3 hl3 hs3; rw [HVC.out] at hb3; have HC3 := hide hb3; have HB3 := hide (HB2.out.below hl3 HB2.out.lt); have HA3 := hide (HA2.out.below hl3 HA2.out.lt); have HL3 := hide (HL2.out.trans (hl3.mono HL2.out.size)); clear hb3 hl3 hs3)
    | ((with_reducible refine at_slot 6 ?_); refine wpList_alloc_blk rfl 43 rfl _ (psec_nought _) ?_; intro w4 hb4q hl4 hs4; have HD4 : Hid (Blk w4 w3.heap.size 43 (B8 zeroL).toArray) := hide hb4q; have HC4 := hide (HC3.out.below hl4 HC3.out.lt); have HB4 := hide (HB3.out.below hl4 HB3.out.lt); have HA4 := hide (HA3.out.below hl4 HA3.out.lt); have HL34 := hide hl4; clear hb4q hl4 hs4))
  have HZ4 := hide (show w3.heap.size ≤ w4.heap.size from HL34.out.size)
  have hz1 : w.heap.size < w3.heap.size := HA3.out.lt
  have hz2 : w1.heap.size < w3.heap.size := HB3.out.lt
  have hz3 : w2.heap.size < w3.heap.size := HC3.out.lt
  have HF : Hid (∀ W', Below w3.heap.size w4 W' → (W'.rangeAt w.heap.size 0 (B8 a) ∧ W'.rangeAt w1.heap.size 0 (B8 b) ∧ W'.rangeAt w2.heap.size 0 (B8 c) ∧ Below w3.heap.size w4 W')) := hide fun W' h => ⟨range_of (HA4.out.below h hz1), range_of (HB4.out.below h hz2), range_of (HC4.out.below h hz3), h⟩
  clear hz1 hz2 hz3
  refine wp_region_held_drew (S := (fun W => W.rangeAt w.heap.size 0 (B8 a) ∧ W.rangeAt w1.heap.size 0 (B8 b) ∧ W.rangeAt w2.heap.size 0 (B8 c) ∧ Below w3.heap.size w4 W)) (by kernel_rfl) ?_ (fun hHeld => ?_)
  · exact HF.out _ ((Below.refl w3.heap.size w4).drew)
  refine heldTake (i := 0) (v := .agg (B8 a).toArray) rfl (by kernel_rfl) (by kernel_rfl) (by kernel_rfl) (fun _ _ _ h => h) (yieldsIf_load_mid (by rfl) _ _ rfl _ _ rfl (B8 a) _ (fun W hW => hW.1) HUN.out rfl HAI.out) (by assumption) ?_
  try simp only [Act.put, List.setIfInBounds_toArray, List.set_cons_zero, List.set_cons_succ]
  refine heldTake (i := 1) (v := .agg (B8 b).toArray) rfl (by kernel_rfl) (by kernel_rfl) (by kernel_rfl) (fun _ _ _ h => h) (yieldsIf_load_mid (by rfl) _ _ rfl _ _ rfl (B8 b) _ (fun W hW => hW.2.1) HUN.out rfl HBI.out) (by assumption) ?_
  try simp only [Act.put, List.setIfInBounds_toArray, List.set_cons_zero, List.set_cons_succ]
  refine heldTake (i := 3) (v := .agg (B8 c).toArray) rfl (by kernel_rfl) (by kernel_rfl) (by kernel_rfl) (fun _ _ _ h => h) (yieldsIf_load_mid (by rfl) _ _ rfl _ _ rfl (B8 c) _ (fun W hW => hW.2.2.1) HUN.out rfl HCI.out) (by assumption) ?_
  try simp only [Act.put, List.setIfInBounds_toArray, List.set_cons_zero, List.set_cons_succ]
  refine wpAnyH_ready (rs := [2]) (by kernel_rfl) (by simp) ?_
  refine heldCons (i := 2) rfl (fun Kq hKq => ?_) AllReadyH.nil
  go_simp
  go_at_call 94
  refine (HX1.out _).mono ?_
  rintro _ w5 ⟨rfl, hl5⟩
  have hr5 : Below w4.heap.size w4 w5 := ((Below.refl w4.heap.size w4).drew).trans hl5
  clear hl5
  first | (refine hKq.out _ _ (HF.out _ (hr5.mono HZ4.out)) (fun hHeld => ?_)) | (go_wp2_with fail; refine hKq.out _ _ (HF.out _ (hr5.mono HZ4.out)) (fun hHeld => ?_))
  clear hKq Kq
  try simp only [Act.put, List.setIfInBounds_toArray, List.set_cons_zero, List.set_cons_succ]
  refine wpAnyH_ready (rs := [4]) (by kernel_rfl) (by simp) ?_
  refine heldCons (i := 4) rfl (fun Kq hKq => ?_) AllReadyH.nil
  go_simp
  go_at_call 94
  refine (HX2.out _).mono ?_
  rintro _ w6 ⟨rfl, hl6⟩
  have hr6 : Below w4.heap.size w4 w6 := hr5.trans (hl6.mono hr5.size)
  clear hl6
  first | (refine hKq.out _ _ (HF.out _ (hr6.mono HZ4.out)) (fun hHeld => ?_)) | (go_wp2_with fail; refine hKq.out _ _ (HF.out _ (hr6.mono HZ4.out)) (fun hHeld => ?_))
  clear hKq Kq
  try simp only [Act.put, List.setIfInBounds_toArray, List.set_cons_zero, List.set_cons_succ]
  refine wpAnyH_ready (rs := [5]) (by kernel_rfl) (by simp) ?_
  refine heldCons (i := 5) rfl (fun Kq hKq => ?_) AllReadyH.nil
  refine step_store_blk rfl 43 (.tmp 6) (.tmp 11) rfl w3.heap.size 0 43 _ (HD4.out.below hr6 HD4.out.lt) rfl (B8 (xorL (xorL a b) c)) rfl HXI.out HXZ.out (B8_one _) ?_
  intro w7 hb7q hg7 hs7
  have hb7 : Blk w7 w3.heap.size 43 (B8 (xorL (xorL a b) c)).toArray := by
    rw [List.take_zero, List.nil_append, List.drop_of_length_le (by rw [Array.length_toList, ← HXY.out]; omega), List.append_nil] at hb7q
    exact hb7q
  have hq7 : Below w3.heap.size w4 w7 := (hr6.mono HZ4.out).grown hg7 (Nat.le_trans HZ4.out hr6.size) (fun g e => by injection e with e; omega)
  refine hKq.out _ _ (HF.out _ hq7) (fun hHeld => ?_)
  clear hKq Kq
  try simp only [Act.put]
  refine wpAnyH_done (by kernel_rfl) ?_ _
  go_wp2_with fail
  refine ret_cell rfl w3.heap.size 43 (B8 (xorL (xorL a b) c)) _ hb7 rfl Tryz.underlying43 rfl HXI.out rfl ⟨rfl, (HL3.out.trans (HL34.out.mono HL3.out.size)).trans (hq7.mono HL3.out.size)⟩
end Go.Proofs.YtmjjnbabfldbcaaGreat
