/- Rows of numbers as things of a law; each call of recency over a law's memory (Sta); what Clone answers. -/
import Derived.Test.YthodmhjlokfcaaaRcB
import Derived.Test.YthodmhjlokfcaaaTwoRows
import Derived.Test.YthodmhjlokfcaaaWhen
import Derived.Deep.DeepCutAuto
import Derived.Deep.CutBlock
namespace Go.Proofs.Ythodmhjlokfcaaa
open Go.RowKit Go.Maps
set_option linter.unusedVariables false

/-! ### Rows as things -/
theorem own_of_block {w w' : World} {base : Nat} {e : TypeId} {size : Nat} {v : Value} {n : Nat} {xs : List Value} (h : w.ownsRow base e size v n xs) (hk : ∀ g, v.ownBlock = some g → w'.heap[g]? = w.heap[g]?) : w'.ownsRow base e size v n xs :=
  ⟨h.1, h.2.imp id fun ⟨g, cap, cur, hv, hg, hh, r⟩ => ⟨g, cap, cur, hv, hg, (hk g (by rw [hv]; rfl)).trans hh, r⟩⟩
/-- A row of numbers in a block of its own. -/
def ilT (v : Value) (l : List Int) : Thing where
  is W F := W.ownsRow 0 3 1 v l.length (I64 l) ∧ ∀ i, F i ↔ v.ownBlock = some i
  lt := fun {w F} ⟨h, hF⟩ i hi => (h.lt i ((hF i).1 hi)).2
  kept := fun {w w' F} ⟨h, hF⟩ hk => ⟨own_of_block h fun g hg => hk g ((hF g).2 hg), hF⟩
theorem own_rd {w : World} {base n : Nat} {A : Option Addr} {c : Nat} {l : List Int} (h : w.ownsRow base 3 1 (.slice A n c) n (I64 l)) : Reads w w.heap.size 1 A n (I64 l) := by
  refine ⟨h.1, fun hn => ?_⟩
  obtain ⟨g, cap, hv, _, hlt⟩ := h.form hn
  have hA : A = some ⟨g, 0, none⟩ := by injection hv
  subst hA
  exact ⟨_, rfl, (h.lt g rfl).2, h.cells (g := g) rfl⟩
section
variable {w0 W W' : World} {Hs : List Thing} {U : VarsT} {m : Nat} {L l : List Int} {A : Option Addr} {n c : Nat} {v : Value}
/-- Some of the things, in another order. -/
theorem Sta.pick (h : Sta w0 W Hs U) (Hs' : List Thing) (s : Nat → Nat) (h1 : ∀ i H, Hs'[i]? = some H → Hs[s i]? = some H) (h2 : ∀ i j, i < Hs'.length → j < Hs'.length → s i = s j → i = j) : Sta w0 W Hs' U := by
  obtain ⟨h0, ⟨Fs, q1, q2, q3, q4⟩, h5, h6⟩ := h
  have hlt : ∀ i, i < Hs'.length → s i < Hs.length := fun i hi => at_lt (h1 i _ (List.getElem?_eq_getElem hi))
  exact ⟨h0, ⟨fun i => Fs (s i), fun i H e => q1 _ H (h1 i H e), fun i j x hi hj hne hx => q2 _ _ x (hlt i hi) (hlt j hj) (fun e => hne (h2 i j hi hj e)) hx, fun i x hi => q3 _ x (hlt i hi), fun i hi => q4 _ (hlt i hi)⟩, h5, h6⟩
/-- The first n things. -/
theorem Sta.fewer (h : Sta w0 W Hs U) (k : Nat) : Sta w0 W (Hs.take k) U :=
  h.pick _ id (fun i H e => by rw [List.getElem?_take] at e; split at e; exact e; cases e) fun _ _ _ _ e => e
/-- A new row. -/
theorem Sta.row (h : Sta w0 W Hs U) (hb : Below W.heap.size W W') (ho : W'.ownsRow W.heap.size 3 1 v l.length (I64 l)) : Sta w0 W' (Hs ++ [ilT v l]) U :=
  h.add (ilT v l) (F := fun i => v.ownBlock = some i) hb ⟨own_mono ho (Nat.zero_le _), fun _ => Iff.rfl⟩ fun x hx => (ho.lt x hx).1
theorem Sta.nilRow (h : Sta w0 W Hs U) : Sta w0 W (Hs ++ [ilT (.slice none 0 0) []]) U :=
  h.row (Below.refl _ _) ⟨rfl, .inl ⟨rfl, rfl⟩⟩
theorem Sta.shape (h : Sta w0 W Hs U) (i : Nat) (e : Hs[i]? = some (ilT v l)) : ∃ A c, v = .slice A l.length c ∧ l.length ≤ c ∧ c ≤ maxLen := by
  obtain ⟨F, ho, hF⟩ := h.thing i e
  exact own_shape ho
/-- A row is read. -/
theorem Sta.rds (h : Sta w0 W Hs U) (i : Nat) (e : Hs[i]? = some (ilT (.slice A n c) l)) : n = l.length ∧ Reads W W.heap.size 1 A n (I64 l) := by
  obtain ⟨F, ho, hF⟩ := h.thing i e
  have hn : n = l.length := by
    obtain ⟨A', c', hv, _, _⟩ := own_shape ho
    injection hv
  subst hn
  exact ⟨rfl, own_rd ho⟩
/-- A number of a row. -/
theorem Sta.num (h : Sta w0 W Hs U) (i : Nat) (e : Hs[i]? = some (ilT (.slice A n c) l)) {k : Nat} {x : Int} (hk : l[k]? = some x) : ∃ g, A = some ⟨g, 0, none⟩ ∧ g < W.heap.size ∧ W.cell? ⟨g, k, none⟩ = some (.int .i64 x) := by
  obtain ⟨F, ho, hF⟩ := h.thing i e
  have hkl := (List.getElem?_eq_some_iff.1 hk).1
  have hn : n = l.length := by
    obtain ⟨A', c', hv, _, _⟩ := own_shape ho
    injection hv
  subst hn
  obtain ⟨g, cap, hv, _, hlt⟩ := ho.form (by omega)
  have hA : A = some ⟨g, 0, none⟩ := by injection hv
  subst hA
  have := ho.cells (g := g) rfl k (.int .i64 x) (by unfold I64; rw [List.getElem?_map, hk]; rfl)
  exact ⟨g, rfl, hlt, by unfold Addr.add at this; split at this <;> simp_all⟩
/-- A row that is another one now, in the block that it took or a new one. -/
theorem Sta.rowTo (h : Sta w0 W Hs U) (i : Nat) (e : Hs[i]? = some (ilT v l)) {v' : Value} {l' : List Int} (hg : W.grownBy W' v.ownBlock) (ho : W'.ownsRow 0 3 1 v' l'.length (I64 l')) (hv : v'.ownBlock = v.ownBlock ∨ v'.ownBlock = some W.heap.size) : Sta w0 W' (Hs.set i (ilT v' l')) U := by
  obtain ⟨F, ⟨ho1, hF⟩, h2, h3, h4⟩ := h.part i e
  refine h4 W' (ilT v' l') (fun x => v'.ownBlock = some x) ⟨ho, fun _ => Iff.rfl⟩ (fun x hx => ?_) (Turn.of_grown hg fun g eg => (hF g).2 eg)
  rcases hv with hv | hv
  · exact .inl ((hF x).2 (hv.symm.trans hx))
  · rw [hv] at hx
    injection hx with hx
    exact .inr (by omega)
theorem Sta.own_ (h : Sta w0 W Hs U) (i : Nat) (e : Hs[i]? = some (ilT v l)) : W.ownsRow 0 3 1 v l.length (I64 l) := by
  obtain ⟨F, ho, hF⟩ := h.thing i e
  exact ho
theorem set_take_I64 (l : List Int) (j : Nat) (x : Int) (cur : List Value) (n : Nat) (h : cur.take n = I64 l) (hj : j < n) : (cur.set j (.int .i64 x)).take n = I64 (l.set j x) := by
  rw [List.take_set, h]
  unfold I64
  rw [List.map_set]
/-- A number of a row is written over. -/
theorem Sta.block_ (h : Sta w0 W Hs U) (i : Nat) (e : Hs[i]? = some (ilT (.slice (some ⟨m, 0, none⟩) n c) l)) (hn : 0 < n) : ∃ cur, Blk W m 3 cur ∧ n ≤ cur.size ∧
    ∀ (W' : World) (j : Nat) (x : Int), j < n → Blk W' m 3 (cur.setIfInBounds j (.int .i64 x)) → W.grownBy W' (some m) → Sta w0 W' (Hs.set i (ilT (.slice (some ⟨m, 0, none⟩) n c) (l.set j x))) U := by
  have ho := h.own_ i e
  have hn2 : n = l.length := by
    obtain ⟨A', c', hv, _, _⟩ := own_shape ho
    injection hv
  rcases ho.2 with ⟨hv, _⟩ | ⟨g, cap, cur, hv, hg, hh, h1, h2, h3, h4⟩
  · cases hv
  · injection hv with e1 e2 e3
    injection e1 with e1
    injection e1 with e1
    subst e1
    subst e3
    refine ⟨cur, hh, by omega, fun W' j x hj hb hgr => h.rowTo i e (v' := .slice (some ⟨m, 0, none⟩) n c) (l' := l.set j x) hgr ?_ (.inl rfl)⟩
    refine ⟨by rw [I64_length, List.length_set]; omega, .inr ⟨m, c, _, by rw [List.length_set, hn2], Nat.zero_le _, hb, by rw [List.length_set]; omega, h2, by rw [Array.size_setIfInBounds]; exact h3, ?_⟩⟩
    rw [Array.toList_setIfInBounds, List.length_set]
    exact set_take_I64 l j x _ _ h4 (by omega)

/-! ### Calls of recency -/
theorem Sta.mk_ (h : Sta w0 W Hs U) : Calls Try.prog 9 #[] W fun e W' => ∃ m, e = .returned (.pointer (some ⟨m, 0, none⟩)) ∧ Sta w0 W' (Hs ++ [rcT m []]) U :=
  (new_any W).mono fun e W' ⟨m, k, y, he, hI, h1, h2, h3, hb⟩ => ⟨m, he, h.add (rcT m []) (F := fun i => i = m ∨ i = y ∨ i ∈ [k]) hb ⟨k, y, [], _, _, _, _, hI, fun _ => Iff.rfl⟩ fun x hx => by
    rcases hx with rfl | rfl | hx
    · exact h1
    · exact h3
    · rw [List.mem_singleton] at hx
      omega⟩
theorem Sta.touch_ (h : Sta w0 W Hs U) (i : Nat) (e : Hs[i]? = some (rcT m L)) (b : Int) (hb : okI64 b) (hL : L.length ≤ 1000000) : Calls Try.prog 20 #[.pointer (some ⟨m, 0, none⟩), .int .i64 b] W fun e W' => e = .returned (.tuple #[]) ∧ Sta w0 W' (Hs.set i (rcT m (tch b L))) U :=
  h.call i e fun F ⟨k, y, G, nx, pv, it, f, hI, hF⟩ => (touch_any hI b hb hL).mono fun e W' ⟨he, ⟨G', nx', pv', it', f', hI', hs⟩, hT⟩ => ⟨he, ⟨fun i => i = m ∨ i = y ∨ i ∈ k :: G', ⟨k, y, G', nx', pv', it', f', hI', fun _ => Iff.rfl⟩, fun x hx => by
    rcases hx with rfl | rfl | hx
    · exact .inl ((hF _).2 (.inl rfl))
    · exact .inl ((hF _).2 (.inr (.inl rfl)))
    · rcases List.mem_cons.1 hx with rfl | hx
      · exact .inl ((hF _).2 (.inr (.inr (List.mem_cons_self ..))))
      · exact (hs x hx).imp (fun hg => (hF _).2 (.inr (.inr (List.mem_cons_of_mem _ hg)))) id⟩, hT.wider fun i hi => (hF i).2 hi⟩
theorem Sta.drop_ (h : Sta w0 W Hs U) (i : Nat) (e : Hs[i]? = some (rcT m L)) (b : Int) (hb : okI64 b) : Calls Try.prog 11 #[.pointer (some ⟨m, 0, none⟩), .int .i64 b] W fun e W' => e = .returned (.bool (decide (b ∈ L))) ∧ Sta w0 W' (Hs.set i (rcT m (wo b L))) U :=
  h.call i e fun F ⟨k, y, G, nx, pv, it, f, hI, hF⟩ => (drop_any hI b hb).mono fun e W' ⟨he, ⟨G', nx', pv', f', hI', hs⟩, hT⟩ => ⟨he, ⟨fun i => i = m ∨ i = y ∨ i ∈ k :: G', ⟨k, y, G', nx', pv', it, f', hI', fun _ => Iff.rfl⟩, fun x hx => by
    rcases hx with rfl | rfl | hx
    · exact .inl ((hF _).2 (.inl rfl))
    · exact .inl ((hF _).2 (.inr (.inl rfl)))
    · rcases List.mem_cons.1 hx with rfl | hx
      · exact .inl ((hF _).2 (.inr (.inr (List.mem_cons_self ..))))
      · exact .inl ((hF _).2 (.inr (.inr (List.mem_cons_of_mem _ (hs x hx)))))⟩, hT.wider fun i hi => (hF i).2 hi⟩
theorem Sta.has_ (h : Sta w0 W Hs U) (i : Nat) (e : Hs[i]? = some (rcT m L)) (b : Int) (hb : okI64 b) : Calls Try.prog 13 #[.pointer (some ⟨m, 0, none⟩), .int .i64 b] W fun e W' => e = .returned (.bool (decide (b ∈ L))) ∧ W = W' :=
  h.still i e fun F ⟨k, y, G, nx, pv, it, f, hI, hF⟩ => has_any hI b hb
theorem Sta.len_ (h : Sta w0 W Hs U) (i : Nat) (e : Hs[i]? = some (rcT m L)) : Calls Try.prog 22 #[.pointer (some ⟨m, 0, none⟩)] W fun e W' => e = .returned (.int .i64 (L.length : Int)) ∧ W = W' :=
  h.still i e fun F ⟨k, y, G, nx, pv, it, f, hI, hF⟩ => len_any hI
theorem Sta.oldest_ (h : Sta w0 W Hs U) (i : Nat) (e : Hs[i]? = some (rcT m L)) (hL : L.length ≤ 1000000) (n : Int) (T : List Int) (hT : L.take n.toNat = T) : Calls Try.prog 15 #[.pointer (some ⟨m, 0, none⟩), .int .i64 n] W fun e W' => ∃ A c, e = .returned (.slice A T.length c) ∧ T.length ≤ c ∧ c ≤ 9223372036854775807 ∧ Sta w0 W' (Hs ++ [ilT (.slice A T.length c) T]) U := by
  obtain ⟨F, k, y, G, nx, pv, it, f, hI, hF⟩ := h.thing i e
  refine (oldest_any hI hL n T hT).mono fun _ W' ⟨v, he, ho, hb⟩ => ?_
  obtain ⟨A, c, rfl, h1, h2⟩ := own_shape ho
  exact ⟨A, c, he, h1, h2, h.row hb ho⟩
theorem Sta.all_ (h : Sta w0 W Hs U) (i : Nat) (e : Hs[i]? = some (rcT m L)) (hL : L.length ≤ 1000000) : Calls Try.prog 23 #[.pointer (some ⟨m, 0, none⟩)] W fun e W' => ∃ A c, e = .returned (.slice A L.length c) ∧ L.length ≤ c ∧ c ≤ 9223372036854775807 ∧ Sta w0 W' (Hs ++ [ilT (.slice A L.length c) L]) U := by
  obtain ⟨F, k, y, G, nx, pv, it, f, hI, hF⟩ := h.thing i e
  refine (all_any hI hL).mono fun _ W' ⟨v, he, ho, hb⟩ => ?_
  obtain ⟨A, c, rfl, h1, h2⟩ := own_shape ho
  exact ⟨A, c, he, h1, h2, h.row hb ho⟩
theorem Sta.uniq (h : Sta w0 W Hs U) (i : Nat) (e : Hs[i]? = some (rcT m L)) : L.Nodup := by
  obtain ⟨F, k, y, G, nx, pv, it, f, hI, hF⟩ := h.thing i e
  exact hI.uniq
theorem Sta.fits (h : Sta w0 W Hs U) (i : Nat) (e : Hs[i]? = some (rcT m L)) : ∀ b ∈ L, okI64 b := by
  obtain ⟨F, k, y, G, nx, pv, it, f, hI, hF⟩ := h.thing i e
  exact hI.fits
end
theorem take_next {L : List Int} (hu : L.Nodup) {j : Nat} {x : Int} (h : L[j]? = some x) : tch x (L.take j) = L.take (j + 1) := by
  have hx : x ∉ L.take j := fun hm => by
    obtain ⟨i, hi⟩ := List.getElem?_of_mem hm
    rw [List.getElem?_take] at hi
    split at hi
    · rename_i hij
      have hil := (List.getElem?_eq_some_iff.1 hi).1
      have := (List.getElem?_inj hil hu).1 (hi.trans h.symm)
      omega
    · cases hi
  rw [tch_new hx, take_more h]
/-- 'r.Clone()'. -/
theorem clone_core {w w1 : World} {m k y : Nat} {G : List Nat} {nx pv : Nat → Nat} {it : Nat → Int} {f : Int → Option Value} {L : List Int} (h : RcIn w m k y G nx pv it f L) (hL : L.length ≤ 1000000) :
    Calls Try.prog 19 #[.pointer (some ⟨m, 0, none⟩)] w fun e w' => ∃ c, e = .returned (.pointer (some ⟨c, 0, none⟩)) ∧ ∃ H, Sta w w' [rcT c L, H] [] := by
  have HH := hide h
  have HU := hide h.uniq
  have HF := hide h.fits
  have HS_w : Hid (Sta w w [] []) := hide (Sta.begin w)
  clear h
  go_enter Try.func19, Try.ntmps19
  go_wp2_with (first
    | (go_at_call 9; refine (HS_w.out.mk_).mono ?_; rintro _ w1 ⟨c, rfl, hsq⟩; have HS_w1 : Hid (Sta w w1 [rcT c []] []) := hide hsq; clear hsq)
    | (go_at_call 23; refine (all_any (HH.out.later HS_w1.out.low) hL).mono ?_; rintro _ w2 ⟨v, rfl, ho, hb⟩; obtain ⟨A, ca, rfl, hn1, hn2⟩ := own_shape ho; have HS_w2 : Hid (Sta w w2 [rcT c [], ilT (.slice A L.length ca) L] []) := hide (HS_w1.out.row hb ho); clear ho hb))
  go_loopw [5, 10] (fun s5 s10 wr => ∃ j : Nat, j ≤ L.length ∧ s10 = .int .i64 (j : Int) ∧ Hid (Sta w wr [rcT c (L.take j), ilT (.slice A L.length ca) L] [])) (fun _ s10 _ => L.length - (intOf s10).toNat)
  case atStart => exact ⟨0, Nat.zero_le _, rfl, HS_w2⟩
  case round =>
    obtain ⟨j, hj, rfl, HS⟩ := hrel
    by_cases hjl : j < L.length
    · obtain ⟨x, hx⟩ : ∃ x, L[j]? = some x := ⟨_, List.getElem?_eq_getElem hjl⟩
      obtain ⟨g, rfl, _, hcx⟩ := HS.out.num 1 rfl hx
      have hjj : (j : Int) < (L.length : Int) := by omega
      have HX := hide hx
      have HLT := hide (show (L.take j).length ≤ 1000000 by rw [List.length_take]; omega)
      clear hx
      go_wp2_with (first
        | (go_at_call 20; refine (HS.out.touch_ 0 rfl x (HF.out x (List.mem_of_getElem? HX.out)) HLT.out).mono ?_; rintro _ w3 ⟨rfl, hsq⟩; rw [take_next HU.out HX.out] at hsq; have HS3 : Hid (Sta w w3 [rcT c (L.take (j + 1)), ilT (.slice (some ⟨g, 0, none⟩) L.length ca) L] []) := hide hsq; clear hsq))
      go_roundw
      case rel => exact ⟨j + 1, by omega, by go_num, HS3⟩
      case measure => simp [intOf]; omega
    · obtain rfl : j = L.length := by omega
      have e : L.take L.length = L := List.take_of_length_le (Nat.le_refl _)
      rw [e] at HS
      clear e
      go_wp2_with fail
      go_ret
      exact ⟨c, rfl, _, HS.out⟩
section
variable {w0 W W' : World} {Hs : List Thing} {U : VarsT} {m : Nat} {L l : List Int}
theorem Sta.clone_ (h : Sta w0 W Hs U) (i : Nat) (e : Hs[i]? = some (rcT m L)) (hL : L.length ≤ 1000000) : Calls Try.prog 19 #[.pointer (some ⟨m, 0, none⟩)] W fun e W' => ∃ c, e = .returned (.pointer (some ⟨c, 0, none⟩)) ∧ Sta w0 W' (Hs ++ [rcT c L]) U := by
  obtain ⟨F, k, y, G, nx, pv, it, f, hI, hF⟩ := h.thing i e
  refine (clone_core (w1 := W) hI hL).mono fun _ W' ⟨c, he, H, hs⟩ => ?_
  obtain ⟨h0, ⟨Fs, q1, q2, q3, q4⟩, h5, h6⟩ := hs
  exact ⟨c, he, h.add (rcT c L) h0 (q1 0 _ rfl) fun x hx => q3 0 x (by simp) hx⟩
end
theorem Sta.drewN_ {w0 W : World} {Hs : List Thing} {U : VarsT} (h : Sta w0 W Hs U) {k : Nat} : Sta w0 (W.drewN k) Hs U := h.later ⟨rfl, rfl, rfl, Nat.le_refl _, fun _ _ => rfl⟩
#print axioms Sta.clone_
end Go.Proofs.Ythodmhjlokfcaaa
