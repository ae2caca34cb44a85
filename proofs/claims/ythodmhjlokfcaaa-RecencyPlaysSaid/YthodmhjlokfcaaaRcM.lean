/- Who was written last, in memory: links in a ring, each in a block of its own, and a map that tells which is whose; what New, Has, Len, Oldest and All answer. -/
import Derived.Test.YthodmhjlokfcaaaRcP
import Derived.Test.YthodmhjlokfcaaaSta
import Derived.Test.YthodmhjlokfcaaaMade
import Derived.Test.YthodmhjlokfcaaaPoke
import Derived.Test.YthodmhjlokfcaaaStepK
import Derived.LaidEql
import Derived.Outline
import Derived.BigQuiet
import Derived.OwnWalk
namespace Go.Proofs.Ythodmhjlokfcaaa
open Go.RowKit Go.Maps
set_option linter.unusedVariables false

/-! ### Links -/
def lkC (i : Int) (p n : Nat) : List Value := [.int .i64 i, .pointer (some ⟨p, 0, none⟩), .pointer (some ⟨n, 0, none⟩)]
theorem lk_set2 (i : Int) (p n l : Nat) : (lkC i p n).toArray.setIfInBounds 2 (.pointer (some ⟨l, 0, none⟩)) = (lkC i p l).toArray := rfl
theorem lk_set1 (i : Int) (p n l : Nat) : (lkC i p n).toArray.setIfInBounds 1 (.pointer (some ⟨l, 0, none⟩)) = (lkC i l n).toArray := rfl
/-- Each of S is a link. -/
def Lks (W : World) (S : List Nat) (nx pv : Nat → Nat) (it : Nat → Int) : Prop := ∀ x, x ∈ S → Blk W x 51 (lkC (it x) (pv x) (nx x)).toArray
section
variable {W W' : World} {S : List Nat} {nx pv : Nat → Nat} {it : Nat → Int}
theorem Lks.kept (h : Lks W S nx pv it) (hk : ∀ x ∈ S, W'.heap[x]? = W.heap[x]?) : Lks W' S nx pv it := fun x hx => (h x hx).of_block (hk x hx)
theorem Lks.lt (h : Lks W S nx pv it) {x : Nat} (hx : x ∈ S) : x < W.heap.size := (h x hx).lt
theorem Lks.later (h : Lks W S nx pv it) (hb : Below W.heap.size W W') : Lks W' S nx pv it := h.kept fun x hx => hb.block x (h.lt hx)
theorem Lks.newer (h : Lks W S nx pv it) {z l : Nat} (hb : Blk W' z 51 ((lkC (it z) (pv z) (nx z)).toArray.setIfInBounds 2 (.pointer (some ⟨l, 0, none⟩)))) (hg : W.grownBy W' (some z)) : Lks W' S (upd nx z l) pv it := fun x hx => by
  rw [lk_set2] at hb
  by_cases e : x = z
  · subst e
    rw [upd_self]
    exact hb
  · rw [upd_ne _ _ e]
    exact (h x hx).grown hg fun e2 => e (by injection e2)
theorem Lks.older (h : Lks W S nx pv it) {z l : Nat} (hb : Blk W' z 51 ((lkC (it z) (pv z) (nx z)).toArray.setIfInBounds 1 (.pointer (some ⟨l, 0, none⟩)))) (hg : W.grownBy W' (some z)) : Lks W' S nx (upd pv z l) it := fun x hx => by
  rw [lk_set1] at hb
  by_cases e : x = z
  · subst e
    rw [upd_self]
    exact hb
  · rw [upd_ne _ _ e]
    exact (h x hx).grown hg fun e2 => e (by injection e2)
end
theorem link_one (i : Int) (p n : Nat) : ∀ v ∈ lkC i p n, v.oneCell' = true := by
  intro v hv
  simp [lkC] at hv
  rcases hv with rfl | rfl | rfl <;> rfl

/-! ### The row -/
/-- Block m is the row of the blocks L: its knot k, its map y, its links G. -/
structure RcIn (W : World) (m k y : Nat) (G : List Nat) (nx pv : Nat → Nat) (it : Nat → Int) (f : Int → Option Value) (L : List Int) : Prop where
  head : Blk W m 47 #[.pointer (some ⟨k, 0, none⟩), .map (some y)]
  lks : Lks W (k :: G) nx pv it
  ring : Ring k G nx pv
  items : G.map it = L
  uniq : L.Nodup
  map : MapIs intKey W y f
  yes : ∀ x, x ∈ G → f (it x) = some (.pointer (some ⟨x, 0, none⟩))
  no : ∀ b, b ∉ L → f b = none
  far : m ∉ k :: G ∧ y ∉ k :: G ∧ m ≠ y
section
variable {W W' : World} {m k y : Nat} {G : List Nat} {nx pv : Nat → Nat} {it : Nat → Int} {f : Int → Option Value} {L : List Int}
theorem RcIn.kept (h : RcIn W m k y G nx pv it f L) (h1 : W'.heap[m]? = W.heap[m]?) (h2 : W'.heap[y]? = W.heap[y]?) (h3 : ∀ x ∈ k :: G, W'.heap[x]? = W.heap[x]?) : RcIn W' m k y G nx pv it f L :=
  ⟨h.head.of_block h1, h.lks.kept h3, h.ring, h.items, h.uniq, h.map.of_block h2, h.yes, h.no, h.far⟩
theorem RcIn.later (h : RcIn W m k y G nx pv it f L) (hb : Below W.heap.size W W') : RcIn W' m k y G nx pv it f L :=
  h.kept (hb.block _ h.head.lt) (hb.block _ h.map.lt) fun x hx => hb.block _ (h.lks.lt hx)
theorem RcIn.c0 (h : RcIn W m k y G nx pv it f L) : W.cell? ⟨m, 0, none⟩ = some (.pointer (some ⟨k, 0, none⟩)) := h.head.cell 0
theorem RcIn.c1 (h : RcIn W m k y G nx pv it f L) : W.cell? ⟨m, 1, none⟩ = some (.map (some y)) := h.head.cell 1
theorem RcIn.len (h : RcIn W m k y G nx pv it f L) : G.length = L.length := by rw [← h.items, List.length_map]
/-- Where a block hangs. -/
theorem RcIn.at_ (h : RcIn W m k y G nx pv it f L) {b : Int} (hb : b ∈ L) : ∃ A x B, G = A ++ x :: B ∧ it x = b ∧ f b = some (.pointer (some ⟨x, 0, none⟩)) := by
  rw [← h.items] at hb
  obtain ⟨x, hx, e⟩ := List.mem_map.1 hb
  obtain ⟨A, B, e2⟩ := List.append_of_mem hx
  exact ⟨A, x, B, e2, e, by rw [← e]; exact h.yes x hx⟩
theorem RcIn.has (h : RcIn W m k y G nx pv it f L) (b : Int) : (f b).isSome = decide (b ∈ L) := by
  by_cases hb : b ∈ L
  · obtain ⟨A, x, B, _, _, e⟩ := h.at_ hb
    rw [e, decide_eq_true hb]
    rfl
  · rw [h.no b hb, decide_eq_false hb]
    rfl
theorem RcIn.keys (h : RcIn W m k y G nx pv it f L) : ∀ b, b ∈ L ↔ (f b).isSome = true := fun b => by rw [h.has b, decide_eq_true_eq]
theorem RcIn.fits (h : RcIn W m k y G nx pv it f L) : ∀ b ∈ L, okI64 b := fun b hb => by
  obtain ⟨D, _, hs⟩ := h.map
  obtain ⟨A, x, B, _, _, e⟩ := h.at_ hb
  exact hs.fits b _ e
end
/-- As a thing. -/
def rcT (m : Nat) (L : List Int) : Thing where
  is W F := ∃ k y G nx pv it f, RcIn W m k y G nx pv it f L ∧ ∀ i, F i ↔ i = m ∨ i = y ∨ i ∈ k :: G
  lt := fun {w F} ⟨k, y, G, nx, pv, it, f, h, hF⟩ i hi => by
    rcases (hF i).1 hi with rfl | rfl | hg
    · exact h.head.lt
    · exact h.map.lt
    · exact h.lks.lt hg
  kept := fun {w w' F} ⟨k, y, G, nx, pv, it, f, h, hF⟩ hk => ⟨k, y, G, nx, pv, it, f, h.kept (hk m ((hF m).2 (.inl rfl))) (hk y ((hF y).2 (.inr (.inl rfl)))) (fun x hx => hk x ((hF x).2 (.inr (.inr hx)))), hF⟩

/-! ### At the operation -/
section
variable {ops : Array Oper} {rest : List Oper} {o : Oper} {a : Act} {w : World} {Q : Exit → Act → World → Prop}
theorem wpList_makeMapI (hgd : o.guard = none) (t : TypeId) (ho : o.op = .makeMap t none)
    (hK : ∀ w', MapIs intKey w' w.heap.size (fun _ => none) → Below w.heap.size w w' → w'.heap.size = w.heap.size + 1 → wpList Try.prog ops Q rest (a.put o.dst (.map (some w.heap.size))) w') : wpList Try.prog ops Q (o :: rest) a w :=
  wpList_plain hgd fun _ hK' => by
    have hmm := @run_makeMap Try.prog
    unfold Oper.wp
    simp [execOp, ho, hmm, Result.andThen]
    exact hK' _ _ (hK _ (MapIs.new w) ((Below.refl _ _).alloc (Nat.le_refl _) _) (World.size_alloc _ _))
theorem wpList_mlen (hgd : o.guard = none) (m : Operand) (t e : TypeId) (hop : o.op = Op.call { callee := Callee.builtin Builtin.len, args := #[m], argTypes := #[t] }) (ht : Try.prog.underlying t = some (.map intKey.kt e)) (b : Nat) (f : Int → Option Value)
    (hm : a.eval m = .map (some b)) (h : MapIs intKey w b f) (l : List Int) (hl : l.Nodup) (hlm : ∀ k, k ∈ l ↔ (f k).isSome = true)
    (hK : wpList Try.prog ops Q rest (a.put o.dst (.int .i64 (l.length : Int))) w) : wpList Try.prog ops Q (o :: rest) a w :=
  wpList_plain hgd fun _ hK' => by
    have hrun := h.len ht o.type hl hlm
    unfold Oper.wp
    simp [execOp, hop, resolve, invoke, builtin, hm, hrun, Result.andThen]
    exact hK' _ _ hK
end
theorem run_neq_link (w : World) {x k : Nat} {ca cb : Array Value} {ta tb : TypeId} (hx : Blk w x ta ca) (hk : Blk w k tb cb) :
    (binOp .neq 41 (.pointer (some ⟨x, 0, none⟩)) (.pointer (some ⟨k, 0, none⟩))).run Try.prog w = .ok (.bool (decide (x ≠ k))) w := by
  have hp : Try.prog.underlying 41 = some (.pointer 51) := Try.underlying41
  obtain ⟨j, hj, hs⟩ : ∃ j, Try.prog.info? 51 = some j ∧ j.size = 3 := by
    have h : (Try.prog.info? 51).map (·.size) = some 3 := by kernel_rfl
    cases hc : Try.prog.info? 51 with
    | none => rw [hc] at h; cases h
    | some j => rw [hc] at h; exact ⟨j, rfl, by injection h⟩
  by_cases e : x = k
  · subst e
    have h : ∀ d : Nat, (Op.equalIn (d + 1) 41 (.pointer (some ⟨x, 0, none⟩)) (.pointer (some ⟨x, 0, none⟩))).run Try.prog w = .ok true w := fun d => by
      simp [Op.equalIn, run_underlying hp, sizeOf, typeInfo, hj, run_sameAddr_same]
    simp only [binOp]
    simp [Op.equal, Op.maxDepth, h 9999]
  · have hne : (⟨x, 0, none⟩ : Addr) ≠ ⟨k, 0, none⟩ := fun e2 => e (by injection e2)
    have h : ∀ d : Nat, (Op.equalIn (d + 1) 41 (.pointer (some ⟨x, 0, none⟩)) (.pointer (some ⟨k, 0, none⟩))).run Try.prog w = .ok false w := fun d => by
      simp [Op.equalIn, run_underlying hp, sizeOf, typeInfo, hj, hs, run_sameAddr_other w hne hx hk]
    simp only [binOp]
    simp [Op.equal, Op.maxDepth, h 9999, e]
theorem int_parts16 : (Try.prog.info? 3).map (fun i => (i.zero, i.size, i.bytes)) = some (some (.int .i64 0), 1, 8) := by kernel_rfl
theorem own_mono {w : World} {base base' : Nat} {e : TypeId} {size : Nat} {v : Value} {n : Nat} {xs : List Value} (h : w.ownsRow base e size v n xs) (hb : base' ≤ base) : w.ownsRow base' e size v n xs :=
  ⟨h.1, h.2.imp id fun ⟨g, cap, cur, hv, hg, r⟩ => ⟨g, cap, cur, hv, Nat.le_trans hb hg, r⟩⟩
def lenOf : Value → Nat
  | .slice _ n _ => n
  | _ => 0
theorem take_cells {l : List Int} {j : Nat} {x : Int} (h : l[j]? = some x) : I64 (l.take (j + 1)) = I64 (l.take j) ++ [.int .i64 x] := by
  rw [take_more h, I64_append]
  rfl

/-! ### Has, Len -/
section
variable {w w' : World} {m k y : Nat} {G : List Nat} {nx pv : Nat → Nat} {it : Nat → Int} {f : Int → Option Value} {L : List Int}
set_option maxRecDepth 100000 in
theorem has_any (h : RcIn w m k y G nx pv it f L) (b : Int) (hb : okI64 b) :
    Calls Try.prog 13 #[.pointer (some ⟨m, 0, none⟩), .int .i64 b] w fun e w' => e = .returned (.bool (decide (b ∈ L))) ∧ w = w' := by
  have hc := h.c1
  have HM := hide h.map
  obtain ⟨z, hz⟩ : ∃ z, (f b).getD (.pointer none) = z := ⟨_, rfl⟩
  have HL := hide (And.intro hz (h.has b))
  have HG := hide hb
  clear h hb hz
  obtain ⟨t, ht⟩ : ∃ t, decide (b ∈ L) = t := ⟨_, rfl⟩
  rw [ht] at HL ⊢
  clear ht
  go_enter Try.func13, Try.ntmps13
  go_wp2_with (first
    | (refine wpList_look rfl (.tmp 11) (.tmp 12) 45 41 true rfl Try.underlying45 _ (Try.zeroValue41 _) y f rfl HM.out b rfl HG.out (.tuple #[z, .bool t]) (by rw [HL.out.1, HL.out.2]; rfl) ?_))
  go_ret
  exact ⟨rfl, rfl⟩
set_option maxRecDepth 100000 in
theorem len_any (h : RcIn w m k y G nx pv it f L) :
    Calls Try.prog 22 #[.pointer (some ⟨m, 0, none⟩)] w fun e w' => e = .returned (.int .i64 (L.length : Int)) ∧ w = w' := by
  have hc := h.c1
  have HM := hide h.map
  have HK := hide h.keys
  have HU := hide h.uniq
  clear h
  go_enter Try.func22, Try.ntmps22
  go_wp2_with (first
    | (refine wpList_mlen rfl (.tmp 6) 45 41 rfl Try.underlying45 y f rfl HM.out L HU.out HK.out ?_))
  go_ret
  exact ⟨rfl, rfl⟩

/-! ### Oldest, All -/
set_option maxRecDepth 100000 in
theorem oldest_core (hl : Lks w (k :: G) nx pv it) (hr : Ring k G nx pv) (hi : G.map it = L) (hL : L.length ≤ 1000000) (n : Int) (T : List Int) (hT : L.take n.toNat = T) :
    Calls Try.prog 26 #[.agg #[.pointer (some ⟨k, 0, none⟩)], .int .i64 n] w fun e w' => ∃ v, e = .returned v ∧ w'.ownsRow w.heap.size 3 1 v T.length (I64 T) ∧ Below w.heap.size w w' := by
  obtain ⟨i0, hi0, hz0, hz1i, hz2i⟩ := info_parts int_parts16
  have HLK := hide hl
  have HR := hide hr
  have HI := hide hi
  have hlen : G.length = L.length := by rw [← hi, List.length_map]
  have HLN := hide hlen
  have HT := hide hT
  clear hl hr hi hlen hT
  go_enter Try.func26, Try.ntmps26
  go_wp2_with (first
    | ((with_reducible refine at_slot 2 ?_); refine wpList_box_blk rfl 43 _ rfl (.agg #[.pointer (some ⟨k, 0, none⟩)]) rfl ?_; intro w1 hb1 hl1 hs1; have c0 : w1.cell? ⟨w.heap.size, 0, none⟩ = some (.pointer (some ⟨k, 0, none⟩)) := hb1.cell 0; have k2 : w1.cell? ⟨k, 2, none⟩ = some (.pointer (some ⟨nx k, 0, none⟩)) := ((HLK.out.later hl1) k (List.mem_cons_self ..)).cell 2; have HB1 := hide hb1; have HL1 := hide hl1; have hz1 := hl1.size; clear hb1 hl1))
  go_loopw [5, 6] (fun v l wr => ∃ (j x : Nat), j ≤ L.length ∧ j ≤ n.toNat ∧ l = .pointer (some ⟨x, 0, none⟩) ∧ Hid ((G ++ [k])[j]? = some x) ∧ Hid (wr.ownsRow w1.heap.size 3 1 v j (I64 (L.take j))) ∧ Hid (Below w1.heap.size w1 wr)) (fun v _ _ => L.length - lenOf v)
  case atStart => exact ⟨0, nx k, Nat.zero_le _, Nat.zero_le _, rfl, hide HR.out.first, hide ⟨rfl, .inl ⟨rfl, rfl⟩⟩, hide (Below.refl _ _)⟩
  case round =>
    clear k2
    obtain ⟨j, x, hj, hjn, rfl, HX, HO, HB⟩ := hrel
    have c1 : wr.cell? ⟨w.heap.size, 0, none⟩ = some (.pointer (some ⟨k, 0, none⟩)) := (HB1.out.below HB.out (by omega)).cell 0
    have HLr := hide (HLK.out.later (HL1.out.trans (HB.out.mono hz1)))
    obtain ⟨A, c, rfl, hjc, hcm⟩ := own_shape HO.out
    have hxm : x ∈ k :: G := by
      have h1 := List.mem_of_getElem? HX.out
      rw [List.mem_append, List.mem_singleton] at h1
      rw [List.mem_cons]
      exact h1.symm
    have hneq := run_neq_link wr (HLr.out x hxm) (HLr.out k (List.mem_cons_self ..))
    by_cases hjl : j < L.length
    · have hg := Ring.in_ (by rw [HLN.out]; exact hjl) HX.out
      have hxk : decide (x ≠ k) = true := decide_eq_true fun e => by
        have h1 := HR.out.nodup
        rw [List.nodup_cons] at h1
        exact h1.1 (e ▸ List.mem_of_getElem? hg)
      rw [hxk] at hneq
      have hlt : L[j]? = some (it x) := by rw [← HI.out, List.getElem?_map, hg]; rfl
      have HLT := hide hlt
      have HNX := hide (HR.out.next hg)
      have x0 : wr.cell? ⟨x, 0, none⟩ = some (.int .i64 (it x)) := (HLr.out x hxm).cell 0
      have x2 : wr.cell? ⟨x, 2, none⟩ = some (.pointer (some ⟨nx x, 0, none⟩)) := (HLr.out x hxm).cell 2
      have HX2 := hide (fun (W : World) (hW : Below wr.heap.size wr W) => show W.cell? ⟨x, 2, none⟩ = some (.pointer (some ⟨nx x, 0, none⟩)) from ((HLr.out x hxm).below hW (HLr.out x hxm).lt).cell 2)
      clear hlt hxk hg
      by_cases hjn2 : (j : Int) < n
      · have HM := hide (show j + 1 ≤ maxLen ∧ (j + 1) * 8 ≤ 140737488355328 by simp only [maxLen]; omega)
        go_wp2_with (first
          | ((with_reducible refine at_slot 32 ?_); refine wpList_append_any _ rfl (.tmp 26) (.tmp 31) _ rfl w1.heap.size 3 i0 _ 1 8 Try.underlying31 hi0 hz0 hz1i hz2i rfl (by decide) _ j _ rfl (own_later HO.out (((Below.refl _ wr).alloc (Nat.le_refl _) _))) (wr.heap.size + 1) (some ⟨wr.heap.size, 0, none⟩) 1 1 [.int .i64 (it x)] rfl (Reads.one _ _ _ _ (by omega)) (by intro x hx; simp at hx; subst hx; rfl) HM.out.1 HM.out.2 (by rw [World.size_alloc]; have := HB.out.size; omega) ?_; intro v3 w3 hown3 hl3; have HO3 := hide hown3; have HL3 := hide hl3; obtain ⟨A3, c3, rfl, _, _⟩ := own_shape hown3; have HB3 := hide ((HB.out.trans (((Below.refl _ wr).alloc (Nat.le_refl _) _).mono HB.out.size)).trans hl3); have q2 : w3.cell? ⟨x, 2, none⟩ = some (.pointer (some ⟨nx x, 0, none⟩)) := ((HLK.out.later (HL1.out.trans (HB3.out.mono hz1))) x hxm).cell 2; clear hown3 hl3))
        have HO4 : Hid (w3.ownsRow w1.heap.size 3 1 (.slice A3 (j + 1) c3) (j + 1) (I64 (L.take (j + 1)))) := hide (by rw [take_cells HLT.out]; exact HO3.out)
        go_roundw
        case rel => exact ⟨j + 1, nx x, by omega, by omega, rfl, HNX, HO4, HB3⟩
        case measure => simp [lenOf]; omega
      · have e : L.take n.toNat = L.take j := by congr 1; omega
        have HE := hide e
        have HLL := hide (show (L.take j).length = j by rw [List.length_take]; omega)
        have HO5 : Hid (wr.ownsRow w.heap.size 3 1 (.slice A j c) T.length (I64 T)) := hide (by rw [← HT.out, HE.out, HLL.out]; exact own_mono HO.out (by omega))
        clear e
        go_wp2_with fail
        go_ret
        exact ⟨.slice A j c, rfl, HO5.out, (HL1.out.trans (HB.out.mono hz1))⟩
    · obtain rfl : j = L.length := by omega
      have hx : x = k := by
        have h1 := HX.out
        rw [← HLN.out, Ring.end_] at h1
        injection h1 with h1
        exact h1.symm
      subst hx
      have hxk : decide (x ≠ x) = false := decide_eq_false fun e => e rfl
      rw [hxk] at hneq
      have e : L.take n.toNat = L := List.take_of_length_le (by omega)
      have e2 : L.take L.length = L := List.take_of_length_le (Nat.le_refl _)
      have HE := hide e
      have HO5 : Hid (wr.ownsRow w.heap.size 3 1 (.slice A L.length c) T.length (I64 T)) := hide (by have h1 := HO.out; rw [e2] at h1; rw [← HT.out, e]; exact own_mono h1 (by omega))
      clear e e2 hxk
      go_wp2_with fail
      go_ret
      exact ⟨_, rfl, HO5.out, (HL1.out.trans (HB.out.mono hz1))⟩
end
#print axioms oldest_core
end Go.Proofs.Ythodmhjlokfcaaa
