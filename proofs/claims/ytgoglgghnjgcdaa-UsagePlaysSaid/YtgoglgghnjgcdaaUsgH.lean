/- What Groups, Drop and Emptiest of a table do. -/
import Derived.Test.YtgoglgghnjgcdaaUsgG
namespace Go.Proofs.Ytgoglgghnjgcdaa
open Go.RowKit Go.Maps Go.Sort Go.Shelf

/-- slices.Sort's two contracts at this program, at the fence that asks nothing. -/
theorem sorts_any (m : Nat) : AnyZI.SortsIn Try.prog lay_sorted_ren Fence.wide m :=
  ⟨fun blk off cap ss W hH hblk hsz => callsIn_wide.2 (AnyM.slices_Sort_int lay_sort blk off cap ss W hH hblk hsz),
   fun p cap W => callsIn_wide.2 (AnyM.slices_Sort_int_none lay_sort p cap W)⟩
theorem sort_perm {a b : List Int} (h : a.Perm b) : a.mergeSort (fun x y => decide (x ≤ y)) = b.mergeSort (fun x y => decide (x ≤ y)) := by
  have hs : ∀ l : List Int, (l.mergeSort (fun x y => decide (x ≤ y))).Pairwise (fun x y => x ≤ y) := fun l =>
    (List.pairwise_mergeSort (le := fun x y => decide (x ≤ y)) (fun a b c h1 h2 => by simp at *; omega) (fun a b => by simp; omega) l).imp (fun h => by simpa using h)
  exact List.Perm.eq_of_pairwise (fun x y _ _ h1 h2 => by omega) (hs a) (hs b) ((List.mergeSort_perm _ _).trans (h.trans (List.mergeSort_perm _ _).symm))
/-- The numbers of all groups, rising. -/
def Us.groups (S : Us) : List Int := (S.G.map Gr.id).mergeSort (fun x y => decide (x ≤ y))
theorem Us.groups_len (S : Us) : S.groups.length = S.G.length := by unfold Us.groups; rw [List.length_mergeSort, List.length_map]
theorem int_keys_perm {D : DataW Value} {f : Int → Option Value} (h : Sees intKey D f) {l : List Int} (hl : l.Nodup) (hm : ∀ k, k ∈ l ↔ (f k).isSome = true) : (intKeys D).Perm l := by
  obtain ⟨es, rfl, hp⟩ := h.keys_perm hl hm
  have h1 : intKeys (.map es) = (es.map (·.1)).map _root_.Go.intOf := by
    rw [List.map_map]
    rfl
  have h2 : (l.map intKey.lit).map _root_.Go.intOf = l := by
    rw [List.map_map]
    have : (_root_.Go.intOf ∘ intKey.lit) = id := funext fun i => rfl
    rw [this, List.map_id]
  rw [h1]
  exact (hp.map _).trans (by rw [h2])
section
variable {S : Us} {w : World} {t x y z : Nat}
set_option maxHeartbeats 1000000 in
theorem groups_raw {H : Type} (xb nn : Nat) (D0 : DataW H) (R : Value → Option (DataW H × List MemPlace)) (w : World) (hc : w.cell? ⟨t, 0, none⟩ = some (.map (some xb))) (hown : w.ownsMap Try.prog 3 R xb nn D0) (hmax : Maps.size D0 ≤ maxLen) (hbytes : Maps.size D0 * 8 ≤ 140737488355328) :
    Calls Try.prog 27 #[.pointer (some ⟨t, 0, none⟩)] w fun e w' => ∃ (v : Value) (ss : List Int), e = .returned v ∧ ss.Perm (intKeys D0) ∧
      w'.ownsRow w.heap.size 3 1 v ss.length ((ss.mergeSort (fun x y => decide (x ≤ y))).map encZ) ∧ Below w.heap.size w w' := by
  refine (callsIn_wide (n := 6)).1 ?_
  have hbl := hown.lt
  have hseq : SeqGives Fence.wide 2 Try.prog 55 #[.pointer (some ⟨w.heap.size, 0, none⟩)] encZ (fun ss => ss.Perm (intKeys D0)) (Maps.size D0) (w.alloc (.cells #[.map (some xb)] 52)) :=
    AnyZI.keys_gives (ρ := lay_keys_ren) { lay_keys with } Fence.wide _ trivial rfl (by omega) w.heap.size xb nn D0 _ (by simp) (by simp) (by
      obtain ⟨es, clock, hb, Ft, hs, hD⟩ := hown
      exact ⟨es, clock, (Below.heap_alloc _ _ xb hbl).trans hb, Ft, hs, hD⟩)
  have cK : ∀ mb W, CallsIn Fence.wide 5 Try.prog 48 #[.map mb] W fun e w' => e = .returned (.func (.func 55) #[] #[.pointer (some ⟨W.heap.size, 0, none⟩)]) ∧ w' = W.alloc (.cells #[.map mb] 52) := fun mb W => AnyZI.keys_in lay_keys Fence.wide 5 trivial rfl mb W
  have cS := AnyZI.sorted_in lay_sorted Fence.wide 5 trivial trivial trivial trivial rfl (by omega) (sorts_any _) (enters_of Try.func54 (by kernel_rfl) rfl) 55 #[.pointer (some ⟨w.heap.size, 0, none⟩)] trivial (enters_of Try.func55 (by kernel_rfl) rfl) _ _ hmax hbytes _ hseq
  change CallsIn _ _ Try.prog 47 _ _ _ at cS
  have hfK : Fence.wide.fn 48 := trivial
  have hfS : Fence.wide.fn 47 := trivial
  refine callsIn_of_wp Try.func27 rfl trivial ?_ rfl
  simp only [Try.ntmps27, List.size_toArray, List.length_cons, List.length_nil, Nat.reduceAdd, Nat.reduceSub, Array.replicate_succ, Array.replicate_zero, List.push_toArray, List.append_toArray, List.nil_append, List.cons_append]
  gi_wp2_with (first
    | (gi_at_call 48; refine (cK _ _).mono ?_; rintro e w' ⟨rfl, rfl⟩)
    | (gi_at_call 47; refine cS.mono ?_; rintro e w' ⟨v, ss, rfl, hS, hrow, hnil, hb⟩))
  go_ret
  exact ⟨v, ss, rfl, hS, ownsRow_base_a hrow (by simp), ((Below.refl _ w).alloc (Nat.le_refl _) _).trans (hb.mono (by simp))⟩
theorem groups_any (m : UsIn w t x y z S) (hok : Few S) :
    Calls Try.prog 27 #[.pointer (some ⟨t, 0, none⟩)] w fun e w' => ∃ v, e = .returned v ∧ w'.ownsRow w.heap.size 3 1 v S.groups.length (I64 S.groups) ∧ Below w.heap.size w w' := by
  have hc := UsM.c0 m
  obtain ⟨D, ho, hs⟩ := UsM.gm m
  have hsz := hs.size_of hok.ok.ids (gF_mem _)
  have hf := hok.gs
  rw [List.length_map] at hsz
  refine (groups_raw x _ D RH w hc ho (by rw [hsz]; unfold maxLen; omega) (by omega)).mono fun e w' ⟨v, ss, k1, k2, k3, k4⟩ => ⟨v, k1, ?_, k4⟩
  have hperm := k2.trans (int_keys_perm hs hok.ok.ids (gF_mem _))
  have e1 : ss.mergeSort (fun x y => decide (x ≤ y)) = S.groups := sort_perm hperm
  have e2 : ss.length = S.groups.length := by rw [hperm.length_eq, S.groups_len, List.length_map]
  rw [e1, e2] at k3
  exact k3
/-! ### Drop -/
theorem Few.cutB (h : Few S) (l : List Int) : Few (S.cutB l) := ⟨h.ok.cutB l, h.gs, by have : (S.cutB l).L.length ≤ S.L.length := List.length_filter_le _ _; have := h.ls; omega⟩
/-- One more block of the group is killed. -/
theorem cutB_step (h : S.Ok) {g b : Int} {k : Nat} (hk : (S.blocks g)[k]? = some b) : ∃ s, (S.cutB ((S.blocks g).take k)).at_ g s = some b ∧ (S.cutB ((S.blocks g).take k)).fnd b = some (g, s) ∧ (S.cutB ((S.blocks g).take k)).killed g s = S.cutB ((S.blocks g).take (k + 1)) := by
  obtain ⟨s, hs⟩ := (Us.mem_blocks h).1 (List.mem_of_getElem? hk)
  have hn := Us.blocks_nodup h g
  have hnot : b ∉ (S.blocks g).take k := by
    intro hm
    obtain ⟨j, hj, e⟩ := List.mem_iff_getElem.1 hm
    rw [List.length_take] at hj
    rw [List.getElem_take] at e
    obtain ⟨hk1, hk2⟩ := List.getElem?_eq_some_iff.1 hk
    exact List.pairwise_iff_getElem.1 hn j k (by omega) hk1 (by omega) (e.trans hk2.symm)
  have hok := h.cutB ((S.blocks g).take k)
  have hf : (S.cutB ((S.blocks g).take k)).fnd b = some (g, s) := by rw [Us.cutB_fnd S hnot]; exact (Us.at_fnd h).1 hs
  refine ⟨s, (Us.at_fnd hok).2 hf, hf, ?_⟩
  rw [← Us.freed_killed hok hf, ← Us.cutB_more, List.take_add_one, hk]
  rfl
theorem gF_dropped (h : S.Ok) (g : Int) : ∀ x, upd (gF (S.cutB (S.blocks g))) g none x = gF (S.dropped g) x := by
  intro x
  rw [Us.cutB_all h]
  by_cases hx : x = g
  · subst hx
    rw [upd_self]
    exact (gF_no (by rw [Us.dropped_has]; simp)).symm
  · rw [upd_ne _ _ hx]
    unfold gF
    rw [Us.dropped_has, Us.dropped_slots, if_neg hx]
    have e1 : Us.has ⟨S.G, S.L.filter fun x => x.g != g⟩ x = S.has x := rfl
    have e2 : Us.slots ⟨S.G, S.L.filter fun x => x.g != g⟩ x = S.slots x := rfl
    have e3 : Us.cnt ⟨S.G, S.L.filter fun x => x.g != g⟩ x = (S.dropped g).cnt x := rfl
    rw [e1, e2, e3]
    simp [hx]
theorem bF_dropped (h : S.Ok) (g : Int) : ∀ p, bF (S.cutB (S.blocks g)) p = bF (S.dropped g) p := by
  intro p
  rw [Us.cutB_all h]
  rfl
theorem pF_dropped (h : S.Ok) (g : Int) : ∀ b, pF (S.cutB (S.blocks g)) b = pF (S.dropped g) b := by
  intro b
  rw [Us.cutB_all h]
  rfl
set_option maxRecDepth 100000 in
set_option maxHeartbeats 1000000 in
theorem drop_any (m : UsIn w t x y z S) (hok : Few S) (g : Int) (hg : okI64 g) :
    Calls Try.prog 26 #[.pointer (some ⟨t, 0, none⟩), .int .i64 g] w fun e w' => e = .returned (.int .i64 (S.dropE g)) ∧ UsIn w' t x y z (S.drop' g) ∧ Turn (UFoot t x y z) w w' := by
  have HH := hide (has_any m hok.ok g hg)
  cases hh : S.has g with
  | false =>
    have e1 : S.dropE g = 8 := by unfold Us.dropE; rw [hh]; rfl
    have e2 : S.drop' g = S := by unfold Us.drop'; rw [e1]; rfl
    rw [e1, e2]
    rw [hh] at HH
    have HU : Hid (UsM w t x y z (gF S) (bF S) (pF S)) := hide m
    clear m hok hg e1 e2 hh
    go_enter Try.func26, Try.ntmps26
    go_wp2_with (first
      | (go_at_call 43; refine HH.out.mono ?_; rintro _ w1 ⟨rfl, hl1⟩))
    go_ret
    exact ⟨rfl, HU.out.later hl1, Turn.of_below hl1⟩
  | true =>
    have e1 : S.dropE g = 0 := by unfold Us.dropE; rw [hh]; rfl
    have e2 : S.drop' g = S.dropped g := by unfold Us.drop'; rw [e1]; rfl
    rw [e1, e2]
    rw [hh] at HH
    have HU : Hid (UsM w t x y z (gF S) (bF S) (pF S)) := hide m
    have HOK := hide hok
    have HG := hide hg
    have HD := hide (And.intro (gF_dropped hok.ok g) (And.intro (bF_dropped hok.ok g) (pF_dropped hok.ok g)))
    have hbl := Us.blocks_len hok.ok g
    have hcl := S.cnt_le g
    have hls := hok.ls
    have hn4 : (S.blocks g).length < 1000000 := by omega
    have HLT := hide HU.out.foot_lt
    obtain ⟨l, hl⟩ : ∃ l, l = S.blocks g := ⟨_, rfl⟩
    have HST := hide (fun (k : Nat) (b : Int) (hk : l[k]? = some b) => cutB_step (S := S) (g := g) (b := b) (k := k) hok.ok (by rw [← hl]; exact hk))
    have HBL := hide (fun (w' : World) (hb : Below w.heap.size w w') => blocks_any (S := S) (UsM.later m hb) hok.ok g hg)
    rw [← hl] at HD hn4
    have HST2 : Hid (∀ (k : Nat) (b : Int), l[k]? = some b → ∃ s, (S.cutB (l.take k)).at_ g s = some b ∧ (S.cutB (l.take k)).fnd b = some (g, s) ∧ (S.cutB (l.take k)).killed g s = S.cutB (l.take (k + 1))) := hide (by rw [hl] at *; exact HST.out)
    have HBL2 : Hid (∀ w', Below w.heap.size w w' → Calls Try.prog 24 #[.pointer (some ⟨t, 0, none⟩), .int .i64 g] w' fun e w'' => ∃ v, e = .returned v ∧ w''.ownsRow w'.heap.size 3 1 v l.length (I64 l) ∧ Below w'.heap.size w' w'') := hide (by rw [hl]; exact HBL.out)
    clear m hok hg e1 e2 hh HST HBL hbl hcl hls hl
    go_enter Try.func26, Try.ntmps26
    go_wp2_with (first
      | (go_at_call 43; refine HH.out.mono ?_; rintro _ w1 ⟨rfl, hl1⟩)
      | (go_at_call 24; refine (HBL2.out w1 hl1).mono ?_; rintro _ w2 ⟨v, rfl, hown, hl2⟩; obtain ⟨A, c, rfl, hnc, hcm⟩ := own_shape hown))
    have hl3 : Below w.heap.size w w2 := hl1.trans (hl2.mono hl1.size)
    have HO : Hid (w2.ownsRow w.heap.size 3 1 (.slice A l.length c) l.length (I64 l)) := hide (ownsRow_base_a hown hl1.size)
    have HU2 : Hid (UsM w2 t x y z (gF (S.cutB (l.take 0))) (bF (S.cutB (l.take 0))) (pF (S.cutB (l.take 0)))) := hide (by rw [List.take_zero, Us.cutB_nil]; exact HU.out.later hl3)
    have ht2 : Turn (UFoot t x y z) w w2 := Turn.of_below hl3
    clear hown hl1 hl2 hl3
    go_loopw [6, 15] (fun _ i wr => ∃ k : Nat, k ≤ l.length ∧ i = .int .i64 k ∧ Hid (UsM wr t x y z (gF (S.cutB (l.take k))) (bF (S.cutB (l.take k))) (pF (S.cutB (l.take k)))) ∧ Hid (wr.ownsRow w.heap.size 3 1 (.slice A l.length c) l.length (I64 l)) ∧ Turn (UFoot t x y z) w wr) (fun _ i _ => l.length - (intOf i).toNat)
    case atStart => exact ⟨0, Nat.zero_le _, rfl, HU2, HO, ht2⟩
    case round =>
      obtain ⟨k, hk, rfl, HUr, HOr, htr⟩ := hrel
      by_cases hkn : k < l.length
      · obtain ⟨ad, hA, hab1, hab2, hcell⟩ := own_num HOr.out hkn
        subst hA
        obtain ⟨b, hb⟩ : ∃ b, b = l[k] := ⟨_, rfl⟩
        have hbk : l[k]? = some b := by rw [hb]; exact List.getElem?_eq_getElem hkn
        rw [← hb] at hcell
        obtain ⟨s, hs1, hs2, hs3⟩ := HST2.out k b hbk
        have hbd := Us.at_has (HOK.out.ok.cutB _) hs1
        have HB : Hid (okI64 b) := hide (by unfold okI64; omega)
        have HS1 := hide hs1
        have HS3 := hide hs3
        have HLV := hide (look_p (S.cutB (l.take k)) b)
        rw [hs2] at HLV
        have c2 := HUr.out.c2
        clear hb hbk hs1 hs2 hs3 hbd
        go_wp2_with (first
          | (refine wpList_look rfl (.tmp 23) (.tmp 24) 54 66 false rfl Try.underlying54 _ (Try.zeroValue66 _) z (pF (S.cutB (l.take k))) rfl HUr.out.pm b rfl HB.out (.agg #[.int .i64 g, .int .i64 s]) HLV.out.1 ?_)
          | (go_at_call 45; refine (kill_any HUr.out (HOK.out.cutB _) HS1.out).mono ?_; rintro _ w5 ⟨rfl, hm5, ht5⟩))
        rw [HS3.out] at hm5
        have HM5 : Hid (UsM w5 t x y z (gF (S.cutB (l.take (k + 1)))) (bF (S.cutB (l.take (k + 1)))) (pF (S.cutB (l.take (k + 1))))) := hide hm5
        have HO5 := hide (own_kept HOr.out ht5 HLT.out)
        have ht6 := htr.trans ht5
        clear hm5 ht5
        go_roundw
        case rel => exact ⟨k + 1, by omega, by go_num, HM5, HO5, ht6⟩
        case measure => simp [intOf]; omega
      · obtain rfl : k = l.length := by omega
        rw [List.take_of_length_le (Nat.le_refl _)] at HUr
        have c0 := HUr.out.c0
        go_wp2_with (first
          | (refine wpList_del (C := intKey) rfl (.tmp 31) (.tmp 32) 52 63 rfl Try.underlying52 x (gF (S.cutB l)) rfl HUr.out.gm g HG.out rfl ?_; intro w6 hm6 hg6))
        go_ret
        exact ⟨rfl, (HUr.out.setG hm6 hg6).congr HD.out.1 HD.out.2.1 HD.out.2.2, htr.grown hg6 (fun g e => by injection e with e; subst e; exact .inl (.inr (.inl rfl)))⟩
/-! ### Emptiest -/
set_option maxRecDepth 100000 in
set_option maxHeartbeats 1000000 in
theorem emptiest_any (m : UsIn w t x y z S) (hok : S.Ok) (A : Option Addr) (n c : Nat) (l : List Int) (hr : Reads w w.heap.size 1 A n (I64 l)) (hl : ∀ v ∈ l, okI64 v) (hn : n ≤ 9223372036854775807) :
    Calls Try.prog 28 #[.pointer (some ⟨t, 0, none⟩), .slice A n c] w fun e w' => e = .returned (.tuple #[.int .i64 ((S.emptiest l).getD 0), .bool (S.emptiest l).isSome]) ∧ Below w.heap.size w w' := by
  have hlen : l.length = n := by have := hr.1; rw [I64_length] at this; omega
  have HLEN := hide hlen
  have HR := hide hr
  have HL := hide hl
  have HH := hide (fun (w' : World) (hb : Below w.heap.size w w') (g : Int) (hg : okI64 g) => has_any (S := S) (UsM.later m hb) hok g hg)
  have HE := hide (fun (w' : World) (hb : Below w.heap.size w w') (g o : Int) (hg : okI64 g) (ho : okI64 o) => emptier_any (S := S) (UsM.later m hb) hok g o hg ho)
  clear m hok hr hl hlen
  go_enter Try.func28, Try.ntmps28
  go_wp2
  go_loopw [6, 7, 9, 12] (fun e f _ i wr => ∃ (k : Nat) (acc : Option Int), k ≤ n ∧ i = .int .i64 k ∧ e = .int .i64 (acc.getD 0) ∧ f = .bool acc.isSome ∧ Hid (acc = (l.take k).foldl S.emptyStep none) ∧ Hid (∀ o, acc = some o → okI64 o) ∧ Below w.heap.size w wr) (fun _ _ _ i _ => n - (intOf i).toNat)
  case atStart => exact ⟨0, none, Nat.zero_le _, rfl, rfl, rfl, hide (by rw [List.take_zero]; rfl), hide (fun o ho => by cases ho), Below.refl _ _⟩
  case round =>
    obtain ⟨k, acc, hk, rfl, rfl, rfl, HA, HOA, hbel⟩ := hrel
    by_cases hkn : k < n
    · obtain ⟨ad, g, hAd, hab, hgk, hcell0⟩ := HR.out.i64_at hkn
      subst hAd
      have hcell : _ = some (Value.int .i64 g) := (hbel.cell (p := ad.add k) (by rw [block_of_add]; exact hab)).trans hcell0
      have hgo := HL.out g (List.mem_of_getElem? hgk)
      have HS : Hid ((l.take (k + 1)).foldl S.emptyStep none = S.emptyStep acc g) := hide (by
        rw [List.take_add_one, hgk, HA.out, List.foldl_append]
        rfl)
      have HC := hide (HH.out wr hbel g hgo)
      have HGO := hide hgo
      clear hcell0 hgk hgo
      cases hg : S.has g with
      | false =>
        have HA2 : Hid (acc = (l.take (k + 1)).foldl S.emptyStep none) := hide (by rw [HS.out]; unfold Us.emptyStep; rw [if_neg (by rw [hg]; simp)])
        rw [hg] at HC
        clear hg HS
        go_wp2_with (first
          | (go_at_call 43; refine HC.out.mono ?_; rintro _ w1 ⟨rfl, hl1⟩))
        have hl2 := hbel.trans (hl1.mono hbel.size)
        go_roundw
        case rel => exact ⟨k + 1, acc, by omega, by go_num, rfl, rfl, HA2, HOA, hl2⟩
        case measure => simp [intOf]; omega
      | true =>
        rw [hg] at HC
        cases acc with
        | none =>
          have HA2 : Hid (some g = (l.take (k + 1)).foldl S.emptyStep none) := hide (by rw [HS.out]; unfold Us.emptyStep; rw [if_pos hg])
          have HO2 : Hid (∀ o, some g = some o → okI64 o) := hide (fun o ho => by injection ho with ho; subst ho; exact HGO.out)
          clear hg HS
          go_wp2_with (first
            | (go_at_call 43; refine HC.out.mono ?_; rintro _ w1 ⟨rfl, hl1⟩))
          have hl2 := hbel.trans (hl1.mono hbel.size)
          go_roundw
          case rel => exact ⟨k + 1, some g, by omega, by go_num, rfl, rfl, HA2, HO2, hl2⟩
          case measure => simp [intOf]; omega
        | some o =>
          have HE2 := hide (fun w' hb => HE.out w' hb g o HGO.out (HOA.out o rfl))
          cases he : S.emptier g o with
          | true =>
            have HA2 : Hid (some g = (l.take (k + 1)).foldl S.emptyStep none) := hide (by rw [HS.out]; unfold Us.emptyStep; rw [if_pos hg]; simp only [he, if_true])
            have HO2 : Hid (∀ o, some g = some o → okI64 o) := hide (fun o ho => by injection ho with ho; subst ho; exact HGO.out)
            rw [he] at HE2
            clear hg HS he
            go_wp2_with (first
              | (go_at_call 43; refine HC.out.mono ?_; rintro _ w1 ⟨rfl, hl1⟩; have hl2 := hbel.trans (hl1.mono hbel.size))
              | (go_at_call 49; refine (HE2.out w1 hl2).mono ?_; rintro _ _ ⟨rfl, rfl⟩))
            go_roundw
            case rel => exact ⟨k + 1, some g, by omega, by go_num, rfl, rfl, HA2, HO2, hl2⟩
            case measure => simp [intOf]; omega
          | false =>
            have HA2 : Hid (some o = (l.take (k + 1)).foldl S.emptyStep none) := hide (by rw [HS.out]; unfold Us.emptyStep; rw [if_pos hg]; simp [he])
            rw [he] at HE2
            clear hg HS he
            go_wp2_with (first
              | (go_at_call 43; refine HC.out.mono ?_; rintro _ w1 ⟨rfl, hl1⟩; have hl2 := hbel.trans (hl1.mono hbel.size))
              | (go_at_call 49; refine (HE2.out w1 hl2).mono ?_; rintro _ _ ⟨rfl, rfl⟩))
            go_roundw
            case rel => exact ⟨k + 1, some o, by omega, by go_num, rfl, rfl, HA2, HOA, hl2⟩
            case measure => simp [intOf]; omega
    · obtain rfl : k = n := by omega
      have HF : Hid (acc = S.emptiest l) := hide (by rw [HA.out, List.take_of_length_le (by rw [HLEN.out]; exact Nat.le_refl _)]; rfl)
      go_wp2
      go_ret2
      exact ⟨by rw [← HF.out]; rfl, hbel⟩
end
#print axioms emptiest_any
end Go.Proofs.Ytgoglgghnjgcdaa
