/- What inOrder hands back: the loose sectors, in the order in which they became so. -/
import Derived.Test.YtmjjnbabfldbcaaGreatSort
namespace Go.Proofs.YtmjjnbabfldbcaaGreat
open Go.RowKit

theorem wpList_append_row {P : Program} {ops : Array Oper} {rest : List Oper} {o : Oper} {a : Act} {w : World} {Q : Exit → Act → World → Prop} (hgd : o.guard = none) (s x : Operand) (t : TypeId)
    (ho : o.op = .call { callee := .builtin .append, args := #[s, x], argTypes := #[t, t] })
    (base : Nat) (e : TypeId) (i : TypeInfo) (z : Value) (size bytes : Nat) (ht : P.underlying t = some (.slice e)) (hi : P.info? e = some i) (hz : i.zero = some z)
    (hsize : i.size = size) (hby : i.bytes = bytes) (hzs : z.cells.size = size) (hsz : 0 < size)
    (v : Value) (n : Nat) (xs : List Value) (hs : a.eval s = v) (hown : w.ownsRow base e size v n xs)
    (B : Nat) (A : Option Addr) (m c : Nat) (news : List Value) (hx : a.eval x = .slice A m c) (hr : Reads w B size A m news) (h1 : ∀ u ∈ news, u.oneCell' = true)
    (h63 : n + m ≤ maxLen) (hbytes : (n + m) * bytes ≤ 140737488355328) (hbase : base ≤ w.heap.size)
    (h : ∀ v' w', w'.ownsRow base e size v' (n + m) (xs ++ news) → w.grownBy w' v.ownBlock → wpList P ops Q rest (a.put o.dst v') w') : wpList P ops Q (o :: rest) a w :=
  wpList_plain hgd fun _ hK => by
    obtain ⟨v', w', hrun, h2, h3, _⟩ := run_append_any (P := P) w base t o.type e i z size bytes ht hi hz hsize hby hzs hsz v n xs hown B A m c news hr h1 h63 hbytes hbase
    unfold Oper.wp execOp
    simp only [ho, resolve, invoke, builtin, Sem.run_bind, Sem.run_pure, Result.andThen_ok, List.map_toArray, List.map_cons, List.map_nil, hs, hx, hrun]
    exact hK _ _ (h v' w' h2 h3)
theorem place_info : ∃ i, Tryz.prog.info? 47 = some i ∧ i.zero = some (.agg (placeL (0, 0)).toArray) ∧ i.size = 2 ∧ i.bytes = 16 := ⟨(Tryz.prog.info? 47).get!, by kernel_rfl, by kernel_rfl, by kernel_rfl, by kernel_rfl⟩
theorem place_zero (w : World) : (zeroValue 47).run Tryz.prog w = .ok (.agg (placeL (0, 0)).toArray) w := by kernel_rfl
theorem placeL_one (p : Nat × Nat) : ∀ v ∈ placeL p, v.oneCell' = true := by
  intro v hv
  simp [placeL] at hv
  rcases hv with rfl | rfl <;> rfl
theorem order_le (S : Bank) (hok : S.Ok) (ps : List (Nat × Nat)) (hn : ps.Nodup) (hps : ∀ p ∈ ps, p ∈ S.order) : ps.length ≤ 131072 := by
  have hsub : ps ⊆ (List.range 32).flatMap fun d => (List.range 4096).map fun k => (d, k) := by
    intro p hp
    have h1 := hok.loose p (hps p hp)
    have h2 := hok.n_le
    have h3 := hok.size_le p.1 h1.1
    exact List.mem_flatMap.2 ⟨p.1, List.mem_range.2 (by omega), List.mem_map.2 ⟨p.2, List.mem_range.2 (by omega), rfl⟩⟩
  have := List.Nodup.length_le_of_subset hn hsub
  have hl : ((List.range 32).flatMap fun d => (List.range 4096).map fun k => (d, k)).length = 131072 := by
    rw [List.length_flatMap]
    simp only [List.length_map, List.length_range]
    rfl
  omega
theorem row_block_cells {w : World} {base : Nat} {e : TypeId} {size n : Nat} {v : Value} {xs : List Value} (h : w.ownsRow base e size v n xs) {g : Nat} (hg : v.ownBlock = some g) : ∃ cur, w.heap[g]? = some (.cells cur e (0, 0)) := by
  rcases h.2 with ⟨rfl, _⟩ | ⟨g', cap, cur, rfl, _, hb, _⟩
  · simp [Value.ownBlock] at hg
  · simp [Value.ownBlock] at hg
    subst hg
    exact ⟨cur, hb⟩
theorem Going.iter {w : World} {o : Option Nat} {r : Nat} {f : Nat → Option Value} {left : Nat → Bool} (h : Going w o r f left) : ∃ m s sn st, w.heap[r]? = some (.mapIter m s sn st) := by
  cases o with
  | none =>
    obtain ⟨⟨s, hs⟩, _⟩ := h
    exact ⟨_, _, _, _, hs⟩
  | some b =>
    obtain ⟨D, lt, cnt, hr, _⟩ := h
    obtain ⟨es, clock, since, seen, c0, _, _, _, _, hr, _⟩ := hr
    exact ⟨_, _, _, _, hr⟩
theorem Going.ne_row {w : World} {o : Option Nat} {r : Nat} {f : Nat → Option Value} {left : Nat → Bool} (h : Going w o r f left) {base : Nat} {e : TypeId} {size n : Nat} {v : Value} {xs : List Value} (hr : w.ownsRow base e size v n xs) : v.ownBlock ≠ some r := by
  intro hv
  obtain ⟨cur, hc⟩ := row_block_cells hr hv
  obtain ⟨m, s, sn, st, hi⟩ := h.iter
  rw [hc] at hi
  cases hi
theorem own_mono {w : World} {base base' : Nat} {e : TypeId} {size n : Nat} {v : Value} {xs : List Value} (h : w.ownsRow base e size v n xs) (hb : base' ≤ base) : w.ownsRow base' e size v n xs :=
  ⟨h.1, h.2.imp id fun ⟨g, cap, cur, hv, hg, r⟩ => ⟨g, cap, cur, hv, Nat.le_trans hb hg, r⟩⟩
theorem below_none {a c : World} {B : Nat} (h : a.grownBy c none) (hB : B ≤ a.heap.size) : Below B a c := (Below.refl B a).grown h hB (fun k e => by cases e)
theorem looseF_some (S : Bank) (L : Lay) (d k : Nat) : (looseF S L d k).isSome = true ↔ (d, k) ∈ S.order := by
  unfold looseF
  split <;> simp_all
theorem since_inj {S : Bank} {L : Lay} (hr : S.order.Pairwise fun p q => L.since p.1 p.2 < L.since q.1 q.2) {p q : Nat × Nat} (hp : p ∈ S.order) (hq : q ∈ S.order) (h : sinceOf S L p = sinceOf S L q) : p = q := by
  unfold sinceOf at h
  rw [if_pos hp, if_pos hq] at h
  obtain ⟨i, hi, rfl⟩ := List.getElem_of_mem hp
  obtain ⟨j, hj, rfl⟩ := List.getElem_of_mem hq
  have hpw := List.pairwise_iff_getElem.1 hr
  rcases Nat.lt_trichotomy i j with hij | hij | hij
  · have := hpw i j hi hj hij
    omega
  · subst hij; rfl
  · have := hpw j i hj hi hij
    omega
section
variable {w : World} {b : Nat} {L : Lay} {S : Bank}
theorem BankIn.lo_map (h : BankIn w b L S) (hok : S.Ok) {i : Nat} (hi : i < S.n) : OMap w (L.lo i) (looseF S L i) := by
  cases hd : S.dead i with
  | true =>
    rw [(h.gone i hi hd).2]
    intro k
    unfold looseF
    rw [if_neg]
    intro hm
    have := (hok.loose _ hm).2.2
    rw [hd] at this
    cases this
  | false =>
    obtain ⟨l, hl, hm⟩ := h.loose i hi hd
    rw [hl]
    exact hm
set_option maxRecDepth 100000 in
theorem inOrder_any (h : BankIn w b L S) (hok : S.Ok) :
    Calls Tryz.prog 80 #[.pointer (some ⟨b, 0, none⟩)] w fun e w' => ∃ A c, e = .returned (.slice A S.order.length c) ∧ w'.ownsRow w.heap.size 47 2 (.slice A S.order.length c) S.order.length (flatP S.order) ∧ Below w.heap.size w w' := by
  obtain ⟨pi, hi0, hz0, hz1, hz2⟩ := place_info
  have hzp := place_zero
  have hn32 := hok.n_le
  go_enter Tryz.func80, Tryz.ntmps80
  have HB := hide h
  have HOK := hide hok
  have HI0 := hide hi0
  have HZ0 := hide hz0
  have HZ1 := hide hz1
  have HZ2 := hide hz2
  have HZP := hide hzp
  clear h hok hi0 hz0 hz1 hz2 hzp
  go_wp2_with (first | (refine wpList_box_blk rfl 25 (.tmp 0) rfl (.pointer (some ⟨b, 0, none⟩)) rfl ?_; intro w1 hb1 hl1 hs1; clear hs1; have hbx := hb1.cell 0; have h1 := hide (HB.out.later hl1); have c0 := h1.out.c0))
  go_loopw [3, 4, 5, 11] (fun s3 _ _ s11 wr => ∃ (i : Nat) (ps : List (Nat × Nat)), s11 = .int .i64 (i : Int) ∧ i ≤ S.n ∧ wr.ownsRow w1.heap.size 47 2 s3 ps.length (flatP ps) ∧ ps.Nodup ∧ (∀ p, p ∈ ps ↔ p ∈ S.order ∧ p.1 < i) ∧ Below w1.heap.size w1 wr) (fun _ _ _ s11 _ => S.n - (intOf s11).toNat)
  case atStart => exact ⟨0, [], rfl, Nat.zero_le _, World.ownsRow_nil _ _ _ _, List.nodup_nil, fun p => by simp, Below.refl _ _⟩
  case round =>
    obtain ⟨wo, rfl⟩ : ∃ wo, wo = wr := ⟨_, rfl⟩
    obtain ⟨v3, rfl⟩ : ∃ v3, v3 = u3 := ⟨_, rfl⟩
    obtain ⟨i, ps, rfl, hi, hrow, hnd, hmem, hbel⟩ := hrel
    have hbxr : wo.cell? ⟨w.heap.size, 0, none⟩ = some (.pointer (some ⟨b, 0, none⟩)) := (hbel.cell hb1.lt).trans hbx
    have h2 := h1.out.later hbel
    have hsz := hbel.size
    have HMEM := hide hmem
    have HND := hide hnd
    clear hmem hnd
    by_cases hin : i < S.n
    · have c0r := h2.c0
      rw [L.ad_pos hin] at c0r
      obtain ⟨_, _, _, m3, _⟩ := h2.m hin
      have hmap := h2.lo_map HOK.out hin
      have hiw : (i : Int) < (S.n : Int) := by omega
      have hlo : ∀ x, L.lo i = some x → x < w1.heap.size := fun x hx => h1.out.foot_lt x (.inr (.inr ⟨i, hin, .inr hx⟩))
      have HLO := hide hlo
      clear hlo h2
      go_wp2_with (first | (refine wpList_range rfl (.tmp 22) 80 126 rfl Tryz.underlying80 (L.lo i) (looseF S L i) rfl hmap ?_; intro w2 hgo2 hg2 hs2; clear hs2; go_frame))
      go_loopw [3, 5] (fun s3 _ w3 => ∃ (left : Nat → Bool) (qs : List (Nat × Nat)), Going w3 (L.lo i) wo.heap.size (looseF S L i) left ∧ w3.ownsRow w1.heap.size 47 2 s3 qs.length (flatP qs) ∧ qs.Nodup ∧ (∀ p, p ∈ qs ↔ p ∈ S.order ∧ (p.1 < i ∨ (p.1 = i ∧ left p.2 = false))) ∧ Below w1.heap.size w1 w3) (fun _ _ w3 => goingLeft w3 (L.lo i) wo.heap.size)
      case atStart =>
        refine ⟨_, ps, hgo2, hrow.kept hg2 (by cases v3.ownBlock <;> simp), HND.out, fun p => ?_, hbel.trans (below_none hg2 hsz)⟩
        rw [HMEM.out p]
        constructor
        · rintro ⟨a1, a2⟩; exact ⟨a1, .inl a2⟩
        · rintro ⟨a1, a2 | ⟨a2, a3⟩⟩
          · exact ⟨a1, a2⟩
          · exfalso
            obtain ⟨p1, p2⟩ := p
            simp only at a2
            subst a2
            rw [(looseF_some S L p1 p2).2 a1] at a3
            cases a3
      case round =>
        obtain ⟨left, qs, hgo3, hrow3, hnd3, hmem3, hbel3⟩ := hrel
        have hsz3 := hbel3.size
        have HND3 := hide hnd3
        have HMEM3 := hide hmem3
        clear hnd3 hmem3
        go_wp2_with (first | (refine wpList_next rfl (.tmp 23) rfl (L.lo i) wo.heap.size (looseF S L i) left rfl hgo3 ?_ ?_))
        · intro hdone
          have HD := hide hdone
          clear hdone
          go_wp2
          go_roundw
          case rel =>
            refine ⟨i + 1, qs, by simp, by omega, hrow3, HND3.out, fun p => ?_, hbel3⟩
            rw [HMEM3.out p]
            constructor
            · rintro ⟨a1, a2⟩; exact ⟨a1, by omega⟩
            · rintro ⟨a1, a2⟩; exact ⟨a1, by
                by_cases e : p.1 < i
                · exact .inl e
                · exact .inr ⟨by omega, HD.out _⟩⟩
          case measure => simp [intOf]; omega
        · intro k v w4 hlk hfk hk4 hgo4 hlt4 hg4 hs4 hen
          clear hs4
          have hrow4 := hrow3.kept hg4 (.inr (hgo3.ne_row hrow3))
          have hbel4 : Below w1.heap.size w1 w4 := hbel3.grown hg4 hsz3 (fun g e => by injection e with e; omega)
          have hsz4 := hbel4.size
          have hin4 : (i, k) ∈ S.order := (looseF_some S L i k).1 (by rw [hfk]; rfl)
          have hnot : (i, k) ∉ qs := by
            intro hm
            have := ((HMEM3.out _).1 hm).2
            simp only [true_and] at this
            rcases this with h5 | h5
            · omega
            · rw [hlk] at h5; cases h5
          have hqn : (qs ++ [(i, k)]).Nodup := by
            rw [List.nodup_append]
            refine ⟨HND3.out, by simp, fun a ha b hb => ?_⟩
            simp at hb
            subst hb
            rintro rfl
            exact hnot ha
          have hq131 := order_le S HOK.out (qs ++ [(i, k)]) hqn (fun p hp => by
            rcases List.mem_append.1 hp with hp | hp
            · exact ((HMEM3.out p).1 hp).1
            · simp at hp; subst hp; exact hin4)
          rw [List.length_append, List.length_singleton] at hq131
          have hmem5 : ∀ p, p ∈ qs ++ [(i, k)] ↔ p ∈ S.order ∧ (p.1 < i ∨ (p.1 = i ∧ (left p.2 && !decide (p.2 = k)) = false)) := by
            intro p
            rw [List.mem_append, HMEM3.out p, List.mem_singleton]
            constructor
            · rintro (⟨a1, a2 | ⟨a2, a3⟩⟩ | rfl)
              · exact ⟨a1, .inl a2⟩
              · exact ⟨a1, .inr ⟨a2, by rw [a3]; rfl⟩⟩
              · exact ⟨hin4, .inr ⟨rfl, by simp⟩⟩
            · rintro ⟨a1, a2 | ⟨a2, a3⟩⟩
              · exact .inl ⟨a1, .inl a2⟩
              · by_cases e : p.2 = k
                · exact .inr (by obtain ⟨p1, p2⟩ := p; simp only at a2 e; rw [a2, e])
                · exact .inl ⟨a1, .inr ⟨a2, by simpa [e] using a3⟩⟩
          have HM5 := hide hmem5
          have HQN := hide hqn
          have HLT := hide hlt4
          have hb1' : qs.length + 1 ≤ maxLen := by simp only [maxLen]; omega
          have hb2' : (qs.length + 1) * 16 ≤ 140737488355328 := by omega
          have hlump := Reads.lump (w := w4) (placeL (i, k)) 47 (w4.heap.size + 1) 2 (by omega) rfl
          have HLUMP := hide hlump
          have HQ := hide (And.intro hb1' hb2')
          clear hmem5 hqn hlt4 hlk hfk hin4 hnot hq131 hlump hb1' hb2'
          go_wp2_with (first
            | (refine wpList_build_agg w4 rfl (.tmp 31) 39 rfl 47 pi _ 2 Tryz.underlying39 HI0.out (HZP.out _) HZ1.out (by decide) (by decide) (placeL (i, k)).toArray rfl rfl ?_)
            | (refine wpList_append_row rfl (.tmp 28) (.tmp 32) 39 rfl w1.heap.size 47 pi _ 2 16 Tryz.underlying39 HI0.out HZ0.out HZ1.out HZ2.out rfl (by decide) _ _ _ rfl (hrow4.alloc _) (w4.heap.size + 1) (some ⟨w4.heap.size, 0, none⟩) 1 1 (placeL (i, k)) rfl HLUMP.out (placeL_one _) HQ.out.1 HQ.out.2 (le_alloc hsz4 _) ?_; intro v5 w5 hown5 hg5))
          have hgA := World.grownBy_alloc w4 (.cells (placeL (i, k)).toArray 47) none
          have hgo4' := hgo4.kept hgA (fun _ _ e => by cases e) (fun e => by cases e)
          have hneB : ∀ x, L.lo i = some x → some x ≠ u3.ownBlock := fun x hx e => by have := (hrow3.lt x e.symm).1; have := HLO.out x hx; omega
          have hneR : some wo.heap.size ≠ u3.ownBlock := fun e => hgo3.ne_row hrow3 e.symm
          have hgo5 := hgo4'.kept hg5 hneB hneR
          go_roundw
          case rel =>
            refine ⟨_, qs ++ [(i, k)], hgo5, ?_, HQN.out, HM5.out, ?_⟩
            · rw [List.length_append, List.length_singleton, flatP_append]
              exact hown5
            · exact ((hbel4.alloc hsz4 _).grown hg5 (le_alloc hsz4 _) (fun g e => (hrow3.lt g e).1))
          case measure =>
            rw [goingLeft_kept hgo4' hg5 hneB hneR, goingLeft_kept hgo4 hgA (fun _ _ e => by cases e) (fun e => by cases e)]
            exact HLT.out
    · have hie : i = S.n := by omega
      subst hie
      have hiw : ¬ (S.n : Int) < (S.n : Int) := by omega
      have hperm : ps.Perm S.order := (List.perm_ext_iff_of_nodup HND.out HOK.out.nodup).2 fun p => by
        rw [HMEM.out p]
        exact ⟨fun a => a.1, fun a => ⟨a, (HOK.out.loose p a).1⟩⟩
      have hpl := hperm.length_eq
      obtain ⟨A, c, hv, hnc, hcm⟩ := own_shape hrow
      subst hv
      have hsort : Calls Tryz.prog 97 #[.slice A ps.length c, .func (.func 98) #[] #[.pointer (some ⟨w.heap.size, 0, none⟩)]] wo fun e w' =>
          e = .returned (.tuple #[]) ∧ w'.ownsRow w1.heap.size 47 2 (.slice A ps.length c) ps.length (flatP S.order) ∧ Below w1.heap.size w1 w' := by
        by_cases h0 : ps.length = 0
        · have hps0 : ps = [] := List.eq_nil_of_length_eq_zero h0
          have hor0 : S.order = [] := List.eq_nil_of_length_eq_zero (by omega)
          rw [hor0]
          subst hps0
          refine Calls.mono (AnyF.slices_SortFunc_none lay_sortP A c _ wo) ?_
          rintro e w' ⟨he, rfl⟩
          exact ⟨he, hrow, hbel⟩
        · obtain ⟨g, cap, hg, hgb, hglt⟩ := hrow.form (by omega)
          injection hg with hgA _ hgc
          subst hgA
          subst hgc
          have hord := order_le S HOK.out ps HND.out (fun p hp => ((HMEM.out p).1 hp).1)
          refine Calls.mono (sort_places h2 HOK.out w.heap.size w1.heap.size g c hbxr (by have := hb1.lt; omega) (by have := hb1.lt; omega) ps (fun p hp => ((HMEM.out p).1 hp).1) hrow (fun x hx e => by have := h1.out.foot_lt x hx; omega) (by omega) (by omega)) ?_
          rintro e w' ⟨he, ts, htp, hts, hrow', hg'⟩
          have hto : ts = S.order := by
            refine List.Perm.eq_of_pairwise (le := fun p q => sinceOf S L p ≤ sinceOf S L q) (fun p q hp hq h3 h4 => ?_) hts ?_ (htp.trans hperm)
            · have hpo : p ∈ S.order := (htp.trans hperm).mem_iff.1 hp
              have heq : sinceOf S L p = sinceOf S L q := by omega
              exact since_inj h2.rising hpo hq heq
            · have hr := h2.rising
              refine List.Pairwise.imp_of_mem (fun {p q} hp hq hlt => ?_) hr
              unfold sinceOf
              rw [if_pos hp, if_pos hq]
              omega
          subst hto
          exact ⟨he, hrow', hbel.grown hg' hsz (fun k e => by injection e with e; omega)⟩
      have HS := hide hsort
      have HPL := hide hpl
      clear hsort hperm hpl
      go_wp2_with (first | (go_at_call 97; refine HS.out.mono ?_; rintro _ w5 ⟨rfl, hrow5, hbel5⟩))
      go_ret
      rw [HPL.out] at hrow5 ⊢
      exact ⟨A, c, rfl, own_mono hrow5 hl1.size, hl1.trans (hbel5.mono hl1.size)⟩
end
end Go.Proofs.YtmjjnbabfldbcaaGreat
