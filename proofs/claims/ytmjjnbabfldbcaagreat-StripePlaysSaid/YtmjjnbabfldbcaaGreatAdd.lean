/- A new bank, and a new disk. -/
import Derived.Test.YtmjjnbabfldbcaaGreatWriteB
import Derived.Deep.RegionLaw
import Derived.Deep.AppendLies
namespace Go.Proofs.YtmjjnbabfldbcaaGreat
open Go.RowKit

theorem disk_info : (Tryz.prog.info? 82).map (·.size) = some 4 := by kernel_rfl
section
variable {w : World} {b : Nat} {L : Lay} {S : Bank}
theorem newBank_any (w : World) :
    Calls Tryz.prog 24 #[] w fun e w' => e = .returned (.pointer (some ⟨w.heap.size, 0, none⟩)) ∧ BankAt w' w.heap.size w.heap.size w'.heap.size Bank.new ∧ Below w.heap.size w w' := by
  go_enter Tryz.func24, Tryz.ntmps24
  go_wp2
  go_ret
  refine ⟨rfl, ⟨Nat.le_refl _, Bank.new_ok, ⟨0, 0, fun _ => none, fun _ => none, fun _ _ => 0⟩, ?_, ⟨fun x hx => ?_⟩⟩, (Below.refl _ _).alloc (Nat.le_refl _) _⟩
  · exact { head := Blk.new _ _ _, cap := ⟨Nat.le_refl _, Nat.zero_le _, fun _ => rfl⟩, row := fun h => absurd h (Nat.lt_irrefl 0), gone := fun i h => absurd h (Nat.not_lt_zero i), flat := fun i h => absurd h (Nat.not_lt_zero i), loose := fun i h => absurd h (Nat.not_lt_zero i), apart1 := fun i j x h => absurd h (Nat.not_lt_zero i), apart2 := fun i j x h => absurd h (Nat.not_lt_zero i), apart3 := fun i j x h => absurd h (Nat.not_lt_zero i), rising := List.Pairwise.nil, past := fun p hp => by cases hp }
  · rcases hx with rfl | ⟨h0, _⟩ | ⟨i, hi, _⟩
    · rw [World.size_alloc]; omega
    · exact absurd h0 (Nat.lt_irrefl 0)
    · exact absurd hi (Nat.not_lt_zero i)
theorem blank_any (w : World) (z : Nat) :
    Calls Tryz.prog 63 #[.int .i64 (z : Int)] w fun e w' => ∃ x l, e = .returned (.agg #[.int .i64 (z : Int), .bool false, .map (some x), .map (some l)]) ∧ MapIs w' x (fun _ => none) ∧ MapIs w' l (fun _ => none) ∧ x ≠ l ∧ w.heap.size ≤ x ∧ w.heap.size ≤ l ∧ Below w.heap.size w w' := by
  have hmm := @run_makeMap Tryz.prog
  go_enter Tryz.func63, Tryz.ntmps63
  go_wp2
  obtain ⟨w1, hw1⟩ : ∃ w1, w1 = w.alloc (.cells #[.int .i64 (z : Int), .bool false, .map (some (w.heap.size + 1)), .map (some (w.heap.size + 1 + 1))] 82) := ⟨_, rfl⟩
  have hs1 : w1.heap.size = w.heap.size + 1 := by rw [hw1, World.size_alloc]
  have hb1 : Blk w1 w.heap.size 82 #[.int .i64 (z : Int), .bool false, .map (some (w.heap.size + 1)), .map (some (w.heap.size + 1 + 1))] := by rw [hw1]; exact Blk.new _ _ _
  have hl1 : Below w.heap.size w w1 := by rw [hw1]; exact (Below.refl _ _).alloc (Nat.le_refl _) _
  have hm1 := MapIs.new w1
  have hm2 := MapIs.new (w1.alloc (.map #[] 0))
  rw [World.size_alloc, hs1] at hm2
  rw [hs1] at hm1
  have hsz2 : w.heap.size ≤ (w1.alloc (.map #[] 0)).heap.size := by rw [World.size_alloc]; omega
  rw [← hw1]
  refine ret_cell rfl w.heap.size 82 [.int .i64 (z : Int), .bool false, .map (some (w.heap.size + 1)), .map (some (w.heap.size + 1 + 1))] _ ((hb1.alloc _).alloc _) rfl Tryz.underlying82 rfl disk_info rfl ?_
  exact ⟨w.heap.size + 1, w.heap.size + 1 + 1, rfl, hm1.alloc _, hm2, by omega, by omega, by omega, (hl1.alloc (by omega) _).alloc hsz2 _⟩
theorem member_info : ∃ i, Tryz.prog.info? 84 = some i ∧ i.zero = some (.agg #[.int .i64 0, .bool false, .map none, .map none, .int .i64 0]) ∧ i.size = 5 ∧ i.bytes = 40 := ⟨(Tryz.prog.info? 84).get!, by kernel_rfl, by kernel_rfl, by kernel_rfl, by kernel_rfl⟩
theorem member_zero (w : World) : (zeroValue 84).run Tryz.prog w = .ok (.agg #[.int .i64 0, .bool false, .map none, .map none, .int .i64 0]) w := by kernel_rfl
/-- The members as a row that a slice owns. -/
theorem BankIn.members (h : BankIn w b L S) {lo : Nat} (hlo : ∀ x, Foot b L S x → lo ≤ x) : ∃ xs, w.ownsRow lo 84 5 (.slice (L.ad S.n) S.n L.cap) S.n xs ∧ ∀ i, i < S.n →
    xs[i * 5]? = some (.int .i64 (S.size i : Int)) ∧ xs[i * 5 + 1]? = some (.bool (S.dead i)) ∧ xs[i * 5 + 2]? = some (.map (L.fl i)) ∧ xs[i * 5 + 3]? = some (.map (L.lo i)) ∧ xs[i * 5 + 4]? = some (.int .i64 (S.failAt i : Int)) := by
  obtain ⟨hc1, hc2, hc3⟩ := h.cap
  by_cases h0 : S.n = 0
  · refine ⟨[], ?_, fun i hi => by omega⟩
    have : L.ad S.n = none := by unfold Lay.ad; rw [if_pos h0]
    rw [this, h0, hc3 h0]
    exact World.ownsRow_nil _ _ _ _
  · obtain ⟨cs, hb, hsz, hc⟩ := h.row (by omega)
    have hin := hlo L.mb (.inr (.inl ⟨by omega, rfl⟩))
    have hlen : (cs.toList.take (S.n * 5)).length = S.n * 5 := by rw [List.length_take, Array.length_toList, hsz]; have := Nat.mul_le_mul_right 5 hc1; omega
    refine ⟨cs.toList.take (S.n * 5), ⟨hlen, .inr ⟨L.mb, L.cap, cs, by rw [L.ad_pos (show 0 < S.n by omega)], hin, hb, hc1, hc2, hsz, rfl⟩⟩, fun i hi => ?_⟩
    obtain ⟨h0, h1, h2, h3, h4⟩ := hc i hi
    have e : ∀ c, c < 5 → (cs.toList.take (S.n * 5))[i * 5 + c]? = cs[i * 5 + c]? := fun c hc5 => by rw [List.getElem?_take_of_lt (by omega), Array.getElem?_toList]
    exact ⟨(e 0 (by decide)).trans h0, (e 1 (by decide)).trans h1, (e 2 (by decide)).trans h2, (e 3 (by decide)).trans h3, (e 4 (by decide)).trans h4⟩
theorem add_apart {P : Nat → Prop} {B n : Nat} (hP : ∀ x, P x → x < B) {m : Nat → Option Nat} (hm : ∀ i j x, i < n → j < n → m i = some x → m j = some x → i = j) (hin : ∀ i x, i < n → m i = some x → P x) {y0 : Nat} (hy : B ≤ y0) :
    ∀ i j x, i < n + 1 → j < n + 1 → upd m n (some y0) i = some x → upd m n (some y0) j = some x → i = j := by
  intro i j x hi hj h1 h2
  by_cases ei : i = n
  · subst ei
    rw [upd_self] at h1
    injection h1 with h1
    by_cases ej : j = i
    · exact ej.symm
    · rw [upd_ne _ _ ej] at h2
      have := hP x (hin j x (by omega) h2)
      omega
  · rw [upd_ne _ _ ei] at h1
    by_cases ej : j = n
    · subst ej
      rw [upd_self] at h2
      injection h2 with h2
      have := hP x (hin i x (by omega) h1)
      omega
    · rw [upd_ne _ _ ej] at h2
      exact hm i j x (by omega) (by omega) h1 h2
theorem add_made (h : BankIn w b L S) (hok : S.Ok) {z : Nat} (hz1 : 1 ≤ z) (hz2 : z ≤ 4096) (hn : S.n < 32) {F : Nat → Prop} (hsp : Span b L S F) (hhi : ∀ x, F x → x < w.heap.size) {w1 w5 : World} {x l g5 cap5 : Nat} {xs : List Value} (hb1 : Below w.heap.size w w1)
    (hmx : MapIs w1 x (fun _ => none)) (hml : MapIs w1 l (fun _ => none)) (hxl : x ≠ l) (hx0 : w.heap.size ≤ x) (hl0 : w.heap.size ≤ l)
    (hown5 : w5.ownsRow 0 84 5 (.slice (some ⟨g5, 0, none⟩) (S.n + 1) cap5) (S.n + 1) (xs ++ [.int .i64 (z : Int), .bool false, .map (some x), .map (some l), .int .i64 0]))
    (hxs : ∀ i, i < S.n → xs[i * 5]? = some (.int .i64 (S.size i : Int)) ∧ xs[i * 5 + 1]? = some (.bool (S.dead i)) ∧ xs[i * 5 + 2]? = some (.map (L.fl i)) ∧ xs[i * 5 + 3]? = some (.map (L.lo i)) ∧ xs[i * 5 + 4]? = some (.int .i64 (S.failAt i : Int)))
    (hat : (Value.slice (L.ad S.n) S.n L.cap).ownBlock = some g5 ∨ w.heap.size ≤ g5) (o : Obj) (hg5 : (w1.alloc o).grownBy w5 (Value.slice (L.ad S.n) S.n L.cap).ownBlock) :
    BankOn (w5.setCell ⟨b, 0, none⟩ (.slice (some ⟨g5, 0, none⟩) (S.n + 1) cap5)) b (fun y => F y ∨ (w.heap.size ≤ y ∧ y < (w5.setCell ⟨b, 0, none⟩ (.slice (some ⟨g5, 0, none⟩) (S.n + 1) cap5)).heap.size)) (S.add z) ∧ Turn F w (w5.setCell ⟨b, 0, none⟩ (.slice (some ⟨g5, 0, none⟩) (S.n + 1) cap5)) := by
  have hrowb : ∀ g, (Value.slice (L.ad S.n) S.n L.cap).ownBlock = some g → 0 < S.n ∧ g = L.mb := by
    intro g hg
    unfold Lay.ad at hg
    split at hg
    · simp [Value.ownBlock] at hg
    · simp only [Value.ownBlock] at hg
      injection hg with hg
      exact ⟨by omega, hg.symm⟩
  have hbin := hsp.inside b (.inl rfl)
  have hblt : b < w.heap.size := h.head.lt
  have hs5 : w1.heap.size < w5.heap.size := by have := hg5.size; rw [World.size_alloc] at this; omega
  have hs1 := hb1.size
  have hxlt := hmx.lt
  have hllt := hml.lt
  -- blocks of before
  have hkp : ∀ y, y < w1.heap.size → (∀ g, (Value.slice (L.ad S.n) S.n L.cap).ownBlock = some g → y ≠ g) → w5.heap[y]? = w1.heap[y]? := fun y hy hne =>
    (hg5.block y (by rw [World.size_alloc]; omega) (fun e => hne y e.symm rfl)).trans (Below.heap_alloc w1 _ y hy)
  have hkm : ∀ {y : Nat} {f : Nat → Option Value}, MapIs w1 y f → y ≠ b → (∀ {i}, i < S.n → y ≠ L.mb) → MapIs (w5.setCell ⟨b, 0, none⟩ (.slice (some ⟨g5, 0, none⟩) (S.n + 1) cap5)) y f := fun hm hyb hym =>
    hm.of_block ((Below.heap_setCell _ _ _ _ hyb).trans (hkp _ hm.lt (fun g hg => by obtain ⟨h0, e⟩ := hrowb g hg; rw [e]; exact hym h0)))
  have hold : ∀ {y : Nat} {f : Nat → Option Value}, MapIs w y f → MapIs (w5.setCell ⟨b, 0, none⟩ (.slice (some ⟨g5, 0, none⟩) (S.n + 1) cap5)) y f := fun hm => by
    have hne := h.map_ne hm
    exact hkm (hm.below hb1 hm.lt) hne.1 (fun {i} hi => hne.2 hi)
  have hgl : g5 < w5.heap.size := (hown5.lt g5 rfl).2
  have hbb : w5.heap[b]? = w.heap[b]? := (hkp b (by have := h.head.lt; omega) (fun g hg => by obtain ⟨h0, e⟩ := hrowb g hg; rw [e]; exact (h.mne h0).symm)).trans (hb1.block b h.head.lt)
  obtain ⟨cur, hcur, hnc, hcm, hcs, htake⟩ : ∃ cur : Array Value, w5.heap[g5]? = some (.cells cur 84 (0, 0)) ∧ S.n + 1 ≤ cap5 ∧ cap5 ≤ maxLen ∧ cur.size = cap5 * 5 ∧ cur.toList.take ((S.n + 1) * 5) = xs ++ [.int .i64 (z : Int), .bool false, .map (some x), .map (some l), .int .i64 0] := by
    rcases hown5.2 with ⟨hn, _⟩ | ⟨g', cap', cur, hv, _, hb', h1, h2, h3, h4⟩
    · cases hn
    · injection hv with hv1 hv2 hv3
      injection hv1 with hv1
      injection hv1 with hv1
      subst hv1
      subst hv3
      exact ⟨cur, hb', h1, h2, h3, h4⟩
  have hgne : g5 ≠ b := by
    intro e
    have h2 := h.head.of_block hbb
    unfold Blk at h2
    rw [← e, hcur] at h2
    injection h2 with h2
    injection h2 with _ h2
    exact absurd h2 (by decide)
  have hxl5 : xs.length = S.n * 5 := by have := hown5.1; rw [List.length_append] at this; simp at this; omega
  have hcell : ∀ i c, c < 5 → i < S.n + 1 → cur[i * 5 + c]? = (xs ++ [.int .i64 (z : Int), .bool false, .map (some x), .map (some l), .int .i64 0])[i * 5 + c]? := fun i c hc hi => by
    rw [← htake, List.getElem?_take_of_lt (by omega), Array.getElem?_toList]
  have hsz6 : (w5.setCell ⟨b, 0, none⟩ (.slice (some ⟨g5, 0, none⟩) (S.n + 1) cap5)).heap.size = w5.heap.size := by simp [World.setCell]
  have hout : ∀ k, (S.n, k) ∉ S.order := fun k hk => by have := (hok.loose _ hk).1; simp at this
  refine ⟨⟨fun y hy => ?_, ?_, { L with mb := g5, cap := cap5, fl := upd L.fl S.n (some x), lo := upd L.lo S.n (some l) }, ?_, ⟨fun y hy => ?_⟩⟩, ?_⟩
  · rw [hsz6]
    rcases hy with hy | hy
    · have := hhi _ hy; omega
    · have := hy.2; rw [hsz6] at this; exact this
  · refine ⟨by show S.n + 1 ≤ 32; omega, fun d hd => ?_, hok.nodup, fun p hp => ?_, fun d k hk => ?_, hok.down_, fun d => ?_, hok.armed_le, hok.mask_le⟩
    · show 1 ≤ upd S.size S.n z d ∧ upd S.size S.n z d ≤ 4096
      by_cases e : d = S.n
      · subst e; rw [upd_self]; exact ⟨hz1, hz2⟩
      · rw [upd_ne _ _ e]; exact hok.size_le d (by have : d < S.n + 1 := hd; omega)
    · obtain ⟨h1, h2, h3⟩ := hok.loose p hp
      have e : p.1 ≠ S.n := by omega
      exact ⟨by show p.1 < S.n + 1; omega, by show p.2 < upd S.size S.n z p.1; rw [upd_ne _ _ e]; exact h2, by show upd S.dead S.n false p.1 = false; rw [upd_ne _ _ e]; exact h3⟩
    · show upd S.newest S.n _ d k = upd S.flushed S.n _ d k
      by_cases e : d = S.n
      · subst e; rw [upd_self, upd_self]
      · rw [upd_ne _ _ e, upd_ne _ _ e]; exact hok.same d k hk
    · show upd S.failAt S.n 0 d < _
      by_cases e : d = S.n
      · subst e; rw [upd_self]; decide
      · rw [upd_ne _ _ e]; exact hok.fail_le d
  · refine { head := ?_, cap := ⟨hnc, hcm, fun e => absurd e (Nat.succ_ne_zero _)⟩, row := fun _ => ⟨cur, ?_, hcs, fun i hi => ?_⟩, gone := fun i hi hd => ?_, flat := fun i hi hd => ?_, loose := fun i hi hd => ?_, apart1 := fun i j y hi hj h1 h2 => ?_, apart2 := fun i j y hi hj h1 h2 => ?_, apart3 := fun i j y hi hj h1 h2 => ?_, rising := h.rising, past := h.past }
    · have h2 := (h.head.of_block hbb).set_ 0 (.slice (some ⟨g5, 0, none⟩) (S.n + 1) cap5)
      have e : Lay.ad { L with mb := g5, cap := cap5, fl := upd L.fl S.n (some x), lo := upd L.lo S.n (some l) } (S.add z).n = some ⟨g5, 0, none⟩ := Lay.ad_pos _ (Nat.lt_succ_self S.n)
      rw [e]
      exact h2
    · exact (show Blk w5 g5 _ cur from hcur).far (fun e => hgne e) _
    · have hi' : i < S.n + 1 := hi
      show cur[i * 5]? = some (.int .i64 ((upd S.size S.n z i : Nat) : Int)) ∧ cur[i * 5 + 1]? = some (.bool (upd S.dead S.n false i)) ∧ cur[i * 5 + 2]? = some (.map (upd L.fl S.n (some x) i)) ∧ cur[i * 5 + 3]? = some (.map (upd L.lo S.n (some l) i)) ∧ cur[i * 5 + 4]? = some (.int .i64 ((upd S.failAt S.n 0 i : Nat) : Int))
      have e0 := hcell i 0 (by decide) hi'
      have e1 := hcell i 1 (by decide) hi'
      have e2 := hcell i 2 (by decide) hi'
      have e3 := hcell i 3 (by decide) hi'
      have e4 := hcell i 4 (by decide) hi'
      rw [Nat.add_zero] at e0
      rw [e0, e1, e2, e3, e4]
      by_cases e : i = S.n
      · subst e
        rw [upd_self, upd_self, upd_self, upd_self, upd_self]
        refine ⟨?_, ?_, ?_, ?_, ?_⟩ <;> rw [List.getElem?_append_right (by omega)] <;> rw [hxl5]
        · rw [show S.n * 5 - S.n * 5 = 0 by omega]; rfl
        · rw [show S.n * 5 + 1 - S.n * 5 = 1 by omega]; rfl
        · rw [show S.n * 5 + 2 - S.n * 5 = 2 by omega]; rfl
        · rw [show S.n * 5 + 3 - S.n * 5 = 3 by omega]; rfl
        · rw [show S.n * 5 + 4 - S.n * 5 = 4 by omega]; rfl
      · rw [upd_ne _ _ e, upd_ne _ _ e, upd_ne _ _ e, upd_ne _ _ e, upd_ne _ _ e]
        have hin : i < S.n := by omega
        rw [List.getElem?_append_left (by omega), List.getElem?_append_left (by omega), List.getElem?_append_left (by omega), List.getElem?_append_left (by omega), List.getElem?_append_left (by omega)]
        exact hxs i hin
    · have hd' : upd S.dead S.n false i = true := hd
      have e : i ≠ S.n := by rintro rfl; rw [upd_self] at hd'; cases hd'
      rw [upd_ne _ _ e] at hd'
      show upd L.fl S.n _ i = none ∧ upd L.lo S.n _ i = none
      rw [upd_ne _ _ e, upd_ne _ _ e]
      exact h.gone i (by have : i < S.n + 1 := hi; omega) hd'
    · have hd' : upd S.dead S.n false i = false := hd
      by_cases e : i = S.n
      · subst e
        refine ⟨x, _, upd_self _ _ _, hkm hmx (by omega) (fun {i} hi e => by have := h.mlt hi; omega), fun k => .inr ⟨rfl, ?_⟩⟩
        show upd S.flushed S.n _ S.n k = _
        rw [upd_self]
      · rw [upd_ne _ _ e] at hd'
        obtain ⟨y, f, ey, hm, h2⟩ := h.flat i (by have : i < S.n + 1 := hi; omega) hd'
        refine ⟨y, f, (upd_ne _ _ e).trans ey, hold hm, ?_⟩
        show Flat f (upd S.flushed S.n _ i)
        rw [upd_ne _ _ e]
        exact h2
    · have hd' : upd S.dead S.n false i = false := hd
      by_cases e : i = S.n
      · subst e
        refine ⟨l, upd_self _ _ _, (hkm hml (by omega) (fun {i} hi e => by have := h.mlt hi; omega)).congr fun k => ?_⟩
        unfold looseF
        exact (if_neg (hout k)).symm
      · rw [upd_ne _ _ e] at hd'
        obtain ⟨y, ey, hm⟩ := h.loose i (by have : i < S.n + 1 := hi; omega) hd'
        refine ⟨y, (upd_ne _ _ e).trans ey, ?_⟩
        refine (hold hm).congr fun k => ?_
        unfold looseF
        show (if (i, k) ∈ S.order then some (newV (S.newest i k) (L.since i k)) else none) = if (i, k) ∈ S.order then some (newV (upd S.newest S.n _ i k) (L.since i k)) else none
        rw [upd_ne _ _ e]
    · exact add_apart h.foot_lt h.apart1 (fun i y hi e => .inr (.inr ⟨i, hi, .inl e⟩)) hx0 i j y hi hj h1 h2
    · exact add_apart h.foot_lt h.apart2 (fun i y hi e => .inr (.inr ⟨i, hi, .inr e⟩)) hl0 i j y hi hj h1 h2
    · have hi' : i < S.n + 1 := hi
      have hj' : j < S.n + 1 := hj
      have e1 : upd L.fl S.n (some x) i = some y := h1
      have e2 : upd L.lo S.n (some l) j = some y := h2
      by_cases ei : i = S.n
      · subst ei
        rw [upd_self] at e1
        injection e1 with e1
        by_cases ej : j = S.n
        · subst ej
          rw [upd_self] at e2
          injection e2 with e2
          omega
        · rw [upd_ne _ _ ej] at e2
          have := h.foot_lt y (.inr (.inr ⟨j, by omega, .inr e2⟩))
          omega
      · rw [upd_ne _ _ ei] at e1
        have hly := h.foot_lt y (.inr (.inr ⟨i, by omega, .inl e1⟩))
        by_cases ej : j = S.n
        · subst ej
          rw [upd_self] at e2
          injection e2 with e2
          omega
        · rw [upd_ne _ _ ej] at e2
          exact h.apart3 i j y (by omega) (by omega) e1 e2
  · rw [hsz6]
    rcases hy with e0 | ⟨_, e0⟩ | ⟨i, hi, e⟩
    · rw [e0]
      exact .inl hbin
    · rw [show y = g5 from e0]
      rcases hat with h1 | h1
      · obtain ⟨h0, e⟩ := hrowb _ h1
        rw [show g5 = L.mb from e]
        exact .inl (hsp.inside _ (.inr (.inl ⟨h0, rfl⟩)))
      · exact .inr ⟨h1, hgl⟩
    · have hi' : i < S.n + 1 := hi
      rcases e with e | e
      · have e1 : upd L.fl S.n (some x) i = some y := e
        by_cases ei : i = S.n
        · subst ei; rw [upd_self] at e1; injection e1 with e1; exact .inr ⟨by omega, by omega⟩
        · rw [upd_ne _ _ ei] at e1
          exact .inl (hsp.inside y (.inr (.inr ⟨i, by omega, .inl e1⟩)))
      · have e1 : upd L.lo S.n (some l) i = some y := e
        by_cases ei : i = S.n
        · subst ei; rw [upd_self] at e1; injection e1 with e1; exact .inr ⟨by omega, by omega⟩
        · rw [upd_ne _ _ ei] at e1
          exact .inl (hsp.inside y (.inr (.inr ⟨i, by omega, .inr e1⟩)))
  · have hu1 : Turn F w w1 := .of_below hb1
    refine (((hu1.alloc o).grown hg5 (fun g hg => ?_)).set ⟨b, 0, none⟩ (.inl hbin) _)
    obtain ⟨h0, e⟩ := hrowb g hg
    rw [e]
    exact .inl (hsp.inside _ (.inr (.inl ⟨h0, rfl⟩)))
set_option maxRecDepth 100000 in
theorem add_any (h : BankIn w b L S) (hok : S.Ok) (z : Nat) (hz1 : 1 ≤ z) (hz2 : z ≤ 4096) (hn : S.n < 32) {F : Nat → Prop} (hsp : Span b L S F) (hhi : ∀ x, F x → x < w.heap.size) :
    Calls Tryz.prog 25 #[.pointer (some ⟨b, 0, none⟩), .int .i64 (z : Int)] w fun e w' => e = .returned (.tuple #[.int .i64 (S.n : Int), .int .i64 0]) ∧ BankOn w' b (fun y => F y ∨ (w.heap.size ≤ y ∧ y < w'.heap.size)) (S.add z) ∧ Turn F w w' := by
  have c0 := h.c0
  have hne32 : ¬ ((S.n : Int) = 32) := by omega
  have HB := hide h
  clear h
  go_enter Tryz.func25, Tryz.ntmps25
  go_wp2
  obtain ⟨i0, hi0, hzz, hz3, hz4⟩ := member_info
  have hzero := member_zero
  obtain ⟨xs, hrow, hxs⟩ := HB.out.members (lo := 0) (fun _ _ => Nat.zero_le _)
  have hbnd : S.n + 1 ≤ maxLen ∧ (S.n + 1) * 40 ≤ 140737488355328 := by simp only [maxLen]; omega
  have hnr : some b ≠ (Value.slice (L.ad S.n) S.n L.cap).ownBlock := by
    unfold Lay.ad
    split
    · simp [Value.ownBlock]
    · rename_i hn0
      intro e
      simp only [Value.ownBlock] at e
      injection e with e
      exact HB.out.mne (show 0 < S.n by omega) e.symm
  have HNR := hide hnr
  have HI0 := hide hi0
  have HZZ := hide hzz
  have HZ3 := hide hz3
  have HZ4 := hide hz4
  have HZR := hide hzero
  have HXS := hide hxs
  have HBD := hide hbnd
  have hlow : 0 ≤ w.heap.size := Nat.zero_le _
  have HBL : Hid (Calls Tryz.prog 63 #[.int .i64 (z : Int)] w.drew fun e w' => ∃ x l, e = .returned (.agg #[.int .i64 (z : Int), .bool false, .map (some x), .map (some l)]) ∧ MapIs w' x (fun _ => none) ∧ MapIs w' l (fun _ => none) ∧ x ≠ l ∧ w.heap.size ≤ x ∧ w.heap.size ≤ l ∧ Below w.heap.size w w') := (blank_any w.drew z).mono fun e w' ⟨x, l, h1, h2, h3, h4, h5, h6, h7⟩ => ⟨x, l, h1, h2, h3, h4, h5, h6, ((Below.refl _ w).drew).trans h7⟩
  clear hi0 hzz hz3 hz4 hzero hxs hbnd hnr
  have c0d : w.drew.cell? ⟨b, 0, none⟩ = some (.slice (L.ad S.n) S.n L.cap) := c0
  go_region_law (first
    | (go_simp; go_at_call 63; refine HBL.out.mono ?_; rintro _ w1 ⟨x, l, rfl, hmx, hml, hxl, hx0, hl0, hb1⟩; have hsz1 : w.heap.size ≤ w1.heap.size := hb1.size; have hrow1 := own_later hrow hb1; have hlow1 : 0 ≤ w1.heap.size := Nat.le_trans hlow hsz1; have c01 : w1.cell? ⟨b, 0, none⟩ = some (.slice (L.ad S.n) S.n L.cap) := (hb1.cell HB.out.head.lt).trans c0; have c02 : ∀ o, (w1.alloc o).cell? ⟨b, 0, none⟩ = some (.slice (L.ad S.n) S.n L.cap) := (fun o => (World.cell?_alloc_lt w1 o _ (Nat.lt_of_lt_of_le HB.out.head.lt hsz1)).trans c01))
    | (refine step_append_lies _ rfl (.tmp 22) (.tmp 26) 75 rfl 0 84 i0 _ 5 40 Tryz.underlying75 HI0.out HZZ.out HZ3.out HZ4.out rfl (by decide) _ _ _ rfl (hrow1.alloc (.cells #[.int .i64 (z : Int), .bool false, .map (some x), .map (some l), .int .i64 0] 84)) ⟨w1.heap.size, 0, none⟩ 1 1 [.int .i64 (z : Int), .bool false, .map (some x), .map (some l), .int .i64 0] rfl rfl (World.news_of_block (Blk.new w1 84 #[.int .i64 (z : Int), .bool false, .map (some x), .map (some l), .int .i64 0])) (by intro u hu; simp at hu; rcases hu with rfl | rfl | rfl | rfl | rfl <;> rfl) (by decide) HBD.out.1 HBD.out.2 (le_alloc hlow1 _) _ rfl ?_; intro g5 cap5 w5 hown5 hg5 hat5 hgl5; have hkp : ∀ y, y < w.heap.size → some y ≠ (Value.slice (L.ad S.n) S.n L.cap).ownBlock → w5.heap[y]? = w.heap[y]? := (fun y hy hne => ((hg5.block y (by show y < (w1.alloc _).heap.size; rw [World.size_alloc]; omega) hne).trans (Below.heap_alloc w1 _ y (by omega))).trans (hb1.block y hy)); have hB5 : Blk w5 b 78 _ := HB.out.head.of_block (hkp b HB.out.head.lt HNR.out); have c05 : w5.cell? ⟨b, 0, none⟩ = some (.slice (L.ad S.n) S.n L.cap) := hB5.cell 0; have f05 := hB5.frozen 0; have HAT : Hid ((Value.slice (L.ad S.n) S.n L.cap).ownBlock = some g5 ∨ w.heap.size ≤ g5) := (hat5.imp id (fun e => by rw [e, World.size_alloc]; omega)); have HK := hide hkp; clear hkp hat5))
  all_goals
    have hfin := add_made HB.out hok hz1 hz2 hn hsp hhi hb1 hmx hml hxl hx0 hl0 hown5 HXS.out HAT.out _ hg5
    have HFIN := hide hfin
    clear hfin
    go_wp2
    go_ret2
    exact ⟨rfl, HFIN.out.1, HFIN.out.2⟩
end
end Go.Proofs.YtmjjnbabfldbcaaGreat
