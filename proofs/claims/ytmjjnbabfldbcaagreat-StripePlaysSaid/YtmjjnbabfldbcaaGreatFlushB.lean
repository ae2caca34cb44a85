/- What Flush, Start, Fail, FailAt and Arm do to a bank; how many sectors are loose. -/
import Derived.Test.YtmjjnbabfldbcaaGreatCrash
namespace Go.Proofs.YtmjjnbabfldbcaaGreat
open Go.RowKit

section
variable {w : World} {b : Nat} {L : Lay} {S : Bank}
set_option maxRecDepth 100000 in
theorem flushB_any (h : BankIn w b L S) (hok : S.Ok) (d : Nat) {F : Nat → Prop} (hsp : Span b L S F) :
    Calls Tryz.prog 45 #[.pointer (some ⟨b, 0, none⟩), .int .i64 (d : Int)] w fun e w' => e = .returned (.int .i64 (S.may d : Int)) ∧ BankIn w' b L (if S.may d = 0 then S.flush d else S) ∧ Turn F w w' := by
  have HW := hide (working_any h d)
  have HB := hide h
  by_cases hm : S.may d = 0
  · obtain ⟨hd, hdead, _⟩ := may_lt hm
    obtain ⟨x, f, hx, hmx, hfl⟩ := h.flat d hd hdead
    obtain ⟨l, hlo, hml⟩ := h.loose d hd hdead
    obtain ⟨_, _, m2, m3, _⟩ := h.m hd
    rw [hx] at m2
    rw [hlo] at m3
    have hlx : l ≠ x := fun e => h.apart3 d d x hd hd hx (by rw [hlo, e])
    have HF := hide (flush_any (o := d * 5) (S.newest d) (h.mlt hd) hlx m3 hml m2 hmx (fun k => newIs_of L hok hfl k))
    have hw : workV L S d = .tuple #[.pointer (some ⟨L.mb, d * 5, none⟩), .int .i64 0] := by unfold workV; rw [if_pos hm, hm]; rfl
    rw [hm, if_pos rfl]
    have HWK := hide hw
    clear hw h m2 m3
    go_enter Tryz.func45, Tryz.ntmps45
    go_wp2_with (first
      | (go_at_call 84; refine HW.out.mono ?_; rw [HWK.out]; rintro _ _ ⟨rfl, rfl⟩)
      | (go_at_call 85; refine HF.out.mono ?_; rintro _ w4 ⟨rfl, hl4, ⟨g', hx4, hg'⟩, ht4⟩))
    go_ret
    refine ⟨rfl, ?_, ht4.wider (fun i hi => ?_)⟩
    · have hne := HB.out.map_ne hml
      have hnx := HB.out.map_ne hmx
      refine { head := HB.out.head.of_block (ht4.block b HB.out.head.lt (fun e => e.elim (fun e => hne.1 e.symm) (fun e => hnx.1 e.symm))), cap := HB.out.cap, row := fun h0 => ?_, gone := HB.out.gone, flat := fun i hi hdi => ?_, loose := fun i hi hdi => ?_, apart1 := HB.out.apart1, apart2 := HB.out.apart2, apart3 := HB.out.apart3, rising := HB.out.rising.filter _, past := fun p hp => HB.out.past p ((mem_others _ _ _).1 hp).1 }
      · obtain ⟨cs, hb, h2⟩ := HB.out.row h0
        exact ⟨cs, hb.of_block (ht4.block _ (HB.out.mlt hd) (fun e => e.elim (fun e => hne.2 hd e.symm) (fun e => hnx.2 hd e.symm))), h2⟩
      · by_cases e : i = d
        · subst e
          refine ⟨x, g', hx, hx4, fun k => ?_⟩
          show g' k = some (secV (upd S.flushed i (S.newest i) i k)) ∨ (g' k = none ∧ upd S.flushed i (S.newest i) i k = zeroSec)
          rw [upd_self]
          rcases hg' k with h1 | ⟨h1, h2⟩
          · exact .inl h1
          · exact .inr ⟨h1, h2.symm⟩
        · obtain ⟨y, g, ey, hy, h2⟩ := HB.out.flat i hi hdi
          refine ⟨y, g, ey, hy.of_block (ht4.block y hy.lt (by
            rintro (e2 | e2)
            · exact HB.out.apart3 i d y hi hd ey (by rw [hlo, e2])
            · subst e2; exact e (HB.out.apart1 i d y hi hd ey hx))), ?_⟩
          show Flat g (upd S.flushed d (S.newest d) i)
          rw [upd_ne _ _ e]
          exact h2
      · by_cases e : i = d
        · subst e
          refine ⟨l, hlo, hl4.congr fun k => ?_⟩
          have hnot : ¬ (i, k) ∈ S.order.filter fun p => p.1 != i := fun hin => ((mem_others _ _ _).1 hin).2 rfl
          unfold looseF
          exact (if_neg hnot).symm
        · obtain ⟨y, ey, hy⟩ := HB.out.loose i hi hdi
          refine ⟨y, ey, ?_⟩
          have hl : looseF (S.flush d) L i = looseF S L i := looseF_of L _ (fun k => ⟨by
            show (i, k) ∈ S.order.filter _ ↔ _
            rw [mem_others]
            exact ⟨fun a => a.1, fun a => ⟨a, e⟩⟩, rfl⟩)
          rw [hl]
          exact hy.of_block (ht4.block y hy.lt (by
            rintro (e2 | e2)
            · subst e2; exact e (HB.out.apart2 i d y hi hd ey hlo)
            · exact HB.out.apart3 d i y hd hi (by rw [hx, e2]) ey))
    · rcases hi with rfl | rfl
      · exact hsp.inside _ (.inr (.inr ⟨d, hd, .inr hlo⟩))
      · exact hsp.inside _ (.inr (.inr ⟨d, hd, .inl hx⟩))
  · have hw : workV L S d = .tuple #[.pointer none, .int .i64 (S.may d : Int)] := by unfold workV; rw [if_neg hm]
    have hne : ¬ ((S.may d : Int) = 0) := by omega
    rw [if_neg hm]
    generalize S.may d = y at hm hw hne ⊢
    have HWK := hide hw
    clear hw h
    go_enter Tryz.func45, Tryz.ntmps45
    go_wp2_with (first
      | (go_at_call 84; refine HW.out.mono ?_; rw [HWK.out]; rintro _ _ ⟨rfl, rfl⟩))
    go_ret
    exact ⟨rfl, HB.out, Turn.refl _ _⟩
theorem start_any (h : BankIn w b L S) {F : Nat → Prop} (hsp : Span b L S F) :
    Calls Tryz.prog 43 #[.pointer (some ⟨b, 0, none⟩)] w fun e w' => e = .returned (.tuple #[]) ∧ BankIn w' b L S.start ∧ Turn F w w' := by
  have d1 := h.c1
  have f1 := h.head.frozen 1
  have hbin := hsp.inside b (.inl rfl)
  have HB := hide h
  clear h
  go_enter Tryz.func43, Tryz.ntmps43
  go_wp2
  go_end0
  exact ⟨rfl, HB.out.head_set (w' := w.setCell ⟨b, 1, none⟩ (.bool false)) false S.writes S.armed S.mask (Nat.le_refl _) (HB.out.head.set_ 1 (.bool false)) (fun x hx _ => Below.heap_setCell _ _ _ x hx), (Turn.refl _ _).set ⟨b, 1, none⟩ (.inl hbin) _⟩
theorem failB_any (h : BankIn w b L S) (d : Nat) (hd : d < S.n) {F : Nat → Prop} (hsp : Span b L S F) :
    Calls Tryz.prog 21 #[.pointer (some ⟨b, 0, none⟩), .int .i64 (d : Int)] w fun e w' => e = .returned (.int .i64 0) ∧ BankIn w' b (L.drop d) (S.fail d) ∧ Turn F w w' := by
  have HT := hide (there_yes h d hd)
  have c0 := h.c0
  rw [L.ad_pos hd] at c0
  have hdw : (d : Int) < (S.n : Int) := by omega
  obtain ⟨_, m1, m2, m3, _⟩ := h.m hd
  have HF := hide (fail_any (o := d * 5) _ _ _ m1 m2 m3 (h.mfree hd))
  have hB := hide (h.fail_ hd)
  have hmin := hsp.inside L.mb (.inr (.inl ⟨by omega, rfl⟩))
  clear h m1 m2 m3
  go_enter Tryz.func21, Tryz.ntmps21
  go_wp2_with (first
    | (go_at_call 60; refine HT.out.mono ?_; rintro _ _ ⟨rfl, rfl⟩)
    | (go_at_call 61; refine HF.out.mono ?_; rintro _ w4 ⟨rfl, hw4⟩; have HW4 := hide hw4; clear hw4))
  go_ret
  rw [HW4.out]
  exact ⟨rfl, hB.out, (((Turn.refl _ _).set ⟨L.mb, d * 5 + 1, none⟩ (.inl hmin) _).set ⟨L.mb, d * 5 + 2, none⟩ (.inl hmin) _).set ⟨L.mb, d * 5 + 3, none⟩ (.inl hmin) _⟩
theorem arm_any (h : BankIn w b L S) (n : Int) (a m : Nat) (ha : (a : Int) = if 0 < n then n else 0) {F : Nat → Prop} (hsp : Span b L S F) :
    Calls Tryz.prog 39 #[.pointer (some ⟨b, 0, none⟩), .int .i64 n, .int .u64 (m : Int)] w fun e w' => e = .returned (.tuple #[]) ∧ BankIn w' b L (S.arm a m) ∧ Turn F w w' := by
  have HA := hide (fun w' => after_any (w := w') n a ha)
  have d3 := h.c3
  have d4 := h.c4
  have f3 := h.head.frozen 3
  have f4 := h.head.frozen 4
  have hbin := hsp.inside b (.inl rfl)
  have HB := hide h
  clear h ha
  go_enter Tryz.func39, Tryz.ntmps39
  go_wp2_with (first
    | (go_at_call 79; refine (HA.out _).mono ?_; rintro _ _ ⟨rfl, rfl⟩))
  go_end0
  exact ⟨rfl, HB.out.head_set (w' := (w.setCell ⟨b, 3, none⟩ (.int .i64 (a : Int))).setCell ⟨b, 4, none⟩ (.int .u64 (m : Int))) S.down S.writes a m (Nat.le_refl _) ((HB.out.head.set_ 3 _).set_ 4 _) (fun x hx _ => (Below.heap_setCell _ _ _ x hx).trans (Below.heap_setCell _ _ _ x hx)), ((Turn.refl _ _).set ⟨b, 3, none⟩ (.inl hbin) _).set ⟨b, 4, none⟩ (.inl hbin) _⟩
set_option maxRecDepth 100000 in
theorem failAt_any (h : BankIn w b L S) (d : Nat) (hd : d < S.n) (n : Int) (a : Nat) (ha : (a : Int) = if 0 < n then n else 0) {F : Nat → Prop} (hsp : Span b L S F) :
    Calls Tryz.prog 37 #[.pointer (some ⟨b, 0, none⟩), .int .i64 (d : Int), .int .i64 n] w fun e w' => e = .returned (.tuple #[]) ∧ BankIn w' b L (S.willFail d a) ∧ Turn F w w' := by
  have HA := hide (fun w' => after_any (w := w') n a ha)
  have HT := hide (there_yes h d hd)
  have c0 := h.c0
  rw [L.ad_pos hd] at c0
  have hdw : (d : Int) < (S.n : Int) := by omega
  obtain ⟨_, _, _, _, m4⟩ := h.m hd
  have f4 := h.mfree hd (d * 5 + 4)
  have hB := hide (h.drew.set_fail hd a)
  have hmin := hsp.inside L.mb (.inr (.inl ⟨by omega, rfl⟩))
  clear h ha
  go_enter Tryz.func37, Tryz.ntmps37
  go_wp2_with (first
    | (go_at_call 60; refine HT.out.mono ?_; rintro _ _ ⟨rfl, rfl⟩))
  have c0d : w.drew.cell? ⟨b, 0, none⟩ = some (.slice (some ⟨L.mb, 0, none⟩) S.n L.cap) := c0
  have m4d : w.drew.cell? ⟨L.mb, d * 5 + 4, none⟩ = some (.int .i64 (S.failAt d : Int)) := m4
  have f4d : w.drew.frozen? ⟨L.mb, d * 5 + 4, none⟩ = false := f4
  refine wp_region_still_tail 9 (by kernel_rfl) (by kernel_rfl) ?_
  change wpStill _ _ w.drew _ _ _
  simp only [List.take_succ_cons, List.take_zero, List.drop_succ_cons, List.drop_zero]
  iterate 6 still_step
  still_call ((HA.out _).mono fun _ _ ⟨h1, h2⟩ => ⟨h1, h2.symm⟩)
  iterate 2 still_step
  refine wpStill_nil ?_
  change wpList _ _ _ _ _ w.drew
  go_wp2
  go_end0
  exact ⟨rfl, hB.out, ((Turn.refl _ _).drew).set ⟨L.mb, d * 5 + 4, none⟩ (.inl hmin) _⟩
/-- Lists of the loose places of one disk. -/
def looseOf (S : Bank) (i : Nat) : List Nat := (S.order.filter fun p => p.1 == i).map (·.2)
theorem looseOf_mem (S : Bank) (i k : Nat) : k ∈ looseOf S i ↔ (i, k) ∈ S.order := by
  unfold looseOf
  rw [List.mem_map]
  constructor
  · rintro ⟨p, hp, rfl⟩
    obtain ⟨h1, h2⟩ := List.mem_filter.1 hp
    have : p.1 = i := by simpa using h2
    rw [← this]
    exact h1
  · intro h
    exact ⟨(i, k), List.mem_filter.2 ⟨h, by simp⟩, rfl⟩
theorem looseOf_nodup (S : Bank) (hok : S.Ok) (i : Nat) : (looseOf S i).Nodup := by
  unfold looseOf
  have h1 : (S.order.filter fun p => p.1 == i).Nodup := hok.nodup.sublist List.filter_sublist
  rw [List.Nodup, List.pairwise_map]
  refine List.Pairwise.imp_of_mem (fun {p q} hp hq hne e => hne ?_) h1
  have e1 : p.1 = i := by simpa using (List.mem_filter.1 hp).2
  have e2 : q.1 = i := by simpa using (List.mem_filter.1 hq).2
  exact Prod.ext (by rw [e1, e2]) e
theorem loose_count (l : List (Nat × Nat)) (j : Nat) : (l.filter fun p => decide (p.1 < j + 1)).length = (l.filter fun p => decide (p.1 < j)).length + (l.filter fun p => p.1 == j).length := by
  induction l with
  | nil => rfl
  | cons p l ih =>
    simp only [List.filter_cons]
    rcases Nat.lt_trichotomy p.1 j with h | h | h
    · have h1 : decide (p.1 < j + 1) = true := by simp; omega
      have h2 : decide (p.1 < j) = true := by simpa using h
      have h3 : (p.1 == j) = false := by simp; omega
      simp only [h1, h2, h3, if_true, Bool.false_eq_true, if_false, List.length_cons, ih]
      omega
    · have h1 : decide (p.1 < j + 1) = true := by simp; omega
      have h2 : decide (p.1 < j) = false := by simp; omega
      have h3 : (p.1 == j) = true := by simpa using h
      simp only [h1, h2, h3, if_true, Bool.false_eq_true, if_false, List.length_cons, ih]
      omega
    · have h1 : decide (p.1 < j + 1) = false := by simp; omega
      have h2 : decide (p.1 < j) = false := by simp; omega
      have h3 : (p.1 == j) = false := by simp; omega
      simp only [h1, h2, h3, Bool.false_eq_true, if_false, ih]
set_option maxRecDepth 100000 in
theorem loose_any (h : BankIn w b L S) (hok : S.Ok) :
    Calls Tryz.prog 12 #[.pointer (some ⟨b, 0, none⟩)] w fun e w' => e = .returned (.int .i64 (S.order.length : Int)) ∧ w = w' := by
  have HB := hide h
  have HOK := hide hok
  have c0 := h.c0
  have hn32 := hok.n_le
  have hol := order_le S hok S.order hok.nodup (fun _ hp => hp)
  clear h hok
  go_enter Tryz.func12, Tryz.ntmps12
  go_wp2
  go_loopw [3, 4, 10] (fun s3 _ s10 wr => ∃ j : Nat, s10 = .int .i64 (j : Int) ∧ j ≤ S.n ∧ s3 = .int .i64 (((S.order.filter fun p => decide (p.1 < j)).length : Nat) : Int) ∧ w = wr) (fun _ _ s10 _ => S.n - (intOf s10).toNat)
  case atStart =>
    refine ⟨0, rfl, Nat.zero_le _, ?_, rfl⟩
    have : (S.order.filter fun p => decide (p.1 < 0)) = [] := List.filter_eq_nil_iff.2 fun p _ => by simp
    rw [this]
    rfl
  case round =>
    obtain ⟨j, rfl, hj, rfl, rfl⟩ := hrel
    by_cases hjn : j < S.n
    · have hjw : (j : Int) < (S.n : Int) := by omega
      rw [L.ad_pos hjn] at c0
      obtain ⟨_, _, _, m3, _⟩ := HB.out.m hjn
      have hlen : ∀ ty, (Builtin.len_ #[80] ty #[.map (L.lo j)]).run Tryz.prog w = .ok (.int .i64 ((looseOf S j).length : Int)) w := fun ty =>
        (HB.out.lo_map HOK.out hjn).len Tryz.underlying80 ty (looseOf_nodup S HOK.out j) (fun k => by rw [looseOf_mem, looseF_some])
      have hcount := loose_count S.order j
      have hle1 : (S.order.filter fun p => decide (p.1 < j)).length ≤ S.order.length := List.length_filter_le _ _
      have hle2 : (looseOf S j).length ≤ S.order.length := by unfold looseOf; rw [List.length_map]; exact List.length_filter_le _ _
      have hl2 : (S.order.filter fun p => p.1 == j).length = (looseOf S j).length := by unfold looseOf; rw [List.length_map]
      rw [hl2] at hcount
      have HCT := hide hcount
      clear hcount hl2
      generalize (looseOf S j).length = y at HCT hlen hle2
      generalize (S.order.filter fun p => decide (p.1 < j)).length = z at HCT hle1
      go_wp2
      go_roundw
      case rel => exact ⟨j + 1, by simp, by omega, by rw [HCT.out]; simp, trivial⟩
      case measure => simp [intOf]; omega
    · obtain rfl : j = S.n := by omega
      have hjw : ¬ (S.n : Int) < (S.n : Int) := by omega
      have hall : (S.order.filter fun p => decide (p.1 < S.n)) = S.order := List.filter_eq_self.2 fun p hp => by simpa using (HOK.out.loose p hp).1
      rw [hall]
      go_wp2
      go_ret
      exact ⟨rfl, rfl⟩
end
end Go.Proofs.YtmjjnbabfldbcaaGreat
