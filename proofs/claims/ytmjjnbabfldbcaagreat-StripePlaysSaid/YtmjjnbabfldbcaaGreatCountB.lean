/- What a call of Write counts, and lets happen. -/
import Derived.Test.YtmjjnbabfldbcaaGreatOk
namespace Go.Proofs.YtmjjnbabfldbcaaGreat
open Go.RowKit

theorem tick_zero (S : Bank) (j : Nat) (h : (S.tick j).failAt j = 0) : S.tick (j + 1) = S.tick j := by
  conv => lhs; unfold Bank.tick
  simp only
  rw [if_pos h]
theorem tick_one (S : Bank) (j : Nat) (h : (S.tick j).failAt j = 1) : S.tick (j + 1) = Bank.fail { S.tick j with failAt := upd (S.tick j).failAt j ((S.tick j).failAt j - 1) } j := by
  conv => lhs; unfold Bank.tick
  simp only
  rw [if_neg (by omega), if_pos h]
theorem tick_more (S : Bank) (j : Nat) (h : (S.tick j).failAt j ≠ 0) (h1 : (S.tick j).failAt j ≠ 1) : S.tick (j + 1) = { S.tick j with failAt := upd (S.tick j).failAt j ((S.tick j).failAt j - 1) } := by
  conv => lhs; unfold Bank.tick
  simp only
  rw [if_neg h, if_neg h1]
theorem Span.drop {b : Nat} {L : Lay} {S S' : Bank} {d : Nat} {F : Nat → Prop} (h : Span b L S F) (hn : S'.n = S.n) : Span b (L.drop d) S' F := by
  refine ⟨fun x hx => h.inside x ?_⟩
  rcases hx with e | ⟨h0, e⟩ | ⟨i, hi, e⟩
  · exact .inl e
  · exact .inr (.inl ⟨by omega, e⟩)
  · refine .inr (.inr ⟨i, by omega, ?_⟩)
    rcases e with e | e
    · left
      by_cases hid : i = d
      · subst hid
        have : upd L.fl i none i = some x := e
        rw [upd_self] at this
        cases this
      · have : upd L.fl d none i = some x := e
        rwa [upd_ne _ _ hid] at this
    · right
      by_cases hid : i = d
      · subst hid
        have : upd L.lo i none i = some x := e
        rw [upd_self] at this
        cases this
      · have : upd L.lo d none i = some x := e
        rwa [upd_ne _ _ hid] at this
theorem Span.same {b : Nat} {L L' : Lay} {S S' : Bank} {F : Nat → Prop} (h : Span b L S F) (hn : S'.n = S.n) (hL : L'.mb = L.mb ∧ L'.fl = L.fl ∧ L'.lo = L.lo) : Span b L' S' F := by
  refine ⟨fun x hx => h.inside x ?_⟩
  obtain ⟨e1, e2, e3⟩ := hL
  rcases hx with e | ⟨h0, e⟩ | ⟨i, hi, e⟩
  · exact .inl e
  · exact .inr (.inl ⟨by omega, by rw [e, e1]⟩)
  · exact .inr (.inr ⟨i, by omega, by rw [e2, e3] at e; exact e⟩)
section
variable {w : World} {b : Nat} {L : Lay} {S : Bank}
set_option maxRecDepth 100000 in
theorem count_any (h : BankIn w b L S) (hok : S.Ok) (hw62 : S.writes < 4611686018427387904) {F : Nat → Prop} (hsp : Span b L S F) (hhi : ∀ x, F x → x < w.heap.size) :
    Calls Tryz.prog 76 #[.pointer (some ⟨b, 0, none⟩)] w fun e w' => e = .returned (.bool S.count.1) ∧ Turn F w w' ∧ ∃ L', BankIn w' b L' S.count.2 ∧ Span b L' S.count.2 F ∧ (S.down = false → ∀ p ∈ S.count.2.order, L'.since p.1 p.2 < S.count.2.writes) := by
  have HB := hide h
  have HOK := hide hok
  have HSP := hide hsp
  have c1 := h.c1
  cases hdown : S.down with
  | true =>
    rw [count_down hdown]
    rw [hdown] at c1
    clear h hok hsp
    go_enter Tryz.func76, Tryz.ntmps76
    go_wp2
    go_ret
    exact ⟨rfl, Turn.refl _ _, L, HB.out, HSP.out, fun e => by cases e⟩
  | false =>
    rw [hdown] at c1
    have c2 := h.c2
    have c0 := h.c0
    have f2 := h.head.frozen 2
    have hbin := hsp.inside b (.inl rfl)
    have hn32 := hok.n_le
    have hww : IntKind.i64.wrap ((S.writes : Int) + 1) = ((S.writes + 1 : Nat) : Int) := by rw [IntKind.wrap_i64]; omega
    have hW1 := h.head_set (w' := w.setCell ⟨b, 2, none⟩ (.int .i64 ((S.writes : Int) + 1))) S.down (S.writes + 1) S.armed S.mask (by omega) (by
      have := h.head.set_ 2 (.int .i64 ((S.writes : Int) + 1))
      exact this) (fun x hx _ => Below.heap_setCell _ _ _ x hx)
    have HW1 : Hid (BankIn (w.setCell ⟨b, 2, none⟩ (.int .i64 ((S.writes : Int) + 1))) b L S.wrote) := hW1
    clear h hok hsp hW1 hww
    go_enter Tryz.func76, Tryz.ntmps76
    go_wp2
    have hU1 : Turn F w (w.setCell ⟨b, 2, none⟩ (.int .i64 ((S.writes : Int) + 1))) := (Turn.refl _ _).set ⟨b, 2, none⟩ (.inl hbin) _
    have hsz1 : w.heap.size = (w.setCell ⟨b, 2, none⟩ (.int .i64 ((S.writes : Int) + 1))).heap.size := by simp [World.setCell]
    have HSZ := hide hsz1
    clear hsz1
    go_loopw [3, 20] (fun _ s20 wr => ∃ (j : Nat) (L1 : Lay), s20 = .int .i64 (j : Int) ∧ j ≤ S.n ∧ BankIn wr b L1 (S.wrote.tick j) ∧ Span b L1 (S.wrote.tick j) F ∧ (∀ p ∈ (S.wrote.tick j).order, L1.since p.1 p.2 ≤ S.writes) ∧ Turn F w wr) (fun _ s20 _ => S.n - (intOf s20).toNat)
    case atStart => exact ⟨0, L, rfl, Nat.zero_le _, HW1.out, HSP.out.same rfl ⟨rfl, rfl, rfl⟩, HB.out.past, hU1⟩
    case round =>
      obtain ⟨j, L1, rfl, hj, hB, hsp1, hpast, hU⟩ := hrel
      obtain ⟨kn, ksz, kd, kw, ka, km⟩ := tick_keeps S.wrote j
      have kn' : (S.wrote.tick j).n = S.n := kn
      by_cases hjn : j < S.n
      · have hjw : (j : Int) < (S.n : Int) := by omega
        have hj1 : j < (S.wrote.tick j).n := by omega
        have c0r : wr.cell? ⟨b, 0, none⟩ = some (.slice (some ⟨L1.mb, 0, none⟩) S.n L1.cap) := by
          have := hB.c0
          rwa [L1.ad_pos hj1, kn'] at this
        obtain ⟨_, m1, m2, m3, m4⟩ := hB.m hj1
        have hfr := hB.mfree hj1
        have hfl := (HOK.out.wrote.tick j).fail_le j
        have hmin := hsp1.inside L1.mb (.inr (.inl ⟨by omega, rfl⟩))
        have HB1 := hide hB
        have HP1 := hide hpast
        have HS1 := hide hsp1
        clear hB hpast hsp1 kn ksz kd kw ka km
        by_cases hz : (S.wrote.tick j).failAt j = 0
        · have hm4 : wr.cell? ⟨L1.mb, j * 5 + 4, none⟩ = some (.int .i64 0) := by rw [m4, hz]; rfl
          have HT := hide (tick_no (o := j * 5 + 4) hm4)
          have hnext := tick_zero S.wrote j hz
          have HNX := hide hnext
          clear hnext m1 m2 m3 m4 hm4 hz
          go_wp2_with (first | (go_at_call 96; refine HT.out.mono ?_; rintro _ _ ⟨rfl, rfl⟩))
          go_roundw
          case rel => exact ⟨j + 1, L1, by simp, by omega, by rw [HNX.out]; exact HB1.out, by rw [HNX.out]; exact HS1.out, by rw [HNX.out]; exact HP1.out, hU⟩
          case measure => simp [intOf]; omega
        · have HT := hide (tick_yes (o := j * 5 + 4) ((S.wrote.tick j).failAt j) (by omega) hfl m4 (hfr _))
          have hB2 := HB1.out.set_fail hj1 ((S.wrote.tick j).failAt j - 1)
          have HB2 := hide hB2
          by_cases h1 : (S.wrote.tick j).failAt j = 1
          · have hnext := tick_one S.wrote j h1
            have hd1 : decide ((S.wrote.tick j).failAt j = 1) = true := by simpa using h1
            rw [hd1] at HT
            obtain ⟨wt, hwt⟩ : ∃ wt, wt = wr.setCell ⟨L1.mb, j * 5 + 4, none⟩ (.int .i64 (((S.wrote.tick j).failAt j - 1 : Nat) : Int)) := ⟨_, rfl⟩
            rw [← hwt] at HB2 HT
            have hUt : Turn F w wt := by rw [hwt]; exact hU.set ⟨L1.mb, j * 5 + 4, none⟩ (.inl hmin) _
            have hj2 : j < Bank.n { S.wrote.tick j with failAt := upd (S.wrote.tick j).failAt j ((S.wrote.tick j).failAt j - 1) } := hj1
            obtain ⟨_, n1, n2, n3, _⟩ := HB2.out.m hj2
            have c0t : wt.cell? ⟨b, 0, none⟩ = some (.slice (some ⟨L1.mb, 0, none⟩) S.n L1.cap) := by
              have := HB2.out.c0
              rw [L1.ad_pos hj2] at this
              exact this.trans (by rw [show Bank.n { S.wrote.tick j with failAt := upd (S.wrote.tick j).failAt j ((S.wrote.tick j).failAt j - 1) } = S.n from kn'])
            have HF := hide (fail_any (o := j * 5) _ _ _ n1 n2 n3 (HB2.out.mfree hj2))
            have HB3 := hide (HB2.out.fail_ hj2)
            rw [← hnext] at HB3
            have hord : ∀ p ∈ (S.wrote.tick (j + 1)).order, p ∈ (S.wrote.tick j).order := by
              rw [hnext]
              intro p hp
              exact ((mem_others _ _ _).1 hp).1
            have hn1 : (S.wrote.tick (j + 1)).n = (S.wrote.tick j).n := (tick_keeps S.wrote (j + 1)).1.trans (tick_keeps S.wrote j).1.symm
            have HOR := hide hord
            have HN1 := hide hn1
            clear hnext m1 m2 m3 m4 hz h1 hd1 hwt n1 n2 n3 hord hn1 hB2
            go_wp2_with (first
              | (go_at_call 96; refine HT.out.mono ?_; rintro _ w3 ⟨rfl, rfl⟩)
              | (go_at_call 61; refine HF.out.mono ?_; rintro _ w4 ⟨rfl, hw4⟩; have HW4 := hide hw4; clear hw4))
            go_roundw
            case rel =>
              refine ⟨j + 1, L1.drop j, by simp, by omega, by rw [HW4.out]; exact HB3.out, HS1.out.drop HN1.out, fun p hp => HP1.out p (HOR.out p hp), ?_⟩
              rw [HW4.out]
              exact ((hUt.set ⟨L1.mb, j * 5 + 1, none⟩ (.inl hmin) _).set ⟨L1.mb, j * 5 + 2, none⟩ (.inl hmin) _).set ⟨L1.mb, j * 5 + 3, none⟩ (.inl hmin) _
            case measure => simp [intOf]; omega
          · have hnext := tick_more S.wrote j hz h1
            have hd1 : decide ((S.wrote.tick j).failAt j = 1) = false := by simpa using h1
            rw [hd1] at HT
            obtain ⟨wt, hwt⟩ : ∃ wt, wt = wr.setCell ⟨L1.mb, j * 5 + 4, none⟩ (.int .i64 (((S.wrote.tick j).failAt j - 1 : Nat) : Int)) := ⟨_, rfl⟩
            rw [← hwt] at HB2 HT
            have hUt : Turn F w wt := by rw [hwt]; exact hU.set ⟨L1.mb, j * 5 + 4, none⟩ (.inl hmin) _
            rw [← hnext] at HB2
            have hord : (S.wrote.tick (j + 1)).order = (S.wrote.tick j).order := by rw [hnext]
            have hn1 : (S.wrote.tick (j + 1)).n = (S.wrote.tick j).n := by rw [hnext]
            have HOR := hide hord
            have HN1 := hide hn1
            clear hnext m1 m2 m3 m4 hz h1 hd1 hwt hord hn1 hB2
            go_wp2_with (first
              | (go_at_call 96; refine HT.out.mono ?_; rintro _ w3 ⟨rfl, rfl⟩))
            go_roundw
            case rel => exact ⟨j + 1, L1, by simp, by omega, HB2.out, HS1.out.same HN1.out ⟨rfl, rfl, rfl⟩, by rw [HOR.out]; exact HP1.out, hUt⟩
            case measure => simp [intOf]; omega
      · obtain rfl : j = S.n := by omega
        have hjw : ¬ (S.n : Int) < (S.n : Int) := by omega
        have hT : S.wrote.tick S.n = S.ticked := rfl
        rw [hT] at hB hsp1 hpast kd kw ka km kn'
        have hTok : S.ticked.Ok := HOK.out.wrote.tick S.n
        have hTd : S.ticked.down = false := kd.trans hdown
        have hTw : S.ticked.writes = S.writes + 1 := kw
        have hcnt : S.count = if S.ticked.armed = 0 then (false, S.ticked) else if S.ticked.armed = 1 then (true, Bank.crash { S.ticked with armed := S.ticked.armed - 1 } S.ticked.mask) else (false, { S.ticked with armed := S.ticked.armed - 1 }) := by
          unfold Bank.count
          rw [if_neg (by rw [hdown]; decide)]
        have hpl : ∀ p ∈ S.ticked.order, L1.since p.1 p.2 < S.ticked.writes := fun p hp => by have := hpast p hp; rw [hTw]; omega
        have d3 := hB.c3
        have f3 := hB.head.frozen 3
        have hal := hTok.armed_le
        have HB1 := hide hB
        have HS1 := hide hsp1
        have HPL := hide hpl
        have HTOK := hide hTok
        have HCNT := hide hcnt
        have HTD := hide hTd
        clear hB hsp1 hpast hTok hTd hTw hcnt hpl kn ksz kd kw ka km kn' hT
        generalize S.ticked = T at *
        by_cases h0 : T.armed = 0
        · rw [h0] at d3
          have HT := hide (tick_no (o := 3) d3)
          have hc : S.count = (false, T) := by rw [HCNT.out, if_pos h0]
          have HQ := hide hc
          clear d3 h0 hc
          go_wp2_with (first | (go_at_call 96; refine HT.out.mono ?_; rintro _ _ ⟨rfl, rfl⟩))
          go_ret
          rw [HQ.out]
          exact ⟨rfl, hU, L1, HB1.out, HS1.out, fun _ => HPL.out⟩
        · have HT := hide (tick_yes (o := 3) T.armed (by omega) hal d3 f3)
          obtain ⟨wt, hwt⟩ : ∃ wt, wt = wr.setCell ⟨b, 3, none⟩ (.int .i64 ((T.armed - 1 : Nat) : Int)) := ⟨_, rfl⟩
          have hB2 : BankIn wt b L1 { T with armed := T.armed - 1 } := by
            rw [hwt]
            exact HB1.out.head_set T.down T.writes (T.armed - 1) T.mask (Nat.le_refl _) (HB1.out.head.set_ 3 _) (fun x hx _ => Below.heap_setCell _ _ _ x hx)
          have hUt : Turn F w wt := by rw [hwt]; exact hU.set ⟨b, 3, none⟩ (.inl hbin) _
          have hS2 : Span b L1 { T with armed := T.armed - 1 } F := HS1.out.same rfl ⟨rfl, rfl, rfl⟩
          rw [← hwt] at HT
          by_cases h1 : T.armed = 1
          · have hd1 : decide (T.armed = 1) = true := by simpa using h1
            rw [hd1] at HT
            have hc : S.count = (true, Bank.crash { T with armed := T.armed - 1 } T.mask) := by rw [HCNT.out, if_neg h0, if_pos h1]
            have HQ := hide hc
            have hUok : Bank.Ok { T with armed := T.armed - 1 } := HTOK.out.setArmed (by omega)
            have HC := hide (crash_any hB2 hUok T.mask HTOK.out.mask_le HTD.out hS2 (fun x hx => Nat.lt_of_lt_of_le (hhi x hx) hUt.size))
            have d4 : wt.cell? ⟨b, 4, none⟩ = some (.int .u64 (T.mask : Int)) := hB2.c4
            have hord : (Bank.crash { T with armed := T.armed - 1 } T.mask).order = [] := by
              unfold Bank.crash
              rw [if_neg (by show ¬ T.down = true; rw [HTD.out]; decide)]
            have hcn : (Bank.crash { T with armed := T.armed - 1 } T.mask).n = T.n := by
              unfold Bank.crash
              rw [if_neg (by show ¬ T.down = true; rw [HTD.out]; decide)]
            have HORD := hide hord
            have HCN := hide hcn
            clear hc hwt hB2 hUok hd1 h1 h0 d3 f3 hord hcn
            go_wp2_with (first
              | (go_at_call 96; refine HT.out.mono ?_; rintro _ w3 ⟨rfl, rfl⟩)
              | (go_at_call 41; refine HC.out.mono ?_; rintro _ w4 ⟨rfl, hB4, hU4⟩))
            go_ret
            rw [HQ.out]
            exact ⟨rfl, hUt.trans hU4, L1, hB4, HS1.out.same HCN.out ⟨rfl, rfl, rfl⟩, fun _ p hp => by rw [HORD.out] at hp; cases hp⟩
          · have hd1 : decide (T.armed = 1) = false := by simpa using h1
            rw [hd1] at HT
            have hc : S.count = (false, { T with armed := T.armed - 1 }) := by rw [HCNT.out, if_neg h0, if_neg h1]
            have HQ := hide hc
            have HB2 := hide hB2
            clear hc hwt hd1 h1 h0 d3 f3 hB2
            go_wp2_with (first
              | (go_at_call 96; refine HT.out.mono ?_; rintro _ w3 ⟨rfl, rfl⟩))
            go_ret
            rw [HQ.out]
            exact ⟨rfl, hUt, L1, HB2.out, hS2, fun _ => HPL.out⟩
end
end Go.Proofs.YtmjjnbabfldbcaaGreat
