/- What Crash does. -/
import Derived.Test.YtmjjnbabfldbcaaGreatRead
import Derived.Laws.BitsAllLaws
namespace Go.Proofs.YtmjjnbabfldbcaaGreat
open Go.RowKit

theorem keeps_snoc (m : Nat) (new : Nat → Nat → Sec) (p : Nat × Nat) : ∀ (l : List (Nat × Nat)) (i : Nat) (F : Nat → Nat → Sec),
    keeps m new i (l ++ [p]) F = if m.testBit ((i + l.length) % 64) then upd2 (keeps m new i l F) p.1 p.2 (new p.1 p.2) else keeps m new i l F
  | [], i, F => by simp [keeps]
  | q :: l, i, F => by
    rw [List.cons_append, keeps, keeps, keeps_snoc m new p l (i + 1) _, List.length_cons]
    have : i + 1 + l.length = i + (l.length + 1) := by omega
    rw [this]
theorem bit_test (m k : Nat) (hm : m < 18446744073709551616) : (bits .and .u64 ((m : Int) / 2 ^ k) 1 == 1) = m.testBit k := by
  have e : (m : Int) / 2 ^ k = ((m / 2 ^ k : Nat) : Int) := by rw [Int.natCast_ediv, Int.natCast_pow]; rfl
  have hle : m / 2 ^ k ≤ m := Nat.div_le_self _ _
  have h1 := u64_and_nat (m / 2 ^ k) 1 (by omega) (by decide)
  rw [e, show (1 : Int) = ((1 : Nat) : Int) from rfl, h1, Nat.and_one_is_mod, Nat.testBit_eq_decide_div_mod_eq]
  rw [Bool.eq_iff_iff, beq_iff_eq, decide_eq_true_iff]
  omega
theorem place_size : (Tryz.prog.info? 47).map (·.size) = some 2 := by kernel_rfl
/-- What is flushed once the first i loose ones have been settled. -/
def Bank.upTo (S : Bank) (m i : Nat) : Bank := { S with flushed := keeps m S.newest 0 (S.order.take i) S.flushed }
theorem Bank.upTo_all (S : Bank) (m : Nat) : S.upTo m S.order.length = { S with flushed := S.kept m } := by
  unfold Bank.upTo Bank.kept
  rw [List.take_length]
theorem Bank.upTo_succ (S : Bank) (m i : Nat) (p : Nat × Nat) (hp : S.order[i]? = some p) :
    S.upTo m (i + 1) = if m.testBit (i % 64) then { S.upTo m i with flushed := upd2 (S.upTo m i).flushed p.1 p.2 (S.newest p.1 p.2) } else S.upTo m i := by
  have hi : i < S.order.length := (List.getElem?_eq_some_iff.1 hp).1
  unfold Bank.upTo
  rw [take_more hp, keeps_snoc]
  have hl : 0 + (S.order.take i).length = i := by rw [List.length_take]; omega
  rw [hl]
  split <;> rfl
/-- What is left once the first j disks have let go what is loose. -/
def Bank.losing (S : Bank) (m j : Nat) : Bank := { S with flushed := S.kept m, order := S.order.filter fun p => decide (j ≤ p.1) }
theorem Bank.losing_0 (S : Bank) (m : Nat) : S.losing m 0 = { S with flushed := S.kept m } := by
  unfold Bank.losing
  rw [List.filter_eq_self.2 (fun p _ => by simp)]
theorem Bank.losing_succ (S : Bank) (m j : Nat) : S.losing m (j + 1) = { S.losing m j with order := (S.losing m j).order.filter fun p => p.1 != j } := by
  unfold Bank.losing
  simp only [List.filter_filter]
  congr 1
  apply List.filter_congr
  intro p _
  rw [Bool.eq_iff_iff, Bool.and_eq_true, bne_iff_ne, decide_eq_true_iff, decide_eq_true_iff]
  omega
theorem Bank.losing_dead (S : Bank) (m j : Nat) (h : ∀ p ∈ S.order, p.1 ≠ j) : S.losing m (j + 1) = S.losing m j := by
  unfold Bank.losing
  congr 1
  apply List.filter_congr
  intro p hp
  have := h p hp
  rw [Bool.eq_iff_iff, decide_eq_true_iff, decide_eq_true_iff]
  omega
theorem Bank.losing_all (S : Bank) (m : Nat) (h : ∀ p ∈ S.order, p.1 < S.n) : S.losing m S.n = { S with flushed := S.kept m, order := [] } := by
  unfold Bank.losing
  congr 1
  rw [List.filter_eq_nil_iff]
  intro p hp
  have := h p hp
  simp
  omega
section
variable {w : World} {b : Nat} {L : Lay} {S : Bank}
set_option maxRecDepth 100000 in
theorem crash_any (h : BankIn w b L S) (hok : S.Ok) (m : Nat) (hm64 : m < 18446744073709551616) (hup : S.down = false) {F : Nat → Prop} (hsp : Span b L S F) (hhi : ∀ x, F x → x < w.heap.size) :
    Calls Tryz.prog 41 #[.pointer (some ⟨b, 0, none⟩), .int .u64 (m : Int)] w fun e w' => e = .returned (.tuple #[]) ∧ BankIn w' b L (S.crash m) ∧ Turn F w w' := by
  have HB := hide h
  have HOK := hide hok
  have HSP := hide hsp
  have c1 := h.c1
  rw [hup] at c1
  have hol := order_le S hok S.order hok.nodup (fun _ hp => hp)
  clear h hok hsp
  go_enter Tryz.func41, Tryz.ntmps41
  go_wp2_with (first
    | (go_at_call 80; refine (inOrder_any HB.out HOK.out).mono ?_; rintro _ w1 ⟨A, c, rfl, hrow, hl1⟩))
  have h1 := hide (HB.out.later hl1)
  go_loopw [4, 5, 14] (fun _ _ s14 wr => ∃ i : Nat, s14 = .int .i64 (i : Int) ∧ i ≤ S.order.length ∧ BankIn wr b L (S.upTo m i) ∧ wr.ownsRow w.heap.size 47 2 (.slice A S.order.length c) S.order.length (flatP S.order) ∧ Turn F w wr) (fun _ _ s14 _ => S.order.length - (intOf s14).toNat)
  case atStart => exact ⟨0, rfl, Nat.zero_le _, h1.out, hrow, Turn.of_below hl1⟩
  case round =>
    obtain ⟨i, rfl, hi, hB, hrw, hU⟩ := hrel
    by_cases hin : i < S.order.length
    · obtain ⟨p, hp⟩ : ∃ p, S.order[i]? = some p := ⟨_, List.getElem?_eq_getElem hin⟩
      have hiw : (i : Int) < (S.order.length : Int) := by omega
      obtain ⟨g, cap, hv, hgb, hgl⟩ := hrw.form (by omega)
      injection hv with hvA _ hvc
      subst hvA
      subst hvc
      have hcell := hrw.cellAt
      have q0 : wr.cell? ⟨g, i * 2, none⟩ = some (.int .i64 (p.1 : Int)) := by
        rw [hcell (i * 2) (by omega), show i * 2 = i * 2 + 0 from rfl, flatP_at _ i 0 p hp (by decide)]; rfl
      have q1 : wr.cell? ⟨g, i * 2 + 1, none⟩ = some (.int .i64 (p.2 : Int)) := by
        rw [hcell (i * 2 + 1) (by omega), flatP_at _ i 1 p hp (by decide)]; rfl
      clear hcell
      have hbt := bit_test m (i % 64) hm64
      have hrlt := hrw.lt
      have hpm : p ∈ S.order := List.mem_of_getElem? hp
      have hpd := HOK.out.loose p hpm
      have hps := HOK.out.size_le p.1 hpd.1
      have hsz := hU.size
      have hsucc := S.upTo_succ m i p hp
      have HSUC := hide hsucc
      have HP := hide hp
      have HPM := hide hpm
      have HPD := hide hpd
      have HRW := hide hrw
      clear hsucc hp hpm hpd hrlt hrow
      cases hbit : m.testBit (i % 64) with
      | false =>
        rw [hbit] at hbt HSUC
        go_wp2_with (first
          | (refine wpList_alloc_blk rfl 47 rfl _ (place_zero _) ?_; intro w2 hb2 hl2 hs2; clear hs2)
          | (refine wpList_store_all rfl 47 (.tmp 5) (.tmp 18) rfl wr.heap.size 47 _ hb2 rfl (placeL p) rfl place_size rfl (placeL_one p) ?_; intro w3 hb3 hg3 hs3; clear hs3))
        have hl3 : Below wr.heap.size wr w3 := hl2.grown hg3 hl2.size (fun g e => by injection e with e; omega)
        go_roundw
        case rel => exact ⟨i + 1, by simp, by omega, by rw [HSUC.out]; exact hB.later hl3, own_later HRW.out hl3, hU.more hl3⟩
        case measure => simp [intOf]; omega
      | true =>
        rw [hbit] at hbt HSUC
        go_wp2_with (first
          | (refine wpList_alloc_blk rfl 47 rfl _ (place_zero _) ?_; intro w2 hb2 hl2 hs2; clear hs2)
          | (refine wpList_store_all rfl 47 (.tmp 5) (.tmp 18) rfl wr.heap.size 47 _ hb2 rfl (placeL p) rfl place_size rfl (placeL_one p) ?_; intro w3 hb3 hg3 hs3; clear hs3))
        have hl3 : Below wr.heap.size wr w3.drew := (hl2.grown hg3 hl2.size (fun g e => by injection e with e; omega)).drew
        have hB3 := hB.later hl3
        obtain ⟨x, f, hx, hmx, hfl⟩ := hB3.flat p.1 HPD.out.1 HPD.out.2.2
        obtain ⟨l, hlo, hml⟩ := hB3.loose p.1 HPD.out.1 HPD.out.2.2
        have hmlt := hB3.mlt HPD.out.1
        obtain ⟨_, _, m2, m3, _⟩ := hB3.m HPD.out.1
        rw [hx] at m2
        rw [hlo] at m3
        have c0 : w3.drew.cell? ⟨b, 0, none⟩ = some (.slice (L.ad S.n) S.n L.cap) := hB3.c0
        rw [L.ad_pos HPD.out.1] at c0
        have hpw : (p.1 : Int) < (S.n : Int) := by have := HPD.out.1; omega
        have hN : NewIs (looseF (S.upTo m i) L p.1) f p.2 (S.newest p.1 p.2) := .inl ⟨L.since p.1 p.2, by
          unfold looseF
          rw [if_pos (show (p.1, p.2) ∈ (S.upTo m i).order from HPM.out)]
          rfl⟩
        have HK := hide (keep_any (o := p.1 * 5) p.2 (S.newest p.1 p.2) (by have := HPD.out.2.1; omega) hmlt m3 hml m2 hmx hN)
        have r0 : w3.drew.cell? ⟨wr.heap.size, 0, none⟩ = some (.int .i64 (p.1 : Int)) := hb3.cell 0
        have r1 : w3.drew.cell? ⟨wr.heap.size, 1, none⟩ = some (.int .i64 (p.2 : Int)) := hb3.cell 1
        have HB3 := hide hB3
        have HN := hide hN
        have HFL := hide hfl
        clear hB3 hN hfl m2 m3
        refine wp_region_still_tail 10 (by kernel_rfl) (by kernel_rfl) ?_
        change wpStill _ _ w3.drew _ _ _
        simp only [List.take_succ_cons, List.take_zero, List.drop_succ_cons, List.drop_zero]
        iterate 10 still_step
        refine wpStill_nil ?_
        change wpList _ _ _ _ _ w3.drew
        go_wp2_with (first
          | (go_at_call 81; refine HK.out.mono ?_; rintro _ w4 ⟨rfl, hx4, hg4⟩))
        have hB4 := HB3.out.keep_ (s := S.newest p.1 p.2) HPD.out.1 HPD.out.2.2 hx HFL.out hx4 hg4 hmx
        have hxin := HSP.out.inside x (.inr (.inr ⟨p.1, HPD.out.1, .inl hx⟩))
        have hxlt := hhi _ hxin
        have hrow3 := own_later HRW.out hl3
        go_roundw
        case rel =>
          refine ⟨i + 1, by simp, by omega, by rw [HSUC.out]; exact hB4, hrow3.kept hg4 (.inr (fun e => ?_)), (hU.more hl3).grown hg4 (fun g e => by injection e with e; subst e; exact .inl hxin)⟩
          simp only [Value.ownBlock] at e
          injection e with e
          omega
        case measure => simp [intOf]; omega
    · obtain rfl : i = S.order.length := by omega
      have hiw : ¬ (S.order.length : Int) < (S.order.length : Int) := by omega
      have hB0 : BankIn wr b L { S with flushed := S.kept m } := by rw [← S.upTo_all m]; exact hB
      obtain ⟨wo, rfl⟩ : ∃ wo, wo = wr := ⟨_, rfl⟩
      have hB1 : BankIn wo b L (S.losing m 0) := by rw [S.losing_0 m]; exact hB0
      have HB1 := hide hB1
      have c0 : wo.cell? ⟨b, 0, none⟩ = some (.slice (L.ad S.n) S.n L.cap) := hB0.c0
      have hn32 := HOK.out.n_le
      clear hB hB0 hB1 hrow hrw
      go_wp2
      go_loopw [6, 42] (fun _ s42 wr => ∃ j : Nat, s42 = .int .i64 (j : Int) ∧ j ≤ S.n ∧ BankIn wr b L (S.losing m j) ∧ Turn F w wr) (fun _ s42 _ => S.n - (intOf s42).toNat)
      case atStart => exact ⟨0, rfl, Nat.zero_le _, HB1.out, hU⟩
      case round =>
        obtain ⟨j, rfl, hj, hB, hU2⟩ := hrel
        by_cases hjn : j < S.n
        · have hjw : (j : Int) < (S.n : Int) := by omega
          have c0r : wr.cell? ⟨b, 0, none⟩ = some (.slice (L.ad S.n) S.n L.cap) := hB.c0
          rw [L.ad_pos hjn] at c0r
          obtain ⟨_, _, _, m3, _⟩ := hB.m (show j < (S.losing m j).n from hjn)
          have HB2 := hide hB
          clear hB
          cases hdead : S.dead j with
          | true =>
            have hlo := (HB2.out.gone j hjn hdead).2
            rw [hlo] at m3
            have HL := hide (lose_nil (o := j * 5) m3)
            have hnext : S.losing m (j + 1) = S.losing m j := S.losing_dead m j (fun p hp e => by have := (HOK.out.loose p hp).2.2; rw [e, hdead] at this; cases this)
            go_wp2_with (first | (go_at_call 82; refine HL.out.mono ?_; rintro _ _ ⟨rfl, rfl⟩))
            go_roundw
            case rel => exact ⟨j + 1, by simp, by omega, by rw [hnext]; exact HB2.out, hU2⟩
            case measure => simp [intOf]; omega
          | false =>
            obtain ⟨l, hlo, hml⟩ := HB2.out.loose j hjn hdead
            rw [hlo] at m3
            have HL := hide (lose_any (o := j * 5) m3 hml)
            have hin2 := HSP.out.inside l (.inr (.inr ⟨j, hjn, .inr hlo⟩))
            go_wp2_with (first | (go_at_call 82; refine HL.out.mono ?_; rintro _ w4 ⟨rfl, hl4, hg4⟩))
            have hB4 := HB2.out.lose_ (show j < (S.losing m j).n from hjn) hlo hl4 hg4 hml
            go_roundw
            case rel => exact ⟨j + 1, by simp, by omega, by rw [S.losing_succ m j]; exact hB4, hU2.grown hg4 (fun g e => by injection e with e; subst e; exact .inl hin2)⟩
            case measure => simp [intOf]; omega
        · obtain rfl : j = S.n := by omega
          have hjw : ¬ (S.n : Int) < (S.n : Int) := by omega
          have hB2 : BankIn wr b L { S with flushed := S.kept m, order := [] } := by
            have h5 := hB
            rw [S.losing_all m (fun p hp => (HOK.out.loose p hp).1)] at h5
            exact h5
          have hB3 := hB2.renew rfl (S.kept m)
          have d1 : wr.cell? ⟨b, 1, none⟩ = some (.bool S.down) := hB3.c1
          have d3 : wr.cell? ⟨b, 3, none⟩ = some (.int .i64 (S.armed : Int)) := hB3.c3
          have f1 := hB3.head.frozen 1
          have f3 := hB3.head.frozen 3
          have HB3 := hide hB3
          have hbin := HSP.out.inside b (.inl rfl)
          clear hB hB2 hB3
          go_wp2
          go_end0
          refine ⟨rfl, ?_, ((hU2.set ⟨b, 1, none⟩ (.inl hbin) _).set ⟨b, 3, none⟩ (.inl hbin) _)⟩
          have hfin := HB3.out.head_set (w' := (wr.setCell ⟨b, 1, none⟩ (.bool true)).setCell ⟨b, 3, none⟩ (.int .i64 0)) true S.writes 0 S.mask (Nat.le_refl _) ((HB3.out.head.set_ 1 (.bool true)).set_ 3 (.int .i64 0)) (fun x hx _ => (Below.heap_setCell _ _ _ x hx).trans (Below.heap_setCell _ _ _ x hx))
          have hcr : S.crash m = { S with flushed := S.kept m, newest := S.kept m, order := [], down := true, armed := 0 } := by unfold Bank.crash; rw [if_neg (by rw [hup]; decide)]
          rw [hcr]
          exact hfin
end
end Go.Proofs.YtmjjnbabfldbcaaGreat
