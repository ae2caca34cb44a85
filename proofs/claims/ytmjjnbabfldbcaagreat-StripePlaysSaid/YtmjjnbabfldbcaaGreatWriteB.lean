/- What Write does to a bank; each call as one law of the bank in its span. -/
import Derived.Test.YtmjjnbabfldbcaaGreatCountB
namespace Go.Proofs.YtmjjnbabfldbcaaGreat
open Go.RowKit

section
variable {w : World} {b : Nat} {L : Lay} {S : Bank}
theorem Blk.turned {F : Nat → Prop} {g : Nat} {t : TypeId} {cs : Array Value} {a c : World} (h : Blk a g t cs) (hu : Turn F a c) (hg : ¬ F g) : Blk c g t cs := h.of_block (hu.block g h.lt hg)
theorem Blk.upto {lo hi g : Nat} {t : TypeId} {cs : Array Value} {a c : World} (h : Blk a g t cs) (hu : Upto lo hi a c) (hg : hi ≤ g ∨ g < lo) : Blk c g t cs := h.of_block (hu.block g h.lt (by omega))
set_option maxRecDepth 100000 in
theorem writeB_any (h : BankIn w b L S) (hok : S.Ok) (hw62 : S.writes < 4611686018427387904) (d k : Nat) (s : Sec) {F : Nat → Prop} (hsp : Span b L S F) (hhi : ∀ x, F x → x < w.heap.size) :
    Calls Tryz.prog 34 #[.pointer (some ⟨b, 0, none⟩), .agg #[.int .i64 (d : Int), .int .i64 (k : Int)], secV s] w fun e w' =>
      e = .returned (.int .i64 ((S.write d k s).1 : Int)) ∧ Turn F w w' ∧ ∃ L', BankIn w' b L' (S.write d k s).2 ∧ Span b L' (S.write d k s).2 F := by
  obtain ⟨U, hU⟩ : ∃ U, U = secL s := ⟨_, rfl⟩
  have hUl : U.length = 64 := by rw [hU, secL_length]
  have hiU : (Tryz.prog.info? 43).map (·.size) = some U.length := by rw [hUl]; exact sec_info
  have hs : secV s = .agg U.toArray := by rw [hU]; rfl
  rw [hs]
  have HIU := hide hiU
  have HS := hide hs
  have hcnt : ∀ w1, Below w.heap.size w w1 → Calls Tryz.prog 76 #[.pointer (some ⟨b, 0, none⟩)] w1 fun e w' => e = .returned (.bool S.count.1) ∧ Turn F w1 w' ∧ ∃ L', BankIn w' b L' S.count.2 ∧ Span b L' S.count.2 F ∧ (S.down = false → ∀ p ∈ S.count.2.order, L'.since p.1 p.2 < S.count.2.writes) := fun w1 hb1 => count_any (h.later hb1) hok hw62 hsp (fun x hx => Nat.lt_of_lt_of_le (hhi x hx) hb1.size)
  have hcok := hok.count
  have HC := hide hcnt
  have hwr : S.write d k s = if S.count.1 then (6, S.count.2) else if S.count.2.place d k = 0 then (0, S.count.2.put d k s) else (S.count.2.place d k, S.count.2) := rfl
  have HWR := hide hwr
  have HCOK := hide hcok
  have hcd : S.count.1 = false → S.count.2.down = false → S.down = false := by
    intro _ h2
    cases hd : S.down with
    | false => rfl
    | true => rw [count_down hd] at h2; rw [← h2]; exact hd.symm
  have HCD := hide hcd
  clear hU hUl hiU hs hcnt hcok hwr hcd h hok hsp
  generalize hT : S.count.2 = T at HC HWR HCOK HCD
  cases hc1 : S.count.1 with
  | true =>
    rw [hc1] at HC HWR
    clear hc1 HCD
    go_enter Tryz.func34, Tryz.ntmps34
    go_wp2_with (first
      | (refine wpList_box_blk rfl 47 (.tmp 1) rfl (.agg #[.int .i64 (d : Int), .int .i64 (k : Int)]) rfl ?_; intro w1 hb1 hl1 hs1; clear hs1)
      | (refine wpList_box_blk rfl 43 (.tmp 2) rfl (.agg U.toArray) rfl ?_; intro w2 hb2 hl2 hs2; clear hs2; have hl02 : Below w.heap.size w w2 := hl1.trans (hl2.mono hl1.size))
      | (go_at_call 76; refine (HC.out w2 hl02).mono ?_; rintro _ w3 ⟨rfl, hU3, L3, hB3, hS3, _⟩))
    go_ret
    rw [HWR.out]
    exact ⟨rfl, (Turn.of_below hl02).trans hU3, L3, hB3, hS3⟩
  | false =>
    rw [hc1] at HC HWR HCD
    clear hc1
    by_cases hp : T.place d k = 0
    · obtain ⟨hm, hkz⟩ := place_lt hp
      obtain ⟨hd, hdead, hdown⟩ := may_lt hm
      have hsz := HCOK.out.size_le d hd
      have hwr2 : S.write d k s = (0, T.put d k s) := by rw [HWR.out, if_neg (by decide), if_pos hp]
      have HW2 := hide hwr2
      have HP := hide hp
      have hSd := HCD.out rfl hdown
      have HSD := hide hSd
      clear hwr2 hp hm HWR hSd
      go_enter Tryz.func34, Tryz.ntmps34
      go_wp2_with (first
        | (refine wpList_box_blk rfl 47 (.tmp 1) rfl (.agg #[.int .i64 (d : Int), .int .i64 (k : Int)]) rfl ?_; intro w1 hb1 hl1 hs1; clear hs1)
        | (refine wpList_box_blk rfl 43 (.tmp 2) rfl (.agg U.toArray) rfl ?_; intro w2 hb2 hl2 hs2; clear hs2; have hl02 : Below w.heap.size w w2 := hl1.trans (hl2.mono hl1.size); have hb12 := hb1.below hl2 hb1.lt)
        | (go_at_call 76; refine (HC.out w2 hl02).mono ?_; rintro _ w3 ⟨rfl, hU3, L3, hB3, hS3, hp3⟩; have hb13 := hb12.turned hU3 (fun hf => absurd (hhi _ hf) (by omega)); have hb23 := hb2.turned hU3 (fun hf => absurd (hhi _ hf) (by have := hl1.size; omega)); have q0 : w3.cell? ⟨w.heap.size, 0, none⟩ = some (.int .i64 (d : Int)) := hb13.cell 0; have q1 : w3.cell? ⟨w.heap.size, 1, none⟩ = some (.int .i64 (k : Int)) := hb13.cell 1; have HB3 := hide hB3; have HP3 := hide (hp3 HSD.out); clear hB3 hp3)
        | (go_at_call 47; refine (holder_any HB3.out d k).mono ?_; rw [show holdV L3 T d k = .tuple #[.pointer (some ⟨L3.mb, d * 5, none⟩), .int .i64 0] by unfold holdV; rw [if_pos HP.out, HP.out]; rfl]; rintro _ w4 ⟨rfl, hl4⟩))
      have hB4 := (HB3.out.later hl4).drew
      have hb14 := (hb13.below hl4 hb13.lt).drew
      have hb24 := (hb23.below hl4 hb23.lt).drew
      have r1 : w4.drew.cell? ⟨w.heap.size, 1, none⟩ = some (.int .i64 (k : Int)) := hb14.cell 1
      have r2 : w4.drew.cell? ⟨b, 2, none⟩ = some (.int .i64 (T.writes : Int)) := hB4.c2
      have hmlt := hB4.mlt hd
      obtain ⟨_, _, _, m3, _⟩ := hB4.m hd
      obtain ⟨l, hlo, hml⟩ := hB4.loose d hd hdead
      rw [hlo] at m3
      have hlin := hS3.inside l (.inr (.inr ⟨d, hd, .inr hlo⟩))
      have hU4 : Turn F w w4.drew := (((Turn.of_below hl02).trans hU3).more hl4).drew
      have hwcall : Calls Tryz.prog 77 #[.pointer (some ⟨L3.mb, d * 5, none⟩), .int .i64 (k : Int), .agg U.toArray, .int .i64 (T.writes : Int)] w4.drew fun e w' => e = .returned (.tuple #[]) ∧ Turn F w w' ∧ ∃ L', BankIn w' b L' (T.put d k s) ∧ Span b L' (T.put d k s) F := by
        rw [← HS.out]
        by_cases hin : (d, k) ∈ T.order
        · have hf : looseF T L3 d k = some (newV (T.newest d k) (L3.since d k)) := by unfold looseF; rw [if_pos hin]
          refine (write_again (o := d * 5) k s (T.newest d k) (L3.since d k) T.writes hmlt m3 hml hf).mono ?_
          rintro e w5 ⟨he, hm5, hg5⟩
          exact ⟨he, hU4.grown hg5 (fun g e => by injection e with e; subst e; exact .inl hlin), L3, hB4.put_again hd hlo hin hm5 hg5 hml, hS3.same rfl ⟨rfl, rfl, rfl⟩⟩
        · have hf : looseF T L3 d k = none := by unfold looseF; rw [if_neg hin]
          refine (write_first (o := d * 5) k s T.writes (by omega) hmlt m3 hml hf).mono ?_
          rintro e w5 ⟨he, hm5, hg5⟩
          exact ⟨he, hU4.grown hg5 (fun g e => by injection e with e; subst e; exact .inl hlin), _, hB4.put_first hd hlo hin hm5 hg5 hml HP3.out, hS3.same rfl ⟨rfl, rfl, rfl⟩⟩
      have HWC := hide hwcall
      clear hwcall hB4 m3
      refine wp_region_still_tail 10 (by kernel_rfl) (by kernel_rfl) ?_
      change wpStill _ _ w4.drew _ _ _
      simp only [List.take_succ_cons, List.take_zero, List.drop_succ_cons, List.drop_zero]
      iterate 5 still_step
      refine still_load_at rfl 43 (.tmp 5) rfl ⟨w1.heap.size, 0, none⟩ rfl U _ (fun j v hj => ?_) Tryz.underlying43 rfl HIU.out ?_
      · have hadd : (⟨w1.heap.size, 0, none⟩ : Addr).add j = ⟨w1.heap.size, j, none⟩ := by unfold Addr.add; split <;> simp_all
        rw [hadd, hb24.cell j]
        simpa [Value.cells] using hj
      iterate 4 still_step
      refine wpStill_nil ?_
      change wpList _ _ _ _ _ w4.drew
      go_wp2_with (first
        | (go_at_call 77; refine HWC.out.mono ?_; rintro _ w5 ⟨rfl, hU5, L5, hB5, hS5⟩))
      go_ret
      rw [HW2.out]
      exact ⟨rfl, hU5, L5, hB5, hS5⟩
    · have hwr2 : S.write d k s = (T.place d k, T) := by rw [HWR.out, if_neg (by decide), if_neg hp]
      have HW2 := hide hwr2
      have hne : ¬ ((T.place d k : Int) = 0) := by omega
      have HP := hide hp
      clear hwr2 hp HWR
      go_enter Tryz.func34, Tryz.ntmps34
      go_wp2_with (first
        | (refine wpList_box_blk rfl 47 (.tmp 1) rfl (.agg #[.int .i64 (d : Int), .int .i64 (k : Int)]) rfl ?_; intro w1 hb1 hl1 hs1; clear hs1)
        | (refine wpList_box_blk rfl 43 (.tmp 2) rfl (.agg U.toArray) rfl ?_; intro w2 hb2 hl2 hs2; clear hs2; have hl02 : Below w.heap.size w w2 := hl1.trans (hl2.mono hl1.size); have hb12 := hb1.below hl2 hb1.lt)
        | (go_at_call 76; refine (HC.out w2 hl02).mono ?_; rintro _ w3 ⟨rfl, hU3, L3, hB3, hS3, hp3⟩; have hb13 := hb12.turned hU3 (fun hf => absurd (hhi _ hf) (by omega)); have q0 : w3.cell? ⟨w.heap.size, 0, none⟩ = some (.int .i64 (d : Int)) := hb13.cell 0; have q1 : w3.cell? ⟨w.heap.size, 1, none⟩ = some (.int .i64 (k : Int)) := hb13.cell 1; have HB3 := hide hB3; clear hB3 hp3)
        | (go_at_call 47; refine (holder_any HB3.out d k).mono ?_; rw [show holdV L3 T d k = .tuple #[.pointer none, .int .i64 (T.place d k : Int)] by unfold holdV; rw [if_neg HP.out]]; rintro _ w4 ⟨rfl, hl4⟩))
      go_ret
      rw [HW2.out]
      exact ⟨rfl, ((Turn.of_below hl02).trans hU3).more hl4, L3, HB3.out.later hl4, hS3⟩
end
end Go.Proofs.YtmjjnbabfldbcaaGreat
