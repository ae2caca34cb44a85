/- The small case that each law of stage 15 begins with: it works. -/
import Derived.Test.YtfjgpnjhmfcpiaaVmU
import Derived.Deep.DeepCutAuto
namespace Go.Proofs.Ytfjgpnjhmfcpiaa
open Go.RowKit Go.Maps
set_option linter.unusedVariables false
def wsh : Wh := ⟨1, 3, 5⟩
theorem sv_all : ∃ (v0 v1 v2 v3 : List Wh) (q : Wh), newV 2 = v0 ∧ setV v0 [(0, q)] = v1 ∧ setV v1 [(1, q)] = v2 ∧ setV v2 [(0, Wh.none_), (1, q)] = v3 ∧ setE v0 [(0, q)] = 0 ∧ setE v1 [(1, q)] = 9 ∧ setE v2 [(0, Wh.none_), (1, q)] = 0 ∧ hold v3 q = some 1 ∧ v3.length = 2 ∧ q = wsh :=
  ⟨newV 2, setV (newV 2) [(0, wsh)], setV (setV (newV 2) [(0, wsh)]) [(1, wsh)], setV (setV (setV (newV 2) [(0, wsh)]) [(1, wsh)]) [(0, Wh.none_), (1, wsh)], wsh, rfl, rfl, rfl, rfl, by decide +kernel, by decide +kernel, by decide +kernel, by decide +kernel, by decide +kernel, rfl⟩
theorem wsh_fits : wsh.fits := by unfold Wh.fits wsh; dsimp only; omega
theorem one_fits {b : Int} {q : Wh} (hb : okI64 b) (hq : q.fits) : ∀ x ∈ [(b, q)], okI64 x.1 ∧ x.2.fits := fun x hx => by
  rw [List.mem_singleton.1 hx]
  exact ⟨hb, hq⟩
theorem two_fits {b c : Int} {q p : Wh} (hb : okI64 b) (hq : q.fits) (hc : okI64 c) (hp : p.fits) : ∀ x ∈ [(b, q), (c, p)], okI64 x.1 ∧ x.2.fits := fun x hx => by
  rcases List.mem_cons.1 hx with rfl | hx
  · exact ⟨hb, hq⟩
  · rw [List.mem_singleton.1 hx]
    exact ⟨hc, hp⟩
theorem ok01 : okI64 0 ∧ okI64 1 := by unfold okI64; omega
set_option maxRecDepth 100000 in
set_option maxHeartbeats 4000000 in
theorem shown15_any (w : World) : Calls Try.prog 9 #[] w fun e w' => e = .returned (.bool true) ∧ Below w.heap.size w w' := by
  have HS_w : Hid (Sta w w [] []) := hide (Sta.begin w)
  obtain ⟨v0, v1, v2, v3, q, e0, e1, e2, e3, f1, f2, f3, f4, f5, hq⟩ := sv_all
  have HWF := hide (show q.fits by rw [hq]; exact wsh_fits)
  have HBQ := hide (show Try.prog.built 24 [(0, .int .i64 1), (1, .int .i64 3), (2, .int .i64 5)] = some (whC q).toArray by rw [hq]; exact wh_built3 1 3 5)
  have E0 := hide e0
  have E1 := hide e1
  have E2 := hide e2
  have E3 := hide e3
  have F1 := hide f1
  have F2 := hide f2
  have F3 := hide f3
  have F4 := hide f4
  have F5 := hide f5
  clear e0 e1 e2 e3 f1 f2 f3 f4 f5 hq
  have HOK := hide ok01
  have heq := run_eql_vm
  go_enter Try.func9, Try.ntmps9
  go_upto_region 6 with (first
    | (go_at_call 10; refine (HS_w.out.mk_ 2).mono ?_; rintro _ y1 ⟨m, rfl, hsq⟩; rw [E0.out] at hsq; have HS_y1 : Hid (Sta w y1 [vmT m v0] []) := hide hsq; clear hsq)
    | ((with_reducible refine at_slot 11 ?_); refine wpList_build_is rfl 24 _ rfl [(0, .int .i64 1), (1, .int .i64 3), (2, .int .i64 5)] (by first | (simp [Act.eval]; done) | (simp [Act.eval, Act.put]; done)) _ (HBQ.out) ?_)
    | ((with_reducible refine at_slot 2 ?_); refine wpList_alloc_blk rfl 24 rfl _ (wh_zero _) ?_; intro y2 hbq hl1 hs1; clear hs1)
    | ((with_reducible refine at_store 2 ?_); refine wpList_store_all rfl 24 (.tmp 2) (.tmp 11) rfl y1.heap.size 24 _ hbq rfl (whC q) rfl (wh_info _) rfl (wh_one _) ?_; intro y3 hbz hg hs; have HS_y3 : Hid (Sta w y3 [vmT m v0] [(y1.heap.size, 24, whC q)]) := hide (HS_y1.out.new hl1 hg hbz); clear hs hbq hl1 hg hbz)
    | ((with_reducible refine at_slot 13 ?_); refine when_loadW rfl (.tmp 2) rfl ⟨y1.heap.size, 0, none⟩ (q) (blk_at (cs := whC (q)) (HS_y3.out.own.blk 0 rfl)) rfl ?_)
    | ((with_reducible refine at_slot 14 ?_); refine wpList_build_is rfl 34 _ rfl [(0, .int .i64 0), (1, .agg (whC q).toArray)] (by first | (simp [Act.eval]; done) | (simp [Act.eval, Act.put]; done)) _ (ch_built 0 q) ?_)
    | ((with_reducible refine at_slot 15 ?_); refine wpList_oneC rfl (.tmp 14) rfl (((0 : Int), q)) rfl ?_; intro y4 hbq hl1; have HS_y4 : Hid (Sta w y4 [vmT m v0] [(y1.heap.size, 24, whC q), (y3.heap.size, 34, chsL [((0 : Int), q)])]) := hide (HS_y3.out.var hl1 (Nat.le_refl _) hbq); clear hbq hl1)
    | (go_at_call 12; refine (HS_y4.out.set_ 0 rfl (chIn_blk (L := [((0 : Int), q)]) (HS_y4.out.own.blk 1 rfl) (one_fits HOK.out.1 HWF.out) (by simp) (by simp))).mono ?_; rintro _ y5 ⟨rfl, hsq⟩; rw [F1.out]; rw [E1.out] at hsq; have HS_y5 : Hid (Sta w y5 [vmT m v1] [(y1.heap.size, 24, whC q), (y3.heap.size, 34, chsL [((0 : Int), q)])]) := hide hsq; clear hsq))
  go_upto_region 7 with (first
    | ((with_reducible refine at_slot 18 ?_); refine when_loadW rfl (.tmp 2) rfl ⟨y1.heap.size, 0, none⟩ (q) (blk_at (cs := whC (q)) (HS_y5.out.own.blk 0 rfl)) rfl ?_)
    | ((with_reducible refine at_slot 19 ?_); refine wpList_build_is rfl 34 _ rfl [(0, .int .i64 1), (1, .agg (whC q).toArray)] (by first | (simp [Act.eval]; done) | (simp [Act.eval, Act.put]; done)) _ (ch_built 1 q) ?_)
    | ((with_reducible refine at_slot 20 ?_); refine wpList_oneC rfl (.tmp 19) rfl (((1 : Int), q)) rfl ?_; intro y6 hbq hl1; have HS_y6 : Hid (Sta w y6 [vmT m v1] [(y1.heap.size, 24, whC q), (y3.heap.size, 34, chsL [((0 : Int), q)]), (y5.heap.size, 34, chsL [((1 : Int), q)])]) := hide (HS_y5.out.var hl1 (Nat.le_refl _) hbq); clear hbq hl1)
    | (go_at_call 12; refine (HS_y6.out.set_ 0 rfl (chIn_blk (L := [((1 : Int), q)]) (HS_y6.out.own.blk 2 rfl) (one_fits HOK.out.2 HWF.out) (by simp) (by simp))).mono ?_; rintro _ y7 ⟨rfl, hsq⟩; rw [F2.out]; rw [E2.out] at hsq; have HS_y7 : Hid (Sta w y7 [vmT m v2] [(y1.heap.size, 24, whC q), (y3.heap.size, 34, chsL [((0 : Int), q)]), (y5.heap.size, 34, chsL [((1 : Int), q)])]) := hide hsq; clear hsq))
  go_upto_region 8 with (first
    | ((with_reducible refine at_slot 23 ?_); refine wpList_build_is rfl 34 _ rfl [(0, .int .i64 0)] (by first | (simp [Act.eval]; done) | (simp [Act.eval, Act.put]; done)) _ (ch_built0 0) ?_)
    | ((with_reducible refine at_slot 24 ?_); refine when_loadW rfl (.tmp 2) rfl ⟨y1.heap.size, 0, none⟩ (q) (blk_at (cs := whC (q)) (HS_y7.out.own.blk 0 rfl)) rfl ?_)
    | ((with_reducible refine at_slot 25 ?_); refine wpList_build_is rfl 34 _ rfl [(0, .int .i64 1), (1, .agg (whC q).toArray)] (by first | (simp [Act.eval]; done) | (simp [Act.eval, Act.put]; done)) _ (ch_built 1 q) ?_)
    | ((with_reducible refine at_slot 26 ?_); refine wpList_twoC rfl (.tmp 23) (.tmp 25) rfl (((0 : Int), Wh.none_)) (((1 : Int), q)) rfl rfl ?_; intro y8 hbq hl1; have HS_y8 : Hid (Sta w y8 [vmT m v2] [(y1.heap.size, 24, whC q), (y3.heap.size, 34, chsL [((0 : Int), q)]), (y5.heap.size, 34, chsL [((1 : Int), q)]), (y7.heap.size, 34, chsL [((0 : Int), Wh.none_), ((1 : Int), q)])]) := hide (HS_y7.out.var hl1 (Nat.le_refl _) hbq); clear hbq hl1)
    | (go_at_call 12; refine (HS_y8.out.set_ 0 rfl (chIn_blk (L := [((0 : Int), Wh.none_), ((1 : Int), q)]) (HS_y8.out.own.blk 3 rfl) (two_fits HOK.out.1 Wh.none_fits HOK.out.2 HWF.out) (by simp) (by simp))).mono ?_; rintro _ y9 ⟨rfl, hsq⟩; rw [F3.out]; rw [E3.out] at hsq; have HS_y9 : Hid (Sta w y9 [vmT m v3] [(y1.heap.size, 24, whC q), (y3.heap.size, 34, chsL [((0 : Int), q)]), (y5.heap.size, 34, chsL [((1 : Int), q)]), (y7.heap.size, 34, chsL [((0 : Int), Wh.none_), ((1 : Int), q)])]) := hide hsq; clear hsq))
  go_wp2_with (first
    | ((with_reducible refine at_slot 30 ?_); refine when_loadW rfl (.tmp 2) rfl ⟨y1.heap.size, 0, none⟩ (q) (blk_at (cs := whC (q)) (HS_y9.out.own.blk 0 rfl)) rfl ?_)
    | (go_at_call 18; refine (HS_y9.out.holder 0 rfl q HWF.out).mono ?_; rintro _ y10 ⟨rfl, hsq⟩; rw [F4.out]; have HS_y10 : Hid (Sta w y10 [vmT m v3] [(y1.heap.size, 24, whC q), (y3.heap.size, 34, chsL [((0 : Int), q)]), (y5.heap.size, 34, chsL [((1 : Int), q)]), (y7.heap.size, 34, chsL [((0 : Int), Wh.none_), ((1 : Int), q)])]) := hide hsq; clear hsq)
    | (go_at_call 23; refine (HS_y10.out.len_ 0 rfl).mono ?_; rintro _ _ ⟨rfl, rfl⟩; rw [F5.out]))
  go_ret
  exact ⟨rfl, HS_y10.out.low⟩
#print axioms shown15_any
end Go.Proofs.Ytfjgpnjhmfcpiaa
