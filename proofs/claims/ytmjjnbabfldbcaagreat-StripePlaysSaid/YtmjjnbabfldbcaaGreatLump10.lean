/- Texts of the proof laid one behind the other: RRead RPlug. -/
import Derived.Test.YtmjjnbabfldbcaaGreatLump9
import Derived.Test.YtmjjnbabfldbcaaGreatLump4
import Derived.Test.YtmjjnbabfldbcaaGreatLump2
namespace Go.Proofs.YtmjjnbabfldbcaaGreat
open Go.RowKit
set_option linter.unusedVariables false
theorem rbuild_any (w : World) (A : Option Addr) (n c : Nat) (L : List Sec) (hr : Reads w w.heap.size 64 A n (gD L)) (hn : L.length = n) (h5 : n ≤ 1000) :
    Calls Tryz.prog 65 #[.slice A n c] w fun e w' => e = .returned (.agg (secL (parS L)).toArray) ∧ Below w.heap.size w w' := by
  have h := refBuild_any A n c (rawS L).flatten w.heap.size w hr (Nat.le_refl _) (by omega)
  have e : secsOf (rawS L).flatten n = rawS L := by
    have := secsOf_flat (rawS_secs L)
    rwa [rawS_length, hn] at this
  rw [e] at h
  exact h
/-- What the walk asks of an errno that is none. -/
structure RNe (e : Nat) : Prop where
  a : ((e : Int) != 0) = true
  b : ((e : Int) == 0) = false
  c : ¬ ((e : Int) = 0)
theorem rne {e : Nat} (h : e ≠ 0) : RNe e := by
  have hc : ¬ ((e : Int) = 0) := by omega
  exact ⟨by simpa using hc, by simpa using hc, hc⟩
theorem mates_few {X : List PlI} {n : Nat} {slot : Int} (hn : X.length = n) (h : n ≤ 12) : (matesR X n slot).length ≤ 1000 := by
  unfold matesR
  split
  · rename_i he
    obtain ⟨k, hk, hk2, h2⟩ := homeE_at he
    rw [matesP_length (by omega)]
    omega
  · decide
section
variable {w : World} {r : Nat} {S : Bank} {G : Nat → Prop} {A : Option Addr} {n c : Nat} {X : List PlI}
set_option maxRecDepth 100000 in
set_option maxHeartbeats 8000000 in
theorem rsread_any (h : RefOn w r G S) (hx : Rox w w [] A n c X) (slot : Int) :
    Calls Tryz.prog 27 #[.pointer (some ⟨r, 0, none⟩), .slice A n c, .int .i64 slot] w fun e w' => e = .returned (.tuple #[secV (S.sread X slot).1, .int .i64 ((S.sread X slot).2 : Int)]) ∧ Below w.heap.size w w' := by
  have hlen : X.length = n := reads_len hx.in_.reads
  have hfew := hx.few
  have HGA := hide (fun (W : World) (hb : Below w.heap.size w W) (A : Option Addr) (n c : Nat) (L : List PlI) (hr : Reads W W.heap.size 2 A n (plsL L)) (hn : n ≤ 1000) => rgather_any (c := c) (h.later hb) hr hn)
  have HBZ := hide (show Tryz.prog.built 43 [] = some (secL zeroSec).toArray from sec_none)
  have HS_w : Hid (Rox w w [] A n c X) := hide hx
  obtain ⟨E, hE⟩ : ∃ E, homeE n slot = E := ⟨_, rfl⟩
  obtain ⟨p, hp⟩ : ∃ p, homeR X n slot = p := ⟨_, rfl⟩
  obtain ⟨M, hM⟩ : ∃ M, matesR X n slot = M := ⟨_, rfl⟩
  have hMl : M.length ≤ 1000 := hM ▸ mates_few hlen hfew
  obtain ⟨e, he⟩ : ∃ e, S.placeP p = e := ⟨_, rfl⟩
  obtain ⟨s, hs⟩ : ∃ s, S.readP p = s := ⟨_, rfl⟩
  obtain ⟨g, hg⟩ : ∃ g, S.gatherE M = g := ⟨_, rfl⟩
  have hsr : S.sread X slot = if E = 0 then (if lostB e = true then (if g = 0 then (parS (M.map S.readP), 0) else (zeroSec, g)) else (s, e)) else (zeroSec, E) := by
    unfold Bank.sread
    rw [hlen, hE]
    by_cases h0 : E = 0
    · have hp2 : homeP X slot.toNat = p := by rw [← hp]; unfold homeR; rw [if_pos (hE.trans h0)]
      have hM2 : matesP X slot.toNat = M := by rw [← hM]; unfold matesR; rw [if_pos (hE.trans h0)]
      rw [if_pos h0, if_pos h0, hp2, hM2]
      dsimp only
      rw [he, hs, hg]
    · rw [if_neg h0, if_neg h0]
  have HH := hide (And.intro hp hE)
  have HM := hide hM
  have HML := hide hMl
  have HRD := hide (show ∀ (W : World), Below w.heap.size w W → Calls Tryz.prog 14 #[.pointer (some ⟨r, 0, none⟩), .agg (plC p).toArray] W fun x W' => x = .returned (.tuple #[secV s, .int .i64 (e : Int)]) ∧ Below W.heap.size W W' from fun W hb => by
    rw [← he, ← hs]
    exact rOnI_read (h.later hb) p.1 p.2)
  have HG := hide hg
  have HR := hide hsr
  clear h hx hlen hfew hE hp hM hMl he hs hg hsr
  by_cases h0 : E = 0
  · subst h0
    by_cases hl : lostB e = true
    · have HLO := hide (fun w => hl ▸ rlost_any e w)
      by_cases hg0 : g = 0
      · subst hg0
        replace HR := hide (HR.out.trans ((if_pos rfl).trans ((if_pos hl).trans (if_pos rfl))))
        clear hl
        go_enter Tryz.func27, Tryz.ntmps27
        go_upto_region 4 with (first
          | ((with_reducible refine at_slot 6 ?_); refine wpList_alloc_blk rfl 43 rfl _ (sec_zero _) ?_; intro y1 hbq hl1 hs1; have HS_y1 : Hid (Rox w y1 [(w.heap.size, 43, secL zeroSec)] A n c X) := hide (HS_w.out.var hl1 (Nat.le_refl _) hbq); clear hbq hl1 hs1)
          | (go_at_call 32; refine (HS_y1.out.rhome slot).mono ?_; rintro _ y2 ⟨rfl, hsq⟩; rw [HH.out.1, HH.out.2]; have HS_y2 : Hid (Rox w y2 [(w.heap.size, 43, secL zeroSec)] A n c X) := hide (hsq); clear hsq)
          | ((with_reducible refine at_slot 8 ?_); refine wpList_alloc_blk rfl 47 rfl _ (mplace_zero _) ?_; intro y3 hbq hl1 hs1; clear hs1)
          | ((with_reducible refine at_store 8 ?_); refine wpList_store_all rfl 47 (.tmp 8) (.tmp 21) rfl y2.heap.size 47 _ hbq rfl (plC p) rfl mplace_info rfl (plC_one _) ?_; intro y4 hbz hg hs; have HS_y4 : Hid (Rox w y4 [(w.heap.size, 43, secL zeroSec), (y2.heap.size, 47, plC p)] A n c X) := hide (HS_y2.out.new hl1 hg hbz); clear hs hbq hl1 hg hbz))
        go_upto_region 8 with (first
          | ((with_reducible refine at_slot 29 ?_); refine when_own rfl (.tmp 8) rfl HS_y4.out.own 1 rfl rfl Tryz.underlying47 rfl mplace_info ?_)
          | (go_at_call 14; refine (HRD.out _ HS_y4.out.low).mono ?_; rintro _ y5 ⟨rfl, hlq⟩; have HL_y5 := hide hlq; have HS_y5 : Hid (Rox w y5 [(w.heap.size, 43, secL zeroSec), (y2.heap.size, 47, plC p)] A n c X) := hide (HS_y4.out.later hlq); clear hlq)
          | ((with_reducible refine at_slot 10 ?_); refine wpList_alloc_blk rfl 43 rfl _ (sec_zero _) ?_; intro y6 hbq hl1 hs1; clear hs1)
          | ((with_reducible refine at_store 10 ?_); refine wpList_store_all rfl 43 (.tmp 10) (.tmp 31) rfl y5.heap.size 43 _ hbq rfl (secL s) rfl (msec_size _) (msec_len _ _) (secL_one _) ?_; intro y7 hbz hg hs; have HS_y7 : Hid (Rox w y7 [(w.heap.size, 43, secL zeroSec), (y2.heap.size, 47, plC p), (y5.heap.size, 43, secL s)] A n c X) := hide (HS_y5.out.new hl1 hg hbz); clear hs hbq hl1 hg hbz)
          | (go_at_call 66; refine (HLO.out _).mono ?_; rintro _ _ ⟨rfl, rfl⟩))
        go_upto_region 9 with (first
          | (go_at_call 67; refine (HS_y7.out.rmates slot).mono ?_; rintro _ y8 ⟨B_y8, m_y8, k_y8, rfl, hrd, hcp, hcm, hlq, hsq⟩; rw [HM.out] at hrd; have HR_y8 := hide hrd; have HC_y8 := hide (And.intro hcp hcm); have HL_y8 := hide hlq; have HS_y8 : Hid (Rox w y8 [(w.heap.size, 43, secL zeroSec), (y2.heap.size, 47, plC p), (y5.heap.size, 43, secL s)] A n c X) := hide hsq; clear hsq hrd hcp hcm hlq))
        have hq : M.length = m_y8 := reads_len HR_y8.out
        have hq2 : m_y8 ≤ 1000 := by have := HML.out; omega
        go_upto_region 10 with (first
          | (go_at_call 68; refine (HGA.out _ HS_y8.out.low B_y8 m_y8 k_y8 M HR_y8.out hq2).mono ?_; rintro _ y9 ⟨A2, m2, c2, rfl, hgg, hlq⟩; rw [HG.out] at hgg ⊢; have HGG := hide hgg; have HS_y9 : Hid (Rox w y9 [(w.heap.size, 43, secL zeroSec), (y2.heap.size, 47, plC p), (y5.heap.size, 43, secL s)] A n c X) := hide (HS_y8.out.later hlq); clear hgg hlq))
        obtain ⟨hm2, ho2⟩ := HGG.out (by trivial)
        subst hm2
        have HBU := hide (rbuild_any y9 A2 m2 c2 (M.map S.readP) (Reads.of_own ho2) (by rw [List.length_map]; exact hq) hq2)
        clear ho2
        go_wp2_with (first
          | (go_at_call 65; refine HBU.out.mono ?_; rintro _ y10 ⟨rfl, hlq⟩; have HS_y10 : Hid (Rox w y10 [(w.heap.size, 43, secL zeroSec), (y2.heap.size, 47, plC p), (y5.heap.size, 43, secL s)] A n c X) := hide (HS_y9.out.later hlq); clear hlq)
          | ((with_reducible refine at_store 6 ?_); refine wpList_store_all rfl 43 (.tmp 6) (.tmp 56) rfl w.heap.size 43 _ (HS_y10.out.own.blk 0 rfl) rfl (secL (parS (M.map S.readP))) rfl (msec_size _) (msec_len _ zeroSec) (secL_one _) ?_; intro y11 hbz hg hs; have HS_y11 : Hid (Rox w y11 [(w.heap.size, 43, secL (parS (M.map S.readP))), (y2.heap.size, 47, plC p), (y5.heap.size, 43, secL s)] A n c X) := hide (HS_y10.out.poke 0 rfl (by decide) hbz hg); clear hs hg hbz))
        refine ret_cell_tmp rfl _ 43 (secL (parS (M.map S.readP))) _ (HS_y11.out.own.blk 0 rfl) rfl Tryz.underlying43 rfl (msec_size _) (.int .i64 0) rfl rfl ⟨by rw [HR.out]; rfl, HS_y11.out.low⟩
      · replace HR := hide (HR.out.trans ((if_pos rfl).trans ((if_pos hl).trans (if_neg hg0))))
        obtain ⟨na, nb, nc⟩ := rne hg0
        clear hl hg0
        go_enter Tryz.func27, Tryz.ntmps27
        go_upto_region 4 with (first
          | ((with_reducible refine at_slot 6 ?_); refine wpList_alloc_blk rfl 43 rfl _ (sec_zero _) ?_; intro y1 hbq hl1 hs1; have HS_y1 : Hid (Rox w y1 [(w.heap.size, 43, secL zeroSec)] A n c X) := hide (HS_w.out.var hl1 (Nat.le_refl _) hbq); clear hbq hl1 hs1)
          | (go_at_call 32; refine (HS_y1.out.rhome slot).mono ?_; rintro _ y2 ⟨rfl, hsq⟩; rw [HH.out.1, HH.out.2]; have HS_y2 : Hid (Rox w y2 [(w.heap.size, 43, secL zeroSec)] A n c X) := hide (hsq); clear hsq)
          | ((with_reducible refine at_slot 8 ?_); refine wpList_alloc_blk rfl 47 rfl _ (mplace_zero _) ?_; intro y3 hbq hl1 hs1; clear hs1)
          | ((with_reducible refine at_store 8 ?_); refine wpList_store_all rfl 47 (.tmp 8) (.tmp 21) rfl y2.heap.size 47 _ hbq rfl (plC p) rfl mplace_info rfl (plC_one _) ?_; intro y4 hbz hg hs; have HS_y4 : Hid (Rox w y4 [(w.heap.size, 43, secL zeroSec), (y2.heap.size, 47, plC p)] A n c X) := hide (HS_y2.out.new hl1 hg hbz); clear hs hbq hl1 hg hbz))
        go_upto_region 8 with (first
          | ((with_reducible refine at_slot 29 ?_); refine when_own rfl (.tmp 8) rfl HS_y4.out.own 1 rfl rfl Tryz.underlying47 rfl mplace_info ?_)
          | (go_at_call 14; refine (HRD.out _ HS_y4.out.low).mono ?_; rintro _ y5 ⟨rfl, hlq⟩; have HL_y5 := hide hlq; have HS_y5 : Hid (Rox w y5 [(w.heap.size, 43, secL zeroSec), (y2.heap.size, 47, plC p)] A n c X) := hide (HS_y4.out.later hlq); clear hlq)
          | ((with_reducible refine at_slot 10 ?_); refine wpList_alloc_blk rfl 43 rfl _ (sec_zero _) ?_; intro y6 hbq hl1 hs1; clear hs1)
          | ((with_reducible refine at_store 10 ?_); refine wpList_store_all rfl 43 (.tmp 10) (.tmp 31) rfl y5.heap.size 43 _ hbq rfl (secL s) rfl (msec_size _) (msec_len _ _) (secL_one _) ?_; intro y7 hbz hg hs; have HS_y7 : Hid (Rox w y7 [(w.heap.size, 43, secL zeroSec), (y2.heap.size, 47, plC p), (y5.heap.size, 43, secL s)] A n c X) := hide (HS_y5.out.new hl1 hg hbz); clear hs hbq hl1 hg hbz)
          | (go_at_call 66; refine (HLO.out _).mono ?_; rintro _ _ ⟨rfl, rfl⟩))
        go_upto_region 9 with (first
          | (go_at_call 67; refine (HS_y7.out.rmates slot).mono ?_; rintro _ y8 ⟨B_y8, m_y8, k_y8, rfl, hrd, hcp, hcm, hlq, hsq⟩; rw [HM.out] at hrd; have HR_y8 := hide hrd; have HC_y8 := hide (And.intro hcp hcm); have HL_y8 := hide hlq; have HS_y8 : Hid (Rox w y8 [(w.heap.size, 43, secL zeroSec), (y2.heap.size, 47, plC p), (y5.heap.size, 43, secL s)] A n c X) := hide hsq; clear hsq hrd hcp hcm hlq))
        have hq : M.length = m_y8 := reads_len HR_y8.out
        have hq2 : m_y8 ≤ 1000 := by have := HML.out; omega
        go_upto_region 10 with (first
          | (go_at_call 68; refine (HGA.out _ HS_y8.out.low B_y8 m_y8 k_y8 M HR_y8.out hq2).mono ?_; rintro _ y9 ⟨A2, m2, c2, rfl, hgg, hlq⟩; rw [HG.out] at hgg ⊢; have HGG := hide hgg; have HS_y9 : Hid (Rox w y9 [(w.heap.size, 43, secL zeroSec), (y2.heap.size, 47, plC p), (y5.heap.size, 43, secL s)] A n c X) := hide (HS_y8.out.later hlq); clear hgg hlq))
        go_wp2_with (first
          | ((with_reducible refine at_slot 53 ?_); refine wpList_build_is rfl 43 #[] rfl [] (by simp) _ HBZ.out ?_)
          | ((with_reducible refine at_store 6 ?_); refine wpList_store_all rfl 43 (.tmp 6) (.tmp 53) rfl w.heap.size 43 _ (HS_y9.out.own.blk 0 rfl) rfl (secL zeroSec) rfl (msec_size _) (msec_len _ zeroSec) (secL_one _) ?_; intro y10 hbz hg hs; have HS_y10 : Hid (Rox w y10 [(w.heap.size, 43, secL zeroSec), (y2.heap.size, 47, plC p), (y5.heap.size, 43, secL s)] A n c X) := hide (HS_y9.out.poke 0 rfl (by decide) hbz hg); clear hs hg hbz))
        refine ret_cell_tmp rfl _ 43 (secL zeroSec) _ (HS_y10.out.own.blk 0 rfl) rfl Tryz.underlying43 rfl (msec_size _) (.int .i64 (g : Int)) rfl rfl ⟨by rw [HR.out]; rfl, HS_y10.out.low⟩
    · have hl2 : lostB e = false := by simpa using hl
      have HLO := hide (fun w => hl2 ▸ rlost_any e w)
      replace HR := hide (HR.out.trans ((if_pos rfl).trans (if_neg hl)))
      clear hl hl2
      go_enter Tryz.func27, Tryz.ntmps27
      go_upto_region 4 with (first
        | ((with_reducible refine at_slot 6 ?_); refine wpList_alloc_blk rfl 43 rfl _ (sec_zero _) ?_; intro y1 hbq hl1 hs1; have HS_y1 : Hid (Rox w y1 [(w.heap.size, 43, secL zeroSec)] A n c X) := hide (HS_w.out.var hl1 (Nat.le_refl _) hbq); clear hbq hl1 hs1)
        | (go_at_call 32; refine (HS_y1.out.rhome slot).mono ?_; rintro _ y2 ⟨rfl, hsq⟩; rw [HH.out.1, HH.out.2]; have HS_y2 : Hid (Rox w y2 [(w.heap.size, 43, secL zeroSec)] A n c X) := hide (hsq); clear hsq)
        | ((with_reducible refine at_slot 8 ?_); refine wpList_alloc_blk rfl 47 rfl _ (mplace_zero _) ?_; intro y3 hbq hl1 hs1; clear hs1)
        | ((with_reducible refine at_store 8 ?_); refine wpList_store_all rfl 47 (.tmp 8) (.tmp 21) rfl y2.heap.size 47 _ hbq rfl (plC p) rfl mplace_info rfl (plC_one _) ?_; intro y4 hbz hg hs; have HS_y4 : Hid (Rox w y4 [(w.heap.size, 43, secL zeroSec), (y2.heap.size, 47, plC p)] A n c X) := hide (HS_y2.out.new hl1 hg hbz); clear hs hbq hl1 hg hbz))
      go_wp2_with (first
        | ((with_reducible refine at_slot 29 ?_); refine when_own rfl (.tmp 8) rfl HS_y4.out.own 1 rfl rfl Tryz.underlying47 rfl mplace_info ?_)
        | (go_at_call 14; refine (HRD.out _ HS_y4.out.low).mono ?_; rintro _ y5 ⟨rfl, hlq⟩; have HL_y5 := hide hlq; have HS_y5 : Hid (Rox w y5 [(w.heap.size, 43, secL zeroSec), (y2.heap.size, 47, plC p)] A n c X) := hide (HS_y4.out.later hlq); clear hlq)
        | ((with_reducible refine at_slot 10 ?_); refine wpList_alloc_blk rfl 43 rfl _ (sec_zero _) ?_; intro y6 hbq hl1 hs1; clear hs1)
        | ((with_reducible refine at_store 10 ?_); refine wpList_store_all rfl 43 (.tmp 10) (.tmp 31) rfl y5.heap.size 43 _ hbq rfl (secL s) rfl (msec_size _) (msec_len _ _) (secL_one _) ?_; intro y7 hbz hg hs; have HS_y7 : Hid (Rox w y7 [(w.heap.size, 43, secL zeroSec), (y2.heap.size, 47, plC p), (y5.heap.size, 43, secL s)] A n c X) := hide (HS_y5.out.new hl1 hg hbz); clear hs hbq hl1 hg hbz)
        | (go_at_call 66; refine (HLO.out _).mono ?_; rintro _ _ ⟨rfl, rfl⟩)
        | ((with_reducible refine at_slot 37 ?_); refine when_own rfl (.tmp 10) rfl HS_y7.out.own 2 rfl rfl Tryz.underlying43 rfl (msec_size _) ?_)
        | ((with_reducible refine at_store 6 ?_); refine wpList_store_all rfl 43 (.tmp 6) (.tmp 37) rfl w.heap.size 43 _ (HS_y7.out.own.blk 0 rfl) rfl (secL s) rfl (msec_size _) (msec_len _ zeroSec) (secL_one _) ?_; intro y8 hbz hg hs; have HS_y8 : Hid (Rox w y8 [(w.heap.size, 43, secL s), (y2.heap.size, 47, plC p), (y5.heap.size, 43, secL s)] A n c X) := hide (HS_y7.out.poke 0 rfl (by decide) hbz hg); clear hs hg hbz))
      refine ret_cell_tmp rfl _ 43 (secL s) _ (HS_y8.out.own.blk 0 rfl) rfl Tryz.underlying43 rfl (msec_size _) (.int .i64 (e : Int)) rfl rfl ⟨by rw [HR.out]; rfl, HS_y8.out.low⟩
  · replace HR := hide (HR.out.trans (if_neg h0))
    obtain ⟨na, nb, nc⟩ := rne h0
    clear h0
    go_enter Tryz.func27, Tryz.ntmps27
    go_wp2_with (first
      | ((with_reducible refine at_slot 6 ?_); refine wpList_alloc_blk rfl 43 rfl _ (sec_zero _) ?_; intro y1 hbq hl1 hs1; have HS_y1 : Hid (Rox w y1 [(w.heap.size, 43, secL zeroSec)] A n c X) := hide (HS_w.out.var hl1 (Nat.le_refl _) hbq); clear hbq hl1 hs1)
      | (go_at_call 32; refine (HS_y1.out.rhome slot).mono ?_; rintro _ y2 ⟨rfl, hsq⟩; rw [HH.out.1, HH.out.2]; have HS_y2 : Hid (Rox w y2 [(w.heap.size, 43, secL zeroSec)] A n c X) := hide (hsq); clear hsq)
      | ((with_reducible refine at_slot 8 ?_); refine wpList_alloc_blk rfl 47 rfl _ (mplace_zero _) ?_; intro y3 hbq hl1 hs1; clear hs1)
      | ((with_reducible refine at_store 8 ?_); refine wpList_store_all rfl 47 (.tmp 8) (.tmp 21) rfl y2.heap.size 47 _ hbq rfl (plC p) rfl mplace_info rfl (plC_one _) ?_; intro y4 hbz hg hs; have HS_y4 : Hid (Rox w y4 [(w.heap.size, 43, secL zeroSec), (y2.heap.size, 47, plC p)] A n c X) := hide (HS_y2.out.new hl1 hg hbz); clear hs hbq hl1 hg hbz)
      | ((with_reducible refine at_slot 25 ?_); refine wpList_build_is rfl 43 #[] rfl [] (by simp) _ HBZ.out ?_)
      | ((with_reducible refine at_store 6 ?_); refine wpList_store_all rfl 43 (.tmp 6) (.tmp 25) rfl w.heap.size 43 _ (HS_y4.out.own.blk 0 rfl) rfl (secL zeroSec) rfl (msec_size _) (msec_len _ zeroSec) (secL_one _) ?_; intro y5 hbz hg hs; have HS_y5 : Hid (Rox w y5 [(w.heap.size, 43, secL zeroSec), (y2.heap.size, 47, plC p)] A n c X) := hide (HS_y4.out.poke 0 rfl (by decide) hbz hg); clear hs hg hbz))
    refine ret_cell_tmp rfl _ 43 (secL zeroSec) _ (HS_y5.out.own.blk 0 rfl) rfl Tryz.underlying43 rfl (msec_size _) (.int .i64 (E : Int)) rfl rfl ⟨by rw [HR.out]; rfl, HS_y5.out.low⟩
end
end Go.Proofs.YtmjjnbabfldbcaaGreat
namespace Go.Proofs.YtmjjnbabfldbcaaGreat
open Go.RowKit
set_option linter.unusedVariables false
/-- All but the last of a row of places. -/
theorem pl_front {w : World} {B : Nat} {A : Option Addr} {m : Nat} {L : List PlI} {q : PlI} (h : Reads w B 2 A m (plsL (L ++ [q]))) : Reads w B 2 A (m - 1) (plsL L) := by
  have hl := h.1
  rw [plsL_length, List.length_append, List.length_singleton] at hl
  have e : plsL (L ++ [q]) = plsL L ++ plsL [q] := plsL_append L [q]
  obtain ⟨h1, h2⟩ := h
  refine ⟨by rw [plsL_length]; omega, fun hn => ?_⟩
  obtain ⟨ad, e1, hb, hc⟩ := h2 (by omega)
  refine ⟨ad, e1, hb, fun j u hj => hc j u ?_⟩
  have hlt : j < (plsL L).length := by
    rcases Nat.lt_or_ge j (plsL L).length with hl | hl
    · exact hl
    · rw [List.getElem?_eq_none hl] at hj; cases hj
  rw [e, List.getElem?_append_left hlt]
  exact hj
section
variable {w : World} {r : Nat} {S : Bank} {G : Nat → Prop} {A : Option Addr} {n c : Nat} {X : List PlI}
set_option maxRecDepth 100000 in
set_option maxHeartbeats 4000000 in
theorem rsplug_no (h : RefOn w r G S) (hx : Rox w w [] A n c X) (slot : Int) (s : Sec) (hE : homeE n slot ≠ 0) :
    Calls Tryz.prog 31 #[.pointer (some ⟨r, 0, none⟩), .slice A n c, .int .i64 slot, secV s] w fun e w' => e = .returned (.tuple #[secV zeroSec, .int .i64 (homeE n slot : Int)]) ∧ Below w.heap.size w w' := by
  have HBZ := hide (show Tryz.prog.built 43 [] = some (secL zeroSec).toArray from sec_none)
  have HS_w : Hid (Rox w w [] A n c X) := hide hx
  obtain ⟨E, he⟩ : ∃ E, homeE n slot = E := ⟨_, rfl⟩
  obtain ⟨p, hp⟩ : ∃ p, homeR X n slot = p := ⟨_, rfl⟩
  rw [he] at hE ⊢
  obtain ⟨na, nb, nc⟩ := rne hE
  have HH := hide (And.intro hp he)
  clear h hx hE hp he
  go_enter Tryz.func31, Tryz.ntmps31
  go_wp2_with (first
    | ((with_reducible refine at_slot 7 ?_); refine wpList_box_blk rfl 43 _ rfl (secV s) rfl ?_; intro y1 hbq hl1 hs1; have HS_y1 : Hid (Rox w y1 [(w.heap.size, 43, secL s)] A n c X) := hide (HS_w.out.var hl1 (Nat.le_refl _) hbq); clear hbq hl1 hs1)
    | ((with_reducible refine at_slot 8 ?_); refine wpList_alloc_blk rfl 43 rfl _ (sec_zero _) ?_; intro y2 hbq hl1 hs1; have HS_y2 : Hid (Rox w y2 [(w.heap.size, 43, secL s), (y1.heap.size, 43, secL zeroSec)] A n c X) := hide (HS_y1.out.var hl1 (Nat.le_refl _) hbq); clear hbq hl1 hs1)
    | (go_at_call 32; refine (HS_y2.out.rhome slot).mono ?_; rintro _ y3 ⟨rfl, hsq⟩; rw [HH.out.1, HH.out.2]; have HS_y3 : Hid (Rox w y3 [(w.heap.size, 43, secL s), (y1.heap.size, 43, secL zeroSec)] A n c X) := hide (hsq); clear hsq)
    | ((with_reducible refine at_slot 10 ?_); refine wpList_alloc_blk rfl 47 rfl _ (mplace_zero _) ?_; intro y4 hbq hl1 hs1; clear hs1)
    | ((with_reducible refine at_store 10 ?_); refine wpList_store_all rfl 47 (.tmp 10) (.tmp 28) rfl y3.heap.size 47 _ hbq rfl (plC p) rfl mplace_info rfl (plC_one _) ?_; intro y5 hbz hg hs; have HS_y5 : Hid (Rox w y5 [(w.heap.size, 43, secL s), (y1.heap.size, 43, secL zeroSec), (y3.heap.size, 47, plC p)] A n c X) := hide (HS_y3.out.new hl1 hg hbz); clear hs hbq hl1 hg hbz)
    | ((with_reducible refine at_slot 32 ?_); refine wpList_build_is rfl 43 #[] rfl [] (by simp) _ HBZ.out ?_)
    | ((with_reducible refine at_store 8 ?_); refine wpList_store_all rfl 43 (.tmp 8) (.tmp 32) rfl y1.heap.size 43 _ (HS_y5.out.own.blk 1 rfl) rfl (secL zeroSec) rfl (msec_size _) (msec_len _ zeroSec) (secL_one _) ?_; intro y6 hbz hg hs; have HS_y6 : Hid (Rox w y6 [(w.heap.size, 43, secL s), (y1.heap.size, 43, secL zeroSec), (y3.heap.size, 47, plC p)] A n c X) := hide (HS_y5.out.poke 1 rfl (by decide) hbz hg); clear hs hg hbz))
  refine ret_cell_tmp rfl _ 43 (secL zeroSec) _ (HS_y6.out.own.blk 1 rfl) rfl Tryz.underlying43 rfl (msec_size _) (.int .i64 (E : Int)) rfl rfl ⟨rfl, HS_y6.out.low⟩
set_option maxRecDepth 100000 in
set_option maxHeartbeats 4000000 in
theorem rsplug_yes (h : RefOn w r G S) (hx : Rox w w [] A n c X) (k : Nat) (s : Sec) (hn2 : 2 ≤ n) (hk : k < slotsN n) :
    Calls Tryz.prog 31 #[.pointer (some ⟨r, 0, none⟩), .slice A n c, .int .i64 (k : Int), secV s] w fun e w' => e = .returned (.tuple #[secV (S.splug X (k : Int) s).1, .int .i64 ((S.splug X (k : Int) s).2 : Int)]) ∧ Below w.heap.size w w' := by
  have hlen : X.length = n := reads_len hx.in_.reads
  have hfew := hx.few
  have HBZ := hide (show Tryz.prog.built 43 [] = some (secL zeroSec).toArray from sec_none)
  have HGA := hide (fun (W : World) (hb : Below w.heap.size w W) (A : Option Addr) (n c : Nat) (L : List PlI) (hr : Reads W W.heap.size 2 A n (plsL L)) (hn : n ≤ 1000) => rgather_any (c := c) (h.later hb) hr hn)
  have HS_w : Hid (Rox w w [] A n c X) := hide hx
  obtain ⟨t, ht⟩ : ∃ t, k / (n - 1) = t := ⟨_, rfl⟩
  have ht8 : t < 8 := ht ▸ slot_div hn2 hk
  have hdiv : (k : Int).tdiv ((n : Int) - 1) = (t : Int) := by
    rw [show (n : Int) - 1 = ((n - 1 : Nat) : Int) by omega, Int.tdiv_eq_ediv_of_nonneg (by omega), ← ht]; rfl
  have hne1 : ¬ ((n : Int) - 1 = 0) := by omega
  have hE : homeE n (k : Int) = 0 := homeE_in' (by omega) hk
  have hT : strE n (t : Int) = 0 := by unfold strE; rw [if_neg (by omega), if_neg (by omega)]
  obtain ⟨p, hp⟩ : ∃ p, homeP X k = p := ⟨_, rfl⟩
  obtain ⟨q, hq⟩ : ∃ q, strP X t = q := ⟨_, rfl⟩
  obtain ⟨M, hM⟩ : ∃ M, (strD X t).eraseIdx (k % (n - 1)) = M := ⟨_, rfl⟩
  have HH := hide (show homeR X n (k : Int) = p ∧ homeE n (k : Int) = 0 from ⟨by unfold homeR; rw [if_pos hE, Int.toNat_natCast, hp], hE⟩)
  have HP := hide (show parR X n (t : Int) = q ∧ strE n (t : Int) = 0 from ⟨by unfold parR; rw [if_pos hT, Int.toNat_natCast, hq], hT⟩)
  have HM := hide (show matesR X n (k : Int) = M ++ [q] by
    unfold matesR matesP
    rw [if_pos hE, Int.toNat_natCast, hlen, ht, hM, hq])
  have hMl : M.length ≤ 900 := by
    rw [← hM]
    refine Nat.le_trans (List.length_eraseIdx_le _ _) ?_
    rw [strD_length (by omega)]
    omega
  obtain ⟨e1, he1⟩ : ∃ e, S.placeP p = e := ⟨_, rfl⟩
  obtain ⟨s1, hs1⟩ : ∃ s, S.readP p = s := ⟨_, rfl⟩
  obtain ⟨e2, he2⟩ : ∃ e, S.placeP q = e := ⟨_, rfl⟩
  obtain ⟨s2, hs2⟩ : ∃ s, S.readP q = s := ⟨_, rfl⟩
  obtain ⟨g, hg⟩ : ∃ g, S.gatherE M = g := ⟨_, rfl⟩
  have hsr : S.splug X (k : Int) s = if e1 = 0 ∨ lostB e1 = true then (if e2 = 0 ∨ lostB e2 = true then (if e1 = 0 ∧ e2 = 0 then (plugS s1 s2 s, 0) else if g = 0 then (parS (M.map S.readP ++ [s]), 0) else (zeroSec, g)) else (zeroSec, e2)) else (zeroSec, e1) := by
    unfold Bank.splug
    rw [hlen, if_pos hE]
    dsimp only
    rw [Int.toNat_natCast, ht, hp, hq, hM, he1, he2, hs1, hs2, hg]
  have HRA := hide (show ∀ (W : World), Below w.heap.size w W → Calls Tryz.prog 14 #[.pointer (some ⟨r, 0, none⟩), .agg (plC p).toArray] W fun x W' => x = .returned (.tuple #[secV s1, .int .i64 (e1 : Int)]) ∧ Below W.heap.size W W' from fun W hb => by
    rw [← he1, ← hs1]
    exact rOnI_read (h.later hb) p.1 p.2)
  have HRB := hide (show ∀ (W : World), Below w.heap.size w W → Calls Tryz.prog 14 #[.pointer (some ⟨r, 0, none⟩), .agg (plC q).toArray] W fun x W' => x = .returned (.tuple #[secV s2, .int .i64 (e2 : Int)]) ∧ Below W.heap.size W W' from fun W hb => by
    rw [← he2, ← hs2]
    exact rOnI_read (h.later hb) q.1 q.2)
  have HML := hide hMl
  have HG := hide hg
  have HR := hide hsr
  have HPG := hide (fun (w : World) => refPlug_any s1.1 s2.1 s.1 w s1.2 s2.2 s.2)
  clear h hx hlen ht hp hq hM hMl he1 hs1 he2 hs2 hg hsr hE hT hk
  by_cases hz_e1 : e1 = 0
  · subst hz_e1
    have HLO_e1 := hide (fun w => rlost_any 0 w)
    by_cases hz_e2 : e2 = 0
    · subst hz_e2
      have HLO_e2 := hide (fun w => rlost_any 0 w)
      replace HR := hide (HR.out.trans ((if_pos (Or.inl rfl)).trans ((if_pos (Or.inl rfl)).trans (if_pos ⟨rfl, rfl⟩))))
      go_enter Tryz.func31, Tryz.ntmps31
      go_upto_region 4 with (first
        | ((with_reducible refine at_slot 7 ?_); refine wpList_box_blk rfl 43 _ rfl (secV s) rfl ?_; intro y1 hbq hl1 hs1; have HS_y1 : Hid (Rox w y1 [(w.heap.size, 43, secL s)] A n c X) := hide (HS_w.out.var hl1 (Nat.le_refl _) hbq); clear hbq hl1 hs1)
        | ((with_reducible refine at_slot 8 ?_); refine wpList_alloc_blk rfl 43 rfl _ (sec_zero _) ?_; intro y2 hbq hl1 hs1; have HS_y2 : Hid (Rox w y2 [(w.heap.size, 43, secL s), (y1.heap.size, 43, secL zeroSec)] A n c X) := hide (HS_y1.out.var hl1 (Nat.le_refl _) hbq); clear hbq hl1 hs1)
        | (go_at_call 32; refine (HS_y2.out.rhome (k : Int)).mono ?_; rintro _ y3 ⟨rfl, hsq⟩; rw [HH.out.1, HH.out.2]; have HS_y3 : Hid (Rox w y3 [(w.heap.size, 43, secL s), (y1.heap.size, 43, secL zeroSec)] A n c X) := hide (hsq); clear hsq)
        | ((with_reducible refine at_slot 10 ?_); refine wpList_alloc_blk rfl 47 rfl _ (mplace_zero _) ?_; intro y4 hbq hl1 hs1; clear hs1)
        | ((with_reducible refine at_store 10 ?_); refine wpList_store_all rfl 47 (.tmp 10) (.tmp 28) rfl y3.heap.size 47 _ hbq rfl (plC p) rfl mplace_info rfl (plC_one _) ?_; intro y5 hbz hg hs; have HS_y5 : Hid (Rox w y5 [(w.heap.size, 43, secL s), (y1.heap.size, 43, secL zeroSec), (y3.heap.size, 47, plC p)] A n c X) := hide (HS_y3.out.new hl1 hg hbz); clear hs hbq hl1 hg hbz))
      go_upto_region 8 with (first
        | ((with_reducible refine at_slot 36 ?_); refine when_own rfl (.tmp 10) rfl HS_y5.out.own 2 rfl rfl Tryz.underlying47 rfl mplace_info ?_)
        | (go_at_call 14; refine (HRA.out _ HS_y5.out.low).mono ?_; rintro _ y6 ⟨rfl, hlq⟩; have HL_y6 := hide hlq; have HS_y6 : Hid (Rox w y6 [(w.heap.size, 43, secL s), (y1.heap.size, 43, secL zeroSec), (y3.heap.size, 47, plC p)] A n c X) := hide (HS_y5.out.later hlq); clear hlq)
        | ((with_reducible refine at_slot 12 ?_); refine wpList_alloc_blk rfl 43 rfl _ (sec_zero _) ?_; intro y7 hbq hl1 hs1; clear hs1)
        | ((with_reducible refine at_store 12 ?_); refine wpList_store_all rfl 43 (.tmp 12) (.tmp 38) rfl y6.heap.size 43 _ hbq rfl (secL s1) rfl (msec_size _) (msec_len _ _) (secL_one _) ?_; intro y8 hbz hg hs; have HS_y8 : Hid (Rox w y8 [(w.heap.size, 43, secL s), (y1.heap.size, 43, secL zeroSec), (y3.heap.size, 47, plC p), (y6.heap.size, 43, secL s1)] A n c X) := hide (HS_y6.out.new hl1 hg hbz); clear hs hbq hl1 hg hbz)
        | (go_at_call 66; refine (HLO_e1.out _).mono ?_; rintro _ _ ⟨rfl, rfl⟩))
      go_upto_region 9 with (first
        | (go_at_call 33; refine (HS_y8.out.rpar (t : Int)).mono ?_; rintro _ y9 ⟨rfl, hsq⟩; rw [HP.out.1, HP.out.2]; have HS_y9 : Hid (Rox w y9 [(w.heap.size, 43, secL s), (y1.heap.size, 43, secL zeroSec), (y3.heap.size, 47, plC p), (y6.heap.size, 43, secL s1)] A n c X) := hide (hsq); clear hsq)
        | ((with_reducible refine at_slot 15 ?_); refine wpList_alloc_blk rfl 47 rfl _ (mplace_zero _) ?_; intro y10 hbq hl1 hs1; clear hs1)
        | ((with_reducible refine at_store 15 ?_); refine wpList_store_all rfl 47 (.tmp 15) (.tmp 58) rfl y9.heap.size 47 _ hbq rfl (plC q) rfl mplace_info rfl (plC_one _) ?_; intro y11 hbz hg hs; have HS_y11 : Hid (Rox w y11 [(w.heap.size, 43, secL s), (y1.heap.size, 43, secL zeroSec), (y3.heap.size, 47, plC p), (y6.heap.size, 43, secL s1), (y9.heap.size, 47, plC q)] A n c X) := hide (HS_y9.out.new hl1 hg hbz); clear hs hbq hl1 hg hbz))
      go_upto_region 13 with (first
        | ((with_reducible refine at_slot 62 ?_); refine when_own rfl (.tmp 15) rfl HS_y11.out.own 4 rfl rfl Tryz.underlying47 rfl mplace_info ?_)
        | (go_at_call 14; refine (HRB.out _ HS_y11.out.low).mono ?_; rintro _ y12 ⟨rfl, hlq⟩; have HL_y12 := hide hlq; have HS_y12 : Hid (Rox w y12 [(w.heap.size, 43, secL s), (y1.heap.size, 43, secL zeroSec), (y3.heap.size, 47, plC p), (y6.heap.size, 43, secL s1), (y9.heap.size, 47, plC q)] A n c X) := hide (HS_y11.out.later hlq); clear hlq)
        | ((with_reducible refine at_slot 17 ?_); refine wpList_alloc_blk rfl 43 rfl _ (sec_zero _) ?_; intro y13 hbq hl1 hs1; clear hs1)
        | ((with_reducible refine at_store 17 ?_); refine wpList_store_all rfl 43 (.tmp 17) (.tmp 64) rfl y12.heap.size 43 _ hbq rfl (secL s2) rfl (msec_size _) (msec_len _ _) (secL_one _) ?_; intro y14 hbz hg hs; have HS_y14 : Hid (Rox w y14 [(w.heap.size, 43, secL s), (y1.heap.size, 43, secL zeroSec), (y3.heap.size, 47, plC p), (y6.heap.size, 43, secL s1), (y9.heap.size, 47, plC q), (y12.heap.size, 43, secL s2)] A n c X) := hide (HS_y12.out.new hl1 hg hbz); clear hs hbq hl1 hg hbz)
        | (go_at_call 66; refine (HLO_e2.out _).mono ?_; rintro _ _ ⟨rfl, rfl⟩))
      go_wp2_with (first
        | ((with_reducible refine at_slot 82 ?_); refine when_own rfl (.tmp 12) rfl HS_y14.out.own 3 rfl rfl Tryz.underlying43 rfl (msec_size _) ?_)
        | ((with_reducible refine at_slot 83 ?_); refine when_own rfl (.tmp 17) rfl HS_y14.out.own 5 rfl rfl Tryz.underlying43 rfl (msec_size _) ?_)
        | ((with_reducible refine at_slot 84 ?_); refine when_own rfl (.tmp 7) rfl HS_y14.out.own 0 rfl rfl Tryz.underlying43 rfl (msec_size _) ?_)
        | (go_at_call 72; refine (HPG.out _).mono ?_; rintro _ y15 ⟨rfl, hlq⟩; have HL_y15 := hide hlq; have HS_y15 : Hid (Rox w y15 [(w.heap.size, 43, secL s), (y1.heap.size, 43, secL zeroSec), (y3.heap.size, 47, plC p), (y6.heap.size, 43, secL s1), (y9.heap.size, 47, plC q), (y12.heap.size, 43, secL s2)] A n c X) := hide (HS_y14.out.later hlq); clear hlq)
        | ((with_reducible refine at_store 8 ?_); refine wpList_store_all rfl 43 (.tmp 8) (.tmp 85) rfl y1.heap.size 43 _ (HS_y15.out.own.blk 1 rfl) rfl (secL (plugS s1 s2 s)) rfl (msec_size _) (msec_len _ zeroSec) (secL_one _) ?_; intro y16 hbz hg hs; have HS_y16 : Hid (Rox w y16 [(w.heap.size, 43, secL s), (y1.heap.size, 43, secL (plugS s1 s2 s)), (y3.heap.size, 47, plC p), (y6.heap.size, 43, secL s1), (y9.heap.size, 47, plC q), (y12.heap.size, 43, secL s2)] A n c X) := hide (HS_y15.out.poke 1 rfl (by decide) hbz hg); clear hs hg hbz))
      refine ret_cell_tmp rfl _ 43 (secL (plugS s1 s2 s)) _ (HS_y16.out.own.blk 1 rfl) rfl Tryz.underlying43 rfl (msec_size _) (.int .i64 0) rfl rfl ⟨by rw [HR.out]; rfl, HS_y16.out.low⟩
    · obtain ⟨e2a, e2b, e2c⟩ := rne hz_e2
      by_cases hl_e2 : lostB e2 = true
      · have HLO_e2 := hide (fun w => hl_e2 ▸ rlost_any e2 w)
        by_cases hg0 : g = 0
        · subst hg0
          replace HR := hide (HR.out.trans ((if_pos (Or.inl rfl)).trans ((if_pos (Or.inr hl_e2)).trans ((if_neg (fun z => hz_e2 z.2)).trans (if_pos rfl)))))
          clear hz_e2 hl_e2
          go_enter Tryz.func31, Tryz.ntmps31
          go_upto_region 4 with (first
            | ((with_reducible refine at_slot 7 ?_); refine wpList_box_blk rfl 43 _ rfl (secV s) rfl ?_; intro y1 hbq hl1 hs1; have HS_y1 : Hid (Rox w y1 [(w.heap.size, 43, secL s)] A n c X) := hide (HS_w.out.var hl1 (Nat.le_refl _) hbq); clear hbq hl1 hs1)
            | ((with_reducible refine at_slot 8 ?_); refine wpList_alloc_blk rfl 43 rfl _ (sec_zero _) ?_; intro y2 hbq hl1 hs1; have HS_y2 : Hid (Rox w y2 [(w.heap.size, 43, secL s), (y1.heap.size, 43, secL zeroSec)] A n c X) := hide (HS_y1.out.var hl1 (Nat.le_refl _) hbq); clear hbq hl1 hs1)
            | (go_at_call 32; refine (HS_y2.out.rhome (k : Int)).mono ?_; rintro _ y3 ⟨rfl, hsq⟩; rw [HH.out.1, HH.out.2]; have HS_y3 : Hid (Rox w y3 [(w.heap.size, 43, secL s), (y1.heap.size, 43, secL zeroSec)] A n c X) := hide (hsq); clear hsq)
            | ((with_reducible refine at_slot 10 ?_); refine wpList_alloc_blk rfl 47 rfl _ (mplace_zero _) ?_; intro y4 hbq hl1 hs1; clear hs1)
            | ((with_reducible refine at_store 10 ?_); refine wpList_store_all rfl 47 (.tmp 10) (.tmp 28) rfl y3.heap.size 47 _ hbq rfl (plC p) rfl mplace_info rfl (plC_one _) ?_; intro y5 hbz hg hs; have HS_y5 : Hid (Rox w y5 [(w.heap.size, 43, secL s), (y1.heap.size, 43, secL zeroSec), (y3.heap.size, 47, plC p)] A n c X) := hide (HS_y3.out.new hl1 hg hbz); clear hs hbq hl1 hg hbz))
          go_upto_region 8 with (first
            | ((with_reducible refine at_slot 36 ?_); refine when_own rfl (.tmp 10) rfl HS_y5.out.own 2 rfl rfl Tryz.underlying47 rfl mplace_info ?_)
            | (go_at_call 14; refine (HRA.out _ HS_y5.out.low).mono ?_; rintro _ y6 ⟨rfl, hlq⟩; have HL_y6 := hide hlq; have HS_y6 : Hid (Rox w y6 [(w.heap.size, 43, secL s), (y1.heap.size, 43, secL zeroSec), (y3.heap.size, 47, plC p)] A n c X) := hide (HS_y5.out.later hlq); clear hlq)
            | ((with_reducible refine at_slot 12 ?_); refine wpList_alloc_blk rfl 43 rfl _ (sec_zero _) ?_; intro y7 hbq hl1 hs1; clear hs1)
            | ((with_reducible refine at_store 12 ?_); refine wpList_store_all rfl 43 (.tmp 12) (.tmp 38) rfl y6.heap.size 43 _ hbq rfl (secL s1) rfl (msec_size _) (msec_len _ _) (secL_one _) ?_; intro y8 hbz hg hs; have HS_y8 : Hid (Rox w y8 [(w.heap.size, 43, secL s), (y1.heap.size, 43, secL zeroSec), (y3.heap.size, 47, plC p), (y6.heap.size, 43, secL s1)] A n c X) := hide (HS_y6.out.new hl1 hg hbz); clear hs hbq hl1 hg hbz)
            | (go_at_call 66; refine (HLO_e1.out _).mono ?_; rintro _ _ ⟨rfl, rfl⟩))
          go_upto_region 9 with (first
            | (go_at_call 33; refine (HS_y8.out.rpar (t : Int)).mono ?_; rintro _ y9 ⟨rfl, hsq⟩; rw [HP.out.1, HP.out.2]; have HS_y9 : Hid (Rox w y9 [(w.heap.size, 43, secL s), (y1.heap.size, 43, secL zeroSec), (y3.heap.size, 47, plC p), (y6.heap.size, 43, secL s1)] A n c X) := hide (hsq); clear hsq)
            | ((with_reducible refine at_slot 15 ?_); refine wpList_alloc_blk rfl 47 rfl _ (mplace_zero _) ?_; intro y10 hbq hl1 hs1; clear hs1)
            | ((with_reducible refine at_store 15 ?_); refine wpList_store_all rfl 47 (.tmp 15) (.tmp 58) rfl y9.heap.size 47 _ hbq rfl (plC q) rfl mplace_info rfl (plC_one _) ?_; intro y11 hbz hg hs; have HS_y11 : Hid (Rox w y11 [(w.heap.size, 43, secL s), (y1.heap.size, 43, secL zeroSec), (y3.heap.size, 47, plC p), (y6.heap.size, 43, secL s1), (y9.heap.size, 47, plC q)] A n c X) := hide (HS_y9.out.new hl1 hg hbz); clear hs hbq hl1 hg hbz))
          go_upto_region 13 with (first
            | ((with_reducible refine at_slot 62 ?_); refine when_own rfl (.tmp 15) rfl HS_y11.out.own 4 rfl rfl Tryz.underlying47 rfl mplace_info ?_)
            | (go_at_call 14; refine (HRB.out _ HS_y11.out.low).mono ?_; rintro _ y12 ⟨rfl, hlq⟩; have HL_y12 := hide hlq; have HS_y12 : Hid (Rox w y12 [(w.heap.size, 43, secL s), (y1.heap.size, 43, secL zeroSec), (y3.heap.size, 47, plC p), (y6.heap.size, 43, secL s1), (y9.heap.size, 47, plC q)] A n c X) := hide (HS_y11.out.later hlq); clear hlq)
            | ((with_reducible refine at_slot 17 ?_); refine wpList_alloc_blk rfl 43 rfl _ (sec_zero _) ?_; intro y13 hbq hl1 hs1; clear hs1)
            | ((with_reducible refine at_store 17 ?_); refine wpList_store_all rfl 43 (.tmp 17) (.tmp 64) rfl y12.heap.size 43 _ hbq rfl (secL s2) rfl (msec_size _) (msec_len _ _) (secL_one _) ?_; intro y14 hbz hg hs; have HS_y14 : Hid (Rox w y14 [(w.heap.size, 43, secL s), (y1.heap.size, 43, secL zeroSec), (y3.heap.size, 47, plC p), (y6.heap.size, 43, secL s1), (y9.heap.size, 47, plC q), (y12.heap.size, 43, secL s2)] A n c X) := hide (HS_y12.out.new hl1 hg hbz); clear hs hbq hl1 hg hbz)
            | (go_at_call 66; refine (HLO_e2.out _).mono ?_; rintro _ _ ⟨rfl, rfl⟩))
          go_upto_region 16 with (first
            | (go_at_call 67; refine (HS_y14.out.rmates (k : Int)).mono ?_; rintro _ y15 ⟨B_y15, m_y15, k_y15, rfl, hrd, hcp, hcm, hlq, hsq⟩; rw [HM.out] at hrd; have HR_y15 := hide hrd; have HC_y15 := hide (And.intro hcp hcm); have HL_y15 := hide hlq; have HS_y15 : Hid (Rox w y15 [(w.heap.size, 43, secL s), (y1.heap.size, 43, secL zeroSec), (y3.heap.size, 47, plC p), (y6.heap.size, 43, secL s1), (y9.heap.size, 47, plC q), (y12.heap.size, 43, secL s2)] A n c X) := hide hsq; clear hsq hrd hcp hcm hlq))
          have hql : m_y15 = M.length + 1 := by have h := HR_y15.out.1; rw [plsL_length, List.length_append, List.length_singleton] at h; omega
          have hfr := pl_front HR_y15.out
          rw [show m_y15 - 1 = M.length by omega] at hfr
          have HFR := hide hfr
          have hcp := HC_y15.out
          have hcm : M.length + 1 ≤ k_y15 := by have := hcp.1; omega
          subst hql
          clear hfr hcp
          have hml := HML.out
          go_upto_region 17 with (first
            | (go_at_call 68; go_loud (refine (HGA.out _ HS_y15.out.low B_y15 M.length k_y15 M HFR.out (by have := HML.out; omega)).mono ?_); rintro _ y16 ⟨A2, m2, c2, rfl, hgg, hlq⟩; rw [HG.out] at hgg ⊢; have HGG := hide hgg; have HLQ := hide hlq; have HS_y16 : Hid (Rox w y16 [(w.heap.size, 43, secL s), (y1.heap.size, 43, secL zeroSec), (y3.heap.size, 47, plC p), (y6.heap.size, 43, secL s1), (y9.heap.size, 47, plC q), (y12.heap.size, 43, secL s2)] A n c X) := hide (HS_y15.out.later hlq); clear hgg hlq))
          obtain ⟨hm2, ho2⟩ := HGG.out (by trivial)
          subst hm2
          have HOW := hide ho2
          clear ho2
          go_wp2_with (first
            | ((with_reducible refine at_slot 107 ?_); refine when_own rfl (.tmp 7) rfl HS_y16.out.own 0 rfl rfl Tryz.underlying43 rfl (msec_size _) ?_)
            | ((with_reducible refine at_slot 108 ?_); refine wpList_oneG rfl (.tmp 107) rfl s rfl ?_)
            | ((with_reducible refine at_slot 109 ?_); refine wpList_pushG rfl (.tmp 106) (.tmp 108) rfl y15.heap.size A2 M.length c2 (M.map S.readP) s rfl HOW.out rfl rfl (by have := HML.out; omega) HLQ.out.size ?_; intro A5 c5 z5 ho5 hl5; have HS_z5 : Hid (Rox w z5 [(w.heap.size, 43, secL s), (y1.heap.size, 43, secL zeroSec), (y3.heap.size, 47, plC p), (y6.heap.size, 43, secL s1), (y9.heap.size, 47, plC q), (y12.heap.size, 43, secL s2)] A n c X) := hide (HS_y15.out.later (HLQ.out.trans hl5)); have HO5 := hide ho5; clear ho5 hl5)
            | (go_at_call 65; refine (rbuild_any _ A5 (M.length + 1) c5 (M.map S.readP ++ [s]) (Reads.of_own HO5.out) (by rw [List.length_append, List.length_map]; rfl) (by have := HML.out; omega)).mono ?_; rintro _ y17 ⟨rfl, hlq⟩; have HS_y17 : Hid (Rox w y17 [(w.heap.size, 43, secL s), (y1.heap.size, 43, secL zeroSec), (y3.heap.size, 47, plC p), (y6.heap.size, 43, secL s1), (y9.heap.size, 47, plC q), (y12.heap.size, 43, secL s2)] A n c X) := hide (HS_z5.out.later hlq); clear hlq)
            | ((with_reducible refine at_store 8 ?_); refine wpList_store_all rfl 43 (.tmp 8) (.tmp 110) rfl y1.heap.size 43 _ (HS_y17.out.own.blk 1 rfl) rfl (secL (parS (M.map S.readP ++ [s]))) rfl (msec_size _) (msec_len _ zeroSec) (secL_one _) ?_; intro y18 hbz hg hs; have HS_y18 : Hid (Rox w y18 [(w.heap.size, 43, secL s), (y1.heap.size, 43, secL (parS (M.map S.readP ++ [s]))), (y3.heap.size, 47, plC p), (y6.heap.size, 43, secL s1), (y9.heap.size, 47, plC q), (y12.heap.size, 43, secL s2)] A n c X) := hide (HS_y17.out.poke 1 rfl (by decide) hbz hg); clear hs hg hbz))
          refine ret_cell_tmp rfl _ 43 (secL (parS (M.map S.readP ++ [s]))) _ (HS_y18.out.own.blk 1 rfl) rfl Tryz.underlying43 rfl (msec_size _) (.int .i64 0) rfl rfl ⟨by rw [HR.out]; rfl, HS_y18.out.low⟩
        · replace HR := hide (HR.out.trans ((if_pos (Or.inl rfl)).trans ((if_pos (Or.inr hl_e2)).trans ((if_neg (fun z => hz_e2 z.2)).trans (if_neg hg0)))))
          obtain ⟨ga, gb, gc⟩ := rne hg0
          clear hg0
          clear hz_e2 hl_e2
          go_enter Tryz.func31, Tryz.ntmps31
          go_upto_region 4 with (first
            | ((with_reducible refine at_slot 7 ?_); refine wpList_box_blk rfl 43 _ rfl (secV s) rfl ?_; intro y1 hbq hl1 hs1; have HS_y1 : Hid (Rox w y1 [(w.heap.size, 43, secL s)] A n c X) := hide (HS_w.out.var hl1 (Nat.le_refl _) hbq); clear hbq hl1 hs1)
            | ((with_reducible refine at_slot 8 ?_); refine wpList_alloc_blk rfl 43 rfl _ (sec_zero _) ?_; intro y2 hbq hl1 hs1; have HS_y2 : Hid (Rox w y2 [(w.heap.size, 43, secL s), (y1.heap.size, 43, secL zeroSec)] A n c X) := hide (HS_y1.out.var hl1 (Nat.le_refl _) hbq); clear hbq hl1 hs1)
            | (go_at_call 32; refine (HS_y2.out.rhome (k : Int)).mono ?_; rintro _ y3 ⟨rfl, hsq⟩; rw [HH.out.1, HH.out.2]; have HS_y3 : Hid (Rox w y3 [(w.heap.size, 43, secL s), (y1.heap.size, 43, secL zeroSec)] A n c X) := hide (hsq); clear hsq)
            | ((with_reducible refine at_slot 10 ?_); refine wpList_alloc_blk rfl 47 rfl _ (mplace_zero _) ?_; intro y4 hbq hl1 hs1; clear hs1)
            | ((with_reducible refine at_store 10 ?_); refine wpList_store_all rfl 47 (.tmp 10) (.tmp 28) rfl y3.heap.size 47 _ hbq rfl (plC p) rfl mplace_info rfl (plC_one _) ?_; intro y5 hbz hg hs; have HS_y5 : Hid (Rox w y5 [(w.heap.size, 43, secL s), (y1.heap.size, 43, secL zeroSec), (y3.heap.size, 47, plC p)] A n c X) := hide (HS_y3.out.new hl1 hg hbz); clear hs hbq hl1 hg hbz))
          go_upto_region 8 with (first
            | ((with_reducible refine at_slot 36 ?_); refine when_own rfl (.tmp 10) rfl HS_y5.out.own 2 rfl rfl Tryz.underlying47 rfl mplace_info ?_)
            | (go_at_call 14; refine (HRA.out _ HS_y5.out.low).mono ?_; rintro _ y6 ⟨rfl, hlq⟩; have HL_y6 := hide hlq; have HS_y6 : Hid (Rox w y6 [(w.heap.size, 43, secL s), (y1.heap.size, 43, secL zeroSec), (y3.heap.size, 47, plC p)] A n c X) := hide (HS_y5.out.later hlq); clear hlq)
            | ((with_reducible refine at_slot 12 ?_); refine wpList_alloc_blk rfl 43 rfl _ (sec_zero _) ?_; intro y7 hbq hl1 hs1; clear hs1)
            | ((with_reducible refine at_store 12 ?_); refine wpList_store_all rfl 43 (.tmp 12) (.tmp 38) rfl y6.heap.size 43 _ hbq rfl (secL s1) rfl (msec_size _) (msec_len _ _) (secL_one _) ?_; intro y8 hbz hg hs; have HS_y8 : Hid (Rox w y8 [(w.heap.size, 43, secL s), (y1.heap.size, 43, secL zeroSec), (y3.heap.size, 47, plC p), (y6.heap.size, 43, secL s1)] A n c X) := hide (HS_y6.out.new hl1 hg hbz); clear hs hbq hl1 hg hbz)
            | (go_at_call 66; refine (HLO_e1.out _).mono ?_; rintro _ _ ⟨rfl, rfl⟩))
          go_upto_region 9 with (first
            | (go_at_call 33; refine (HS_y8.out.rpar (t : Int)).mono ?_; rintro _ y9 ⟨rfl, hsq⟩; rw [HP.out.1, HP.out.2]; have HS_y9 : Hid (Rox w y9 [(w.heap.size, 43, secL s), (y1.heap.size, 43, secL zeroSec), (y3.heap.size, 47, plC p), (y6.heap.size, 43, secL s1)] A n c X) := hide (hsq); clear hsq)
            | ((with_reducible refine at_slot 15 ?_); refine wpList_alloc_blk rfl 47 rfl _ (mplace_zero _) ?_; intro y10 hbq hl1 hs1; clear hs1)
            | ((with_reducible refine at_store 15 ?_); refine wpList_store_all rfl 47 (.tmp 15) (.tmp 58) rfl y9.heap.size 47 _ hbq rfl (plC q) rfl mplace_info rfl (plC_one _) ?_; intro y11 hbz hg hs; have HS_y11 : Hid (Rox w y11 [(w.heap.size, 43, secL s), (y1.heap.size, 43, secL zeroSec), (y3.heap.size, 47, plC p), (y6.heap.size, 43, secL s1), (y9.heap.size, 47, plC q)] A n c X) := hide (HS_y9.out.new hl1 hg hbz); clear hs hbq hl1 hg hbz))
          go_upto_region 13 with (first
            | ((with_reducible refine at_slot 62 ?_); refine when_own rfl (.tmp 15) rfl HS_y11.out.own 4 rfl rfl Tryz.underlying47 rfl mplace_info ?_)
            | (go_at_call 14; refine (HRB.out _ HS_y11.out.low).mono ?_; rintro _ y12 ⟨rfl, hlq⟩; have HL_y12 := hide hlq; have HS_y12 : Hid (Rox w y12 [(w.heap.size, 43, secL s), (y1.heap.size, 43, secL zeroSec), (y3.heap.size, 47, plC p), (y6.heap.size, 43, secL s1), (y9.heap.size, 47, plC q)] A n c X) := hide (HS_y11.out.later hlq); clear hlq)
            | ((with_reducible refine at_slot 17 ?_); refine wpList_alloc_blk rfl 43 rfl _ (sec_zero _) ?_; intro y13 hbq hl1 hs1; clear hs1)
            | ((with_reducible refine at_store 17 ?_); refine wpList_store_all rfl 43 (.tmp 17) (.tmp 64) rfl y12.heap.size 43 _ hbq rfl (secL s2) rfl (msec_size _) (msec_len _ _) (secL_one _) ?_; intro y14 hbz hg hs; have HS_y14 : Hid (Rox w y14 [(w.heap.size, 43, secL s), (y1.heap.size, 43, secL zeroSec), (y3.heap.size, 47, plC p), (y6.heap.size, 43, secL s1), (y9.heap.size, 47, plC q), (y12.heap.size, 43, secL s2)] A n c X) := hide (HS_y12.out.new hl1 hg hbz); clear hs hbq hl1 hg hbz)
            | (go_at_call 66; refine (HLO_e2.out _).mono ?_; rintro _ _ ⟨rfl, rfl⟩))
          go_upto_region 16 with (first
            | (go_at_call 67; refine (HS_y14.out.rmates (k : Int)).mono ?_; rintro _ y15 ⟨B_y15, m_y15, k_y15, rfl, hrd, hcp, hcm, hlq, hsq⟩; rw [HM.out] at hrd; have HR_y15 := hide hrd; have HC_y15 := hide (And.intro hcp hcm); have HL_y15 := hide hlq; have HS_y15 : Hid (Rox w y15 [(w.heap.size, 43, secL s), (y1.heap.size, 43, secL zeroSec), (y3.heap.size, 47, plC p), (y6.heap.size, 43, secL s1), (y9.heap.size, 47, plC q), (y12.heap.size, 43, secL s2)] A n c X) := hide hsq; clear hsq hrd hcp hcm hlq))
          have hql : m_y15 = M.length + 1 := by have h := HR_y15.out.1; rw [plsL_length, List.length_append, List.length_singleton] at h; omega
          have hfr := pl_front HR_y15.out
          rw [show m_y15 - 1 = M.length by omega] at hfr
          have HFR := hide hfr
          have hcp := HC_y15.out
          have hcm : M.length + 1 ≤ k_y15 := by have := hcp.1; omega
          subst hql
          clear hfr hcp
          have hml := HML.out
          go_upto_region 17 with (first
            | (go_at_call 68; go_loud (refine (HGA.out _ HS_y15.out.low B_y15 M.length k_y15 M HFR.out (by have := HML.out; omega)).mono ?_); rintro _ y16 ⟨A2, m2, c2, rfl, hgg, hlq⟩; rw [HG.out] at hgg ⊢; have HGG := hide hgg; have HLQ := hide hlq; have HS_y16 : Hid (Rox w y16 [(w.heap.size, 43, secL s), (y1.heap.size, 43, secL zeroSec), (y3.heap.size, 47, plC p), (y6.heap.size, 43, secL s1), (y9.heap.size, 47, plC q), (y12.heap.size, 43, secL s2)] A n c X) := hide (HS_y15.out.later hlq); clear hgg hlq))
          go_wp2_with (first
            | ((with_reducible refine at_slot 104 ?_); refine wpList_build_is rfl 43 #[] rfl [] (by simp) _ HBZ.out ?_)
            | ((with_reducible refine at_store 8 ?_); refine wpList_store_all rfl 43 (.tmp 8) (.tmp 104) rfl y1.heap.size 43 _ (HS_y16.out.own.blk 1 rfl) rfl (secL zeroSec) rfl (msec_size _) (msec_len _ zeroSec) (secL_one _) ?_; intro y17 hbz hg hs; have HS_y17 : Hid (Rox w y17 [(w.heap.size, 43, secL s), (y1.heap.size, 43, secL zeroSec), (y3.heap.size, 47, plC p), (y6.heap.size, 43, secL s1), (y9.heap.size, 47, plC q), (y12.heap.size, 43, secL s2)] A n c X) := hide (HS_y16.out.poke 1 rfl (by decide) hbz hg); clear hs hg hbz))
          refine ret_cell_tmp rfl _ 43 (secL zeroSec) _ (HS_y17.out.own.blk 1 rfl) rfl Tryz.underlying43 rfl (msec_size _) (.int .i64 (g : Int)) rfl rfl ⟨by rw [HR.out]; rfl, HS_y17.out.low⟩
      · have hf_e2 : lostB e2 = false := by simpa using hl_e2
        have HLO_e2 := hide (fun w => hf_e2 ▸ rlost_any e2 w)
        clear hf_e2
        replace HR := hide (HR.out.trans ((if_pos (Or.inl rfl)).trans (if_neg (fun q => q.elim hz_e2 hl_e2))))
        clear hz_e2 hl_e2
        go_enter Tryz.func31, Tryz.ntmps31
        go_upto_region 4 with (first
          | ((with_reducible refine at_slot 7 ?_); refine wpList_box_blk rfl 43 _ rfl (secV s) rfl ?_; intro y1 hbq hl1 hs1; have HS_y1 : Hid (Rox w y1 [(w.heap.size, 43, secL s)] A n c X) := hide (HS_w.out.var hl1 (Nat.le_refl _) hbq); clear hbq hl1 hs1)
          | ((with_reducible refine at_slot 8 ?_); refine wpList_alloc_blk rfl 43 rfl _ (sec_zero _) ?_; intro y2 hbq hl1 hs1; have HS_y2 : Hid (Rox w y2 [(w.heap.size, 43, secL s), (y1.heap.size, 43, secL zeroSec)] A n c X) := hide (HS_y1.out.var hl1 (Nat.le_refl _) hbq); clear hbq hl1 hs1)
          | (go_at_call 32; refine (HS_y2.out.rhome (k : Int)).mono ?_; rintro _ y3 ⟨rfl, hsq⟩; rw [HH.out.1, HH.out.2]; have HS_y3 : Hid (Rox w y3 [(w.heap.size, 43, secL s), (y1.heap.size, 43, secL zeroSec)] A n c X) := hide (hsq); clear hsq)
          | ((with_reducible refine at_slot 10 ?_); refine wpList_alloc_blk rfl 47 rfl _ (mplace_zero _) ?_; intro y4 hbq hl1 hs1; clear hs1)
          | ((with_reducible refine at_store 10 ?_); refine wpList_store_all rfl 47 (.tmp 10) (.tmp 28) rfl y3.heap.size 47 _ hbq rfl (plC p) rfl mplace_info rfl (plC_one _) ?_; intro y5 hbz hg hs; have HS_y5 : Hid (Rox w y5 [(w.heap.size, 43, secL s), (y1.heap.size, 43, secL zeroSec), (y3.heap.size, 47, plC p)] A n c X) := hide (HS_y3.out.new hl1 hg hbz); clear hs hbq hl1 hg hbz))
        go_upto_region 8 with (first
          | ((with_reducible refine at_slot 36 ?_); refine when_own rfl (.tmp 10) rfl HS_y5.out.own 2 rfl rfl Tryz.underlying47 rfl mplace_info ?_)
          | (go_at_call 14; refine (HRA.out _ HS_y5.out.low).mono ?_; rintro _ y6 ⟨rfl, hlq⟩; have HL_y6 := hide hlq; have HS_y6 : Hid (Rox w y6 [(w.heap.size, 43, secL s), (y1.heap.size, 43, secL zeroSec), (y3.heap.size, 47, plC p)] A n c X) := hide (HS_y5.out.later hlq); clear hlq)
          | ((with_reducible refine at_slot 12 ?_); refine wpList_alloc_blk rfl 43 rfl _ (sec_zero _) ?_; intro y7 hbq hl1 hs1; clear hs1)
          | ((with_reducible refine at_store 12 ?_); refine wpList_store_all rfl 43 (.tmp 12) (.tmp 38) rfl y6.heap.size 43 _ hbq rfl (secL s1) rfl (msec_size _) (msec_len _ _) (secL_one _) ?_; intro y8 hbz hg hs; have HS_y8 : Hid (Rox w y8 [(w.heap.size, 43, secL s), (y1.heap.size, 43, secL zeroSec), (y3.heap.size, 47, plC p), (y6.heap.size, 43, secL s1)] A n c X) := hide (HS_y6.out.new hl1 hg hbz); clear hs hbq hl1 hg hbz)
          | (go_at_call 66; refine (HLO_e1.out _).mono ?_; rintro _ _ ⟨rfl, rfl⟩))
        go_upto_region 9 with (first
          | (go_at_call 33; refine (HS_y8.out.rpar (t : Int)).mono ?_; rintro _ y9 ⟨rfl, hsq⟩; rw [HP.out.1, HP.out.2]; have HS_y9 : Hid (Rox w y9 [(w.heap.size, 43, secL s), (y1.heap.size, 43, secL zeroSec), (y3.heap.size, 47, plC p), (y6.heap.size, 43, secL s1)] A n c X) := hide (hsq); clear hsq)
          | ((with_reducible refine at_slot 15 ?_); refine wpList_alloc_blk rfl 47 rfl _ (mplace_zero _) ?_; intro y10 hbq hl1 hs1; clear hs1)
          | ((with_reducible refine at_store 15 ?_); refine wpList_store_all rfl 47 (.tmp 15) (.tmp 58) rfl y9.heap.size 47 _ hbq rfl (plC q) rfl mplace_info rfl (plC_one _) ?_; intro y11 hbz hg hs; have HS_y11 : Hid (Rox w y11 [(w.heap.size, 43, secL s), (y1.heap.size, 43, secL zeroSec), (y3.heap.size, 47, plC p), (y6.heap.size, 43, secL s1), (y9.heap.size, 47, plC q)] A n c X) := hide (HS_y9.out.new hl1 hg hbz); clear hs hbq hl1 hg hbz))
        go_wp2_with (first
          | ((with_reducible refine at_slot 62 ?_); refine when_own rfl (.tmp 15) rfl HS_y11.out.own 4 rfl rfl Tryz.underlying47 rfl mplace_info ?_)
          | (go_at_call 14; refine (HRB.out _ HS_y11.out.low).mono ?_; rintro _ y12 ⟨rfl, hlq⟩; have HL_y12 := hide hlq; have HS_y12 : Hid (Rox w y12 [(w.heap.size, 43, secL s), (y1.heap.size, 43, secL zeroSec), (y3.heap.size, 47, plC p), (y6.heap.size, 43, secL s1), (y9.heap.size, 47, plC q)] A n c X) := hide (HS_y11.out.later hlq); clear hlq)
          | ((with_reducible refine at_slot 17 ?_); refine wpList_alloc_blk rfl 43 rfl _ (sec_zero _) ?_; intro y13 hbq hl1 hs1; clear hs1)
          | ((with_reducible refine at_store 17 ?_); refine wpList_store_all rfl 43 (.tmp 17) (.tmp 64) rfl y12.heap.size 43 _ hbq rfl (secL s2) rfl (msec_size _) (msec_len _ _) (secL_one _) ?_; intro y14 hbz hg hs; have HS_y14 : Hid (Rox w y14 [(w.heap.size, 43, secL s), (y1.heap.size, 43, secL zeroSec), (y3.heap.size, 47, plC p), (y6.heap.size, 43, secL s1), (y9.heap.size, 47, plC q), (y12.heap.size, 43, secL s2)] A n c X) := hide (HS_y12.out.new hl1 hg hbz); clear hs hbq hl1 hg hbz)
          | (go_at_call 66; refine (HLO_e2.out _).mono ?_; rintro _ _ ⟨rfl, rfl⟩)
          | ((with_reducible refine at_slot 74 ?_); refine wpList_build_is rfl 43 #[] rfl [] (by simp) _ HBZ.out ?_)
          | ((with_reducible refine at_store 8 ?_); refine wpList_store_all rfl 43 (.tmp 8) (.tmp 74) rfl y1.heap.size 43 _ (HS_y14.out.own.blk 1 rfl) rfl (secL zeroSec) rfl (msec_size _) (msec_len _ zeroSec) (secL_one _) ?_; intro y15 hbz hg hs; have HS_y15 : Hid (Rox w y15 [(w.heap.size, 43, secL s), (y1.heap.size, 43, secL zeroSec), (y3.heap.size, 47, plC p), (y6.heap.size, 43, secL s1), (y9.heap.size, 47, plC q), (y12.heap.size, 43, secL s2)] A n c X) := hide (HS_y14.out.poke 1 rfl (by decide) hbz hg); clear hs hg hbz))
        refine ret_cell_tmp rfl _ 43 (secL zeroSec) _ (HS_y15.out.own.blk 1 rfl) rfl Tryz.underlying43 rfl (msec_size _) (.int .i64 (e2 : Int)) rfl rfl ⟨by rw [HR.out]; rfl, HS_y15.out.low⟩
  · obtain ⟨e1a, e1b, e1c⟩ := rne hz_e1
    by_cases hl_e1 : lostB e1 = true
    · have HLO_e1 := hide (fun w => hl_e1 ▸ rlost_any e1 w)
      by_cases hz_e2 : e2 = 0
      · subst hz_e2
        have HLO_e2 := hide (fun w => rlost_any 0 w)
        by_cases hg0 : g = 0
        · subst hg0
          replace HR := hide (HR.out.trans ((if_pos (Or.inr hl_e1)).trans ((if_pos (Or.inl rfl)).trans ((if_neg (fun z => hz_e1 z.1)).trans (if_pos rfl)))))
          clear hz_e1 hl_e1
          go_enter Tryz.func31, Tryz.ntmps31
          go_upto_region 4 with (first
            | ((with_reducible refine at_slot 7 ?_); refine wpList_box_blk rfl 43 _ rfl (secV s) rfl ?_; intro y1 hbq hl1 hs1; have HS_y1 : Hid (Rox w y1 [(w.heap.size, 43, secL s)] A n c X) := hide (HS_w.out.var hl1 (Nat.le_refl _) hbq); clear hbq hl1 hs1)
            | ((with_reducible refine at_slot 8 ?_); refine wpList_alloc_blk rfl 43 rfl _ (sec_zero _) ?_; intro y2 hbq hl1 hs1; have HS_y2 : Hid (Rox w y2 [(w.heap.size, 43, secL s), (y1.heap.size, 43, secL zeroSec)] A n c X) := hide (HS_y1.out.var hl1 (Nat.le_refl _) hbq); clear hbq hl1 hs1)
            | (go_at_call 32; refine (HS_y2.out.rhome (k : Int)).mono ?_; rintro _ y3 ⟨rfl, hsq⟩; rw [HH.out.1, HH.out.2]; have HS_y3 : Hid (Rox w y3 [(w.heap.size, 43, secL s), (y1.heap.size, 43, secL zeroSec)] A n c X) := hide (hsq); clear hsq)
            | ((with_reducible refine at_slot 10 ?_); refine wpList_alloc_blk rfl 47 rfl _ (mplace_zero _) ?_; intro y4 hbq hl1 hs1; clear hs1)
            | ((with_reducible refine at_store 10 ?_); refine wpList_store_all rfl 47 (.tmp 10) (.tmp 28) rfl y3.heap.size 47 _ hbq rfl (plC p) rfl mplace_info rfl (plC_one _) ?_; intro y5 hbz hg hs; have HS_y5 : Hid (Rox w y5 [(w.heap.size, 43, secL s), (y1.heap.size, 43, secL zeroSec), (y3.heap.size, 47, plC p)] A n c X) := hide (HS_y3.out.new hl1 hg hbz); clear hs hbq hl1 hg hbz))
          go_upto_region 8 with (first
            | ((with_reducible refine at_slot 36 ?_); refine when_own rfl (.tmp 10) rfl HS_y5.out.own 2 rfl rfl Tryz.underlying47 rfl mplace_info ?_)
            | (go_at_call 14; refine (HRA.out _ HS_y5.out.low).mono ?_; rintro _ y6 ⟨rfl, hlq⟩; have HL_y6 := hide hlq; have HS_y6 : Hid (Rox w y6 [(w.heap.size, 43, secL s), (y1.heap.size, 43, secL zeroSec), (y3.heap.size, 47, plC p)] A n c X) := hide (HS_y5.out.later hlq); clear hlq)
            | ((with_reducible refine at_slot 12 ?_); refine wpList_alloc_blk rfl 43 rfl _ (sec_zero _) ?_; intro y7 hbq hl1 hs1; clear hs1)
            | ((with_reducible refine at_store 12 ?_); refine wpList_store_all rfl 43 (.tmp 12) (.tmp 38) rfl y6.heap.size 43 _ hbq rfl (secL s1) rfl (msec_size _) (msec_len _ _) (secL_one _) ?_; intro y8 hbz hg hs; have HS_y8 : Hid (Rox w y8 [(w.heap.size, 43, secL s), (y1.heap.size, 43, secL zeroSec), (y3.heap.size, 47, plC p), (y6.heap.size, 43, secL s1)] A n c X) := hide (HS_y6.out.new hl1 hg hbz); clear hs hbq hl1 hg hbz)
            | (go_at_call 66; refine (HLO_e1.out _).mono ?_; rintro _ _ ⟨rfl, rfl⟩))
          go_upto_region 9 with (first
            | (go_at_call 33; refine (HS_y8.out.rpar (t : Int)).mono ?_; rintro _ y9 ⟨rfl, hsq⟩; rw [HP.out.1, HP.out.2]; have HS_y9 : Hid (Rox w y9 [(w.heap.size, 43, secL s), (y1.heap.size, 43, secL zeroSec), (y3.heap.size, 47, plC p), (y6.heap.size, 43, secL s1)] A n c X) := hide (hsq); clear hsq)
            | ((with_reducible refine at_slot 15 ?_); refine wpList_alloc_blk rfl 47 rfl _ (mplace_zero _) ?_; intro y10 hbq hl1 hs1; clear hs1)
            | ((with_reducible refine at_store 15 ?_); refine wpList_store_all rfl 47 (.tmp 15) (.tmp 58) rfl y9.heap.size 47 _ hbq rfl (plC q) rfl mplace_info rfl (plC_one _) ?_; intro y11 hbz hg hs; have HS_y11 : Hid (Rox w y11 [(w.heap.size, 43, secL s), (y1.heap.size, 43, secL zeroSec), (y3.heap.size, 47, plC p), (y6.heap.size, 43, secL s1), (y9.heap.size, 47, plC q)] A n c X) := hide (HS_y9.out.new hl1 hg hbz); clear hs hbq hl1 hg hbz))
          go_upto_region 13 with (first
            | ((with_reducible refine at_slot 62 ?_); refine when_own rfl (.tmp 15) rfl HS_y11.out.own 4 rfl rfl Tryz.underlying47 rfl mplace_info ?_)
            | (go_at_call 14; refine (HRB.out _ HS_y11.out.low).mono ?_; rintro _ y12 ⟨rfl, hlq⟩; have HL_y12 := hide hlq; have HS_y12 : Hid (Rox w y12 [(w.heap.size, 43, secL s), (y1.heap.size, 43, secL zeroSec), (y3.heap.size, 47, plC p), (y6.heap.size, 43, secL s1), (y9.heap.size, 47, plC q)] A n c X) := hide (HS_y11.out.later hlq); clear hlq)
            | ((with_reducible refine at_slot 17 ?_); refine wpList_alloc_blk rfl 43 rfl _ (sec_zero _) ?_; intro y13 hbq hl1 hs1; clear hs1)
            | ((with_reducible refine at_store 17 ?_); refine wpList_store_all rfl 43 (.tmp 17) (.tmp 64) rfl y12.heap.size 43 _ hbq rfl (secL s2) rfl (msec_size _) (msec_len _ _) (secL_one _) ?_; intro y14 hbz hg hs; have HS_y14 : Hid (Rox w y14 [(w.heap.size, 43, secL s), (y1.heap.size, 43, secL zeroSec), (y3.heap.size, 47, plC p), (y6.heap.size, 43, secL s1), (y9.heap.size, 47, plC q), (y12.heap.size, 43, secL s2)] A n c X) := hide (HS_y12.out.new hl1 hg hbz); clear hs hbq hl1 hg hbz)
            | (go_at_call 66; refine (HLO_e2.out _).mono ?_; rintro _ _ ⟨rfl, rfl⟩))
          go_upto_region 16 with (first
            | (go_at_call 67; refine (HS_y14.out.rmates (k : Int)).mono ?_; rintro _ y15 ⟨B_y15, m_y15, k_y15, rfl, hrd, hcp, hcm, hlq, hsq⟩; rw [HM.out] at hrd; have HR_y15 := hide hrd; have HC_y15 := hide (And.intro hcp hcm); have HL_y15 := hide hlq; have HS_y15 : Hid (Rox w y15 [(w.heap.size, 43, secL s), (y1.heap.size, 43, secL zeroSec), (y3.heap.size, 47, plC p), (y6.heap.size, 43, secL s1), (y9.heap.size, 47, plC q), (y12.heap.size, 43, secL s2)] A n c X) := hide hsq; clear hsq hrd hcp hcm hlq))
          have hql : m_y15 = M.length + 1 := by have h := HR_y15.out.1; rw [plsL_length, List.length_append, List.length_singleton] at h; omega
          have hfr := pl_front HR_y15.out
          rw [show m_y15 - 1 = M.length by omega] at hfr
          have HFR := hide hfr
          have hcp := HC_y15.out
          have hcm : M.length + 1 ≤ k_y15 := by have := hcp.1; omega
          subst hql
          clear hfr hcp
          have hml := HML.out
          go_upto_region 17 with (first
            | (go_at_call 68; go_loud (refine (HGA.out _ HS_y15.out.low B_y15 M.length k_y15 M HFR.out (by have := HML.out; omega)).mono ?_); rintro _ y16 ⟨A2, m2, c2, rfl, hgg, hlq⟩; rw [HG.out] at hgg ⊢; have HGG := hide hgg; have HLQ := hide hlq; have HS_y16 : Hid (Rox w y16 [(w.heap.size, 43, secL s), (y1.heap.size, 43, secL zeroSec), (y3.heap.size, 47, plC p), (y6.heap.size, 43, secL s1), (y9.heap.size, 47, plC q), (y12.heap.size, 43, secL s2)] A n c X) := hide (HS_y15.out.later hlq); clear hgg hlq))
          obtain ⟨hm2, ho2⟩ := HGG.out (by trivial)
          subst hm2
          have HOW := hide ho2
          clear ho2
          go_wp2_with (first
            | ((with_reducible refine at_slot 107 ?_); refine when_own rfl (.tmp 7) rfl HS_y16.out.own 0 rfl rfl Tryz.underlying43 rfl (msec_size _) ?_)
            | ((with_reducible refine at_slot 108 ?_); refine wpList_oneG rfl (.tmp 107) rfl s rfl ?_)
            | ((with_reducible refine at_slot 109 ?_); refine wpList_pushG rfl (.tmp 106) (.tmp 108) rfl y15.heap.size A2 M.length c2 (M.map S.readP) s rfl HOW.out rfl rfl (by have := HML.out; omega) HLQ.out.size ?_; intro A5 c5 z5 ho5 hl5; have HS_z5 : Hid (Rox w z5 [(w.heap.size, 43, secL s), (y1.heap.size, 43, secL zeroSec), (y3.heap.size, 47, plC p), (y6.heap.size, 43, secL s1), (y9.heap.size, 47, plC q), (y12.heap.size, 43, secL s2)] A n c X) := hide (HS_y15.out.later (HLQ.out.trans hl5)); have HO5 := hide ho5; clear ho5 hl5)
            | (go_at_call 65; refine (rbuild_any _ A5 (M.length + 1) c5 (M.map S.readP ++ [s]) (Reads.of_own HO5.out) (by rw [List.length_append, List.length_map]; rfl) (by have := HML.out; omega)).mono ?_; rintro _ y17 ⟨rfl, hlq⟩; have HS_y17 : Hid (Rox w y17 [(w.heap.size, 43, secL s), (y1.heap.size, 43, secL zeroSec), (y3.heap.size, 47, plC p), (y6.heap.size, 43, secL s1), (y9.heap.size, 47, plC q), (y12.heap.size, 43, secL s2)] A n c X) := hide (HS_z5.out.later hlq); clear hlq)
            | ((with_reducible refine at_store 8 ?_); refine wpList_store_all rfl 43 (.tmp 8) (.tmp 110) rfl y1.heap.size 43 _ (HS_y17.out.own.blk 1 rfl) rfl (secL (parS (M.map S.readP ++ [s]))) rfl (msec_size _) (msec_len _ zeroSec) (secL_one _) ?_; intro y18 hbz hg hs; have HS_y18 : Hid (Rox w y18 [(w.heap.size, 43, secL s), (y1.heap.size, 43, secL (parS (M.map S.readP ++ [s]))), (y3.heap.size, 47, plC p), (y6.heap.size, 43, secL s1), (y9.heap.size, 47, plC q), (y12.heap.size, 43, secL s2)] A n c X) := hide (HS_y17.out.poke 1 rfl (by decide) hbz hg); clear hs hg hbz))
          refine ret_cell_tmp rfl _ 43 (secL (parS (M.map S.readP ++ [s]))) _ (HS_y18.out.own.blk 1 rfl) rfl Tryz.underlying43 rfl (msec_size _) (.int .i64 0) rfl rfl ⟨by rw [HR.out]; rfl, HS_y18.out.low⟩
        · replace HR := hide (HR.out.trans ((if_pos (Or.inr hl_e1)).trans ((if_pos (Or.inl rfl)).trans ((if_neg (fun z => hz_e1 z.1)).trans (if_neg hg0)))))
          obtain ⟨ga, gb, gc⟩ := rne hg0
          clear hg0
          clear hz_e1 hl_e1
          go_enter Tryz.func31, Tryz.ntmps31
          go_upto_region 4 with (first
            | ((with_reducible refine at_slot 7 ?_); refine wpList_box_blk rfl 43 _ rfl (secV s) rfl ?_; intro y1 hbq hl1 hs1; have HS_y1 : Hid (Rox w y1 [(w.heap.size, 43, secL s)] A n c X) := hide (HS_w.out.var hl1 (Nat.le_refl _) hbq); clear hbq hl1 hs1)
            | ((with_reducible refine at_slot 8 ?_); refine wpList_alloc_blk rfl 43 rfl _ (sec_zero _) ?_; intro y2 hbq hl1 hs1; have HS_y2 : Hid (Rox w y2 [(w.heap.size, 43, secL s), (y1.heap.size, 43, secL zeroSec)] A n c X) := hide (HS_y1.out.var hl1 (Nat.le_refl _) hbq); clear hbq hl1 hs1)
            | (go_at_call 32; refine (HS_y2.out.rhome (k : Int)).mono ?_; rintro _ y3 ⟨rfl, hsq⟩; rw [HH.out.1, HH.out.2]; have HS_y3 : Hid (Rox w y3 [(w.heap.size, 43, secL s), (y1.heap.size, 43, secL zeroSec)] A n c X) := hide (hsq); clear hsq)
            | ((with_reducible refine at_slot 10 ?_); refine wpList_alloc_blk rfl 47 rfl _ (mplace_zero _) ?_; intro y4 hbq hl1 hs1; clear hs1)
            | ((with_reducible refine at_store 10 ?_); refine wpList_store_all rfl 47 (.tmp 10) (.tmp 28) rfl y3.heap.size 47 _ hbq rfl (plC p) rfl mplace_info rfl (plC_one _) ?_; intro y5 hbz hg hs; have HS_y5 : Hid (Rox w y5 [(w.heap.size, 43, secL s), (y1.heap.size, 43, secL zeroSec), (y3.heap.size, 47, plC p)] A n c X) := hide (HS_y3.out.new hl1 hg hbz); clear hs hbq hl1 hg hbz))
          go_upto_region 8 with (first
            | ((with_reducible refine at_slot 36 ?_); refine when_own rfl (.tmp 10) rfl HS_y5.out.own 2 rfl rfl Tryz.underlying47 rfl mplace_info ?_)
            | (go_at_call 14; refine (HRA.out _ HS_y5.out.low).mono ?_; rintro _ y6 ⟨rfl, hlq⟩; have HL_y6 := hide hlq; have HS_y6 : Hid (Rox w y6 [(w.heap.size, 43, secL s), (y1.heap.size, 43, secL zeroSec), (y3.heap.size, 47, plC p)] A n c X) := hide (HS_y5.out.later hlq); clear hlq)
            | ((with_reducible refine at_slot 12 ?_); refine wpList_alloc_blk rfl 43 rfl _ (sec_zero _) ?_; intro y7 hbq hl1 hs1; clear hs1)
            | ((with_reducible refine at_store 12 ?_); refine wpList_store_all rfl 43 (.tmp 12) (.tmp 38) rfl y6.heap.size 43 _ hbq rfl (secL s1) rfl (msec_size _) (msec_len _ _) (secL_one _) ?_; intro y8 hbz hg hs; have HS_y8 : Hid (Rox w y8 [(w.heap.size, 43, secL s), (y1.heap.size, 43, secL zeroSec), (y3.heap.size, 47, plC p), (y6.heap.size, 43, secL s1)] A n c X) := hide (HS_y6.out.new hl1 hg hbz); clear hs hbq hl1 hg hbz)
            | (go_at_call 66; refine (HLO_e1.out _).mono ?_; rintro _ _ ⟨rfl, rfl⟩))
          go_upto_region 9 with (first
            | (go_at_call 33; refine (HS_y8.out.rpar (t : Int)).mono ?_; rintro _ y9 ⟨rfl, hsq⟩; rw [HP.out.1, HP.out.2]; have HS_y9 : Hid (Rox w y9 [(w.heap.size, 43, secL s), (y1.heap.size, 43, secL zeroSec), (y3.heap.size, 47, plC p), (y6.heap.size, 43, secL s1)] A n c X) := hide (hsq); clear hsq)
            | ((with_reducible refine at_slot 15 ?_); refine wpList_alloc_blk rfl 47 rfl _ (mplace_zero _) ?_; intro y10 hbq hl1 hs1; clear hs1)
            | ((with_reducible refine at_store 15 ?_); refine wpList_store_all rfl 47 (.tmp 15) (.tmp 58) rfl y9.heap.size 47 _ hbq rfl (plC q) rfl mplace_info rfl (plC_one _) ?_; intro y11 hbz hg hs; have HS_y11 : Hid (Rox w y11 [(w.heap.size, 43, secL s), (y1.heap.size, 43, secL zeroSec), (y3.heap.size, 47, plC p), (y6.heap.size, 43, secL s1), (y9.heap.size, 47, plC q)] A n c X) := hide (HS_y9.out.new hl1 hg hbz); clear hs hbq hl1 hg hbz))
          go_upto_region 13 with (first
            | ((with_reducible refine at_slot 62 ?_); refine when_own rfl (.tmp 15) rfl HS_y11.out.own 4 rfl rfl Tryz.underlying47 rfl mplace_info ?_)
            | (go_at_call 14; refine (HRB.out _ HS_y11.out.low).mono ?_; rintro _ y12 ⟨rfl, hlq⟩; have HL_y12 := hide hlq; have HS_y12 : Hid (Rox w y12 [(w.heap.size, 43, secL s), (y1.heap.size, 43, secL zeroSec), (y3.heap.size, 47, plC p), (y6.heap.size, 43, secL s1), (y9.heap.size, 47, plC q)] A n c X) := hide (HS_y11.out.later hlq); clear hlq)
            | ((with_reducible refine at_slot 17 ?_); refine wpList_alloc_blk rfl 43 rfl _ (sec_zero _) ?_; intro y13 hbq hl1 hs1; clear hs1)
            | ((with_reducible refine at_store 17 ?_); refine wpList_store_all rfl 43 (.tmp 17) (.tmp 64) rfl y12.heap.size 43 _ hbq rfl (secL s2) rfl (msec_size _) (msec_len _ _) (secL_one _) ?_; intro y14 hbz hg hs; have HS_y14 : Hid (Rox w y14 [(w.heap.size, 43, secL s), (y1.heap.size, 43, secL zeroSec), (y3.heap.size, 47, plC p), (y6.heap.size, 43, secL s1), (y9.heap.size, 47, plC q), (y12.heap.size, 43, secL s2)] A n c X) := hide (HS_y12.out.new hl1 hg hbz); clear hs hbq hl1 hg hbz)
            | (go_at_call 66; refine (HLO_e2.out _).mono ?_; rintro _ _ ⟨rfl, rfl⟩))
          go_upto_region 16 with (first
            | (go_at_call 67; refine (HS_y14.out.rmates (k : Int)).mono ?_; rintro _ y15 ⟨B_y15, m_y15, k_y15, rfl, hrd, hcp, hcm, hlq, hsq⟩; rw [HM.out] at hrd; have HR_y15 := hide hrd; have HC_y15 := hide (And.intro hcp hcm); have HL_y15 := hide hlq; have HS_y15 : Hid (Rox w y15 [(w.heap.size, 43, secL s), (y1.heap.size, 43, secL zeroSec), (y3.heap.size, 47, plC p), (y6.heap.size, 43, secL s1), (y9.heap.size, 47, plC q), (y12.heap.size, 43, secL s2)] A n c X) := hide hsq; clear hsq hrd hcp hcm hlq))
          have hql : m_y15 = M.length + 1 := by have h := HR_y15.out.1; rw [plsL_length, List.length_append, List.length_singleton] at h; omega
          have hfr := pl_front HR_y15.out
          rw [show m_y15 - 1 = M.length by omega] at hfr
          have HFR := hide hfr
          have hcp := HC_y15.out
          have hcm : M.length + 1 ≤ k_y15 := by have := hcp.1; omega
          subst hql
          clear hfr hcp
          have hml := HML.out
          go_upto_region 17 with (first
            | (go_at_call 68; go_loud (refine (HGA.out _ HS_y15.out.low B_y15 M.length k_y15 M HFR.out (by have := HML.out; omega)).mono ?_); rintro _ y16 ⟨A2, m2, c2, rfl, hgg, hlq⟩; rw [HG.out] at hgg ⊢; have HGG := hide hgg; have HLQ := hide hlq; have HS_y16 : Hid (Rox w y16 [(w.heap.size, 43, secL s), (y1.heap.size, 43, secL zeroSec), (y3.heap.size, 47, plC p), (y6.heap.size, 43, secL s1), (y9.heap.size, 47, plC q), (y12.heap.size, 43, secL s2)] A n c X) := hide (HS_y15.out.later hlq); clear hgg hlq))
          go_wp2_with (first
            | ((with_reducible refine at_slot 104 ?_); refine wpList_build_is rfl 43 #[] rfl [] (by simp) _ HBZ.out ?_)
            | ((with_reducible refine at_store 8 ?_); refine wpList_store_all rfl 43 (.tmp 8) (.tmp 104) rfl y1.heap.size 43 _ (HS_y16.out.own.blk 1 rfl) rfl (secL zeroSec) rfl (msec_size _) (msec_len _ zeroSec) (secL_one _) ?_; intro y17 hbz hg hs; have HS_y17 : Hid (Rox w y17 [(w.heap.size, 43, secL s), (y1.heap.size, 43, secL zeroSec), (y3.heap.size, 47, plC p), (y6.heap.size, 43, secL s1), (y9.heap.size, 47, plC q), (y12.heap.size, 43, secL s2)] A n c X) := hide (HS_y16.out.poke 1 rfl (by decide) hbz hg); clear hs hg hbz))
          refine ret_cell_tmp rfl _ 43 (secL zeroSec) _ (HS_y17.out.own.blk 1 rfl) rfl Tryz.underlying43 rfl (msec_size _) (.int .i64 (g : Int)) rfl rfl ⟨by rw [HR.out]; rfl, HS_y17.out.low⟩
      · obtain ⟨e2a, e2b, e2c⟩ := rne hz_e2
        by_cases hl_e2 : lostB e2 = true
        · have HLO_e2 := hide (fun w => hl_e2 ▸ rlost_any e2 w)
          by_cases hg0 : g = 0
          · subst hg0
            replace HR := hide (HR.out.trans ((if_pos (Or.inr hl_e1)).trans ((if_pos (Or.inr hl_e2)).trans ((if_neg (fun z => hz_e1 z.1)).trans (if_pos rfl)))))
            clear hz_e1 hl_e1
            clear hz_e2 hl_e2
            go_enter Tryz.func31, Tryz.ntmps31
            go_upto_region 4 with (first
              | ((with_reducible refine at_slot 7 ?_); refine wpList_box_blk rfl 43 _ rfl (secV s) rfl ?_; intro y1 hbq hl1 hs1; have HS_y1 : Hid (Rox w y1 [(w.heap.size, 43, secL s)] A n c X) := hide (HS_w.out.var hl1 (Nat.le_refl _) hbq); clear hbq hl1 hs1)
              | ((with_reducible refine at_slot 8 ?_); refine wpList_alloc_blk rfl 43 rfl _ (sec_zero _) ?_; intro y2 hbq hl1 hs1; have HS_y2 : Hid (Rox w y2 [(w.heap.size, 43, secL s), (y1.heap.size, 43, secL zeroSec)] A n c X) := hide (HS_y1.out.var hl1 (Nat.le_refl _) hbq); clear hbq hl1 hs1)
              | (go_at_call 32; refine (HS_y2.out.rhome (k : Int)).mono ?_; rintro _ y3 ⟨rfl, hsq⟩; rw [HH.out.1, HH.out.2]; have HS_y3 : Hid (Rox w y3 [(w.heap.size, 43, secL s), (y1.heap.size, 43, secL zeroSec)] A n c X) := hide (hsq); clear hsq)
              | ((with_reducible refine at_slot 10 ?_); refine wpList_alloc_blk rfl 47 rfl _ (mplace_zero _) ?_; intro y4 hbq hl1 hs1; clear hs1)
              | ((with_reducible refine at_store 10 ?_); refine wpList_store_all rfl 47 (.tmp 10) (.tmp 28) rfl y3.heap.size 47 _ hbq rfl (plC p) rfl mplace_info rfl (plC_one _) ?_; intro y5 hbz hg hs; have HS_y5 : Hid (Rox w y5 [(w.heap.size, 43, secL s), (y1.heap.size, 43, secL zeroSec), (y3.heap.size, 47, plC p)] A n c X) := hide (HS_y3.out.new hl1 hg hbz); clear hs hbq hl1 hg hbz))
            go_upto_region 8 with (first
              | ((with_reducible refine at_slot 36 ?_); refine when_own rfl (.tmp 10) rfl HS_y5.out.own 2 rfl rfl Tryz.underlying47 rfl mplace_info ?_)
              | (go_at_call 14; refine (HRA.out _ HS_y5.out.low).mono ?_; rintro _ y6 ⟨rfl, hlq⟩; have HL_y6 := hide hlq; have HS_y6 : Hid (Rox w y6 [(w.heap.size, 43, secL s), (y1.heap.size, 43, secL zeroSec), (y3.heap.size, 47, plC p)] A n c X) := hide (HS_y5.out.later hlq); clear hlq)
              | ((with_reducible refine at_slot 12 ?_); refine wpList_alloc_blk rfl 43 rfl _ (sec_zero _) ?_; intro y7 hbq hl1 hs1; clear hs1)
              | ((with_reducible refine at_store 12 ?_); refine wpList_store_all rfl 43 (.tmp 12) (.tmp 38) rfl y6.heap.size 43 _ hbq rfl (secL s1) rfl (msec_size _) (msec_len _ _) (secL_one _) ?_; intro y8 hbz hg hs; have HS_y8 : Hid (Rox w y8 [(w.heap.size, 43, secL s), (y1.heap.size, 43, secL zeroSec), (y3.heap.size, 47, plC p), (y6.heap.size, 43, secL s1)] A n c X) := hide (HS_y6.out.new hl1 hg hbz); clear hs hbq hl1 hg hbz)
              | (go_at_call 66; refine (HLO_e1.out _).mono ?_; rintro _ _ ⟨rfl, rfl⟩))
            go_upto_region 9 with (first
              | (go_at_call 33; refine (HS_y8.out.rpar (t : Int)).mono ?_; rintro _ y9 ⟨rfl, hsq⟩; rw [HP.out.1, HP.out.2]; have HS_y9 : Hid (Rox w y9 [(w.heap.size, 43, secL s), (y1.heap.size, 43, secL zeroSec), (y3.heap.size, 47, plC p), (y6.heap.size, 43, secL s1)] A n c X) := hide (hsq); clear hsq)
              | ((with_reducible refine at_slot 15 ?_); refine wpList_alloc_blk rfl 47 rfl _ (mplace_zero _) ?_; intro y10 hbq hl1 hs1; clear hs1)
              | ((with_reducible refine at_store 15 ?_); refine wpList_store_all rfl 47 (.tmp 15) (.tmp 58) rfl y9.heap.size 47 _ hbq rfl (plC q) rfl mplace_info rfl (plC_one _) ?_; intro y11 hbz hg hs; have HS_y11 : Hid (Rox w y11 [(w.heap.size, 43, secL s), (y1.heap.size, 43, secL zeroSec), (y3.heap.size, 47, plC p), (y6.heap.size, 43, secL s1), (y9.heap.size, 47, plC q)] A n c X) := hide (HS_y9.out.new hl1 hg hbz); clear hs hbq hl1 hg hbz))
            go_upto_region 13 with (first
              | ((with_reducible refine at_slot 62 ?_); refine when_own rfl (.tmp 15) rfl HS_y11.out.own 4 rfl rfl Tryz.underlying47 rfl mplace_info ?_)
              | (go_at_call 14; refine (HRB.out _ HS_y11.out.low).mono ?_; rintro _ y12 ⟨rfl, hlq⟩; have HL_y12 := hide hlq; have HS_y12 : Hid (Rox w y12 [(w.heap.size, 43, secL s), (y1.heap.size, 43, secL zeroSec), (y3.heap.size, 47, plC p), (y6.heap.size, 43, secL s1), (y9.heap.size, 47, plC q)] A n c X) := hide (HS_y11.out.later hlq); clear hlq)
              | ((with_reducible refine at_slot 17 ?_); refine wpList_alloc_blk rfl 43 rfl _ (sec_zero _) ?_; intro y13 hbq hl1 hs1; clear hs1)
              | ((with_reducible refine at_store 17 ?_); refine wpList_store_all rfl 43 (.tmp 17) (.tmp 64) rfl y12.heap.size 43 _ hbq rfl (secL s2) rfl (msec_size _) (msec_len _ _) (secL_one _) ?_; intro y14 hbz hg hs; have HS_y14 : Hid (Rox w y14 [(w.heap.size, 43, secL s), (y1.heap.size, 43, secL zeroSec), (y3.heap.size, 47, plC p), (y6.heap.size, 43, secL s1), (y9.heap.size, 47, plC q), (y12.heap.size, 43, secL s2)] A n c X) := hide (HS_y12.out.new hl1 hg hbz); clear hs hbq hl1 hg hbz)
              | (go_at_call 66; refine (HLO_e2.out _).mono ?_; rintro _ _ ⟨rfl, rfl⟩))
            go_upto_region 16 with (first
              | (go_at_call 67; refine (HS_y14.out.rmates (k : Int)).mono ?_; rintro _ y15 ⟨B_y15, m_y15, k_y15, rfl, hrd, hcp, hcm, hlq, hsq⟩; rw [HM.out] at hrd; have HR_y15 := hide hrd; have HC_y15 := hide (And.intro hcp hcm); have HL_y15 := hide hlq; have HS_y15 : Hid (Rox w y15 [(w.heap.size, 43, secL s), (y1.heap.size, 43, secL zeroSec), (y3.heap.size, 47, plC p), (y6.heap.size, 43, secL s1), (y9.heap.size, 47, plC q), (y12.heap.size, 43, secL s2)] A n c X) := hide hsq; clear hsq hrd hcp hcm hlq))
            have hql : m_y15 = M.length + 1 := by have h := HR_y15.out.1; rw [plsL_length, List.length_append, List.length_singleton] at h; omega
            have hfr := pl_front HR_y15.out
            rw [show m_y15 - 1 = M.length by omega] at hfr
            have HFR := hide hfr
            have hcp := HC_y15.out
            have hcm : M.length + 1 ≤ k_y15 := by have := hcp.1; omega
            subst hql
            clear hfr hcp
            have hml := HML.out
            go_upto_region 17 with (first
              | (go_at_call 68; go_loud (refine (HGA.out _ HS_y15.out.low B_y15 M.length k_y15 M HFR.out (by have := HML.out; omega)).mono ?_); rintro _ y16 ⟨A2, m2, c2, rfl, hgg, hlq⟩; rw [HG.out] at hgg ⊢; have HGG := hide hgg; have HLQ := hide hlq; have HS_y16 : Hid (Rox w y16 [(w.heap.size, 43, secL s), (y1.heap.size, 43, secL zeroSec), (y3.heap.size, 47, plC p), (y6.heap.size, 43, secL s1), (y9.heap.size, 47, plC q), (y12.heap.size, 43, secL s2)] A n c X) := hide (HS_y15.out.later hlq); clear hgg hlq))
            obtain ⟨hm2, ho2⟩ := HGG.out (by trivial)
            subst hm2
            have HOW := hide ho2
            clear ho2
            go_wp2_with (first
              | ((with_reducible refine at_slot 107 ?_); refine when_own rfl (.tmp 7) rfl HS_y16.out.own 0 rfl rfl Tryz.underlying43 rfl (msec_size _) ?_)
              | ((with_reducible refine at_slot 108 ?_); refine wpList_oneG rfl (.tmp 107) rfl s rfl ?_)
              | ((with_reducible refine at_slot 109 ?_); refine wpList_pushG rfl (.tmp 106) (.tmp 108) rfl y15.heap.size A2 M.length c2 (M.map S.readP) s rfl HOW.out rfl rfl (by have := HML.out; omega) HLQ.out.size ?_; intro A5 c5 z5 ho5 hl5; have HS_z5 : Hid (Rox w z5 [(w.heap.size, 43, secL s), (y1.heap.size, 43, secL zeroSec), (y3.heap.size, 47, plC p), (y6.heap.size, 43, secL s1), (y9.heap.size, 47, plC q), (y12.heap.size, 43, secL s2)] A n c X) := hide (HS_y15.out.later (HLQ.out.trans hl5)); have HO5 := hide ho5; clear ho5 hl5)
              | (go_at_call 65; refine (rbuild_any _ A5 (M.length + 1) c5 (M.map S.readP ++ [s]) (Reads.of_own HO5.out) (by rw [List.length_append, List.length_map]; rfl) (by have := HML.out; omega)).mono ?_; rintro _ y17 ⟨rfl, hlq⟩; have HS_y17 : Hid (Rox w y17 [(w.heap.size, 43, secL s), (y1.heap.size, 43, secL zeroSec), (y3.heap.size, 47, plC p), (y6.heap.size, 43, secL s1), (y9.heap.size, 47, plC q), (y12.heap.size, 43, secL s2)] A n c X) := hide (HS_z5.out.later hlq); clear hlq)
              | ((with_reducible refine at_store 8 ?_); refine wpList_store_all rfl 43 (.tmp 8) (.tmp 110) rfl y1.heap.size 43 _ (HS_y17.out.own.blk 1 rfl) rfl (secL (parS (M.map S.readP ++ [s]))) rfl (msec_size _) (msec_len _ zeroSec) (secL_one _) ?_; intro y18 hbz hg hs; have HS_y18 : Hid (Rox w y18 [(w.heap.size, 43, secL s), (y1.heap.size, 43, secL (parS (M.map S.readP ++ [s]))), (y3.heap.size, 47, plC p), (y6.heap.size, 43, secL s1), (y9.heap.size, 47, plC q), (y12.heap.size, 43, secL s2)] A n c X) := hide (HS_y17.out.poke 1 rfl (by decide) hbz hg); clear hs hg hbz))
            refine ret_cell_tmp rfl _ 43 (secL (parS (M.map S.readP ++ [s]))) _ (HS_y18.out.own.blk 1 rfl) rfl Tryz.underlying43 rfl (msec_size _) (.int .i64 0) rfl rfl ⟨by rw [HR.out]; rfl, HS_y18.out.low⟩
          · replace HR := hide (HR.out.trans ((if_pos (Or.inr hl_e1)).trans ((if_pos (Or.inr hl_e2)).trans ((if_neg (fun z => hz_e1 z.1)).trans (if_neg hg0)))))
            obtain ⟨ga, gb, gc⟩ := rne hg0
            clear hg0
            clear hz_e1 hl_e1
            clear hz_e2 hl_e2
            go_enter Tryz.func31, Tryz.ntmps31
            go_upto_region 4 with (first
              | ((with_reducible refine at_slot 7 ?_); refine wpList_box_blk rfl 43 _ rfl (secV s) rfl ?_; intro y1 hbq hl1 hs1; have HS_y1 : Hid (Rox w y1 [(w.heap.size, 43, secL s)] A n c X) := hide (HS_w.out.var hl1 (Nat.le_refl _) hbq); clear hbq hl1 hs1)
              | ((with_reducible refine at_slot 8 ?_); refine wpList_alloc_blk rfl 43 rfl _ (sec_zero _) ?_; intro y2 hbq hl1 hs1; have HS_y2 : Hid (Rox w y2 [(w.heap.size, 43, secL s), (y1.heap.size, 43, secL zeroSec)] A n c X) := hide (HS_y1.out.var hl1 (Nat.le_refl _) hbq); clear hbq hl1 hs1)
              | (go_at_call 32; refine (HS_y2.out.rhome (k : Int)).mono ?_; rintro _ y3 ⟨rfl, hsq⟩; rw [HH.out.1, HH.out.2]; have HS_y3 : Hid (Rox w y3 [(w.heap.size, 43, secL s), (y1.heap.size, 43, secL zeroSec)] A n c X) := hide (hsq); clear hsq)
              | ((with_reducible refine at_slot 10 ?_); refine wpList_alloc_blk rfl 47 rfl _ (mplace_zero _) ?_; intro y4 hbq hl1 hs1; clear hs1)
              | ((with_reducible refine at_store 10 ?_); refine wpList_store_all rfl 47 (.tmp 10) (.tmp 28) rfl y3.heap.size 47 _ hbq rfl (plC p) rfl mplace_info rfl (plC_one _) ?_; intro y5 hbz hg hs; have HS_y5 : Hid (Rox w y5 [(w.heap.size, 43, secL s), (y1.heap.size, 43, secL zeroSec), (y3.heap.size, 47, plC p)] A n c X) := hide (HS_y3.out.new hl1 hg hbz); clear hs hbq hl1 hg hbz))
            go_upto_region 8 with (first
              | ((with_reducible refine at_slot 36 ?_); refine when_own rfl (.tmp 10) rfl HS_y5.out.own 2 rfl rfl Tryz.underlying47 rfl mplace_info ?_)
              | (go_at_call 14; refine (HRA.out _ HS_y5.out.low).mono ?_; rintro _ y6 ⟨rfl, hlq⟩; have HL_y6 := hide hlq; have HS_y6 : Hid (Rox w y6 [(w.heap.size, 43, secL s), (y1.heap.size, 43, secL zeroSec), (y3.heap.size, 47, plC p)] A n c X) := hide (HS_y5.out.later hlq); clear hlq)
              | ((with_reducible refine at_slot 12 ?_); refine wpList_alloc_blk rfl 43 rfl _ (sec_zero _) ?_; intro y7 hbq hl1 hs1; clear hs1)
              | ((with_reducible refine at_store 12 ?_); refine wpList_store_all rfl 43 (.tmp 12) (.tmp 38) rfl y6.heap.size 43 _ hbq rfl (secL s1) rfl (msec_size _) (msec_len _ _) (secL_one _) ?_; intro y8 hbz hg hs; have HS_y8 : Hid (Rox w y8 [(w.heap.size, 43, secL s), (y1.heap.size, 43, secL zeroSec), (y3.heap.size, 47, plC p), (y6.heap.size, 43, secL s1)] A n c X) := hide (HS_y6.out.new hl1 hg hbz); clear hs hbq hl1 hg hbz)
              | (go_at_call 66; refine (HLO_e1.out _).mono ?_; rintro _ _ ⟨rfl, rfl⟩))
            go_upto_region 9 with (first
              | (go_at_call 33; refine (HS_y8.out.rpar (t : Int)).mono ?_; rintro _ y9 ⟨rfl, hsq⟩; rw [HP.out.1, HP.out.2]; have HS_y9 : Hid (Rox w y9 [(w.heap.size, 43, secL s), (y1.heap.size, 43, secL zeroSec), (y3.heap.size, 47, plC p), (y6.heap.size, 43, secL s1)] A n c X) := hide (hsq); clear hsq)
              | ((with_reducible refine at_slot 15 ?_); refine wpList_alloc_blk rfl 47 rfl _ (mplace_zero _) ?_; intro y10 hbq hl1 hs1; clear hs1)
              | ((with_reducible refine at_store 15 ?_); refine wpList_store_all rfl 47 (.tmp 15) (.tmp 58) rfl y9.heap.size 47 _ hbq rfl (plC q) rfl mplace_info rfl (plC_one _) ?_; intro y11 hbz hg hs; have HS_y11 : Hid (Rox w y11 [(w.heap.size, 43, secL s), (y1.heap.size, 43, secL zeroSec), (y3.heap.size, 47, plC p), (y6.heap.size, 43, secL s1), (y9.heap.size, 47, plC q)] A n c X) := hide (HS_y9.out.new hl1 hg hbz); clear hs hbq hl1 hg hbz))
            go_upto_region 13 with (first
              | ((with_reducible refine at_slot 62 ?_); refine when_own rfl (.tmp 15) rfl HS_y11.out.own 4 rfl rfl Tryz.underlying47 rfl mplace_info ?_)
              | (go_at_call 14; refine (HRB.out _ HS_y11.out.low).mono ?_; rintro _ y12 ⟨rfl, hlq⟩; have HL_y12 := hide hlq; have HS_y12 : Hid (Rox w y12 [(w.heap.size, 43, secL s), (y1.heap.size, 43, secL zeroSec), (y3.heap.size, 47, plC p), (y6.heap.size, 43, secL s1), (y9.heap.size, 47, plC q)] A n c X) := hide (HS_y11.out.later hlq); clear hlq)
              | ((with_reducible refine at_slot 17 ?_); refine wpList_alloc_blk rfl 43 rfl _ (sec_zero _) ?_; intro y13 hbq hl1 hs1; clear hs1)
              | ((with_reducible refine at_store 17 ?_); refine wpList_store_all rfl 43 (.tmp 17) (.tmp 64) rfl y12.heap.size 43 _ hbq rfl (secL s2) rfl (msec_size _) (msec_len _ _) (secL_one _) ?_; intro y14 hbz hg hs; have HS_y14 : Hid (Rox w y14 [(w.heap.size, 43, secL s), (y1.heap.size, 43, secL zeroSec), (y3.heap.size, 47, plC p), (y6.heap.size, 43, secL s1), (y9.heap.size, 47, plC q), (y12.heap.size, 43, secL s2)] A n c X) := hide (HS_y12.out.new hl1 hg hbz); clear hs hbq hl1 hg hbz)
              | (go_at_call 66; refine (HLO_e2.out _).mono ?_; rintro _ _ ⟨rfl, rfl⟩))
            go_upto_region 16 with (first
              | (go_at_call 67; refine (HS_y14.out.rmates (k : Int)).mono ?_; rintro _ y15 ⟨B_y15, m_y15, k_y15, rfl, hrd, hcp, hcm, hlq, hsq⟩; rw [HM.out] at hrd; have HR_y15 := hide hrd; have HC_y15 := hide (And.intro hcp hcm); have HL_y15 := hide hlq; have HS_y15 : Hid (Rox w y15 [(w.heap.size, 43, secL s), (y1.heap.size, 43, secL zeroSec), (y3.heap.size, 47, plC p), (y6.heap.size, 43, secL s1), (y9.heap.size, 47, plC q), (y12.heap.size, 43, secL s2)] A n c X) := hide hsq; clear hsq hrd hcp hcm hlq))
            have hql : m_y15 = M.length + 1 := by have h := HR_y15.out.1; rw [plsL_length, List.length_append, List.length_singleton] at h; omega
            have hfr := pl_front HR_y15.out
            rw [show m_y15 - 1 = M.length by omega] at hfr
            have HFR := hide hfr
            have hcp := HC_y15.out
            have hcm : M.length + 1 ≤ k_y15 := by have := hcp.1; omega
            subst hql
            clear hfr hcp
            have hml := HML.out
            go_upto_region 17 with (first
              | (go_at_call 68; go_loud (refine (HGA.out _ HS_y15.out.low B_y15 M.length k_y15 M HFR.out (by have := HML.out; omega)).mono ?_); rintro _ y16 ⟨A2, m2, c2, rfl, hgg, hlq⟩; rw [HG.out] at hgg ⊢; have HGG := hide hgg; have HLQ := hide hlq; have HS_y16 : Hid (Rox w y16 [(w.heap.size, 43, secL s), (y1.heap.size, 43, secL zeroSec), (y3.heap.size, 47, plC p), (y6.heap.size, 43, secL s1), (y9.heap.size, 47, plC q), (y12.heap.size, 43, secL s2)] A n c X) := hide (HS_y15.out.later hlq); clear hgg hlq))
            go_wp2_with (first
              | ((with_reducible refine at_slot 104 ?_); refine wpList_build_is rfl 43 #[] rfl [] (by simp) _ HBZ.out ?_)
              | ((with_reducible refine at_store 8 ?_); refine wpList_store_all rfl 43 (.tmp 8) (.tmp 104) rfl y1.heap.size 43 _ (HS_y16.out.own.blk 1 rfl) rfl (secL zeroSec) rfl (msec_size _) (msec_len _ zeroSec) (secL_one _) ?_; intro y17 hbz hg hs; have HS_y17 : Hid (Rox w y17 [(w.heap.size, 43, secL s), (y1.heap.size, 43, secL zeroSec), (y3.heap.size, 47, plC p), (y6.heap.size, 43, secL s1), (y9.heap.size, 47, plC q), (y12.heap.size, 43, secL s2)] A n c X) := hide (HS_y16.out.poke 1 rfl (by decide) hbz hg); clear hs hg hbz))
            refine ret_cell_tmp rfl _ 43 (secL zeroSec) _ (HS_y17.out.own.blk 1 rfl) rfl Tryz.underlying43 rfl (msec_size _) (.int .i64 (g : Int)) rfl rfl ⟨by rw [HR.out]; rfl, HS_y17.out.low⟩
        · have hf_e2 : lostB e2 = false := by simpa using hl_e2
          have HLO_e2 := hide (fun w => hf_e2 ▸ rlost_any e2 w)
          clear hf_e2
          replace HR := hide (HR.out.trans ((if_pos (Or.inr hl_e1)).trans (if_neg (fun q => q.elim hz_e2 hl_e2))))
          clear hz_e1 hl_e1
          clear hz_e2 hl_e2
          go_enter Tryz.func31, Tryz.ntmps31
          go_upto_region 4 with (first
            | ((with_reducible refine at_slot 7 ?_); refine wpList_box_blk rfl 43 _ rfl (secV s) rfl ?_; intro y1 hbq hl1 hs1; have HS_y1 : Hid (Rox w y1 [(w.heap.size, 43, secL s)] A n c X) := hide (HS_w.out.var hl1 (Nat.le_refl _) hbq); clear hbq hl1 hs1)
            | ((with_reducible refine at_slot 8 ?_); refine wpList_alloc_blk rfl 43 rfl _ (sec_zero _) ?_; intro y2 hbq hl1 hs1; have HS_y2 : Hid (Rox w y2 [(w.heap.size, 43, secL s), (y1.heap.size, 43, secL zeroSec)] A n c X) := hide (HS_y1.out.var hl1 (Nat.le_refl _) hbq); clear hbq hl1 hs1)
            | (go_at_call 32; refine (HS_y2.out.rhome (k : Int)).mono ?_; rintro _ y3 ⟨rfl, hsq⟩; rw [HH.out.1, HH.out.2]; have HS_y3 : Hid (Rox w y3 [(w.heap.size, 43, secL s), (y1.heap.size, 43, secL zeroSec)] A n c X) := hide (hsq); clear hsq)
            | ((with_reducible refine at_slot 10 ?_); refine wpList_alloc_blk rfl 47 rfl _ (mplace_zero _) ?_; intro y4 hbq hl1 hs1; clear hs1)
            | ((with_reducible refine at_store 10 ?_); refine wpList_store_all rfl 47 (.tmp 10) (.tmp 28) rfl y3.heap.size 47 _ hbq rfl (plC p) rfl mplace_info rfl (plC_one _) ?_; intro y5 hbz hg hs; have HS_y5 : Hid (Rox w y5 [(w.heap.size, 43, secL s), (y1.heap.size, 43, secL zeroSec), (y3.heap.size, 47, plC p)] A n c X) := hide (HS_y3.out.new hl1 hg hbz); clear hs hbq hl1 hg hbz))
          go_upto_region 8 with (first
            | ((with_reducible refine at_slot 36 ?_); refine when_own rfl (.tmp 10) rfl HS_y5.out.own 2 rfl rfl Tryz.underlying47 rfl mplace_info ?_)
            | (go_at_call 14; refine (HRA.out _ HS_y5.out.low).mono ?_; rintro _ y6 ⟨rfl, hlq⟩; have HL_y6 := hide hlq; have HS_y6 : Hid (Rox w y6 [(w.heap.size, 43, secL s), (y1.heap.size, 43, secL zeroSec), (y3.heap.size, 47, plC p)] A n c X) := hide (HS_y5.out.later hlq); clear hlq)
            | ((with_reducible refine at_slot 12 ?_); refine wpList_alloc_blk rfl 43 rfl _ (sec_zero _) ?_; intro y7 hbq hl1 hs1; clear hs1)
            | ((with_reducible refine at_store 12 ?_); refine wpList_store_all rfl 43 (.tmp 12) (.tmp 38) rfl y6.heap.size 43 _ hbq rfl (secL s1) rfl (msec_size _) (msec_len _ _) (secL_one _) ?_; intro y8 hbz hg hs; have HS_y8 : Hid (Rox w y8 [(w.heap.size, 43, secL s), (y1.heap.size, 43, secL zeroSec), (y3.heap.size, 47, plC p), (y6.heap.size, 43, secL s1)] A n c X) := hide (HS_y6.out.new hl1 hg hbz); clear hs hbq hl1 hg hbz)
            | (go_at_call 66; refine (HLO_e1.out _).mono ?_; rintro _ _ ⟨rfl, rfl⟩))
          go_upto_region 9 with (first
            | (go_at_call 33; refine (HS_y8.out.rpar (t : Int)).mono ?_; rintro _ y9 ⟨rfl, hsq⟩; rw [HP.out.1, HP.out.2]; have HS_y9 : Hid (Rox w y9 [(w.heap.size, 43, secL s), (y1.heap.size, 43, secL zeroSec), (y3.heap.size, 47, plC p), (y6.heap.size, 43, secL s1)] A n c X) := hide (hsq); clear hsq)
            | ((with_reducible refine at_slot 15 ?_); refine wpList_alloc_blk rfl 47 rfl _ (mplace_zero _) ?_; intro y10 hbq hl1 hs1; clear hs1)
            | ((with_reducible refine at_store 15 ?_); refine wpList_store_all rfl 47 (.tmp 15) (.tmp 58) rfl y9.heap.size 47 _ hbq rfl (plC q) rfl mplace_info rfl (plC_one _) ?_; intro y11 hbz hg hs; have HS_y11 : Hid (Rox w y11 [(w.heap.size, 43, secL s), (y1.heap.size, 43, secL zeroSec), (y3.heap.size, 47, plC p), (y6.heap.size, 43, secL s1), (y9.heap.size, 47, plC q)] A n c X) := hide (HS_y9.out.new hl1 hg hbz); clear hs hbq hl1 hg hbz))
          go_wp2_with (first
            | ((with_reducible refine at_slot 62 ?_); refine when_own rfl (.tmp 15) rfl HS_y11.out.own 4 rfl rfl Tryz.underlying47 rfl mplace_info ?_)
            | (go_at_call 14; refine (HRB.out _ HS_y11.out.low).mono ?_; rintro _ y12 ⟨rfl, hlq⟩; have HL_y12 := hide hlq; have HS_y12 : Hid (Rox w y12 [(w.heap.size, 43, secL s), (y1.heap.size, 43, secL zeroSec), (y3.heap.size, 47, plC p), (y6.heap.size, 43, secL s1), (y9.heap.size, 47, plC q)] A n c X) := hide (HS_y11.out.later hlq); clear hlq)
            | ((with_reducible refine at_slot 17 ?_); refine wpList_alloc_blk rfl 43 rfl _ (sec_zero _) ?_; intro y13 hbq hl1 hs1; clear hs1)
            | ((with_reducible refine at_store 17 ?_); refine wpList_store_all rfl 43 (.tmp 17) (.tmp 64) rfl y12.heap.size 43 _ hbq rfl (secL s2) rfl (msec_size _) (msec_len _ _) (secL_one _) ?_; intro y14 hbz hg hs; have HS_y14 : Hid (Rox w y14 [(w.heap.size, 43, secL s), (y1.heap.size, 43, secL zeroSec), (y3.heap.size, 47, plC p), (y6.heap.size, 43, secL s1), (y9.heap.size, 47, plC q), (y12.heap.size, 43, secL s2)] A n c X) := hide (HS_y12.out.new hl1 hg hbz); clear hs hbq hl1 hg hbz)
            | (go_at_call 66; refine (HLO_e2.out _).mono ?_; rintro _ _ ⟨rfl, rfl⟩)
            | ((with_reducible refine at_slot 74 ?_); refine wpList_build_is rfl 43 #[] rfl [] (by simp) _ HBZ.out ?_)
            | ((with_reducible refine at_store 8 ?_); refine wpList_store_all rfl 43 (.tmp 8) (.tmp 74) rfl y1.heap.size 43 _ (HS_y14.out.own.blk 1 rfl) rfl (secL zeroSec) rfl (msec_size _) (msec_len _ zeroSec) (secL_one _) ?_; intro y15 hbz hg hs; have HS_y15 : Hid (Rox w y15 [(w.heap.size, 43, secL s), (y1.heap.size, 43, secL zeroSec), (y3.heap.size, 47, plC p), (y6.heap.size, 43, secL s1), (y9.heap.size, 47, plC q), (y12.heap.size, 43, secL s2)] A n c X) := hide (HS_y14.out.poke 1 rfl (by decide) hbz hg); clear hs hg hbz))
          refine ret_cell_tmp rfl _ 43 (secL zeroSec) _ (HS_y15.out.own.blk 1 rfl) rfl Tryz.underlying43 rfl (msec_size _) (.int .i64 (e2 : Int)) rfl rfl ⟨by rw [HR.out]; rfl, HS_y15.out.low⟩
    · have hf_e1 : lostB e1 = false := by simpa using hl_e1
      have HLO_e1 := hide (fun w => hf_e1 ▸ rlost_any e1 w)
      clear hf_e1
      replace HR := hide (HR.out.trans (if_neg (fun q => q.elim hz_e1 hl_e1)))
      clear hz_e1 hl_e1
      go_enter Tryz.func31, Tryz.ntmps31
      go_upto_region 4 with (first
        | ((with_reducible refine at_slot 7 ?_); refine wpList_box_blk rfl 43 _ rfl (secV s) rfl ?_; intro y1 hbq hl1 hs1; have HS_y1 : Hid (Rox w y1 [(w.heap.size, 43, secL s)] A n c X) := hide (HS_w.out.var hl1 (Nat.le_refl _) hbq); clear hbq hl1 hs1)
        | ((with_reducible refine at_slot 8 ?_); refine wpList_alloc_blk rfl 43 rfl _ (sec_zero _) ?_; intro y2 hbq hl1 hs1; have HS_y2 : Hid (Rox w y2 [(w.heap.size, 43, secL s), (y1.heap.size, 43, secL zeroSec)] A n c X) := hide (HS_y1.out.var hl1 (Nat.le_refl _) hbq); clear hbq hl1 hs1)
        | (go_at_call 32; refine (HS_y2.out.rhome (k : Int)).mono ?_; rintro _ y3 ⟨rfl, hsq⟩; rw [HH.out.1, HH.out.2]; have HS_y3 : Hid (Rox w y3 [(w.heap.size, 43, secL s), (y1.heap.size, 43, secL zeroSec)] A n c X) := hide (hsq); clear hsq)
        | ((with_reducible refine at_slot 10 ?_); refine wpList_alloc_blk rfl 47 rfl _ (mplace_zero _) ?_; intro y4 hbq hl1 hs1; clear hs1)
        | ((with_reducible refine at_store 10 ?_); refine wpList_store_all rfl 47 (.tmp 10) (.tmp 28) rfl y3.heap.size 47 _ hbq rfl (plC p) rfl mplace_info rfl (plC_one _) ?_; intro y5 hbz hg hs; have HS_y5 : Hid (Rox w y5 [(w.heap.size, 43, secL s), (y1.heap.size, 43, secL zeroSec), (y3.heap.size, 47, plC p)] A n c X) := hide (HS_y3.out.new hl1 hg hbz); clear hs hbq hl1 hg hbz))
      go_wp2_with (first
        | ((with_reducible refine at_slot 36 ?_); refine when_own rfl (.tmp 10) rfl HS_y5.out.own 2 rfl rfl Tryz.underlying47 rfl mplace_info ?_)
        | (go_at_call 14; refine (HRA.out _ HS_y5.out.low).mono ?_; rintro _ y6 ⟨rfl, hlq⟩; have HL_y6 := hide hlq; have HS_y6 : Hid (Rox w y6 [(w.heap.size, 43, secL s), (y1.heap.size, 43, secL zeroSec), (y3.heap.size, 47, plC p)] A n c X) := hide (HS_y5.out.later hlq); clear hlq)
        | ((with_reducible refine at_slot 12 ?_); refine wpList_alloc_blk rfl 43 rfl _ (sec_zero _) ?_; intro y7 hbq hl1 hs1; clear hs1)
        | ((with_reducible refine at_store 12 ?_); refine wpList_store_all rfl 43 (.tmp 12) (.tmp 38) rfl y6.heap.size 43 _ hbq rfl (secL s1) rfl (msec_size _) (msec_len _ _) (secL_one _) ?_; intro y8 hbz hg hs; have HS_y8 : Hid (Rox w y8 [(w.heap.size, 43, secL s), (y1.heap.size, 43, secL zeroSec), (y3.heap.size, 47, plC p), (y6.heap.size, 43, secL s1)] A n c X) := hide (HS_y6.out.new hl1 hg hbz); clear hs hbq hl1 hg hbz)
        | (go_at_call 66; refine (HLO_e1.out _).mono ?_; rintro _ _ ⟨rfl, rfl⟩)
        | ((with_reducible refine at_slot 48 ?_); refine wpList_build_is rfl 43 #[] rfl [] (by simp) _ HBZ.out ?_)
        | ((with_reducible refine at_store 8 ?_); refine wpList_store_all rfl 43 (.tmp 8) (.tmp 48) rfl y1.heap.size 43 _ (HS_y8.out.own.blk 1 rfl) rfl (secL zeroSec) rfl (msec_size _) (msec_len _ zeroSec) (secL_one _) ?_; intro y9 hbz hg hs; have HS_y9 : Hid (Rox w y9 [(w.heap.size, 43, secL s), (y1.heap.size, 43, secL zeroSec), (y3.heap.size, 47, plC p), (y6.heap.size, 43, secL s1)] A n c X) := hide (HS_y8.out.poke 1 rfl (by decide) hbz hg); clear hs hg hbz))
      refine ret_cell_tmp rfl _ 43 (secL zeroSec) _ (HS_y9.out.own.blk 1 rfl) rfl Tryz.underlying43 rfl (msec_size _) (.int .i64 (e1 : Int)) rfl rfl ⟨by rw [HR.out]; rfl, HS_y9.out.low⟩
end
end Go.Proofs.YtmjjnbabfldbcaaGreat
