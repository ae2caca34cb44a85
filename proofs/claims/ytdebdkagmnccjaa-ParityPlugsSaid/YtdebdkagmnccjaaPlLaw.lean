/- ParityPlugs' walk over the contracts. -/
import Derived.Test.YtdebdkagmnccjaaParR
namespace Go.Proofs.Ytdebdkagmnccjaa
open Go.RowKit
theorem mask16 (v : Int) : ∃ N : Nat, bits .and .i64 v 65535 = (N : Int) ∧ N < 65536 := by
  have h := i64_mask v 16 (by decide)
  refine ⟨(v % 65536).toNat, ?_, by omega⟩
  rw [show (65535 : Int) = 2 ^ 16 - 1 by decide, h]
  show v % 65536 = _
  omega
set_option maxRecDepth 100000 in
set_option maxHeartbeats 8000000 in
theorem parityPlugs_walk (K : ParK) (A : Option Addr) (n c : Nat) (l : List UInt8) (i : Int) (f : List UInt8) (w : World) (hr : Reads w w.heap.size 64 A n (B8 l)) (hc : n ≤ c) (hc2 : c ≤ 9223372036854775807) (hf : f.length = 64) :
    Calls Try.prog 6 #[.slice A n c, .int .i64 i, .agg (B8 f).toArray] w fun e w' => e = .returned (.bool true) ∧ Below w.heap.size w w' := by
  obtain ⟨ui, UI0⟩ : ∃ ui, Try.prog.info? 5 = some ui := ⟨_, pu8_info⟩
  have UI := hide UI0
  obtain ⟨i0, hi0, hz0, hz1, hz2⟩ := psec_parts0
  have HI := hide (And.intro hi0 (And.intro hz0 (And.intro hz1 hz2)))
  have HVF := hide (show (Value.agg (B8 f).toArray).cells = (B8 f).toArray from rfl)
  have LF := hide hf
  have IF := hide (show (Try.prog.info? 24).map (·.size) = some (B8 f).length by rw [B8_length, hf]; exact psec_info)
  have HSH := hide (fun w => shown11_any K w)
  obtain ⟨N, hN, hN2⟩ := mask16 i
  have HR := hide hr
  clear hi0 hz0 hz1 hz2 UI0 hr
  by_cases h40 : n ≤ 40
  · by_cases hz : n = 0
    · have hz2 : ((n : Int) == 0) = true := by simp [hz]
      clear hz
      have hmin : (n : Int) ≤ 40 := by omega
      obtain ⟨hS0, hL0, hR0⟩ := cut_all HR.out (m := n) (by omega)
      obtain ⟨L, hL⟩ : ∃ L, L = cutS l n := ⟨_, rfl⟩
      rw [← hL] at hS0 hL0 hR0
      have HS := hide hS0
      have HL := hide hL0
      have HRM := hide hR0
      have H63 := hide (And.intro (show 0 + n ≤ maxLen by simp only [maxLen]; omega) (show (0 + n) * 64 ≤ 140737488355328 by omega))
      clear hL hS0 hL0 hR0
      go_enter Try.func6, Try.ntmps6
      go_wp2_with (first
        | ((with_reducible refine at_slot 5 ?_); refine wpList_box_blk rfl 24 _ rfl (.agg (B8 f).toArray) rfl ?_; intro y0 hbq hl hs; rw [HVF.out] at hbq; have Hf_y0 : Hid (Blk y0 w.heap.size 24 (B8 f).toArray) := hide hbq; have HL_y0 := hide hl; clear hbq hl hs)
        | (go_at_call 8; (with_reducible refine (HSH.out _).mono ?_); rintro _ y1 ⟨rfl, hl⟩; have HL_y1 := hide (HL_y0.out.trans (hl.mono HL_y0.out.size)); have Hf_y1 := hide (Hf_y0.out.below hl Hf_y0.out.lt); clear hl)
        | ((with_reducible refine at_slot 13 ?_); refine wpList_none64 rfl rfl ?_)
        | ((with_reducible refine at_slot 19 ?_); refine wpList_append_any _ rfl (.tmp 13) (.tmp 18) _ rfl y1.heap.size 24 i0 _ 64 64 Try.underlying22 HI.out.1 HI.out.2.1 HI.out.2.2.1 HI.out.2.2.2 rfl (by decide) _ 0 [] rfl (World.ownsRow_made y1 #[] 0 (Nat.le_refl _) (Nat.zero_le _) rfl) y1.heap.size A n c (B8 L.flatten) rfl ((HRM.out.later HL_y1.out).alloc (Nat.le_refl _) _) (B8_one _) H63.out.1 H63.out.2 (le_alloc (Nat.le_refl _) _) ?_; intro v3 y2 hown hbel; have hl : Below y1.heap.size y1 y2 := ((Below.refl _ _).alloc (Nat.le_refl _) _).trans hbel; obtain ⟨AD, cp, rfl, _, _⟩ := own_shape hown; have RD_y2 : Hid (RowS y2 y1.heap.size AD cp L) := hide ⟨(by rw [HL.out]; simpa using hown), HS.out⟩; have HL_y2 := hide (HL_y1.out.trans (hl.mono HL_y1.out.size)); have Hf_y2 := hide (Hf_y1.out.below hl Hf_y1.out.lt); clear hl hown hbel))
      go_ret
      exact ⟨rfl, HL_y2.out⟩
    · have hz2 : ((n : Int) == 0) = false := by simp; omega
      have hm0 : 0 < n := by omega
      obtain ⟨q, hq⟩ : ∃ q, q = N % n := ⟨_, rfl⟩
      have hqm : q < n := by rw [hq]; exact Nat.mod_lt _ hm0
      have hqw : ((N : Nat) : Int) % (n : Int) = (q : Int) := by omega
      have hqi : (q : Int) < (n : Int) := by omega
      clear hq
      have hmin : (n : Int) ≤ 40 := by omega
      obtain ⟨hS0, hL0, hR0⟩ := cut_all HR.out (m := n) (by omega)
      obtain ⟨L, hL⟩ : ∃ L, L = cutS l n := ⟨_, rfl⟩
      rw [← hL] at hS0 hL0 hR0
      have HS := hide hS0
      have HL := hide hL0
      have HRM := hide hR0
      have H63 := hide (And.intro (show 0 + n ≤ maxLen by simp only [maxLen]; omega) (show (0 + n) * 64 ≤ 140737488355328 by omega))
      clear hL hS0 hL0 hR0
      obtain ⟨s, hs⟩ : ∃ s, L[q]? = some s := ⟨L[q]'(by have := HL.out; omega), List.getElem?_eq_getElem _⟩
      have hls : s.length = 64 := HS.out s (List.mem_of_getElem? hs)
      have HQ := hide (And.intro (show q < L.length by rw [HL.out]; exact hqm) hs)
      have LS := hide hls
      have IS := hide (show (Try.prog.info? 24).map (·.size) = some (B8 s).length by rw [B8_length, hls]; exact psec_info)
      obtain ⟨pr, hpr⟩ : ∃ pr, pr = parOf L := ⟨_, rfl⟩
      have hlp : pr.length = 64 := by rw [hpr]; exact par_length HS.out
      have LP := hide hlp
      have HPR := hide hpr
      have IP := hide (show (Try.prog.info? 24).map (·.size) = some (B8 pr).length by rw [B8_length, hlp]; exact psec_info)
      obtain ⟨x, hx⟩ : ∃ x, x = xorL (xorL s pr) f := ⟨_, rfl⟩
      have hlx : x.length = 64 := by rw [hx]; exact xorL_length (xorL_length hls hlp) LF.out
      have LX := hide hlx
      have HX := hide hx
      have IX := hide (show (Try.prog.info? 24).map (·.size) = some (B8 x).length by rw [B8_length, hlx]; exact psec_info)
      have HPS := hide (show parOf (L.set q f) = x by rw [par_set HS.out hs LF.out, ← hpr, hx])
      have HPB := hide (show xorL (xorL f x) s = pr by rw [hx]; exact plug_back hls hlp LF.out)
      have HUN : Hid (Try.prog.underlying 24 = some (.array 64 5)) := Try.underlying24
      clear hs hls hpr hlp hx hlx
      go_enter Try.func6, Try.ntmps6
      go_wp2_with (first
        | ((with_reducible refine at_slot 5 ?_); refine wpList_box_blk rfl 24 _ rfl (.agg (B8 f).toArray) rfl ?_; intro y0 hbq hl hs; rw [HVF.out] at hbq; have Hf_y0 : Hid (Blk y0 w.heap.size 24 (B8 f).toArray) := hide hbq; have HL_y0 := hide hl; clear hbq hl hs)
        | (go_at_call 8; (with_reducible refine (HSH.out _).mono ?_); rintro _ y1 ⟨rfl, hl⟩; have HL_y1 := hide (HL_y0.out.trans (hl.mono HL_y0.out.size)); have Hf_y1 := hide (Hf_y0.out.below hl Hf_y0.out.lt); clear hl)
        | ((with_reducible refine at_slot 13 ?_); refine wpList_none64 rfl rfl ?_)
        | ((with_reducible refine at_slot 19 ?_); refine wpList_append_any _ rfl (.tmp 13) (.tmp 18) _ rfl y1.heap.size 24 i0 _ 64 64 Try.underlying22 HI.out.1 HI.out.2.1 HI.out.2.2.1 HI.out.2.2.2 rfl (by decide) _ 0 [] rfl (World.ownsRow_made y1 #[] 0 (Nat.le_refl _) (Nat.zero_le _) rfl) y1.heap.size A n c (B8 L.flatten) rfl ((HRM.out.later HL_y1.out).alloc (Nat.le_refl _) _) (B8_one _) H63.out.1 H63.out.2 (le_alloc (Nat.le_refl _) _) ?_; intro v3 y2 hown hbel; have hl : Below y1.heap.size y1 y2 := ((Below.refl _ _).alloc (Nat.le_refl _) _).trans hbel; obtain ⟨AD, cp, rfl, _, _⟩ := own_shape hown; have RD_y2 : Hid (RowS y2 y1.heap.size AD cp L) := hide ⟨(by rw [HL.out]; simpa using hown), HS.out⟩; have HL_y2 := hide (HL_y1.out.trans (hl.mono HL_y1.out.size)); have Hf_y2 := hide (Hf_y1.out.below hl Hf_y1.out.lt); clear hl hown hbel)
        | (go_at_call 11; (with_reducible refine (RowS.build K RD_y2.out HL.out (by omega)).mono ?_); rintro _ y3 ⟨rfl, hl⟩; have HL_y3 := hide (HL_y2.out.trans (hl.mono HL_y2.out.size)); have Hf_y3 := hide (Hf_y2.out.below hl Hf_y2.out.lt); have RD_y3 := hide (RD_y2.out.later hl); obtain ⟨g, cur, rfl, hbg, hblk, hsz, hput⟩ := RD_y3.out.put (q := q) HQ.out.1 LF.out; have HCELL := hide (RD_y3.out.cells hblk HQ.out.2); have KR_y3 := hide hblk; have HBG := hide hbg; have HSZ := hide hsz; have HPUT := hide hput; clear hl hbg hblk hsz hput; rw [← HPR.out])
        | ((with_reducible refine at_slot 9 ?_); refine wpList_alloc_blk rfl 24 rfl _ (psec_nought _) ?_; intro y4 hbq hl1 hs1; have hb1 : Blk y4 y3.heap.size 24 (B8 zeroL).toArray := hbq; clear hbq hs1)
        | ((with_reducible refine at_store 9 ?_); refine wpList_store_all rfl 24 (.tmp 9) (.tmp 30) rfl y3.heap.size 24 _ hb1 rfl (B8 pr) rfl IP.out (by rw [List.size_toArray, B8_length, B8_length, LP.out, zeroL_length]) (B8_one _) ?_; intro y5 hbz hg hs; have hz := hb1.lt; have hl : Below y3.heap.size y3 y5 := hl1.grown hg (by omega) (fun g e => by injection e with e; omega); have Hp_y5 := hide hbz; have HL_y5 := hide (HL_y3.out.trans (hl.mono HL_y3.out.size)); have Hf_y5 := hide (Hf_y3.out.below hl Hf_y3.out.lt); have RD_y5 := hide (RD_y3.out.later hl); have KR_y5 := hide (KR_y3.out.below hl KR_y3.out.lt); clear hz hl hs hg hbz hb1 hl1)
        | ((with_reducible refine at_slot 34 ?_); refine wpList_load_blk rfl 24 (.tmp 33) rfl g (q * 64) 24 _ KR_y5.out rfl (B8 s) _ HCELL.out Try.underlying24 rfl IS.out ?_)
        | ((with_reducible refine at_slot 10 ?_); refine wpList_alloc_blk rfl 24 rfl _ (psec_nought _) ?_; intro y6 hbq hl1 hs1; have hb1 : Blk y6 y5.heap.size 24 (B8 zeroL).toArray := hbq; clear hbq hs1)
        | ((with_reducible refine at_store 10 ?_); refine wpList_store_all rfl 24 (.tmp 10) (.tmp 34) rfl y5.heap.size 24 _ hb1 rfl (B8 s) rfl IS.out (by rw [List.size_toArray, B8_length, B8_length, LS.out, zeroL_length]) (B8_one _) ?_; intro y7 hbz hg hs; have hz := hb1.lt; have hl : Below y5.heap.size y5 y7 := hl1.grown hg (by omega) (fun g e => by injection e with e; omega); have Hs_y7 := hide hbz; have HL_y7 := hide (HL_y5.out.trans (hl.mono HL_y5.out.size)); have Hf_y7 := hide (Hf_y5.out.below hl Hf_y5.out.lt); have Hp_y7 := hide (Hp_y5.out.below hl Hp_y5.out.lt); have RD_y7 := hide (RD_y5.out.later hl); have KR_y7 := hide (KR_y5.out.below hl KR_y5.out.lt); clear hz hl hs hg hbz hb1 hl1)
        | ((with_reducible refine at_slot 37 ?_); refine when_load rfl 24 (.tmp 5) rfl w.heap.size 0 24 _ Hf_y7.out rfl (B8 f) _ (fun j v hj => by rw [Nat.zero_add]; simpa using hj) Try.underlying24 rfl IF.out ?_)
        | ((with_reducible refine at_store 38 ?_); refine wpList_store_blk rfl 24 (.tmp 38) (.tmp 37) rfl g (q * 64) 24 _ KR_y7.out rfl (B8 f) rfl IF.out HSZ.out (B8_one _) ?_; intro y8 hb hg hs; have hgr := KR_y7.out.lt; have Hf_y8 := hide (Hf_y7.out.grown hg (fun e => (by injection e with e; have h1 := HBG.out; have h2 := Hf_y1.out.lt; have h3 := KR_y3.out.lt; have h4 := Hp_y5.out.lt; omega))); have Hp_y8 := hide (Hp_y7.out.grown hg (fun e => (by injection e with e; have h1 := HBG.out; have h2 := Hp_y7.out.lt; have h3 := KR_y3.out.lt; have h4 := Hp_y5.out.lt; omega))); have Hs_y8 := hide (Hs_y7.out.grown hg (fun e => (by injection e with e; have h1 := HBG.out; have h2 := Hs_y7.out.lt; have h3 := KR_y3.out.lt; have h4 := Hp_y5.out.lt; omega))); have HL_y8 := hide (HL_y7.out.grown hg HL_y7.out.size (fun g0 e => (by injection e with e; have h1 := HBG.out; have h2 := HL_y1.out.size; omega))); have RD_y8 := hide (HPUT.out _ hb); clear hb hg hs hgr)
        | ((with_reducible refine at_slot 39 ?_); refine when_load rfl 24 (.tmp 10) rfl y5.heap.size 0 24 _ Hs_y8.out rfl (B8 s) _ (fun j v hj => by rw [Nat.zero_add]; simpa using hj) Try.underlying24 rfl IS.out ?_)
        | ((with_reducible refine at_slot 40 ?_); refine when_load rfl 24 (.tmp 9) rfl y3.heap.size 0 24 _ Hp_y8.out rfl (B8 pr) _ (fun j v hj => by rw [Nat.zero_add]; simpa using hj) Try.underlying24 rfl IP.out ?_)
        | ((with_reducible refine at_slot 41 ?_); refine when_load rfl 24 (.tmp 5) rfl w.heap.size 0 24 _ Hf_y8.out rfl (B8 f) _ (fun j v hj => by rw [Nat.zero_add]; simpa using hj) Try.underlying24 rfl IF.out ?_)
        | (go_at_call 15; (with_reducible refine (K.plug_any _ s pr f LS.out LP.out LF.out).mono ?_); rintro _ y9 ⟨rfl, hl⟩; rw [← HX.out]; have HL_y9 := hide (HL_y8.out.trans (hl.mono HL_y8.out.size)); have Hf_y9 := hide (Hf_y8.out.below hl Hf_y8.out.lt); have Hp_y9 := hide (Hp_y8.out.below hl Hp_y8.out.lt); have Hs_y9 := hide (Hs_y8.out.below hl Hs_y8.out.lt); have RD_y9 := hide (RD_y8.out.later hl); clear hl)
        | ((with_reducible refine at_slot 11 ?_); refine wpList_alloc_blk rfl 24 rfl _ (psec_nought _) ?_; intro y10 hbq hl1 hs1; have hb1 : Blk y10 y9.heap.size 24 (B8 zeroL).toArray := hbq; clear hbq hs1)
        | ((with_reducible refine at_store 11 ?_); refine wpList_store_all rfl 24 (.tmp 11) (.tmp 42) rfl y9.heap.size 24 _ hb1 rfl (B8 x) rfl IX.out (by rw [List.size_toArray, B8_length, B8_length, LX.out, zeroL_length]) (B8_one _) ?_; intro y11 hbz hg hs; have hz := hb1.lt; have hl : Below y9.heap.size y9 y11 := hl1.grown hg (by omega) (fun g e => by injection e with e; omega); have Hx_y11 := hide hbz; have HL_y11 := hide (HL_y9.out.trans (hl.mono HL_y9.out.size)); have Hf_y11 := hide (Hf_y9.out.below hl Hf_y9.out.lt); have Hp_y11 := hide (Hp_y9.out.below hl Hp_y9.out.lt); have Hs_y11 := hide (Hs_y9.out.below hl Hs_y9.out.lt); have RD_y11 := hide (RD_y9.out.later hl); clear hz hl hs hg hbz hb1 hl1))
      have HDR := hide ((Below.refl y11.heap.size y11).drew)
      have HFF : Hid (∀ W', Below y11.heap.size y11 W' → (W'.rangeAt y9.heap.size 0 (B8 x) ∧ W'.rangeAt w.heap.size 0 (B8 f) ∧ W'.rangeAt y5.heap.size 0 (B8 s) ∧ W'.rangeAt y3.heap.size 0 (B8 pr) ∧ Below y11.heap.size y11 W')) := hide fun W' h => ⟨range_of64 (Hx_y11.out.below h Hx_y11.out.lt), range_of64 (Hf_y11.out.below h Hf_y11.out.lt), range_of64 (Hs_y11.out.below h Hs_y11.out.lt), range_of64 (Hp_y11.out.below h Hp_y11.out.lt), h⟩
      refine wp_region_held_drew (S := (fun W => W.rangeAt y9.heap.size 0 (B8 x) ∧ W.rangeAt w.heap.size 0 (B8 f) ∧ W.rangeAt y5.heap.size 0 (B8 s) ∧ W.rangeAt y3.heap.size 0 (B8 pr) ∧ Below y11.heap.size y11 W)) (by kernel_rfl) ?_ (fun hHeld => ?_)
      · exact HFF.out _ HDR.out
      refine heldTake (i := 0) (v := ?_) rfl (by kernel_rfl) (by kernel_rfl) (by kernel_rfl) (fun _ _ _ h => h) (Or.inl ⟨by rfl, ?_⟩) (by assumption) ?_
      rotate_left
      · intro w hSw; (try dsimp only at hSw); go_simp <;> (with_reducible rfl)
      try simp only [Act.put, List.setIfInBounds_toArray, List.set_cons_zero, List.set_cons_succ]
      refine heldTake (i := 1) (v := ?_) rfl (by kernel_rfl) (by kernel_rfl) (by kernel_rfl) (fun _ _ _ h => h) (Or.inl ⟨by rfl, ?_⟩) (by assumption) ?_
      rotate_left
      · intro w hSw; (try dsimp only at hSw); go_simp <;> (with_reducible rfl)
      try simp only [Act.put, List.setIfInBounds_toArray, List.set_cons_zero, List.set_cons_succ]
      refine heldTake (i := 2) (v := .agg (B8 x).toArray) rfl (by kernel_rfl) (by kernel_rfl) (by kernel_rfl) (fun _ _ _ h => h) (yieldsIf_load_mid (by rfl) _ _ rfl _ _ rfl (B8 x) _ (fun W hW => hW.1) HUN.out rfl IX.out) (by assumption) ?_
      try simp only [Act.put, List.setIfInBounds_toArray, List.set_cons_zero, List.set_cons_succ]
      refine heldTake (i := 3) (v := ?_) rfl (by kernel_rfl) (by kernel_rfl) (by kernel_rfl) (fun _ _ _ h => h) (Or.inl ⟨by rfl, ?_⟩) (by assumption) ?_
      rotate_left
      · intro w hSw; (try dsimp only at hSw); go_simp <;> (with_reducible rfl)
      try simp only [Act.put, List.setIfInBounds_toArray, List.set_cons_zero, List.set_cons_succ]
      refine wpAnyH_ready (rs := [4]) (by kernel_rfl) (by simp) ?_
      refine heldCons (i := 4) rfl (fun Kq hKq => ?_) AllReadyH.nil
      go_simp
      go_at_call 11
      refine (RowS.build K (RD_y11.out.later HDR.out) (by rw [List.length_set]; exact HL.out) (by omega)).mono ?_
      rintro _ z1 ⟨rfl, hz1⟩
      rw [HPS.out]
      have hq1 : Below y11.heap.size y11 z1 := HDR.out.trans hz1
      first | (refine hKq.out _ _ (HFF.out _ hq1) (fun hHeld => ?_)) | (go_wp2_with fail; refine hKq.out _ _ (HFF.out _ hq1) (fun hHeld => ?_))
      clear hKq Kq
      try simp only [Act.put, List.setIfInBounds_toArray, List.set_cons_zero, List.set_cons_succ]
      refine heldTake (i := 5) (v := .bool true) rfl (by kernel_rfl) (by kernel_rfl) (by kernel_rfl) (fun _ _ _ h => h) (Or.inl ⟨by rfl, fun W hW => run_eql_secs UI.out W _ (.tmp 45) (.tmp 47) _ rfl x x LX.out LX.out rfl rfl true (by simp)⟩) (by assumption) ?_
      try simp only [Act.put, List.setIfInBounds_toArray, List.set_cons_zero, List.set_cons_succ]
      refine heldTake (i := 6) (v := ?_) rfl (by kernel_rfl) (by kernel_rfl) (by kernel_rfl) (fun _ _ _ h => h) (Or.inl ⟨by rfl, ?_⟩) (by assumption) ?_
      rotate_left
      · intro w hSw; (try dsimp only at hSw); go_simp <;> (with_reducible rfl)
      try simp only [Act.put, List.setIfInBounds_toArray, List.set_cons_zero, List.set_cons_succ]
      refine heldTake (i := 7) (v := ?_) rfl (by kernel_rfl) (by kernel_rfl) (by kernel_rfl) (fun _ _ _ h => h) (Or.inl ⟨by rfl, ?_⟩) (by assumption) ?_
      rotate_left
      · intro w hSw; (try dsimp only at hSw); go_simp <;> (with_reducible rfl)
      try simp only [Act.put, List.setIfInBounds_toArray, List.set_cons_zero, List.set_cons_succ]
      refine heldTake (i := 8) (v := .agg (B8 f).toArray) rfl (by kernel_rfl) (by kernel_rfl) (by kernel_rfl) (fun _ _ _ h => h) (yieldsIf_load_mid (by rfl) _ _ rfl _ _ rfl (B8 f) _ (fun W hW => hW.2.1) HUN.out rfl IF.out) (by assumption) ?_
      try simp only [Act.put, List.setIfInBounds_toArray, List.set_cons_zero, List.set_cons_succ]
      refine heldTake (i := 9) (v := .agg (B8 x).toArray) rfl (by kernel_rfl) (by kernel_rfl) (by kernel_rfl) (fun _ _ _ h => h) (yieldsIf_load_mid (by rfl) _ _ rfl _ _ rfl (B8 x) _ (fun W hW => hW.1) HUN.out rfl IX.out) (by assumption) ?_
      try simp only [Act.put, List.setIfInBounds_toArray, List.set_cons_zero, List.set_cons_succ]
      refine heldTake (i := 10) (v := .agg (B8 s).toArray) rfl (by kernel_rfl) (by kernel_rfl) (by kernel_rfl) (fun _ _ _ h => h) (yieldsIf_load_mid (by rfl) _ _ rfl _ _ rfl (B8 s) _ (fun W hW => hW.2.2.1) HUN.out rfl IS.out) (by assumption) ?_
      try simp only [Act.put, List.setIfInBounds_toArray, List.set_cons_zero, List.set_cons_succ]
      refine heldTake (i := 12) (v := .agg (B8 pr).toArray) rfl (by kernel_rfl) (by kernel_rfl) (by kernel_rfl) (fun _ _ _ h => h) (yieldsIf_load_mid (by rfl) _ _ rfl _ _ rfl (B8 pr) _ (fun W hW => hW.2.2.2.1) HUN.out rfl IP.out) (by assumption) ?_
      try simp only [Act.put, List.setIfInBounds_toArray, List.set_cons_zero, List.set_cons_succ]
      refine wpAnyH_ready (rs := [11]) (by kernel_rfl) (by simp) ?_
      refine heldCons (i := 11) rfl (fun Kq hKq => ?_) AllReadyH.nil
      go_simp
      go_at_call 15
      refine (K.plug_any _ f x s LF.out LX.out LS.out).mono ?_
      rintro _ z2 ⟨rfl, hz2⟩
      rw [HPB.out]
      have hq2 : Below y11.heap.size y11 z2 := hq1.trans (hz2.mono hq1.size)
      first | (refine hKq.out _ _ (HFF.out _ hq2) (fun hHeld => ?_)) | (go_wp2_with fail; refine hKq.out _ _ (HFF.out _ hq2) (fun hHeld => ?_))
      clear hKq Kq
      try simp only [Act.put, List.setIfInBounds_toArray, List.set_cons_zero, List.set_cons_succ]
      refine heldTake (i := 13) (v := .bool true) rfl (by kernel_rfl) (by kernel_rfl) (by kernel_rfl) (fun _ _ _ h => h) (Or.inl ⟨by rfl, fun W hW => run_eql_secs UI.out W _ (.tmp 54) (.tmp 55) _ rfl pr pr LP.out LP.out rfl rfl true (by simp)⟩) (by assumption) ?_
      try simp only [Act.put, List.setIfInBounds_toArray, List.set_cons_zero, List.set_cons_succ]
      refine heldTake (i := 14) (v := ?_) rfl (by kernel_rfl) (by kernel_rfl) (by kernel_rfl) (fun _ _ _ h => h) (Or.inl ⟨by rfl, ?_⟩) (by assumption) ?_
      rotate_left
      · intro w hSw; (try dsimp only at hSw); go_simp <;> (with_reducible rfl)
      try simp only [Act.put, List.setIfInBounds_toArray, List.set_cons_zero, List.set_cons_succ]
      refine heldTake (i := 15) (v := ?_) rfl (by kernel_rfl) (by kernel_rfl) (by kernel_rfl) (fun _ _ _ h => h) (Or.inl ⟨by rfl, ?_⟩) (by assumption) ?_
      rotate_left
      · intro w hSw; (try dsimp only at hSw); go_simp <;> (with_reducible rfl)
      try simp only [Act.put, List.setIfInBounds_toArray, List.set_cons_zero, List.set_cons_succ]
      refine wpAnyH_done (by kernel_rfl) ?_ _
      go_wp2_with fail
      go_ret
      exact ⟨rfl, HL_y11.out.trans (hq2.mono HL_y11.out.size)⟩
  · have hm0 : 0 < 40 := by omega
    obtain ⟨q, hq⟩ : ∃ q, q = N % 40 := ⟨_, rfl⟩
    have hqm : q < 40 := by rw [hq]; exact Nat.mod_lt _ hm0
    have hqw : ((N : Nat) : Int) % (40 : Int) = (q : Int) := by omega
    have hqi : (q : Int) < (40 : Int) := by omega
    clear hq
    have hmin : ¬ ((n : Int) ≤ 40) := by omega
    obtain ⟨hS0, hL0, hR0⟩ := cut_all HR.out (m := 40) (by omega)
    obtain ⟨L, hL⟩ : ∃ L, L = cutS l 40 := ⟨_, rfl⟩
    rw [← hL] at hS0 hL0 hR0
    have HS := hide hS0
    have HL := hide hL0
    have HRM := hide hR0
    have H63 := hide (And.intro (show 0 + 40 ≤ maxLen by simp only [maxLen]; omega) (show (0 + 40) * 64 ≤ 140737488355328 by omega))
    clear hL hS0 hL0 hR0
    obtain ⟨s, hs⟩ : ∃ s, L[q]? = some s := ⟨L[q]'(by have := HL.out; omega), List.getElem?_eq_getElem _⟩
    have hls : s.length = 64 := HS.out s (List.mem_of_getElem? hs)
    have HQ := hide (And.intro (show q < L.length by rw [HL.out]; exact hqm) hs)
    have LS := hide hls
    have IS := hide (show (Try.prog.info? 24).map (·.size) = some (B8 s).length by rw [B8_length, hls]; exact psec_info)
    obtain ⟨pr, hpr⟩ : ∃ pr, pr = parOf L := ⟨_, rfl⟩
    have hlp : pr.length = 64 := by rw [hpr]; exact par_length HS.out
    have LP := hide hlp
    have HPR := hide hpr
    have IP := hide (show (Try.prog.info? 24).map (·.size) = some (B8 pr).length by rw [B8_length, hlp]; exact psec_info)
    obtain ⟨x, hx⟩ : ∃ x, x = xorL (xorL s pr) f := ⟨_, rfl⟩
    have hlx : x.length = 64 := by rw [hx]; exact xorL_length (xorL_length hls hlp) LF.out
    have LX := hide hlx
    have HX := hide hx
    have IX := hide (show (Try.prog.info? 24).map (·.size) = some (B8 x).length by rw [B8_length, hlx]; exact psec_info)
    have HPS := hide (show parOf (L.set q f) = x by rw [par_set HS.out hs LF.out, ← hpr, hx])
    have HPB := hide (show xorL (xorL f x) s = pr by rw [hx]; exact plug_back hls hlp LF.out)
    have HUN : Hid (Try.prog.underlying 24 = some (.array 64 5)) := Try.underlying24
    clear hs hls hpr hlp hx hlx
    go_enter Try.func6, Try.ntmps6
    go_wp2_with (first
      | ((with_reducible refine at_slot 5 ?_); refine wpList_box_blk rfl 24 _ rfl (.agg (B8 f).toArray) rfl ?_; intro y0 hbq hl hs; rw [HVF.out] at hbq; have Hf_y0 : Hid (Blk y0 w.heap.size 24 (B8 f).toArray) := hide hbq; have HL_y0 := hide hl; clear hbq hl hs)
      | (go_at_call 8; (with_reducible refine (HSH.out _).mono ?_); rintro _ y1 ⟨rfl, hl⟩; have HL_y1 := hide (HL_y0.out.trans (hl.mono HL_y0.out.size)); have Hf_y1 := hide (Hf_y0.out.below hl Hf_y0.out.lt); clear hl)
      | ((with_reducible refine at_slot 13 ?_); refine wpList_none64 rfl rfl ?_)
      | ((with_reducible refine at_slot 19 ?_); refine wpList_append_any _ rfl (.tmp 13) (.tmp 18) _ rfl y1.heap.size 24 i0 _ 64 64 Try.underlying22 HI.out.1 HI.out.2.1 HI.out.2.2.1 HI.out.2.2.2 rfl (by decide) _ 0 [] rfl (World.ownsRow_made y1 #[] 0 (Nat.le_refl _) (Nat.zero_le _) rfl) y1.heap.size A 40 c (B8 L.flatten) rfl ((HRM.out.later HL_y1.out).alloc (Nat.le_refl _) _) (B8_one _) H63.out.1 H63.out.2 (le_alloc (Nat.le_refl _) _) ?_; intro v3 y2 hown hbel; have hl : Below y1.heap.size y1 y2 := ((Below.refl _ _).alloc (Nat.le_refl _) _).trans hbel; obtain ⟨AD, cp, rfl, _, _⟩ := own_shape hown; have RD_y2 : Hid (RowS y2 y1.heap.size AD cp L) := hide ⟨(by rw [HL.out]; simpa using hown), HS.out⟩; have HL_y2 := hide (HL_y1.out.trans (hl.mono HL_y1.out.size)); have Hf_y2 := hide (Hf_y1.out.below hl Hf_y1.out.lt); clear hl hown hbel)
      | (go_at_call 11; (with_reducible refine (RowS.build K RD_y2.out HL.out (by omega)).mono ?_); rintro _ y3 ⟨rfl, hl⟩; have HL_y3 := hide (HL_y2.out.trans (hl.mono HL_y2.out.size)); have Hf_y3 := hide (Hf_y2.out.below hl Hf_y2.out.lt); have RD_y3 := hide (RD_y2.out.later hl); obtain ⟨g, cur, rfl, hbg, hblk, hsz, hput⟩ := RD_y3.out.put (q := q) HQ.out.1 LF.out; have HCELL := hide (RD_y3.out.cells hblk HQ.out.2); have KR_y3 := hide hblk; have HBG := hide hbg; have HSZ := hide hsz; have HPUT := hide hput; clear hl hbg hblk hsz hput; rw [← HPR.out])
      | ((with_reducible refine at_slot 9 ?_); refine wpList_alloc_blk rfl 24 rfl _ (psec_nought _) ?_; intro y4 hbq hl1 hs1; have hb1 : Blk y4 y3.heap.size 24 (B8 zeroL).toArray := hbq; clear hbq hs1)
      | ((with_reducible refine at_store 9 ?_); refine wpList_store_all rfl 24 (.tmp 9) (.tmp 30) rfl y3.heap.size 24 _ hb1 rfl (B8 pr) rfl IP.out (by rw [List.size_toArray, B8_length, B8_length, LP.out, zeroL_length]) (B8_one _) ?_; intro y5 hbz hg hs; have hz := hb1.lt; have hl : Below y3.heap.size y3 y5 := hl1.grown hg (by omega) (fun g e => by injection e with e; omega); have Hp_y5 := hide hbz; have HL_y5 := hide (HL_y3.out.trans (hl.mono HL_y3.out.size)); have Hf_y5 := hide (Hf_y3.out.below hl Hf_y3.out.lt); have RD_y5 := hide (RD_y3.out.later hl); have KR_y5 := hide (KR_y3.out.below hl KR_y3.out.lt); clear hz hl hs hg hbz hb1 hl1)
      | ((with_reducible refine at_slot 34 ?_); refine wpList_load_blk rfl 24 (.tmp 33) rfl g (q * 64) 24 _ KR_y5.out rfl (B8 s) _ HCELL.out Try.underlying24 rfl IS.out ?_)
      | ((with_reducible refine at_slot 10 ?_); refine wpList_alloc_blk rfl 24 rfl _ (psec_nought _) ?_; intro y6 hbq hl1 hs1; have hb1 : Blk y6 y5.heap.size 24 (B8 zeroL).toArray := hbq; clear hbq hs1)
      | ((with_reducible refine at_store 10 ?_); refine wpList_store_all rfl 24 (.tmp 10) (.tmp 34) rfl y5.heap.size 24 _ hb1 rfl (B8 s) rfl IS.out (by rw [List.size_toArray, B8_length, B8_length, LS.out, zeroL_length]) (B8_one _) ?_; intro y7 hbz hg hs; have hz := hb1.lt; have hl : Below y5.heap.size y5 y7 := hl1.grown hg (by omega) (fun g e => by injection e with e; omega); have Hs_y7 := hide hbz; have HL_y7 := hide (HL_y5.out.trans (hl.mono HL_y5.out.size)); have Hf_y7 := hide (Hf_y5.out.below hl Hf_y5.out.lt); have Hp_y7 := hide (Hp_y5.out.below hl Hp_y5.out.lt); have RD_y7 := hide (RD_y5.out.later hl); have KR_y7 := hide (KR_y5.out.below hl KR_y5.out.lt); clear hz hl hs hg hbz hb1 hl1)
      | ((with_reducible refine at_slot 37 ?_); refine when_load rfl 24 (.tmp 5) rfl w.heap.size 0 24 _ Hf_y7.out rfl (B8 f) _ (fun j v hj => by rw [Nat.zero_add]; simpa using hj) Try.underlying24 rfl IF.out ?_)
      | ((with_reducible refine at_store 38 ?_); refine wpList_store_blk rfl 24 (.tmp 38) (.tmp 37) rfl g (q * 64) 24 _ KR_y7.out rfl (B8 f) rfl IF.out HSZ.out (B8_one _) ?_; intro y8 hb hg hs; have hgr := KR_y7.out.lt; have Hf_y8 := hide (Hf_y7.out.grown hg (fun e => (by injection e with e; have h1 := HBG.out; have h2 := Hf_y1.out.lt; have h3 := KR_y3.out.lt; have h4 := Hp_y5.out.lt; omega))); have Hp_y8 := hide (Hp_y7.out.grown hg (fun e => (by injection e with e; have h1 := HBG.out; have h2 := Hp_y7.out.lt; have h3 := KR_y3.out.lt; have h4 := Hp_y5.out.lt; omega))); have Hs_y8 := hide (Hs_y7.out.grown hg (fun e => (by injection e with e; have h1 := HBG.out; have h2 := Hs_y7.out.lt; have h3 := KR_y3.out.lt; have h4 := Hp_y5.out.lt; omega))); have HL_y8 := hide (HL_y7.out.grown hg HL_y7.out.size (fun g0 e => (by injection e with e; have h1 := HBG.out; have h2 := HL_y1.out.size; omega))); have RD_y8 := hide (HPUT.out _ hb); clear hb hg hs hgr)
      | ((with_reducible refine at_slot 39 ?_); refine when_load rfl 24 (.tmp 10) rfl y5.heap.size 0 24 _ Hs_y8.out rfl (B8 s) _ (fun j v hj => by rw [Nat.zero_add]; simpa using hj) Try.underlying24 rfl IS.out ?_)
      | ((with_reducible refine at_slot 40 ?_); refine when_load rfl 24 (.tmp 9) rfl y3.heap.size 0 24 _ Hp_y8.out rfl (B8 pr) _ (fun j v hj => by rw [Nat.zero_add]; simpa using hj) Try.underlying24 rfl IP.out ?_)
      | ((with_reducible refine at_slot 41 ?_); refine when_load rfl 24 (.tmp 5) rfl w.heap.size 0 24 _ Hf_y8.out rfl (B8 f) _ (fun j v hj => by rw [Nat.zero_add]; simpa using hj) Try.underlying24 rfl IF.out ?_)
      | (go_at_call 15; (with_reducible refine (K.plug_any _ s pr f LS.out LP.out LF.out).mono ?_); rintro _ y9 ⟨rfl, hl⟩; rw [← HX.out]; have HL_y9 := hide (HL_y8.out.trans (hl.mono HL_y8.out.size)); have Hf_y9 := hide (Hf_y8.out.below hl Hf_y8.out.lt); have Hp_y9 := hide (Hp_y8.out.below hl Hp_y8.out.lt); have Hs_y9 := hide (Hs_y8.out.below hl Hs_y8.out.lt); have RD_y9 := hide (RD_y8.out.later hl); clear hl)
      | ((with_reducible refine at_slot 11 ?_); refine wpList_alloc_blk rfl 24 rfl _ (psec_nought _) ?_; intro y10 hbq hl1 hs1; have hb1 : Blk y10 y9.heap.size 24 (B8 zeroL).toArray := hbq; clear hbq hs1)
      | ((with_reducible refine at_store 11 ?_); refine wpList_store_all rfl 24 (.tmp 11) (.tmp 42) rfl y9.heap.size 24 _ hb1 rfl (B8 x) rfl IX.out (by rw [List.size_toArray, B8_length, B8_length, LX.out, zeroL_length]) (B8_one _) ?_; intro y11 hbz hg hs; have hz := hb1.lt; have hl : Below y9.heap.size y9 y11 := hl1.grown hg (by omega) (fun g e => by injection e with e; omega); have Hx_y11 := hide hbz; have HL_y11 := hide (HL_y9.out.trans (hl.mono HL_y9.out.size)); have Hf_y11 := hide (Hf_y9.out.below hl Hf_y9.out.lt); have Hp_y11 := hide (Hp_y9.out.below hl Hp_y9.out.lt); have Hs_y11 := hide (Hs_y9.out.below hl Hs_y9.out.lt); have RD_y11 := hide (RD_y9.out.later hl); clear hz hl hs hg hbz hb1 hl1))
    have HDR := hide ((Below.refl y11.heap.size y11).drew)
    have HFF : Hid (∀ W', Below y11.heap.size y11 W' → (W'.rangeAt y9.heap.size 0 (B8 x) ∧ W'.rangeAt w.heap.size 0 (B8 f) ∧ W'.rangeAt y5.heap.size 0 (B8 s) ∧ W'.rangeAt y3.heap.size 0 (B8 pr) ∧ Below y11.heap.size y11 W')) := hide fun W' h => ⟨range_of64 (Hx_y11.out.below h Hx_y11.out.lt), range_of64 (Hf_y11.out.below h Hf_y11.out.lt), range_of64 (Hs_y11.out.below h Hs_y11.out.lt), range_of64 (Hp_y11.out.below h Hp_y11.out.lt), h⟩
    refine wp_region_held_drew (S := (fun W => W.rangeAt y9.heap.size 0 (B8 x) ∧ W.rangeAt w.heap.size 0 (B8 f) ∧ W.rangeAt y5.heap.size 0 (B8 s) ∧ W.rangeAt y3.heap.size 0 (B8 pr) ∧ Below y11.heap.size y11 W)) (by kernel_rfl) ?_ (fun hHeld => ?_)
    · exact HFF.out _ HDR.out
    refine heldTake (i := 0) (v := ?_) rfl (by kernel_rfl) (by kernel_rfl) (by kernel_rfl) (fun _ _ _ h => h) (Or.inl ⟨by rfl, ?_⟩) (by assumption) ?_
    rotate_left
    · intro w hSw; (try dsimp only at hSw); go_simp <;> (with_reducible rfl)
    try simp only [Act.put, List.setIfInBounds_toArray, List.set_cons_zero, List.set_cons_succ]
    refine heldTake (i := 1) (v := ?_) rfl (by kernel_rfl) (by kernel_rfl) (by kernel_rfl) (fun _ _ _ h => h) (Or.inl ⟨by rfl, ?_⟩) (by assumption) ?_
    rotate_left
    · intro w hSw; (try dsimp only at hSw); go_simp <;> (with_reducible rfl)
    try simp only [Act.put, List.setIfInBounds_toArray, List.set_cons_zero, List.set_cons_succ]
    refine heldTake (i := 2) (v := .agg (B8 x).toArray) rfl (by kernel_rfl) (by kernel_rfl) (by kernel_rfl) (fun _ _ _ h => h) (yieldsIf_load_mid (by rfl) _ _ rfl _ _ rfl (B8 x) _ (fun W hW => hW.1) HUN.out rfl IX.out) (by assumption) ?_
    try simp only [Act.put, List.setIfInBounds_toArray, List.set_cons_zero, List.set_cons_succ]
    refine heldTake (i := 3) (v := ?_) rfl (by kernel_rfl) (by kernel_rfl) (by kernel_rfl) (fun _ _ _ h => h) (Or.inl ⟨by rfl, ?_⟩) (by assumption) ?_
    rotate_left
    · intro w hSw; (try dsimp only at hSw); go_simp <;> (with_reducible rfl)
    try simp only [Act.put, List.setIfInBounds_toArray, List.set_cons_zero, List.set_cons_succ]
    refine wpAnyH_ready (rs := [4]) (by kernel_rfl) (by simp) ?_
    refine heldCons (i := 4) rfl (fun Kq hKq => ?_) AllReadyH.nil
    go_simp
    go_at_call 11
    refine (RowS.build K (RD_y11.out.later HDR.out) (by rw [List.length_set]; exact HL.out) (by omega)).mono ?_
    rintro _ z1 ⟨rfl, hz1⟩
    rw [HPS.out]
    have hq1 : Below y11.heap.size y11 z1 := HDR.out.trans hz1
    first | (refine hKq.out _ _ (HFF.out _ hq1) (fun hHeld => ?_)) | (go_wp2_with fail; refine hKq.out _ _ (HFF.out _ hq1) (fun hHeld => ?_))
    clear hKq Kq
    try simp only [Act.put, List.setIfInBounds_toArray, List.set_cons_zero, List.set_cons_succ]
    refine heldTake (i := 5) (v := .bool true) rfl (by kernel_rfl) (by kernel_rfl) (by kernel_rfl) (fun _ _ _ h => h) (Or.inl ⟨by rfl, fun W hW => run_eql_secs UI.out W _ (.tmp 45) (.tmp 47) _ rfl x x LX.out LX.out rfl rfl true (by simp)⟩) (by assumption) ?_
    try simp only [Act.put, List.setIfInBounds_toArray, List.set_cons_zero, List.set_cons_succ]
    refine heldTake (i := 6) (v := ?_) rfl (by kernel_rfl) (by kernel_rfl) (by kernel_rfl) (fun _ _ _ h => h) (Or.inl ⟨by rfl, ?_⟩) (by assumption) ?_
    rotate_left
    · intro w hSw; (try dsimp only at hSw); go_simp <;> (with_reducible rfl)
    try simp only [Act.put, List.setIfInBounds_toArray, List.set_cons_zero, List.set_cons_succ]
    refine heldTake (i := 7) (v := ?_) rfl (by kernel_rfl) (by kernel_rfl) (by kernel_rfl) (fun _ _ _ h => h) (Or.inl ⟨by rfl, ?_⟩) (by assumption) ?_
    rotate_left
    · intro w hSw; (try dsimp only at hSw); go_simp <;> (with_reducible rfl)
    try simp only [Act.put, List.setIfInBounds_toArray, List.set_cons_zero, List.set_cons_succ]
    refine heldTake (i := 8) (v := .agg (B8 f).toArray) rfl (by kernel_rfl) (by kernel_rfl) (by kernel_rfl) (fun _ _ _ h => h) (yieldsIf_load_mid (by rfl) _ _ rfl _ _ rfl (B8 f) _ (fun W hW => hW.2.1) HUN.out rfl IF.out) (by assumption) ?_
    try simp only [Act.put, List.setIfInBounds_toArray, List.set_cons_zero, List.set_cons_succ]
    refine heldTake (i := 9) (v := .agg (B8 x).toArray) rfl (by kernel_rfl) (by kernel_rfl) (by kernel_rfl) (fun _ _ _ h => h) (yieldsIf_load_mid (by rfl) _ _ rfl _ _ rfl (B8 x) _ (fun W hW => hW.1) HUN.out rfl IX.out) (by assumption) ?_
    try simp only [Act.put, List.setIfInBounds_toArray, List.set_cons_zero, List.set_cons_succ]
    refine heldTake (i := 10) (v := .agg (B8 s).toArray) rfl (by kernel_rfl) (by kernel_rfl) (by kernel_rfl) (fun _ _ _ h => h) (yieldsIf_load_mid (by rfl) _ _ rfl _ _ rfl (B8 s) _ (fun W hW => hW.2.2.1) HUN.out rfl IS.out) (by assumption) ?_
    try simp only [Act.put, List.setIfInBounds_toArray, List.set_cons_zero, List.set_cons_succ]
    refine heldTake (i := 12) (v := .agg (B8 pr).toArray) rfl (by kernel_rfl) (by kernel_rfl) (by kernel_rfl) (fun _ _ _ h => h) (yieldsIf_load_mid (by rfl) _ _ rfl _ _ rfl (B8 pr) _ (fun W hW => hW.2.2.2.1) HUN.out rfl IP.out) (by assumption) ?_
    try simp only [Act.put, List.setIfInBounds_toArray, List.set_cons_zero, List.set_cons_succ]
    refine wpAnyH_ready (rs := [11]) (by kernel_rfl) (by simp) ?_
    refine heldCons (i := 11) rfl (fun Kq hKq => ?_) AllReadyH.nil
    go_simp
    go_at_call 15
    refine (K.plug_any _ f x s LF.out LX.out LS.out).mono ?_
    rintro _ z2 ⟨rfl, hz2⟩
    rw [HPB.out]
    have hq2 : Below y11.heap.size y11 z2 := hq1.trans (hz2.mono hq1.size)
    first | (refine hKq.out _ _ (HFF.out _ hq2) (fun hHeld => ?_)) | (go_wp2_with fail; refine hKq.out _ _ (HFF.out _ hq2) (fun hHeld => ?_))
    clear hKq Kq
    try simp only [Act.put, List.setIfInBounds_toArray, List.set_cons_zero, List.set_cons_succ]
    refine heldTake (i := 13) (v := .bool true) rfl (by kernel_rfl) (by kernel_rfl) (by kernel_rfl) (fun _ _ _ h => h) (Or.inl ⟨by rfl, fun W hW => run_eql_secs UI.out W _ (.tmp 54) (.tmp 55) _ rfl pr pr LP.out LP.out rfl rfl true (by simp)⟩) (by assumption) ?_
    try simp only [Act.put, List.setIfInBounds_toArray, List.set_cons_zero, List.set_cons_succ]
    refine heldTake (i := 14) (v := ?_) rfl (by kernel_rfl) (by kernel_rfl) (by kernel_rfl) (fun _ _ _ h => h) (Or.inl ⟨by rfl, ?_⟩) (by assumption) ?_
    rotate_left
    · intro w hSw; (try dsimp only at hSw); go_simp <;> (with_reducible rfl)
    try simp only [Act.put, List.setIfInBounds_toArray, List.set_cons_zero, List.set_cons_succ]
    refine heldTake (i := 15) (v := ?_) rfl (by kernel_rfl) (by kernel_rfl) (by kernel_rfl) (fun _ _ _ h => h) (Or.inl ⟨by rfl, ?_⟩) (by assumption) ?_
    rotate_left
    · intro w hSw; (try dsimp only at hSw); go_simp <;> (with_reducible rfl)
    try simp only [Act.put, List.setIfInBounds_toArray, List.set_cons_zero, List.set_cons_succ]
    refine wpAnyH_done (by kernel_rfl) ?_ _
    go_wp2_with fail
    go_ret
    exact ⟨rfl, HL_y11.out.trans (hq2.mono HL_y11.out.size)⟩
end Go.Proofs.Ytdebdkagmnccjaa
