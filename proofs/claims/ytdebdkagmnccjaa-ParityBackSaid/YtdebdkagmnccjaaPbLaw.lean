/- ParityBuilds' walk over the contracts. -/
import Derived.Test.YtdebdkagmnccjaaParR
import Derived.Deep.DeepCutAuto
import Derived.Deep.CutBlock
namespace Go.Proofs.Ytdebdkagmnccjaa
open Go.RowKit
theorem run_neq_secs {a : Act} {ui : TypeInfo} (hui : Try.prog.info? 5 = some ui) (W : World) (o : Oper) (p q : Operand) (tr : TypeId) (ho : o.op = .binOp .neq 24 p q tr) (x y : List UInt8) (hx : x.length = 64) (hy : y.length = 64) (hp : a.eval p = .agg (B8 x).toArray) (hq : a.eval q = .agg (B8 y).toArray) (r : Bool) (hr : (!decide (x = y)) = r) : (execOp a.eval o).run Try.prog W = .ok (.value (.bool r)) W := by
  unfold execOp
  simp only [ho, hp, hq, Sem.run_bind, run_eqGuard_agg (P := Try.prog) W .neq 24 p q _ _ (by kernel_rfl), Result.andThen_ok, run_neq_bytes (P := Try.prog) W 24 5 64 ui Try.underlying24 Try.underlying5 hui (by kernel_rfl) x y hx hy, Sem.run_pure, hr]
theorem run_load_sec {a : Act} (W : World) (o : Oper) (x : Operand) (ho : o.op = .load 24 x) (ad : Addr) (hx : a.eval x = .pointer (some ad)) (s : List UInt8) (hs : (Try.prog.info? 24).map (·.size) = some (B8 s).length) (hc : ∀ j v, (B8 s)[j]? = some v → W.cell? (ad.add j) = some v) : (execOp a.eval o).run Try.prog W = .ok (.value (.agg (B8 s).toArray)) W := by
  unfold execOp
  simp only [ho, hx, Instr.loadAt, Instr.sureAddr, Sem.run_bind, Sem.run_pure, Result.andThen_ok, run_loadVar_at (P := Try.prog) W ad 24 (B8 s) _ hc Try.underlying24 rfl hs]
set_option maxRecDepth 100000 in
set_option maxHeartbeats 8000000 in
theorem parityBuilds_walk (K : ParK) (A : Option Addr) (n cp : Nat) (l : List UInt8) (i : Int) (a b c : List UInt8) (w : World) (hr : Reads w w.heap.size 64 A n (B8 l)) (hc : n ≤ cp) (hc2 : cp ≤ 9223372036854775807) (hi1 : -9223372036854775808 ≤ i) (hi2 : i ≤ 9223372036854775807) (ha : a.length = 64) (hb : b.length = 64) (hcl : c.length = 64) :
    Calls Try.prog 3 #[.slice A n cp, .int .i64 i, .agg (B8 a).toArray, .agg (B8 b).toArray, .agg (B8 c).toArray] w fun e w' => e = .returned (.bool true) ∧ Below w.heap.size w w' := by
  obtain ⟨ui, UI0⟩ : ∃ ui, Try.prog.info? 5 = some ui := ⟨_, pu8_info⟩
  have UI := hide UI0
  obtain ⟨i0, hi0, hz0, hz1, hz2⟩ := psec_parts0
  have HI := hide (And.intro hi0 (And.intro hz0 (And.intro hz1 hz2)))
  have LA := hide ha
  have LB := hide hb
  have LC := hide hcl
  have HVA := hide (show (Value.agg (B8 a).toArray).cells = (B8 a).toArray from rfl)
  have HVB := hide (show (Value.agg (B8 b).toArray).cells = (B8 b).toArray from rfl)
  have HVC := hide (show (Value.agg (B8 c).toArray).cells = (B8 c).toArray from rfl)
  have HSH := hide (fun w => shown11_any K w)
  have HR := hide hr
  have HUN : Hid (Try.prog.underlying 24 = some (.array 64 5)) := Try.underlying24
  have IA := hide (show (Try.prog.info? 24).map (·.size) = some (B8 a).length by rw [B8_length, ha]; exact psec_info)
  have IB := hide (show (Try.prog.info? 24).map (·.size) = some (B8 b).length by rw [B8_length, hb]; exact psec_info)
  have IC := hide (show (Try.prog.info? 24).map (·.size) = some (B8 c).length by rw [B8_length, hcl]; exact psec_info)
  obtain ⟨t, ht⟩ : ∃ t, t = xorL a b := ⟨_, rfl⟩
  have hlt : t.length = 64 := by rw [ht]; exact xorL_length ha hb
  obtain ⟨q, hq⟩ : ∃ q, q = xorL t c := ⟨_, rfl⟩
  have hlq : q.length = 64 := by rw [hq]; exact xorL_length hlt hcl
  have LT := hide hlt
  have HT := hide ht
  have LQ := hide hlq
  have HQ := hide hq
  clear hi0 hz0 hz1 hz2 UI0 hr ha hb hcl ht hlt hq hlq
  go_enter Try.func3, Try.ntmps3
  go_upto_region 2 with (first
    | ((with_reducible refine at_slot 7 ?_); refine wpList_box_blk rfl 24 _ rfl (.agg (B8 a).toArray) rfl ?_; intro y1 hbq hl hs; rw [HVA.out] at hbq; have Ha_y1 : Hid (Blk y1 w.heap.size 24 (B8 a).toArray) := hide hbq; have HL_y1 := hide (hl); clear hbq hl hs)
    | ((with_reducible refine at_slot 8 ?_); refine wpList_box_blk rfl 24 _ rfl (.agg (B8 b).toArray) rfl ?_; intro y2 hbq hl hs; rw [HVB.out] at hbq; have Hb_y2 : Hid (Blk y2 y1.heap.size 24 (B8 b).toArray) := hide hbq; have HL_y2 := hide (HL_y1.out.trans (hl.mono HL_y1.out.size)); have Ha_y2 := hide (Ha_y1.out.below hl Ha_y1.out.lt); clear hbq hl hs)
    | ((with_reducible refine at_slot 9 ?_); refine wpList_box_blk rfl 24 _ rfl (.agg (B8 c).toArray) rfl ?_; intro y3 hbq hl hs; rw [HVC.out] at hbq; have Hc_y3 : Hid (Blk y3 y2.heap.size 24 (B8 c).toArray) := hide hbq; have HL_y3 := hide (HL_y2.out.trans (hl.mono HL_y2.out.size)); have Ha_y3 := hide (Ha_y2.out.below hl Ha_y2.out.lt); have Hb_y3 := hide (Hb_y2.out.below hl Hb_y2.out.lt); clear hbq hl hs)
    | (go_at_call 8; (with_reducible refine (HSH.out _).mono ?_); rintro _ y4 ⟨rfl, hl⟩; have HL_y4 := hide (HL_y3.out.trans (hl.mono HL_y3.out.size)); have Ha_y4 := hide (Ha_y3.out.below hl Ha_y3.out.lt); have Hb_y4 := hide (Hb_y3.out.below hl Hb_y3.out.lt); have Hc_y4 := hide (Hc_y3.out.below hl Hc_y3.out.lt); clear hl))
  go_cut [0] (fun v0 wx => y4 = wx ∧ ∃ m : Nat, m ≤ n ∧ m ≤ 40 ∧ v0 = .slice A m cp)
  case first =>
    by_cases hmn : (n : Int) ≤ 40
    · go_wp2_with fail
      go_meet
      case rel => exact ⟨rfl, n, Nat.le_refl _, by omega, rfl⟩
    · go_wp2_with fail
      go_meet
      case rel => exact ⟨rfl, 40, by omega, by omega, rfl⟩
  case rest =>
    obtain ⟨rfl, m, hmn, hm40, rfl⟩ := hcut
    obtain ⟨hS0, hL0, hR0⟩ := cut_all HR.out (m := m) hmn
    obtain ⟨L, hL⟩ : ∃ L, L = cutS l m := ⟨_, rfl⟩
    rw [← hL] at hS0 hL0 hR0
    obtain ⟨p, hp⟩ : ∃ p, p = parOf L := ⟨_, rfl⟩
    have hlp : p.length = 64 := by rw [hp]; exact par_length hS0
    obtain ⟨x, hx⟩ : ∃ x, x = rebS L i := ⟨_, rfl⟩
    have hlx : x.length = 64 := by rw [hx]; exact rebS_length hS0 i
    obtain ⟨e, he⟩ : ∃ e : Int, e = (rebE m i : Int) := ⟨_, rfl⟩
    obtain ⟨d, hd⟩ : ∃ d : Bool, decide (p = zeroL) = d := ⟨_, rfl⟩
    have HS := hide hS0
    have HL := hide hL0
    have HRL := hide hR0
    have HP := hide hp
    have LP := hide hlp
    have HX := hide hx
    have LX := hide hlx
    have HE := hide he
    have HD := hide hd
    have HID := hide (And.intro hi1 hi2)
    have IX := hide (show (Try.prog.info? 24).map (·.size) = some (B8 x).length by rw [B8_length, hlx]; exact psec_info)
    have H1 := hide (And.intro (show 0 + m ≤ maxLen by simp only [maxLen]; omega) (show (0 + m) * 64 ≤ 140737488355328 by omega))
    clear hL hS0 hL0 hR0 hp hlp hx hlx he hd hi1 hi2
    go_wp2_with (first
      | ((with_reducible refine at_slot 24 ?_); refine wpList_none64 rfl rfl ?_)
      | ((with_reducible refine at_slot 26 ?_); refine wpList_append_any _ rfl (.tmp 24) (.tmp 25) _ rfl y4.heap.size 24 i0 _ 64 64 Try.underlying22 HI.out.1 HI.out.2.1 HI.out.2.2.1 HI.out.2.2.2 rfl (by decide) _ 0 [] rfl (World.ownsRow_made y4 #[] 0 (Nat.le_refl _) (Nat.zero_le _) rfl) y4.heap.size _ m cp (B8 L.flatten) rfl ((HRL.out.later HL_y4.out).alloc (Nat.le_refl _) _) (B8_one _) H1.out.1 H1.out.2 (le_alloc (Nat.le_refl _) _) ?_; intro v3 y5 hown1 hbel1; have hl : Below y4.heap.size y4 y5 := ((Below.refl _ _).alloc (Nat.le_refl _) _).trans hbel1; rw [Nat.zero_add, List.nil_append] at hown1; obtain ⟨AO, cO, rfl, _, _⟩ := own_shape hown1; have RO_y5 : Hid (RowS y5 y4.heap.size AO cO L) := hide ⟨(by rw [HL.out]; exact hown1), HS.out⟩; have HL_y5 := hide (HL_y4.out.trans (hl.mono HL_y4.out.size)); have Ha_y5 := hide (Ha_y4.out.below hl Ha_y4.out.lt); have Hb_y5 := hide (Hb_y4.out.below hl Hb_y4.out.lt); have Hc_y5 := hide (Hc_y4.out.below hl Hc_y4.out.lt); clear hl hown1 hbel1)
      | (go_at_call 9; (with_reducible refine (RowS.rebuild K RO_y5.out HL.out (by omega) i HID.out.1 HID.out.2).mono ?_); rintro _ y6 ⟨rfl, hl⟩; rw [← HX.out, ← HE.out]; have HL_y6 := hide (HL_y5.out.trans (hl.mono HL_y5.out.size)); have Ha_y6 := hide (Ha_y5.out.below hl Ha_y5.out.lt); have Hb_y6 := hide (Hb_y5.out.below hl Hb_y5.out.lt); have Hc_y6 := hide (Hc_y5.out.below hl Hc_y5.out.lt); have RO_y6 := hide (RO_y5.out.later hl); clear hl)
      | ((with_reducible refine at_slot 13 ?_); refine wpList_alloc_blk rfl 24 rfl _ (psec_nought _) ?_; intro y7 hbq hl1 hs1; have hb1 : Blk y7 y6.heap.size 24 (B8 zeroL).toArray := hbq; clear hbq hs1)
      | ((with_reducible refine at_store 13 ?_); refine wpList_store_all rfl 24 (.tmp 13) (.tmp 31) rfl y6.heap.size 24 _ hb1 rfl (B8 x) rfl IX.out (by rw [List.size_toArray, B8_length, B8_length, LX.out, zeroL_length]) (B8_one _) ?_; intro y8 hbz hg hs; have hz := hb1.lt; have hl : Below y6.heap.size y6 y8 := hl1.grown hg (by omega) (fun g e => by injection e with e; omega); have Hx_y8 := hide hbz; have HL_y8 := hide (HL_y6.out.trans (hl.mono HL_y6.out.size)); have Ha_y8 := hide (Ha_y6.out.below hl Ha_y6.out.lt); have Hb_y8 := hide (Hb_y6.out.below hl Hb_y6.out.lt); have Hc_y8 := hide (Hc_y6.out.below hl Hc_y6.out.lt); have RO_y8 := hide (RO_y6.out.later hl); clear hz hl hs hg hbz hb1 hl1)
      | (go_at_call 10; (with_reducible refine (refRebuild_of y8 A m cp L i HS.out HL.out (HRL.out.later HL_y8.out) (by omega)).mono ?_); rintro _ y9 ⟨rfl, hl⟩; rw [HL.out, ← HX.out, ← HE.out]; have HL_y9 := hide (HL_y8.out.trans (hl.mono HL_y8.out.size)); have Ha_y9 := hide (Ha_y8.out.below hl Ha_y8.out.lt); have Hb_y9 := hide (Hb_y8.out.below hl Hb_y8.out.lt); have Hc_y9 := hide (Hc_y8.out.below hl Hc_y8.out.lt); have Hx_y9 := hide (Hx_y8.out.below hl Hx_y8.out.lt); have RO_y9 := hide (RO_y8.out.later hl); clear hl)
      | ((with_reducible refine at_slot 15 ?_); refine wpList_alloc_blk rfl 24 rfl _ (psec_nought _) ?_; intro y10 hbq hl1 hs1; have hb1 : Blk y10 y9.heap.size 24 (B8 zeroL).toArray := hbq; clear hbq hs1)
      | ((with_reducible refine at_store 15 ?_); refine wpList_store_all rfl 24 (.tmp 15) (.tmp 37) rfl y9.heap.size 24 _ hb1 rfl (B8 x) rfl IX.out (by rw [List.size_toArray, B8_length, B8_length, LX.out, zeroL_length]) (B8_one _) ?_; intro y11 hbz hg hs; have hz := hb1.lt; have hl : Below y9.heap.size y9 y11 := hl1.grown hg (by omega) (fun g e => by injection e with e; omega); have Hy_y11 := hide hbz; have HL_y11 := hide (HL_y9.out.trans (hl.mono HL_y9.out.size)); have Ha_y11 := hide (Ha_y9.out.below hl Ha_y9.out.lt); have Hb_y11 := hide (Hb_y9.out.below hl Hb_y9.out.lt); have Hc_y11 := hide (Hc_y9.out.below hl Hc_y9.out.lt); have Hx_y11 := hide (Hx_y9.out.below hl Hx_y9.out.lt); have RO_y11 := hide (RO_y9.out.later hl); clear hz hl hs hg hbz hb1 hl1))
    have HDR := hide ((Below.refl y11.heap.size y11).drew)
    have HFF : Hid (∀ W', Below y11.heap.size y11 W' → (W'.rangeAt w.heap.size 0 (B8 a) ∧ W'.rangeAt y1.heap.size 0 (B8 b) ∧ W'.rangeAt y2.heap.size 0 (B8 c) ∧ W'.rangeAt y6.heap.size 0 (B8 x) ∧ W'.rangeAt y9.heap.size 0 (B8 x) ∧ Below y11.heap.size y11 W')) := hide fun W' h => ⟨range_of64 (Ha_y11.out.below h Ha_y11.out.lt), range_of64 (Hb_y11.out.below h Hb_y11.out.lt), range_of64 (Hc_y11.out.below h Hc_y11.out.lt), range_of64 (Hx_y11.out.below h Hx_y11.out.lt), range_of64 (Hy_y11.out.below h Hy_y11.out.lt), h⟩
    refine wp_region_held_drew (S := (fun W => W.rangeAt w.heap.size 0 (B8 a) ∧ W.rangeAt y1.heap.size 0 (B8 b) ∧ W.rangeAt y2.heap.size 0 (B8 c) ∧ W.rangeAt y6.heap.size 0 (B8 x) ∧ W.rangeAt y9.heap.size 0 (B8 x) ∧ Below y11.heap.size y11 W)) (by kernel_rfl) ?_ (fun hHeld => ?_)
    · exact HFF.out _ HDR.out
    refine heldTake (i := 0) (v := .agg (B8 x).toArray) rfl (by kernel_rfl) (by kernel_rfl) (by kernel_rfl) (fun _ _ _ h => h) (yieldsIf_load_mid (by rfl) _ _ rfl _ _ rfl (B8 x) _ (fun W hW => hW.2.2.2.1) HUN.out rfl IX.out) (by assumption) ?_
    try simp only [Act.put, List.setIfInBounds_toArray, List.set_cons_zero, List.set_cons_succ]
    refine heldTake (i := 1) (v := .agg (B8 x).toArray) rfl (by kernel_rfl) (by kernel_rfl) (by kernel_rfl) (fun _ _ _ h => h) (yieldsIf_load_mid (by rfl) _ _ rfl _ _ rfl (B8 x) _ (fun W hW => hW.2.2.2.2.1) HUN.out rfl IX.out) (by assumption) ?_
    try simp only [Act.put, List.setIfInBounds_toArray, List.set_cons_zero, List.set_cons_succ]
    refine heldTake (i := 2) (v := .bool false) rfl (by kernel_rfl) (by kernel_rfl) (by kernel_rfl) (fun _ _ _ h => h) (Or.inl ⟨by rfl, fun W hW => run_neq_secs UI.out W _ (.tmp 39) (.tmp 40) _ rfl x x LX.out LX.out rfl rfl false (by simp)⟩) (by assumption) ?_
    try simp only [Act.put, List.setIfInBounds_toArray, List.set_cons_zero, List.set_cons_succ]
    refine heldTake (i := 3) (v := ?_) rfl (by kernel_rfl) (by kernel_rfl) (by kernel_rfl) (fun _ _ _ h => h) (Or.inl ⟨by rfl, ?_⟩) (by assumption) ?_
    rotate_left
    · intro w hSw; (try dsimp only at hSw); go_simp <;> (with_reducible rfl)
    try simp only [Act.put, List.setIfInBounds_toArray, List.set_cons_zero, List.set_cons_succ]
    refine heldTake (i := 4) (v := ?_) rfl (by kernel_rfl) (by kernel_rfl) (by kernel_rfl) (fun _ _ _ h => h) (Or.inl ⟨by rfl, ?_⟩) (by assumption) ?_
    rotate_left
    · intro w hSw; (try dsimp only at hSw); go_simp <;> (with_reducible rfl)
    try simp only [Act.put, List.setIfInBounds_toArray, List.set_cons_zero, List.set_cons_succ]
    refine heldTake (i := 5) (v := ?_) rfl (by kernel_rfl) (by kernel_rfl) (by kernel_rfl) (fun _ _ _ h => h) (Or.inl ⟨by rfl, ?_⟩) (by assumption) ?_
    rotate_left
    · intro w hSw; (try dsimp only at hSw); go_simp <;> (with_reducible rfl)
    try simp only [Act.put, List.setIfInBounds_toArray, List.set_cons_zero, List.set_cons_succ]
    refine heldTake (i := 6) (v := ?_) rfl (by kernel_rfl) (by kernel_rfl) (by kernel_rfl) (fun _ _ _ h => h) (Or.inl ⟨by rfl, ?_⟩) (by assumption) ?_
    rotate_left
    · intro w hSw; (try dsimp only at hSw); go_simp <;> (with_reducible rfl)
    try simp only [Act.put, List.setIfInBounds_toArray, List.set_cons_zero, List.set_cons_succ]
    refine heldTake (i := 7) (v := ?_) rfl (by kernel_rfl) (by kernel_rfl) (by kernel_rfl) (fun _ _ _ h => h) (Or.inl ⟨by rfl, ?_⟩) (by assumption) ?_
    rotate_left
    · intro w hSw; (try dsimp only at hSw); go_simp <;> (with_reducible rfl)
    try simp only [Act.put, List.setIfInBounds_toArray, List.set_cons_zero, List.set_cons_succ]
    refine heldTake (i := 8) (v := ?_) rfl (by kernel_rfl) (by kernel_rfl) (by kernel_rfl) (fun _ _ _ h => h) (Or.inl ⟨by rfl, ?_⟩) (by assumption) ?_
    rotate_left
    · intro w hSw; (try dsimp only at hSw); go_simp <;> (with_reducible rfl)
    try simp only [Act.put, List.setIfInBounds_toArray, List.set_cons_zero, List.set_cons_succ]
    refine heldTake (i := 9) (v := ?_) rfl (by kernel_rfl) (by kernel_rfl) (by kernel_rfl) (fun _ _ _ h => h) (Or.inl ⟨by rfl, ?_⟩) (by assumption) ?_
    rotate_left
    · intro w hSw; (try dsimp only at hSw); go_simp <;> (with_reducible rfl)
    try simp only [Act.put, List.setIfInBounds_toArray, List.set_cons_zero, List.set_cons_succ]
    refine heldTake (i := 11) (v := ?_) rfl (by kernel_rfl) (by kernel_rfl) (by kernel_rfl) (fun _ _ _ h => h) (Or.inl ⟨by rfl, ?_⟩) (by assumption) ?_
    rotate_left
    · intro w hSw; (try dsimp only at hSw); go_simp <;> (with_reducible rfl)
    try simp only [Act.put, List.setIfInBounds_toArray, List.set_cons_zero, List.set_cons_succ]
    refine wpAnyH_ready (rs := [10]) (by kernel_rfl) (by simp) ?_
    refine heldCons (i := 10) rfl (fun Kq hKq => ?_) AllReadyH.nil
    go_simp
    go_at_call 11
    refine (RowS.build K (RO_y11.out.later HDR.out) HL.out (by omega)).mono ?_
    rintro _ z1 ⟨rfl, hz1⟩
    rw [← HP.out]
    have hq1 : Below y11.heap.size y11 z1 := HDR.out.trans hz1
    first | (refine hKq.out _ _ (HFF.out _ hq1) (fun hHeld => ?_)) | (go_wp2_with fail; refine hKq.out _ _ (HFF.out _ hq1) (fun hHeld => ?_))
    clear hKq Kq
    try simp only [Act.put, List.setIfInBounds_toArray, List.set_cons_zero, List.set_cons_succ]
    refine wpAnyH_ready (rs := [12]) (by kernel_rfl) (by simp) ?_
    refine heldCons (i := 12) rfl (fun Kq hKq => ?_) AllReadyH.nil
    go_simp
    go_at_call 12
    refine (refBuild_of _ A m cp L HS.out HL.out (HRL.out.later (HL_y11.out.trans (hq1.mono HL_y11.out.size))) (by omega)).mono ?_
    rintro _ z2 ⟨rfl, hz2⟩
    rw [← HP.out]
    have hq2 : Below y11.heap.size y11 z2 := hq1.trans (hz2.mono hq1.size)
    first | (refine hKq.out _ _ (HFF.out _ hq2) (fun hHeld => ?_)) | (go_wp2_with fail; refine hKq.out _ _ (HFF.out _ hq2) (fun hHeld => ?_))
    clear hKq Kq
    try simp only [Act.put, List.setIfInBounds_toArray, List.set_cons_zero, List.set_cons_succ]
    refine heldTake (i := 13) (v := .bool false) rfl (by kernel_rfl) (by kernel_rfl) (by kernel_rfl) (fun _ _ _ h => h) (Or.inl ⟨by rfl, fun W hW => run_neq_secs UI.out W _ (.tmp 49) (.tmp 51) _ rfl p p LP.out LP.out rfl rfl false (by simp)⟩) (by assumption) ?_
    try simp only [Act.put, List.setIfInBounds_toArray, List.set_cons_zero, List.set_cons_succ]
    refine heldTake (i := 14) (v := ?_) rfl (by kernel_rfl) (by kernel_rfl) (by kernel_rfl) (fun _ _ _ h => h) (Or.inl ⟨by rfl, ?_⟩) (by assumption) ?_
    rotate_left
    · intro w hSw; (try dsimp only at hSw); go_simp <;> (with_reducible rfl)
    try simp only [Act.put, List.setIfInBounds_toArray, List.set_cons_zero, List.set_cons_succ]
    refine heldTake (i := 15) (v := ?_) rfl (by kernel_rfl) (by kernel_rfl) (by kernel_rfl) (fun _ _ _ h => h) (Or.inl ⟨by rfl, ?_⟩) (by assumption) ?_
    rotate_left
    · intro w hSw; (try dsimp only at hSw); go_simp <;> (with_reducible rfl)
    try simp only [Act.put, List.setIfInBounds_toArray, List.set_cons_zero, List.set_cons_succ]
    refine heldTake (i := 16) (v := .agg (B8 a).toArray) rfl (by kernel_rfl) (by kernel_rfl) (by kernel_rfl) (fun _ _ _ h => h) (yieldsIf_load_mid (by rfl) _ _ rfl _ _ rfl (B8 a) _ (fun W hW => hW.1) HUN.out rfl IA.out) (by assumption) ?_
    try simp only [Act.put, List.setIfInBounds_toArray, List.set_cons_zero, List.set_cons_succ]
    refine heldTake (i := 17) (v := .agg (B8 b).toArray) rfl (by kernel_rfl) (by kernel_rfl) (by kernel_rfl) (fun _ _ _ h => h) (yieldsIf_load_mid (by rfl) _ _ rfl _ _ rfl (B8 b) _ (fun W hW => hW.2.1) HUN.out rfl IB.out) (by assumption) ?_
    try simp only [Act.put, List.setIfInBounds_toArray, List.set_cons_zero, List.set_cons_succ]
    refine heldTake (i := 19) (v := .agg (B8 a).toArray) rfl (by kernel_rfl) (by kernel_rfl) (by kernel_rfl) (fun _ _ _ h => h) (yieldsIf_load_mid (by rfl) _ _ rfl _ _ rfl (B8 a) _ (fun W hW => hW.1) HUN.out rfl IA.out) (by assumption) ?_
    try simp only [Act.put, List.setIfInBounds_toArray, List.set_cons_zero, List.set_cons_succ]
    refine heldTake (i := 20) (v := .agg (B8 b).toArray) rfl (by kernel_rfl) (by kernel_rfl) (by kernel_rfl) (fun _ _ _ h => h) (yieldsIf_load_mid (by rfl) _ _ rfl _ _ rfl (B8 b) _ (fun W hW => hW.2.1) HUN.out rfl IB.out) (by assumption) ?_
    try simp only [Act.put, List.setIfInBounds_toArray, List.set_cons_zero, List.set_cons_succ]
    refine wpAnyH_ready (rs := [18]) (by kernel_rfl) (by simp) ?_
    refine heldCons (i := 18) rfl (fun Kq hKq => ?_) AllReadyH.nil
    go_simp
    go_at_call 13
    refine (K.xor_any _ a b LA.out LB.out).mono ?_
    rintro _ z3 ⟨rfl, hz3⟩
    rw [← HT.out]
    have hq3 : Below y11.heap.size y11 z3 := hq2.trans (hz3.mono hq2.size)
    first | (refine hKq.out _ _ (HFF.out _ hq3) (fun hHeld => ?_)) | (go_wp2_with fail; refine hKq.out _ _ (HFF.out _ hq3) (fun hHeld => ?_))
    clear hKq Kq
    try simp only [Act.put, List.setIfInBounds_toArray, List.set_cons_zero, List.set_cons_succ]
    refine wpAnyH_ready (rs := [21]) (by kernel_rfl) (by simp) ?_
    refine heldCons (i := 21) rfl (fun Kq hKq => ?_) AllReadyH.nil
    go_simp
    go_at_call 14
    refine (refXor_any a b _ LA.out LB.out).mono ?_
    rintro _ z4 ⟨rfl, hz4⟩
    rw [← HT.out]
    have hq4 : Below y11.heap.size y11 z4 := hq3.trans (hz4.mono hq3.size)
    first | (refine hKq.out _ _ (HFF.out _ hq4) (fun hHeld => ?_)) | (go_wp2_with fail; refine hKq.out _ _ (HFF.out _ hq4) (fun hHeld => ?_))
    clear hKq Kq
    try simp only [Act.put, List.setIfInBounds_toArray, List.set_cons_zero, List.set_cons_succ]
    refine heldTake (i := 22) (v := .bool false) rfl (by kernel_rfl) (by kernel_rfl) (by kernel_rfl) (fun _ _ _ h => h) (Or.inl ⟨by rfl, fun W hW => run_neq_secs UI.out W _ (.tmp 57) (.tmp 60) _ rfl t t LT.out LT.out rfl rfl false (by simp)⟩) (by assumption) ?_
    try simp only [Act.put, List.setIfInBounds_toArray, List.set_cons_zero, List.set_cons_succ]
    refine heldTake (i := 23) (v := ?_) rfl (by kernel_rfl) (by kernel_rfl) (by kernel_rfl) (fun _ _ _ h => h) (Or.inl ⟨by rfl, ?_⟩) (by assumption) ?_
    rotate_left
    · intro w hSw; (try dsimp only at hSw); go_simp <;> (with_reducible rfl)
    try simp only [Act.put, List.setIfInBounds_toArray, List.set_cons_zero, List.set_cons_succ]
    refine heldTake (i := 24) (v := ?_) rfl (by kernel_rfl) (by kernel_rfl) (by kernel_rfl) (fun _ _ _ h => h) (Or.inl ⟨by rfl, ?_⟩) (by assumption) ?_
    rotate_left
    · intro w hSw; (try dsimp only at hSw); go_simp <;> (with_reducible rfl)
    try simp only [Act.put, List.setIfInBounds_toArray, List.set_cons_zero, List.set_cons_succ]
    refine heldTake (i := 25) (v := .agg (B8 a).toArray) rfl (by kernel_rfl) (by kernel_rfl) (by kernel_rfl) (fun _ _ _ h => h) (yieldsIf_load_mid (by rfl) _ _ rfl _ _ rfl (B8 a) _ (fun W hW => hW.1) HUN.out rfl IA.out) (by assumption) ?_
    try simp only [Act.put, List.setIfInBounds_toArray, List.set_cons_zero, List.set_cons_succ]
    refine heldTake (i := 26) (v := .agg (B8 b).toArray) rfl (by kernel_rfl) (by kernel_rfl) (by kernel_rfl) (fun _ _ _ h => h) (yieldsIf_load_mid (by rfl) _ _ rfl _ _ rfl (B8 b) _ (fun W hW => hW.2.1) HUN.out rfl IB.out) (by assumption) ?_
    try simp only [Act.put, List.setIfInBounds_toArray, List.set_cons_zero, List.set_cons_succ]
    refine heldTake (i := 27) (v := .agg (B8 c).toArray) rfl (by kernel_rfl) (by kernel_rfl) (by kernel_rfl) (fun _ _ _ h => h) (yieldsIf_load_mid (by rfl) _ _ rfl _ _ rfl (B8 c) _ (fun W hW => hW.2.2.1) HUN.out rfl IC.out) (by assumption) ?_
    try simp only [Act.put, List.setIfInBounds_toArray, List.set_cons_zero, List.set_cons_succ]
    refine heldTake (i := 29) (v := .agg (B8 a).toArray) rfl (by kernel_rfl) (by kernel_rfl) (by kernel_rfl) (fun _ _ _ h => h) (yieldsIf_load_mid (by rfl) _ _ rfl _ _ rfl (B8 a) _ (fun W hW => hW.1) HUN.out rfl IA.out) (by assumption) ?_
    try simp only [Act.put, List.setIfInBounds_toArray, List.set_cons_zero, List.set_cons_succ]
    refine heldTake (i := 30) (v := .agg (B8 b).toArray) rfl (by kernel_rfl) (by kernel_rfl) (by kernel_rfl) (fun _ _ _ h => h) (yieldsIf_load_mid (by rfl) _ _ rfl _ _ rfl (B8 b) _ (fun W hW => hW.2.1) HUN.out rfl IB.out) (by assumption) ?_
    try simp only [Act.put, List.setIfInBounds_toArray, List.set_cons_zero, List.set_cons_succ]
    refine heldTake (i := 31) (v := .agg (B8 c).toArray) rfl (by kernel_rfl) (by kernel_rfl) (by kernel_rfl) (fun _ _ _ h => h) (yieldsIf_load_mid (by rfl) _ _ rfl _ _ rfl (B8 c) _ (fun W hW => hW.2.2.1) HUN.out rfl IC.out) (by assumption) ?_
    try simp only [Act.put, List.setIfInBounds_toArray, List.set_cons_zero, List.set_cons_succ]
    refine wpAnyH_ready (rs := [28]) (by kernel_rfl) (by simp) ?_
    refine heldCons (i := 28) rfl (fun Kq hKq => ?_) AllReadyH.nil
    go_simp
    go_at_call 15
    refine (K.plug_any _ a b c LA.out LB.out LC.out).mono ?_
    rintro _ z5 ⟨rfl, hz5⟩
    rw [← HT.out, ← HQ.out]
    have hq5 : Below y11.heap.size y11 z5 := hq4.trans (hz5.mono hq4.size)
    first | (refine hKq.out _ _ (HFF.out _ hq5) (fun hHeld => ?_)) | (go_wp2_with fail; refine hKq.out _ _ (HFF.out _ hq5) (fun hHeld => ?_))
    clear hKq Kq
    try simp only [Act.put, List.setIfInBounds_toArray, List.set_cons_zero, List.set_cons_succ]
    refine wpAnyH_ready (rs := [32]) (by kernel_rfl) (by simp) ?_
    refine heldCons (i := 32) rfl (fun Kq hKq => ?_) AllReadyH.nil
    go_simp
    go_at_call 16
    refine (refPlug_any a b c _ LA.out LB.out LC.out).mono ?_
    rintro _ z6 ⟨rfl, hz6⟩
    rw [← HT.out, ← HQ.out]
    have hq6 : Below y11.heap.size y11 z6 := hq5.trans (hz6.mono hq5.size)
    first | (refine hKq.out _ _ (HFF.out _ hq6) (fun hHeld => ?_)) | (go_wp2_with fail; refine hKq.out _ _ (HFF.out _ hq6) (fun hHeld => ?_))
    clear hKq Kq
    try simp only [Act.put, List.setIfInBounds_toArray, List.set_cons_zero, List.set_cons_succ]
    refine heldTake (i := 33) (v := .bool false) rfl (by kernel_rfl) (by kernel_rfl) (by kernel_rfl) (fun _ _ _ h => h) (Or.inl ⟨by rfl, fun W hW => run_neq_secs UI.out W _ (.tmp 67) (.tmp 71) _ rfl q q LQ.out LQ.out rfl rfl false (by simp)⟩) (by assumption) ?_
    try simp only [Act.put, List.setIfInBounds_toArray, List.set_cons_zero, List.set_cons_succ]
    refine heldTake (i := 34) (v := ?_) rfl (by kernel_rfl) (by kernel_rfl) (by kernel_rfl) (fun _ _ _ h => h) (Or.inl ⟨by rfl, ?_⟩) (by assumption) ?_
    rotate_left
    · intro w hSw; (try dsimp only at hSw); go_simp <;> (with_reducible rfl)
    try simp only [Act.put, List.setIfInBounds_toArray, List.set_cons_zero, List.set_cons_succ]
    refine heldTake (i := 35) (v := ?_) rfl (by kernel_rfl) (by kernel_rfl) (by kernel_rfl) (fun _ _ _ h => h) (Or.inl ⟨by rfl, ?_⟩) (by assumption) ?_
    rotate_left
    · intro w hSw; (try dsimp only at hSw); go_simp <;> (with_reducible rfl)
    try simp only [Act.put, List.setIfInBounds_toArray, List.set_cons_zero, List.set_cons_succ]
    refine heldTake (i := 36) (v := ?_) rfl (by kernel_rfl) (by kernel_rfl) (by kernel_rfl) (fun _ _ _ h => h) (Or.inl ⟨by rfl, ?_⟩) (by assumption) ?_
    rotate_left
    · intro w hSw; (try dsimp only at hSw); go_simp <;> (with_reducible rfl)
    try simp only [Act.put, List.setIfInBounds_toArray, List.set_cons_zero, List.set_cons_succ]
    refine heldTake (i := 38) (v := ?_) rfl (by kernel_rfl) (by kernel_rfl) (by kernel_rfl) (fun _ _ _ h => h) (Or.inl ⟨by rfl, ?_⟩) (by assumption) ?_
    rotate_left
    · intro w hSw; (try dsimp only at hSw); go_simp <;> (with_reducible rfl)
    try simp only [Act.put, List.setIfInBounds_toArray, List.set_cons_zero, List.set_cons_succ]
    refine heldTake (i := 40) (v := .agg (B8 zeroL).toArray) rfl (by kernel_rfl) (by kernel_rfl) (by kernel_rfl) (fun _ _ _ h => h) (Or.inl ⟨by rfl, fun W hW => run_build_none W _ rfl⟩) (by assumption) ?_
    try simp only [Act.put, List.setIfInBounds_toArray, List.set_cons_zero, List.set_cons_succ]
    refine wpAnyH_ready (rs := [37]) (by kernel_rfl) (by simp) ?_
    refine heldCons (i := 37) rfl (fun Kq hKq => ?_) AllReadyH.nil
    go_simp
    go_at_call 17
    refine (RowS.check K (RO_y11.out.later hq6) HL.out (by omega)).mono ?_
    rintro _ z7 ⟨rfl, hz7⟩
    rw [← HP.out, HD.out]
    have hq7 : Below y11.heap.size y11 z7 := hq6.trans (hz7.mono hq6.size)
    first | (refine hKq.out _ _ (HFF.out _ hq7) (fun hHeld => ?_)) | (go_wp2_with fail; refine hKq.out _ _ (HFF.out _ hq7) (fun hHeld => ?_))
    clear hKq Kq
    try simp only [Act.put, List.setIfInBounds_toArray, List.set_cons_zero, List.set_cons_succ]
    refine wpAnyH_ready (rs := [39]) (by kernel_rfl) (by simp) ?_
    refine heldCons (i := 39) rfl (fun Kq hKq => ?_) AllReadyH.nil
    go_simp
    go_at_call 12
    refine (refBuild_of _ A m cp L HS.out HL.out (HRL.out.later (HL_y11.out.trans (hq7.mono HL_y11.out.size))) (by omega)).mono ?_
    rintro _ z8 ⟨rfl, hz8⟩
    rw [← HP.out]
    have hq8 : Below y11.heap.size y11 z8 := hq7.trans (hz8.mono hq7.size)
    first | (refine hKq.out _ _ (HFF.out _ hq8) (fun hHeld => ?_)) | (go_wp2_with fail; refine hKq.out _ _ (HFF.out _ hq8) (fun hHeld => ?_))
    clear hKq Kq
    try simp only [Act.put, List.setIfInBounds_toArray, List.set_cons_zero, List.set_cons_succ]
    refine heldTake (i := 41) (v := .bool d) rfl (by kernel_rfl) (by kernel_rfl) (by kernel_rfl) (fun _ _ _ h => h) (Or.inl ⟨by rfl, fun W hW => run_eql_secs UI.out W _ (.tmp 78) (.tmp 79) _ rfl p zeroL LP.out zeroL_length rfl rfl d HD.out⟩) (by assumption) ?_
    try simp only [Act.put, List.setIfInBounds_toArray, List.set_cons_zero, List.set_cons_succ]
    refine heldTake (i := 42) (v := ?_) rfl (by kernel_rfl) (by kernel_rfl) (by kernel_rfl) (fun _ _ _ h => h) (Or.inl ⟨by rfl, ?_⟩) (by assumption) ?_
    rotate_left
    · intro w hSw; (try dsimp only at hSw); go_simp <;> (with_reducible rfl)
    try simp only [Act.put, List.setIfInBounds_toArray, List.set_cons_zero, List.set_cons_succ]
    refine heldTake (i := 43) (v := ?_) rfl (by kernel_rfl) (by kernel_rfl) (by kernel_rfl) (fun _ _ _ h => h) (Or.inl ⟨by rfl, ?_⟩) (by assumption) ?_
    rotate_left
    · intro w hSw; (try dsimp only at hSw); go_simp <;> (with_reducible rfl)
    try simp only [Act.put, List.setIfInBounds_toArray, List.set_cons_zero, List.set_cons_succ]
    refine wpAnyH_done (by kernel_rfl) ?_ _
    go_wp2_with fail
    have HZ := hide hq8
    have RZ := hide (RO_y11.out.later hq8)
    clear hHeld
    go_loopw [17] (fun s17 wr => ∃ k : Nat, s17 = .int .i64 (k : Int) ∧ k ≤ m ∧ Hid (Below z8.heap.size z8 wr)) (fun s17 _ => m - (intOf s17).toNat)
    case atStart => exact ⟨0, rfl, Nat.zero_le _, hide (Below.refl _ _)⟩
    case round =>
      obtain ⟨k, rfl, hk, hl⟩ := hrel
      by_cases hkm : (k : Int) < (m : Int)
      · have hkw : (0 : Int) ≤ (k : Int) := by omega
        have hkl : k < L.length := by rw [HL.out]; omega
        obtain ⟨s, hs⟩ : ∃ s, L[k]? = some s := ⟨L[k]'hkl, List.getElem?_eq_getElem _⟩
        have hls : s.length = 64 := HS.out s (List.mem_of_getElem? hs)
        have hdr : Below z8.heap.size z8 wr.drew := hl.out.trans ((Below.refl _ _).drew)
        obtain ⟨ad, hA, hab, hcs⟩ := (HRL.out.later (HL_y11.out.trans ((HZ.out.trans (hdr.mono HZ.out.size)).mono HL_y11.out.size))).sec_at (k := k) (by omega)
        subst hA
        rw [flat_at HS.out hs] at hcs
        obtain ⟨bd, hB, _, _, hds⟩ := (RZ.out.later hdr).at hs
        subst hB
        have HCS := hide hcs
        have HDS := hide hds
        have LS := hide hls
        have IS := hide (show (Try.prog.info? 24).map (·.size) = some (B8 s).length by rw [B8_length, hls]; exact psec_info)
        have HDD := hide hdr
        clear hcs hds hs hls hdr hkl
        go_wp2_with fail
        refine wp_region_held_drew (S := (fun W => W = wr.drew)) (by kernel_rfl) ?_ (fun hHeld => ?_)
        · exact rfl
        refine heldTake (i := 0) (v := ?_) rfl (by kernel_rfl) (by kernel_rfl) (by kernel_rfl) (fun _ _ _ h => h) (Or.inl ⟨by rfl, ?_⟩) (by assumption) ?_
        rotate_left
        · intro w hSw; (try dsimp only at hSw); go_simp <;> (with_reducible rfl)
        try simp only [Act.put, List.setIfInBounds_toArray, List.set_cons_zero, List.set_cons_succ]
        refine heldTake (i := 1) (v := ?_) rfl (by kernel_rfl) (by kernel_rfl) (by kernel_rfl) (fun _ _ _ h => h) (Or.inl ⟨by rfl, ?_⟩) (by assumption) ?_
        rotate_left
        · intro w hSw; (try dsimp only at hSw); go_simp <;> (with_reducible rfl)
        try simp only [Act.put, List.setIfInBounds_toArray, List.set_cons_zero, List.set_cons_succ]
        refine heldTake (i := 2) (v := ?_) rfl (by kernel_rfl) (by kernel_rfl) (by kernel_rfl) (fun _ _ _ h => h) (Or.inl ⟨by rfl, ?_⟩) (by assumption) ?_
        rotate_left
        · intro w hSw; (try dsimp only at hSw); go_simp <;> (with_reducible rfl)
        try simp only [Act.put, List.setIfInBounds_toArray, List.set_cons_zero, List.set_cons_succ]
        refine heldTake (i := 4) (v := ?_) rfl (by kernel_rfl) (by kernel_rfl) (by kernel_rfl) (fun _ _ _ h => h) (Or.inl ⟨by rfl, ?_⟩) (by assumption) ?_
        rotate_left
        · intro w hSw; (try dsimp only at hSw); go_simp <;> (with_reducible rfl)
        try simp only [Act.put, List.setIfInBounds_toArray, List.set_cons_zero, List.set_cons_succ]
        refine heldTake (i := 5) (v := ?_) rfl (by kernel_rfl) (by kernel_rfl) (by kernel_rfl) (fun _ _ _ h => h) (Or.inl ⟨by rfl, ?_⟩) (by assumption) ?_
        rotate_left
        · intro w hSw; (try dsimp only at hSw); go_simp <;> (with_reducible rfl)
        try simp only [Act.put, List.setIfInBounds_toArray, List.set_cons_zero, List.set_cons_succ]
        refine heldTake (i := 6) (v := ?_) rfl (by kernel_rfl) (by kernel_rfl) (by kernel_rfl) (fun _ _ _ h => h) (Or.inl ⟨by rfl, ?_⟩) (by assumption) ?_
        rotate_left
        · intro w hSw; (try dsimp only at hSw); go_simp <;> (with_reducible rfl)
        try simp only [Act.put, List.setIfInBounds_toArray, List.set_cons_zero, List.set_cons_succ]
        refine heldTake (i := 3) (v := .agg (B8 s).toArray) rfl (by kernel_rfl) (by kernel_rfl) (by kernel_rfl) (fun _ _ _ h => h) (Or.inl ⟨by rfl, fun W hW => by dsimp only at hW; subst hW; exact run_load_sec _ _ (.tmp 91) rfl (bd.add (k * 64)) rfl s IS.out HDS.out⟩) (by assumption) ?_
        try simp only [Act.put, List.setIfInBounds_toArray, List.set_cons_zero, List.set_cons_succ]
        refine heldTake (i := 7) (v := .agg (B8 s).toArray) rfl (by kernel_rfl) (by kernel_rfl) (by kernel_rfl) (fun _ _ _ h => h) (Or.inl ⟨by rfl, fun W hW => by dsimp only at hW; subst hW; exact run_load_sec _ _ (.tmp 95) rfl (ad.add (k * 64)) rfl s IS.out HCS.out⟩) (by assumption) ?_
        try simp only [Act.put, List.setIfInBounds_toArray, List.set_cons_zero, List.set_cons_succ]
        refine heldTake (i := 8) (v := .bool false) rfl (by kernel_rfl) (by kernel_rfl) (by kernel_rfl) (fun _ _ _ h => h) (Or.inl ⟨by rfl, fun W hW => run_neq_secs UI.out W _ (.tmp 92) (.tmp 96) _ rfl s s LS.out LS.out rfl rfl false (by simp)⟩) (by assumption) ?_
        try simp only [Act.put, List.setIfInBounds_toArray, List.set_cons_zero, List.set_cons_succ]
        refine wpAnyH_done (by kernel_rfl) ?_ _
        go_wp2_with fail
        go_roundw
        case rel => exact ⟨k + 1, by simp, by omega, HDD⟩
        case measure => simp [intOf]; omega
      · go_wp2_with fail
        go_ret
        exact ⟨rfl, HL_y11.out.trans ((HZ.out.trans (hl.out.mono HZ.out.size)).mono HL_y11.out.size)⟩
#print axioms parityBuilds_walk
end Go.Proofs.Ytdebdkagmnccjaa
