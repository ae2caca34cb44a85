/- StripePair's walk over the contracts. -/
import Derived.Test.YtjafhlljigaibaaLump3
import Derived.Test.YtjafhlljigaibaaLump1
namespace Go.Proofs.Ytjafhlljigaibaa
open Go.RowKit
set_option linter.unusedVariables false
theorem ypl_two (a b : Int) : Try.prog.built 26 [(0, .int .i64 a), (1, .int .i64 b)] = some (plL a b).toArray := by kernel_rfl
theorem wpList_oneDD {ops : Array Oper} {rest : List Oper} {o : Oper} {a : Act} {Q : Exit → Act → World → Prop} {w : World} (hgd : o.guard = none) (x : Operand) (ho : o.op = .buildSlice 47 1 #[(0, x)]) (u : Sec) (hx : a.eval x = .agg (secL u).toArray)
    (h : wpList Try.prog ops Q rest (a.put o.dst (.slice (some ⟨w.heap.size, 0, none⟩) 1 1)) (w.alloc (.cells (secD [u]).toArray 49))) : wpList Try.prog ops Q (o :: rest) a w :=
  wpList_oneD hgd x ho u hx (secD_one u ▸ h)
/-- Which number StripePair writes. -/
def numP (l : List Int) (t : Nat) : Int := (l[t]?).getD (t : Int)
def pairD (l : List Int) (t : Nat) : List Sec := [secOf (numP l t)]
theorem parS_one (s : Sec) : parS [s] = s := by
  apply Subtype.ext
  show parOf [s.1] = s.1
  exact par_one s.2
theorem dataAt_pair (t d : Nat) (hd : d < 2) (s : Sec) : dataAt 2 t d [s] = s := by
  unfold dataAt
  split
  · exact parS_one s
  · rename_i h
    have : placeN (strH 2 t) d = 0 := by unfold placeN strH; unfold strH at h; split <;> omega
    rw [this]
    rfl
/-- What is not written yet is noughts. -/
def padP (D : Nat → List Sec) (T : Nat) : Nat → List Sec := fun t => if t < T then D t else [zeroSec]
theorem pad_grid {D : Nat → List Sec} {T d k : Nat} (hT : T ≤ 8) (hd : d < 2) : gridG 2 D T d k = gridG 2 (padP D T) 8 d k := by
  unfold gridG
  by_cases h : d ≤ k ∧ k - d < T
  · rw [if_pos h, if_pos ⟨h.1, by omega⟩]
    unfold padP
    rw [if_pos h.2]
  · rw [if_neg h]
    by_cases h2 : d ≤ k ∧ k - d < 8
    · rw [if_pos h2]
      unfold padP
      rw [if_neg (by omega), dataAt_pair _ _ hd]
    · rw [if_neg h2]
theorem mask3s (v : Int) : ∃ N : Nat, bits .and .i64 v 7 = (N : Int) ∧ N < 8 := by
  have h := i64_mask v 3 (by decide)
  have h2 : bits .and .i64 v 7 = v % 8 := h
  exact ⟨(v % 8).toNat, by rw [h2]; omega, by omega⟩
theorem homeE_two : slotsN 2 = 8 := rfl
/-- What is read behind a stripe's being written. -/
theorem pair_told {S : Bank} {l : List Int} {T : Nat} {e : Sec} (h : LivN 2 20 S 2 (gridG 2 (pairD l) (T + 1))) (hT : T < 8) (he : secOf (numP l T) = e) :
    S.readS 0 T = e ∧ S.place 0 T = 0 ∧ S.readS 1 (1 + T) = e ∧ S.place 1 (1 + T) = 0 ∧ S.sread (rowX idN 2) (T : Int) = (e, 0) := by
  have hd : ∀ d, d < 2 → S.dead d = false := fun d hd => (h.well d hd (by omega)).1
  have hg : ∀ d, d < 2 → gridG 2 (pairD l) (T + 1) d (d + T) = e := fun d hd => by
    rw [grid_at _ (Nat.lt_succ_self T)]
    unfold pairD
    rw [dataAt_pair _ _ hd, he]
  have h1 := h.read (d := 0) (k := T) (by decide) (by omega) (hd 0 (by decide))
  have h2 := h.place (d := 0) (k := T) (by decide) (by omega)
  have h3 := h.read (d := 1) (k := 1 + T) (by decide) (by omega) (hd 1 (by decide))
  have h4 := h.place (d := 1) (k := 1 + T) (by decide) (by omega)
  have e0 := hg 0 (by decide)
  rw [Nat.zero_add] at e0
  refine ⟨h1.trans e0, by rw [h2, hd 0 (by decide)]; rfl, h3.trans (hg 1 (by decide)), by rw [h4, hd 1 (by decide)]; rfl, ?_⟩
  have hp : LivN 2 20 S 2 (gridG 2 (padP (pairD l) (T + 1)) 8) := h.congr (fun d k hd hk => pad_grid (by omega) hd)
  refine hp.sread (slot := T) (by decide) (by decide) (fun t ht => ?_) (by rw [homeE_two]; exact hT) ?_
  · unfold padP pairD
    split <;> rfl
  · show (padP (pairD l) (T + 1) (T / 1))[T % 1]? = some e
    rw [Nat.div_one, Nat.mod_one]
    unfold padP
    rw [if_pos (Nat.lt_succ_self T)]
    unfold pairD
    rw [he]
    rfl
set_option maxRecDepth 100000 in
set_option maxHeartbeats 8000000 in
theorem stripePair_walk (K : StrK) (A : Option Addr) (n c : Nat) (l : List Int) (slot : Int) (w : World) (hr : Reads w w.heap.size 1 A n (I64 l)) (hn : n ≤ c) (hc : c ≤ 9223372036854775807) :
    Calls Try.prog 8 #[.slice A n c, .int .i64 slot] w fun e w' => e = .returned (.bool true) ∧ Below w.heap.size w w' := by
  have hll : l.length = n := by have := hr.1; rw [I64_length] at this; omega
  have HSH := hide (fun w => shown13_any K w)
  have HR := hide hr
  have HLL := hide hll
  clear hr hc hll
  go_enter Try.func8, Try.ntmps8
  go_upto_region 2 with (first
    | (go_at_call 9; refine (HSH.out _).mono ?_; rintro _ x1 ⟨rfl, hlq⟩; have HX1 := hide hlq; clear hlq))
  go_upto_region 3 with (first
    | (go_at_call 22; refine (sit_laid13 w x1 HX1.out 2 (by decide)).mono ?_; rintro _ y1 ⟨rfl, hsq⟩; have HS_y1 : Hid (Sux w y1 x1.heap.size y1.heap.size (LaidS 2) [] none 0 0 ([]) none 0 0 ([]) none 0 0 ([])) := hide hsq.up.up; clear hsq))
  go_upto_region 5 with (first
    | (go_at_call 15; (with_reducible refine (HS_y1.out.slots K 2 (by decide) (by decide)).mono ?_); rintro _ y2 ⟨rfl, hsq⟩; rw [show slotsN (2 : Int).toNat = 8 from rfl]; have HS_y2 : Hid (Sux w y2 x1.heap.size y1.heap.size (LaidS 2) [] none 0 0 ([]) none 0 0 ([]) none 0 0 ([])) := hide (hsq); clear hsq))
  go_wp2_with (first
    | (go_at_call 23; refine (HS_y2.out.sox.sit.row 2 (by decide)).mono ?_; rintro _ y3 ⟨A_y3, c_y3, rfl, hsq⟩; have HS_y3 : Hid (Sux w y3 x1.heap.size y1.heap.size (LaidS 2) [] A_y3 2 c_y3 (rowX idN 2) none 0 0 ([]) none 0 0 ([])) := hide hsq.up; clear hsq))
  go_loopw [8] (fun s8 wr => ∃ (T : Nat) (S : Bank), s8 = .int .i64 (T : Int) ∧ T ≤ 8 ∧ Hid (Sux w wr x1.heap.size y1.heap.size S [] A_y3 2 c_y3 (rowX idN 2) none 0 0 [] none 0 0 []) ∧ Hid (LivN 2 20 S 2 (gridG 2 (pairD l) T)) ∧ Hid (S.writes ≤ T * 12)) (fun s8 _ => 8 - (intOf s8).toNat)
  case atStart => exact ⟨0, LaidS 2, rfl, by decide, HS_y3, hide (livN_laid 2 2 _), hide (by rw [(laidS_plain 2).2.2]; exact Nat.zero_le _)⟩
  case round =>
    obtain ⟨T, S, rfl, hT, HS_v, HL, HWR⟩ := hrel
    obtain ⟨v1, hv1⟩ : ∃ v1, v1 = wr := ⟨_, rfl⟩
    rw [← hv1] at HS_v ⊢
    clear hv1 HS_y3
    by_cases hT8 : T < 8
    · have hTi : (T : Int) < 8 := by omega
      obtain ⟨e, he⟩ : ∃ e, secOf (numP l T) = e := ⟨_, rfl⟩
      have hf := LivN.full (D := pairD l) HL.out (by decide) (by decide) hT8 rfl
      obtain ⟨S2, hS2⟩ : ∃ S2, (S.sfull (rowX idN 2) (T : Int) (pairD l T)).2 = S2 := ⟨_, rfl⟩
      rw [hS2] at hf
      have hpd : pairD l T = [e] := by unfold pairD; rw [he]
      rw [hpd] at hf hS2
      have HF := hide hf
      have HS2 := hide hS2
      have HT := hide (pair_told hf.2.1 hT8 he)
      have HT8 := hide hT8
      clear hf hS2 hpd
      by_cases hTn : T < n
      · have hTj : (T : Int) < (n : Int) := by omega
        obtain ⟨ad, x, rfl, hab, hx, hcx⟩ := HR.out.i64_at hTn
        have hcw : v1.cell? (ad.add T) = some (.int .i64 x) := (HS_v.out.low.cell (p := ad.add T) (by rw [block_of_add]; exact hab)).trans hcx
        have HE := hide (show secOf x = e from by
          rw [← he]
          unfold numP
          rw [hx]
          rfl)
        clear hcx hx he
        go_upto_region 14 with (first
          | (go_at_call 26; (refine (sector_any x _).mono ?_); rintro _ y101 ⟨rfl, hlq⟩; rw [HE.out]; have HS_y101 : Hid (Sux w y101 x1.heap.size y1.heap.size S [] A_y3 2 c_y3 (rowX idN 2) none 0 0 ([]) none 0 0 ([])) := hide (HS_v.out.later hlq); clear hlq)
          | ((with_reducible refine at_slot 45 ?_); refine wpList_oneDD rfl (.tmp 44) rfl e rfl ?_; have HS_y102 : Hid (Sux w (y101.alloc (.cells (secD [e]).toArray 49)) x1.heap.size y1.heap.size S [] A_y3 2 c_y3 (rowX idN 2) none 0 0 ([]) (some ⟨y101.heap.size, 0, none⟩) 1 1 ([e])) := hide (HS_y101.out.newD [e] 1 rfl (by decide)))
          | (go_at_call 27; refine (HS_y102.out.sfull K (by have := HWR.out; omega) (T : Int) ⟨by omega, by omega⟩ (by decide)).mono ?_; rintro _ y103 ⟨rfl, hsq⟩; rw [HS2.out] at hsq; rw [HF.out.1]; have HS_y103 : Hid (Sux w y103 x1.heap.size y1.heap.size S2 [] A_y3 2 c_y3 (rowX idN 2) none 0 0 ([]) none 0 0 ([])) := hide hsq.secs0; clear hsq))
        go_upto_region 15 with (first
          | ((with_reducible refine at_slot 51 ?_); refine wpList_build_is rfl 26 #[(0, .const (.int .i64 0)), (1, .tmp 50)] rfl [(0, .int .i64 0), (1, .int .i64 (T : Int))] (by simp only [List.map_toArray, List.map_cons, List.map_nil]; rfl) _ (ypl_two _ _) ?_)
          | (go_at_call 32; refine (HS_y103.out.read (di := 0) (ki := (T : Int)) (d := 0) (k := T) rfl (nI_nat T)).mono ?_; rintro _ y104 ⟨rfl, hsq⟩; rw [HT.out.1, HT.out.2.1]; have HS_y104 : Hid (Sux w y104 x1.heap.size y1.heap.size S2 [] A_y3 2 c_y3 (rowX idN 2) none 0 0 ([]) none 0 0 ([])) := hide (hsq); clear hsq)
          | ((with_reducible refine at_slot 10 ?_); refine wpList_alloc_blk rfl 49 rfl _ (sec_zero _) ?_; intro y105 hbq hl1 hs1; clear hs1)
          | ((with_reducible refine at_store 10 ?_); refine wpList_store_all rfl 49 (.tmp 10) (.tmp 53) rfl y104.heap.size 49 _ hbq rfl (secL e) rfl (msec_size _) (msec_len _ _) (secL_one _) ?_; intro y106 hbz hg hs; have HS_y106 : Hid (Sux w y106 x1.heap.size y1.heap.size S2 [(y104.heap.size, 49, secL e)] A_y3 2 c_y3 (rowX idN 2) none 0 0 ([]) none 0 0 ([])) := hide (HS_y104.out.new hl1 hg hbz); clear hs hbq hl1 hg hbz))
        go_upto_region 16 with (first
          | ((with_reducible refine at_slot 59 ?_); refine wpList_build_is rfl 26 #[(0, .const (.int .i64 1)), (1, .tmp 58)] rfl [(0, .int .i64 1), (1, .int .i64 (1 + (T : Int)))] (by simp only [List.map_toArray, List.map_cons, List.map_nil]; rfl) _ (ypl_two _ _) ?_)
          | (go_at_call 32; refine (HS_y106.out.read (di := 1) (ki := 1 + (T : Int)) (d := 1) (k := 1 + T) rfl (nI_nat (1 + T))).mono ?_; rintro _ y107 ⟨rfl, hsq⟩; rw [HT.out.2.2.1, HT.out.2.2.2.1]; have HS_y107 : Hid (Sux w y107 x1.heap.size y1.heap.size S2 [(y104.heap.size, 49, secL e)] A_y3 2 c_y3 (rowX idN 2) none 0 0 ([]) none 0 0 ([])) := hide (hsq); clear hsq)
          | ((with_reducible refine at_slot 12 ?_); refine wpList_alloc_blk rfl 49 rfl _ (sec_zero _) ?_; intro y108 hbq hl1 hs1; clear hs1)
          | ((with_reducible refine at_store 12 ?_); refine wpList_store_all rfl 49 (.tmp 12) (.tmp 61) rfl y107.heap.size 49 _ hbq rfl (secL e) rfl (msec_size _) (msec_len _ _) (secL_one _) ?_; intro y109 hbz hg hs; have HS_y109 : Hid (Sux w y109 x1.heap.size y1.heap.size S2 [(y104.heap.size, 49, secL e), (y107.heap.size, 49, secL e)] A_y3 2 c_y3 (rowX idN 2) none 0 0 ([]) none 0 0 ([])) := hide (HS_y107.out.new hl1 hg hbz); clear hs hbq hl1 hg hbz))
        go_upto_region 17 with (first
          | (go_at_call 30; refine (HS_y109.out.sread K (T : Int) ⟨by omega, by omega⟩).mono ?_; rintro _ y110 ⟨rfl, hsq⟩; rw [HT.out.2.2.2.2]; have HS_y110 : Hid (Sux w y110 x1.heap.size y1.heap.size S2 [(y104.heap.size, 49, secL e), (y107.heap.size, 49, secL e)] A_y3 2 c_y3 (rowX idN 2) none 0 0 ([]) none 0 0 ([])) := hide (hsq); clear hsq)
          | ((with_reducible refine at_slot 14 ?_); refine wpList_alloc_blk rfl 49 rfl _ (sec_zero _) ?_; intro y111 hbq hl1 hs1; clear hs1)
          | ((with_reducible refine at_store 14 ?_); refine wpList_store_all rfl 49 (.tmp 14) (.tmp 68) rfl y110.heap.size 49 _ hbq rfl (secL e) rfl (msec_size _) (msec_len _ _) (secL_one _) ?_; intro y112 hbz hg hs; have HS_y112 : Hid (Sux w y112 x1.heap.size y1.heap.size S2 [(y104.heap.size, 49, secL e), (y107.heap.size, 49, secL e), (y110.heap.size, 49, secL e)] A_y3 2 c_y3 (rowX idN 2) none 0 0 ([]) none 0 0 ([])) := hide (HS_y110.out.new hl1 hg hbz); clear hs hbq hl1 hg hbz))
        refine wp_region_held_drew (S := (fun W => OwnV W y1.heap.size [(y104.heap.size, 49, secL e), (y107.heap.size, 49, secL e), (y110.heap.size, 49, secL e)])) (by kernel_rfl) ?_ (fun hHeld => ?_)
        · exact HS_y112.out.drew.own
        have HS_dy112 := hide (HS_y112.out.drew)
        refine heldTake (i := 0) (v := .agg (secL e).toArray) rfl (by kernel_rfl) (by kernel_rfl) (by kernel_rfl) (fun _ _ _ h => h) (yieldsIf_load_mid (by rfl) _ _ rfl _ _ rfl (secL e) _ (fun W hW => hW.range 0 rfl) Try.underlying49 rfl (msec_size _)) (by assumption) ?_
        try simp only [Act.put, List.setIfInBounds_toArray, List.set_cons_zero, List.set_cons_succ]
        refine heldTake (i := 1) (v := ?_) rfl (by kernel_rfl) (by kernel_rfl) (by kernel_rfl) (fun _ _ _ h => h) (Or.inl ⟨by rfl, ?_⟩) (by assumption) ?_
        rotate_left
        · intro w hSw; (try dsimp only at hSw); go_simp <;> (with_reducible rfl)
        try simp only [Act.put, List.setIfInBounds_toArray, List.set_cons_zero, List.set_cons_succ]
        refine wpAnyH_ready (rs := [2]) (by kernel_rfl) (by simp) ?_
        refine heldCons (i := 2) rfl (fun Kq hKq => ?_) AllReadyH.nil
        go_simp
        go_at_call 26
        (with_reducible refine (sector_any x _).mono ?_)
        rintro _ y113 ⟨rfl, hlq⟩
        rw [HE.out]
        have HS_y113 : Hid (Sux w y113 x1.heap.size y1.heap.size S2 [(y104.heap.size, 49, secL e), (y107.heap.size, 49, secL e), (y110.heap.size, 49, secL e)] A_y3 2 c_y3 (rowX idN 2) none 0 0 ([]) none 0 0 ([])) := hide (HS_dy112.out.later hlq)
        clear hlq
        first | (refine hKq.out _ _ HS_y113.out.own (fun hHeld => ?_)) | (go_wp2_with fail; refine hKq.out _ _ HS_y113.out.own (fun hHeld => ?_))
        clear hKq Kq
        try simp only [Act.put, List.setIfInBounds_toArray, List.set_cons_zero, List.set_cons_succ]
        refine heldTake (i := 3) (v := .bool false) rfl (by kernel_rfl) (by kernel_rfl) (by kernel_rfl) (fun _ _ _ h => h) (Or.inl ⟨by rfl, fun W hW => run_neS W _ (.tmp 70) (.tmp 72) _ rfl e e rfl rfl false (by simp)⟩) (by assumption) ?_
        try simp only [Act.put, List.setIfInBounds_toArray, List.set_cons_zero, List.set_cons_succ]
        refine heldTake (i := 4) (v := ?_) rfl (by kernel_rfl) (by kernel_rfl) (by kernel_rfl) (fun _ _ _ h => h) (Or.inl ⟨by rfl, ?_⟩) (by assumption) ?_
        rotate_left
        · intro w hSw; (try dsimp only at hSw); go_simp <;> (with_reducible rfl)
        try simp only [Act.put, List.setIfInBounds_toArray, List.set_cons_zero, List.set_cons_succ]
        refine heldTake (i := 5) (v := .agg (secL e).toArray) rfl (by kernel_rfl) (by kernel_rfl) (by kernel_rfl) (fun _ _ _ h => h) (yieldsIf_load_mid (by rfl) _ _ rfl _ _ rfl (secL e) _ (fun W hW => hW.range 1 rfl) Try.underlying49 rfl (msec_size _)) (by assumption) ?_
        try simp only [Act.put, List.setIfInBounds_toArray, List.set_cons_zero, List.set_cons_succ]
        refine heldTake (i := 6) (v := .agg (secL e).toArray) rfl (by kernel_rfl) (by kernel_rfl) (by kernel_rfl) (fun _ _ _ h => h) (yieldsIf_load_mid (by rfl) _ _ rfl _ _ rfl (secL e) _ (fun W hW => hW.range 0 rfl) Try.underlying49 rfl (msec_size _)) (by assumption) ?_
        try simp only [Act.put, List.setIfInBounds_toArray, List.set_cons_zero, List.set_cons_succ]
        refine heldTake (i := 7) (v := .bool false) rfl (by kernel_rfl) (by kernel_rfl) (by kernel_rfl) (fun _ _ _ h => h) (Or.inl ⟨by rfl, fun W hW => run_neS W _ (.tmp 75) (.tmp 76) _ rfl e e rfl rfl false (by simp)⟩) (by assumption) ?_
        try simp only [Act.put, List.setIfInBounds_toArray, List.set_cons_zero, List.set_cons_succ]
        refine heldTake (i := 8) (v := ?_) rfl (by kernel_rfl) (by kernel_rfl) (by kernel_rfl) (fun _ _ _ h => h) (Or.inl ⟨by rfl, ?_⟩) (by assumption) ?_
        rotate_left
        · intro w hSw; (try dsimp only at hSw); go_simp <;> (with_reducible rfl)
        try simp only [Act.put, List.setIfInBounds_toArray, List.set_cons_zero, List.set_cons_succ]
        refine heldTake (i := 9) (v := ?_) rfl (by kernel_rfl) (by kernel_rfl) (by kernel_rfl) (fun _ _ _ h => h) (Or.inl ⟨by rfl, ?_⟩) (by assumption) ?_
        rotate_left
        · intro w hSw; (try dsimp only at hSw); go_simp <;> (with_reducible rfl)
        try simp only [Act.put, List.setIfInBounds_toArray, List.set_cons_zero, List.set_cons_succ]
        refine heldTake (i := 10) (v := .agg (secL e).toArray) rfl (by kernel_rfl) (by kernel_rfl) (by kernel_rfl) (fun _ _ _ h => h) (yieldsIf_load_mid (by rfl) _ _ rfl _ _ rfl (secL e) _ (fun W hW => hW.range 2 rfl) Try.underlying49 rfl (msec_size _)) (by assumption) ?_
        try simp only [Act.put, List.setIfInBounds_toArray, List.set_cons_zero, List.set_cons_succ]
        refine heldTake (i := 11) (v := .agg (secL e).toArray) rfl (by kernel_rfl) (by kernel_rfl) (by kernel_rfl) (fun _ _ _ h => h) (yieldsIf_load_mid (by rfl) _ _ rfl _ _ rfl (secL e) _ (fun W hW => hW.range 0 rfl) Try.underlying49 rfl (msec_size _)) (by assumption) ?_
        try simp only [Act.put, List.setIfInBounds_toArray, List.set_cons_zero, List.set_cons_succ]
        refine heldTake (i := 12) (v := .bool false) rfl (by kernel_rfl) (by kernel_rfl) (by kernel_rfl) (fun _ _ _ h => h) (Or.inl ⟨by rfl, fun W hW => run_neS W _ (.tmp 80) (.tmp 81) _ rfl e e rfl rfl false (by simp)⟩) (by assumption) ?_
        try simp only [Act.put, List.setIfInBounds_toArray, List.set_cons_zero, List.set_cons_succ]
        refine heldTake (i := 13) (v := ?_) rfl (by kernel_rfl) (by kernel_rfl) (by kernel_rfl) (fun _ _ _ h => h) (Or.inl ⟨by rfl, ?_⟩) (by assumption) ?_
        rotate_left
        · intro w hSw; (try dsimp only at hSw); go_simp <;> (with_reducible rfl)
        try simp only [Act.put, List.setIfInBounds_toArray, List.set_cons_zero, List.set_cons_succ]
        refine heldTake (i := 14) (v := ?_) rfl (by kernel_rfl) (by kernel_rfl) (by kernel_rfl) (fun _ _ _ h => h) (Or.inl ⟨by rfl, ?_⟩) (by assumption) ?_
        rotate_left
        · intro w hSw; (try dsimp only at hSw); go_simp <;> (with_reducible rfl)
        try simp only [Act.put, List.setIfInBounds_toArray, List.set_cons_zero, List.set_cons_succ]
        refine heldTake (i := 15) (v := ?_) rfl (by kernel_rfl) (by kernel_rfl) (by kernel_rfl) (fun _ _ _ h => h) (Or.inl ⟨by rfl, ?_⟩) (by assumption) ?_
        rotate_left
        · intro w hSw; (try dsimp only at hSw); go_simp <;> (with_reducible rfl)
        try simp only [Act.put, List.setIfInBounds_toArray, List.set_cons_zero, List.set_cons_succ]
        refine heldTake (i := 16) (v := ?_) rfl (by kernel_rfl) (by kernel_rfl) (by kernel_rfl) (fun _ _ _ h => h) (Or.inl ⟨by rfl, ?_⟩) (by assumption) ?_
        rotate_left
        · intro w hSw; (try dsimp only at hSw); go_simp <;> (with_reducible rfl)
        try simp only [Act.put, List.setIfInBounds_toArray, List.set_cons_zero, List.set_cons_succ]
        refine heldTake (i := 17) (v := ?_) rfl (by kernel_rfl) (by kernel_rfl) (by kernel_rfl) (fun _ _ _ h => h) (Or.inl ⟨by rfl, ?_⟩) (by assumption) ?_
        rotate_left
        · intro w hSw; (try dsimp only at hSw); go_simp <;> (with_reducible rfl)
        try simp only [Act.put, List.setIfInBounds_toArray, List.set_cons_zero, List.set_cons_succ]
        refine heldTake (i := 18) (v := ?_) rfl (by kernel_rfl) (by kernel_rfl) (by kernel_rfl) (fun _ _ _ h => h) (Or.inl ⟨by rfl, ?_⟩) (by assumption) ?_
        rotate_left
        · intro w hSw; (try dsimp only at hSw); go_simp <;> (with_reducible rfl)
        try simp only [Act.put, List.setIfInBounds_toArray, List.set_cons_zero, List.set_cons_succ]
        refine heldTake (i := 19) (v := ?_) rfl (by kernel_rfl) (by kernel_rfl) (by kernel_rfl) (fun _ _ _ h => h) (Or.inl ⟨by rfl, ?_⟩) (by assumption) ?_
        rotate_left
        · intro w hSw; (try dsimp only at hSw); go_simp <;> (with_reducible rfl)
        try simp only [Act.put, List.setIfInBounds_toArray, List.set_cons_zero, List.set_cons_succ]
        refine heldTake (i := 20) (v := ?_) rfl (by kernel_rfl) (by kernel_rfl) (by kernel_rfl) (fun _ _ _ h => h) (Or.inl ⟨by rfl, ?_⟩) (by assumption) ?_
        rotate_left
        · intro w hSw; (try dsimp only at hSw); go_simp <;> (with_reducible rfl)
        try simp only [Act.put, List.setIfInBounds_toArray, List.set_cons_zero, List.set_cons_succ]
        refine heldTake (i := 21) (v := ?_) rfl (by kernel_rfl) (by kernel_rfl) (by kernel_rfl) (fun _ _ _ h => h) (Or.inl ⟨by rfl, ?_⟩) (by assumption) ?_
        rotate_left
        · intro w hSw; (try dsimp only at hSw); go_simp <;> (with_reducible rfl)
        try simp only [Act.put, List.setIfInBounds_toArray, List.set_cons_zero, List.set_cons_succ]
        refine heldTake (i := 22) (v := ?_) rfl (by kernel_rfl) (by kernel_rfl) (by kernel_rfl) (fun _ _ _ h => h) (Or.inl ⟨by rfl, ?_⟩) (by assumption) ?_
        rotate_left
        · intro w hSw; (try dsimp only at hSw); go_simp <;> (with_reducible rfl)
        try simp only [Act.put, List.setIfInBounds_toArray, List.set_cons_zero, List.set_cons_succ]
        refine heldTake (i := 23) (v := ?_) rfl (by kernel_rfl) (by kernel_rfl) (by kernel_rfl) (fun _ _ _ h => h) (Or.inl ⟨by rfl, ?_⟩) (by assumption) ?_
        rotate_left
        · intro w hSw; (try dsimp only at hSw); go_simp <;> (with_reducible rfl)
        try simp only [Act.put, List.setIfInBounds_toArray, List.set_cons_zero, List.set_cons_succ]
        refine heldTake (i := 24) (v := ?_) rfl (by kernel_rfl) (by kernel_rfl) (by kernel_rfl) (fun _ _ _ h => h) (Or.inl ⟨by rfl, ?_⟩) (by assumption) ?_
        rotate_left
        · intro w hSw; (try dsimp only at hSw); go_simp <;> (with_reducible rfl)
        try simp only [Act.put, List.setIfInBounds_toArray, List.set_cons_zero, List.set_cons_succ]
        refine heldTake (i := 25) (v := ?_) rfl (by kernel_rfl) (by kernel_rfl) (by kernel_rfl) (fun _ _ _ h => h) (Or.inl ⟨by rfl, ?_⟩) (by assumption) ?_
        rotate_left
        · intro w hSw; (try dsimp only at hSw); go_simp <;> (with_reducible rfl)
        try simp only [Act.put, List.setIfInBounds_toArray, List.set_cons_zero, List.set_cons_succ]
        refine wpAnyH_done (by kernel_rfl) ?_ _
        go_wp2_with fail
        go_roundw
        case rel => exact ⟨T + 1, S2, by simp, by omega, hide (HS_y113.out.cut 0), hide HF.out.2.1, hide (by rw [HF.out.2.2]; have := HWR.out; omega)⟩
        case measure => simp [intOf]; omega
      · have hTj : ¬ (T : Int) < (n : Int) := by omega
        have HE := hide (show secOf (T : Int) = e from by
          rw [← he]
          unfold numP
          rw [List.getElem?_eq_none (by have := HLL.out; omega)]
          rfl)
        clear he
        go_upto_region 14 with (first
          | (go_at_call 26; (refine (sector_any (T : Int) _).mono ?_); rintro _ y101 ⟨rfl, hlq⟩; rw [HE.out]; have HS_y101 : Hid (Sux w y101 x1.heap.size y1.heap.size S [] A_y3 2 c_y3 (rowX idN 2) none 0 0 ([]) none 0 0 ([])) := hide (HS_v.out.later hlq); clear hlq)
          | ((with_reducible refine at_slot 45 ?_); refine wpList_oneDD rfl (.tmp 44) rfl e rfl ?_; have HS_y102 : Hid (Sux w (y101.alloc (.cells (secD [e]).toArray 49)) x1.heap.size y1.heap.size S [] A_y3 2 c_y3 (rowX idN 2) none 0 0 ([]) (some ⟨y101.heap.size, 0, none⟩) 1 1 ([e])) := hide (HS_y101.out.newD [e] 1 rfl (by decide)))
          | (go_at_call 27; refine (HS_y102.out.sfull K (by have := HWR.out; omega) (T : Int) ⟨by omega, by omega⟩ (by decide)).mono ?_; rintro _ y103 ⟨rfl, hsq⟩; rw [HS2.out] at hsq; rw [HF.out.1]; have HS_y103 : Hid (Sux w y103 x1.heap.size y1.heap.size S2 [] A_y3 2 c_y3 (rowX idN 2) none 0 0 ([]) none 0 0 ([])) := hide hsq.secs0; clear hsq))
        go_upto_region 15 with (first
          | ((with_reducible refine at_slot 51 ?_); refine wpList_build_is rfl 26 #[(0, .const (.int .i64 0)), (1, .tmp 50)] rfl [(0, .int .i64 0), (1, .int .i64 (T : Int))] (by simp only [List.map_toArray, List.map_cons, List.map_nil]; rfl) _ (ypl_two _ _) ?_)
          | (go_at_call 32; refine (HS_y103.out.read (di := 0) (ki := (T : Int)) (d := 0) (k := T) rfl (nI_nat T)).mono ?_; rintro _ y104 ⟨rfl, hsq⟩; rw [HT.out.1, HT.out.2.1]; have HS_y104 : Hid (Sux w y104 x1.heap.size y1.heap.size S2 [] A_y3 2 c_y3 (rowX idN 2) none 0 0 ([]) none 0 0 ([])) := hide (hsq); clear hsq)
          | ((with_reducible refine at_slot 10 ?_); refine wpList_alloc_blk rfl 49 rfl _ (sec_zero _) ?_; intro y105 hbq hl1 hs1; clear hs1)
          | ((with_reducible refine at_store 10 ?_); refine wpList_store_all rfl 49 (.tmp 10) (.tmp 53) rfl y104.heap.size 49 _ hbq rfl (secL e) rfl (msec_size _) (msec_len _ _) (secL_one _) ?_; intro y106 hbz hg hs; have HS_y106 : Hid (Sux w y106 x1.heap.size y1.heap.size S2 [(y104.heap.size, 49, secL e)] A_y3 2 c_y3 (rowX idN 2) none 0 0 ([]) none 0 0 ([])) := hide (HS_y104.out.new hl1 hg hbz); clear hs hbq hl1 hg hbz))
        go_upto_region 16 with (first
          | ((with_reducible refine at_slot 59 ?_); refine wpList_build_is rfl 26 #[(0, .const (.int .i64 1)), (1, .tmp 58)] rfl [(0, .int .i64 1), (1, .int .i64 (1 + (T : Int)))] (by simp only [List.map_toArray, List.map_cons, List.map_nil]; rfl) _ (ypl_two _ _) ?_)
          | (go_at_call 32; refine (HS_y106.out.read (di := 1) (ki := 1 + (T : Int)) (d := 1) (k := 1 + T) rfl (nI_nat (1 + T))).mono ?_; rintro _ y107 ⟨rfl, hsq⟩; rw [HT.out.2.2.1, HT.out.2.2.2.1]; have HS_y107 : Hid (Sux w y107 x1.heap.size y1.heap.size S2 [(y104.heap.size, 49, secL e)] A_y3 2 c_y3 (rowX idN 2) none 0 0 ([]) none 0 0 ([])) := hide (hsq); clear hsq)
          | ((with_reducible refine at_slot 12 ?_); refine wpList_alloc_blk rfl 49 rfl _ (sec_zero _) ?_; intro y108 hbq hl1 hs1; clear hs1)
          | ((with_reducible refine at_store 12 ?_); refine wpList_store_all rfl 49 (.tmp 12) (.tmp 61) rfl y107.heap.size 49 _ hbq rfl (secL e) rfl (msec_size _) (msec_len _ _) (secL_one _) ?_; intro y109 hbz hg hs; have HS_y109 : Hid (Sux w y109 x1.heap.size y1.heap.size S2 [(y104.heap.size, 49, secL e), (y107.heap.size, 49, secL e)] A_y3 2 c_y3 (rowX idN 2) none 0 0 ([]) none 0 0 ([])) := hide (HS_y107.out.new hl1 hg hbz); clear hs hbq hl1 hg hbz))
        go_upto_region 17 with (first
          | (go_at_call 30; refine (HS_y109.out.sread K (T : Int) ⟨by omega, by omega⟩).mono ?_; rintro _ y110 ⟨rfl, hsq⟩; rw [HT.out.2.2.2.2]; have HS_y110 : Hid (Sux w y110 x1.heap.size y1.heap.size S2 [(y104.heap.size, 49, secL e), (y107.heap.size, 49, secL e)] A_y3 2 c_y3 (rowX idN 2) none 0 0 ([]) none 0 0 ([])) := hide (hsq); clear hsq)
          | ((with_reducible refine at_slot 14 ?_); refine wpList_alloc_blk rfl 49 rfl _ (sec_zero _) ?_; intro y111 hbq hl1 hs1; clear hs1)
          | ((with_reducible refine at_store 14 ?_); refine wpList_store_all rfl 49 (.tmp 14) (.tmp 68) rfl y110.heap.size 49 _ hbq rfl (secL e) rfl (msec_size _) (msec_len _ _) (secL_one _) ?_; intro y112 hbz hg hs; have HS_y112 : Hid (Sux w y112 x1.heap.size y1.heap.size S2 [(y104.heap.size, 49, secL e), (y107.heap.size, 49, secL e), (y110.heap.size, 49, secL e)] A_y3 2 c_y3 (rowX idN 2) none 0 0 ([]) none 0 0 ([])) := hide (HS_y110.out.new hl1 hg hbz); clear hs hbq hl1 hg hbz))
        refine wp_region_held_drew (S := (fun W => OwnV W y1.heap.size [(y104.heap.size, 49, secL e), (y107.heap.size, 49, secL e), (y110.heap.size, 49, secL e)])) (by kernel_rfl) ?_ (fun hHeld => ?_)
        · exact HS_y112.out.drew.own
        have HS_dy112 := hide (HS_y112.out.drew)
        refine heldTake (i := 0) (v := .agg (secL e).toArray) rfl (by kernel_rfl) (by kernel_rfl) (by kernel_rfl) (fun _ _ _ h => h) (yieldsIf_load_mid (by rfl) _ _ rfl _ _ rfl (secL e) _ (fun W hW => hW.range 0 rfl) Try.underlying49 rfl (msec_size _)) (by assumption) ?_
        try simp only [Act.put, List.setIfInBounds_toArray, List.set_cons_zero, List.set_cons_succ]
        refine heldTake (i := 1) (v := ?_) rfl (by kernel_rfl) (by kernel_rfl) (by kernel_rfl) (fun _ _ _ h => h) (Or.inl ⟨by rfl, ?_⟩) (by assumption) ?_
        rotate_left
        · intro w hSw; (try dsimp only at hSw); go_simp <;> (with_reducible rfl)
        try simp only [Act.put, List.setIfInBounds_toArray, List.set_cons_zero, List.set_cons_succ]
        refine wpAnyH_ready (rs := [2]) (by kernel_rfl) (by simp) ?_
        refine heldCons (i := 2) rfl (fun Kq hKq => ?_) AllReadyH.nil
        go_simp
        go_at_call 26
        (with_reducible refine (sector_any (T : Int) _).mono ?_)
        rintro _ y113 ⟨rfl, hlq⟩
        rw [HE.out]
        have HS_y113 : Hid (Sux w y113 x1.heap.size y1.heap.size S2 [(y104.heap.size, 49, secL e), (y107.heap.size, 49, secL e), (y110.heap.size, 49, secL e)] A_y3 2 c_y3 (rowX idN 2) none 0 0 ([]) none 0 0 ([])) := hide (HS_dy112.out.later hlq)
        clear hlq
        first | (refine hKq.out _ _ HS_y113.out.own (fun hHeld => ?_)) | (go_wp2_with fail; refine hKq.out _ _ HS_y113.out.own (fun hHeld => ?_))
        clear hKq Kq
        try simp only [Act.put, List.setIfInBounds_toArray, List.set_cons_zero, List.set_cons_succ]
        refine heldTake (i := 3) (v := .bool false) rfl (by kernel_rfl) (by kernel_rfl) (by kernel_rfl) (fun _ _ _ h => h) (Or.inl ⟨by rfl, fun W hW => run_neS W _ (.tmp 70) (.tmp 72) _ rfl e e rfl rfl false (by simp)⟩) (by assumption) ?_
        try simp only [Act.put, List.setIfInBounds_toArray, List.set_cons_zero, List.set_cons_succ]
        refine heldTake (i := 4) (v := ?_) rfl (by kernel_rfl) (by kernel_rfl) (by kernel_rfl) (fun _ _ _ h => h) (Or.inl ⟨by rfl, ?_⟩) (by assumption) ?_
        rotate_left
        · intro w hSw; (try dsimp only at hSw); go_simp <;> (with_reducible rfl)
        try simp only [Act.put, List.setIfInBounds_toArray, List.set_cons_zero, List.set_cons_succ]
        refine heldTake (i := 5) (v := .agg (secL e).toArray) rfl (by kernel_rfl) (by kernel_rfl) (by kernel_rfl) (fun _ _ _ h => h) (yieldsIf_load_mid (by rfl) _ _ rfl _ _ rfl (secL e) _ (fun W hW => hW.range 1 rfl) Try.underlying49 rfl (msec_size _)) (by assumption) ?_
        try simp only [Act.put, List.setIfInBounds_toArray, List.set_cons_zero, List.set_cons_succ]
        refine heldTake (i := 6) (v := .agg (secL e).toArray) rfl (by kernel_rfl) (by kernel_rfl) (by kernel_rfl) (fun _ _ _ h => h) (yieldsIf_load_mid (by rfl) _ _ rfl _ _ rfl (secL e) _ (fun W hW => hW.range 0 rfl) Try.underlying49 rfl (msec_size _)) (by assumption) ?_
        try simp only [Act.put, List.setIfInBounds_toArray, List.set_cons_zero, List.set_cons_succ]
        refine heldTake (i := 7) (v := .bool false) rfl (by kernel_rfl) (by kernel_rfl) (by kernel_rfl) (fun _ _ _ h => h) (Or.inl ⟨by rfl, fun W hW => run_neS W _ (.tmp 75) (.tmp 76) _ rfl e e rfl rfl false (by simp)⟩) (by assumption) ?_
        try simp only [Act.put, List.setIfInBounds_toArray, List.set_cons_zero, List.set_cons_succ]
        refine heldTake (i := 8) (v := ?_) rfl (by kernel_rfl) (by kernel_rfl) (by kernel_rfl) (fun _ _ _ h => h) (Or.inl ⟨by rfl, ?_⟩) (by assumption) ?_
        rotate_left
        · intro w hSw; (try dsimp only at hSw); go_simp <;> (with_reducible rfl)
        try simp only [Act.put, List.setIfInBounds_toArray, List.set_cons_zero, List.set_cons_succ]
        refine heldTake (i := 9) (v := ?_) rfl (by kernel_rfl) (by kernel_rfl) (by kernel_rfl) (fun _ _ _ h => h) (Or.inl ⟨by rfl, ?_⟩) (by assumption) ?_
        rotate_left
        · intro w hSw; (try dsimp only at hSw); go_simp <;> (with_reducible rfl)
        try simp only [Act.put, List.setIfInBounds_toArray, List.set_cons_zero, List.set_cons_succ]
        refine heldTake (i := 10) (v := .agg (secL e).toArray) rfl (by kernel_rfl) (by kernel_rfl) (by kernel_rfl) (fun _ _ _ h => h) (yieldsIf_load_mid (by rfl) _ _ rfl _ _ rfl (secL e) _ (fun W hW => hW.range 2 rfl) Try.underlying49 rfl (msec_size _)) (by assumption) ?_
        try simp only [Act.put, List.setIfInBounds_toArray, List.set_cons_zero, List.set_cons_succ]
        refine heldTake (i := 11) (v := .agg (secL e).toArray) rfl (by kernel_rfl) (by kernel_rfl) (by kernel_rfl) (fun _ _ _ h => h) (yieldsIf_load_mid (by rfl) _ _ rfl _ _ rfl (secL e) _ (fun W hW => hW.range 0 rfl) Try.underlying49 rfl (msec_size _)) (by assumption) ?_
        try simp only [Act.put, List.setIfInBounds_toArray, List.set_cons_zero, List.set_cons_succ]
        refine heldTake (i := 12) (v := .bool false) rfl (by kernel_rfl) (by kernel_rfl) (by kernel_rfl) (fun _ _ _ h => h) (Or.inl ⟨by rfl, fun W hW => run_neS W _ (.tmp 80) (.tmp 81) _ rfl e e rfl rfl false (by simp)⟩) (by assumption) ?_
        try simp only [Act.put, List.setIfInBounds_toArray, List.set_cons_zero, List.set_cons_succ]
        refine heldTake (i := 13) (v := ?_) rfl (by kernel_rfl) (by kernel_rfl) (by kernel_rfl) (fun _ _ _ h => h) (Or.inl ⟨by rfl, ?_⟩) (by assumption) ?_
        rotate_left
        · intro w hSw; (try dsimp only at hSw); go_simp <;> (with_reducible rfl)
        try simp only [Act.put, List.setIfInBounds_toArray, List.set_cons_zero, List.set_cons_succ]
        refine heldTake (i := 14) (v := ?_) rfl (by kernel_rfl) (by kernel_rfl) (by kernel_rfl) (fun _ _ _ h => h) (Or.inl ⟨by rfl, ?_⟩) (by assumption) ?_
        rotate_left
        · intro w hSw; (try dsimp only at hSw); go_simp <;> (with_reducible rfl)
        try simp only [Act.put, List.setIfInBounds_toArray, List.set_cons_zero, List.set_cons_succ]
        refine heldTake (i := 15) (v := ?_) rfl (by kernel_rfl) (by kernel_rfl) (by kernel_rfl) (fun _ _ _ h => h) (Or.inl ⟨by rfl, ?_⟩) (by assumption) ?_
        rotate_left
        · intro w hSw; (try dsimp only at hSw); go_simp <;> (with_reducible rfl)
        try simp only [Act.put, List.setIfInBounds_toArray, List.set_cons_zero, List.set_cons_succ]
        refine heldTake (i := 16) (v := ?_) rfl (by kernel_rfl) (by kernel_rfl) (by kernel_rfl) (fun _ _ _ h => h) (Or.inl ⟨by rfl, ?_⟩) (by assumption) ?_
        rotate_left
        · intro w hSw; (try dsimp only at hSw); go_simp <;> (with_reducible rfl)
        try simp only [Act.put, List.setIfInBounds_toArray, List.set_cons_zero, List.set_cons_succ]
        refine heldTake (i := 17) (v := ?_) rfl (by kernel_rfl) (by kernel_rfl) (by kernel_rfl) (fun _ _ _ h => h) (Or.inl ⟨by rfl, ?_⟩) (by assumption) ?_
        rotate_left
        · intro w hSw; (try dsimp only at hSw); go_simp <;> (with_reducible rfl)
        try simp only [Act.put, List.setIfInBounds_toArray, List.set_cons_zero, List.set_cons_succ]
        refine heldTake (i := 18) (v := ?_) rfl (by kernel_rfl) (by kernel_rfl) (by kernel_rfl) (fun _ _ _ h => h) (Or.inl ⟨by rfl, ?_⟩) (by assumption) ?_
        rotate_left
        · intro w hSw; (try dsimp only at hSw); go_simp <;> (with_reducible rfl)
        try simp only [Act.put, List.setIfInBounds_toArray, List.set_cons_zero, List.set_cons_succ]
        refine heldTake (i := 19) (v := ?_) rfl (by kernel_rfl) (by kernel_rfl) (by kernel_rfl) (fun _ _ _ h => h) (Or.inl ⟨by rfl, ?_⟩) (by assumption) ?_
        rotate_left
        · intro w hSw; (try dsimp only at hSw); go_simp <;> (with_reducible rfl)
        try simp only [Act.put, List.setIfInBounds_toArray, List.set_cons_zero, List.set_cons_succ]
        refine heldTake (i := 20) (v := ?_) rfl (by kernel_rfl) (by kernel_rfl) (by kernel_rfl) (fun _ _ _ h => h) (Or.inl ⟨by rfl, ?_⟩) (by assumption) ?_
        rotate_left
        · intro w hSw; (try dsimp only at hSw); go_simp <;> (with_reducible rfl)
        try simp only [Act.put, List.setIfInBounds_toArray, List.set_cons_zero, List.set_cons_succ]
        refine heldTake (i := 21) (v := ?_) rfl (by kernel_rfl) (by kernel_rfl) (by kernel_rfl) (fun _ _ _ h => h) (Or.inl ⟨by rfl, ?_⟩) (by assumption) ?_
        rotate_left
        · intro w hSw; (try dsimp only at hSw); go_simp <;> (with_reducible rfl)
        try simp only [Act.put, List.setIfInBounds_toArray, List.set_cons_zero, List.set_cons_succ]
        refine heldTake (i := 22) (v := ?_) rfl (by kernel_rfl) (by kernel_rfl) (by kernel_rfl) (fun _ _ _ h => h) (Or.inl ⟨by rfl, ?_⟩) (by assumption) ?_
        rotate_left
        · intro w hSw; (try dsimp only at hSw); go_simp <;> (with_reducible rfl)
        try simp only [Act.put, List.setIfInBounds_toArray, List.set_cons_zero, List.set_cons_succ]
        refine heldTake (i := 23) (v := ?_) rfl (by kernel_rfl) (by kernel_rfl) (by kernel_rfl) (fun _ _ _ h => h) (Or.inl ⟨by rfl, ?_⟩) (by assumption) ?_
        rotate_left
        · intro w hSw; (try dsimp only at hSw); go_simp <;> (with_reducible rfl)
        try simp only [Act.put, List.setIfInBounds_toArray, List.set_cons_zero, List.set_cons_succ]
        refine heldTake (i := 24) (v := ?_) rfl (by kernel_rfl) (by kernel_rfl) (by kernel_rfl) (fun _ _ _ h => h) (Or.inl ⟨by rfl, ?_⟩) (by assumption) ?_
        rotate_left
        · intro w hSw; (try dsimp only at hSw); go_simp <;> (with_reducible rfl)
        try simp only [Act.put, List.setIfInBounds_toArray, List.set_cons_zero, List.set_cons_succ]
        refine heldTake (i := 25) (v := ?_) rfl (by kernel_rfl) (by kernel_rfl) (by kernel_rfl) (fun _ _ _ h => h) (Or.inl ⟨by rfl, ?_⟩) (by assumption) ?_
        rotate_left
        · intro w hSw; (try dsimp only at hSw); go_simp <;> (with_reducible rfl)
        try simp only [Act.put, List.setIfInBounds_toArray, List.set_cons_zero, List.set_cons_succ]
        refine wpAnyH_done (by kernel_rfl) ?_ _
        go_wp2_with fail
        go_roundw
        case rel => exact ⟨T + 1, S2, by simp, by omega, hide (HS_y113.out.cut 0), hide HF.out.2.1, hide (by rw [HF.out.2.2]; have := HWR.out; omega)⟩
        case measure => simp [intOf]; omega
    · skip
      have hTi : ¬ (T : Int) < 8 := by omega
      have hL8 : LivN 2 20 S 2 (gridG 2 (pairD l) 8) := (show T = 8 by omega) ▸ HL.out
      obtain ⟨q, hq, hq8⟩ := mask3s slot
      obtain ⟨f, hf⟩ : ∃ f, secOf slot = f := ⟨_, rfl⟩
      have HFF := hide hf
      have HPL := hide (show S.splug (rowX idN 2) (q : Int) f = (f, 0) from (by
        have h := hL8.splug (slot := q) (s0 := secOf (numP l q)) f (by decide) (by decide) (fun t ht => rfl) (by rw [homeE_two]; exact hq8) (by
          show (pairD l (q / 1))[q % 1]? = _
          rw [Nat.div_one, Nat.mod_one]
          rfl)
        rw [h]
        have h2 : ((pairD l (q / (2 - 1))).set (q % (2 - 1)) f) = [f] := by
          show ((pairD l (q / 1)).set (q % 1) f) = [f]
          rw [Nat.div_one, Nat.mod_one]
          rfl
        rw [h2, parS_one]))
      clear hf hL8 HL hT hT8
      go_upto_region 20 with (first
        | (go_at_call 26; (with_reducible refine (sector_any slot _).mono ?_); rintro _ y101 ⟨rfl, hlq⟩; rw [HFF.out]; have HS_y101 : Hid (Sux w y101 x1.heap.size y1.heap.size S [] A_y3 2 c_y3 (rowX idN 2) none 0 0 ([]) none 0 0 ([])) := hide (HS_v.out.later hlq); clear hlq)
        | (go_at_call 28; refine (HS_y101.out.splug K (q : Int) ⟨by omega, by omega⟩ f).mono ?_; rintro _ y102 ⟨rfl, hsq⟩; rw [HPL.out]; have HS_y102 : Hid (Sux w y102 x1.heap.size y1.heap.size S [] A_y3 2 c_y3 (rowX idN 2) none 0 0 ([]) none 0 0 ([])) := hide (hsq); clear hsq)
        | ((with_reducible refine at_slot 16 ?_); refine wpList_alloc_blk rfl 49 rfl _ (sec_zero _) ?_; intro y103 hbq hl1 hs1; clear hs1)
        | ((with_reducible refine at_store 16 ?_); refine wpList_store_all rfl 49 (.tmp 16) (.tmp 104) rfl y102.heap.size 49 _ hbq rfl (secL f) rfl (msec_size _) (msec_len _ _) (secL_one _) ?_; intro y104 hbz hg hs; have HS_y104 : Hid (Sux w y104 x1.heap.size y1.heap.size S [(y102.heap.size, 49, secL f)] A_y3 2 c_y3 (rowX idN 2) none 0 0 ([]) none 0 0 ([])) := hide (HS_y102.out.new hl1 hg hbz); clear hs hbq hl1 hg hbz))
      refine wp_region_held_drew (S := (fun W => OwnV W y1.heap.size [(y102.heap.size, 49, secL f)])) (by kernel_rfl) ?_ (fun hHeld => ?_)
      · exact HS_y104.out.drew.own
      have HS_dy104 := hide (HS_y104.out.drew)
      refine heldTake (i := 0) (v := ?_) rfl (by kernel_rfl) (by kernel_rfl) (by kernel_rfl) (fun _ _ _ h => h) (Or.inl ⟨by rfl, ?_⟩) (by assumption) ?_
      rotate_left
      · intro w hSw; (try dsimp only at hSw); go_simp <;> (with_reducible rfl)
      try simp only [Act.put, List.setIfInBounds_toArray, List.set_cons_zero, List.set_cons_succ]
      refine heldTake (i := 1) (v := ?_) rfl (by kernel_rfl) (by kernel_rfl) (by kernel_rfl) (fun _ _ _ h => h) (Or.inl ⟨by rfl, ?_⟩) (by assumption) ?_
      rotate_left
      · intro w hSw; (try dsimp only at hSw); go_simp <;> (with_reducible rfl)
      try simp only [Act.put, List.setIfInBounds_toArray, List.set_cons_zero, List.set_cons_succ]
      refine heldTake (i := 2) (v := .agg (secL f).toArray) rfl (by kernel_rfl) (by kernel_rfl) (by kernel_rfl) (fun _ _ _ h => h) (yieldsIf_load_mid (by rfl) _ _ rfl _ _ rfl (secL f) _ (fun W hW => hW.range 0 rfl) Try.underlying49 rfl (msec_size _)) (by assumption) ?_
      try simp only [Act.put, List.setIfInBounds_toArray, List.set_cons_zero, List.set_cons_succ]
      refine heldTake (i := 3) (v := ?_) rfl (by kernel_rfl) (by kernel_rfl) (by kernel_rfl) (fun _ _ _ h => h) (Or.inl ⟨by rfl, ?_⟩) (by assumption) ?_
      rotate_left
      · intro w hSw; (try dsimp only at hSw); go_simp <;> (with_reducible rfl)
      try simp only [Act.put, List.setIfInBounds_toArray, List.set_cons_zero, List.set_cons_succ]
      refine wpAnyH_ready (rs := [4]) (by kernel_rfl) (by simp) ?_
      refine heldCons (i := 4) rfl (fun Kq hKq => ?_) AllReadyH.nil
      go_simp
      go_at_call 26
      (with_reducible refine (sector_any slot _).mono ?_)
      rintro _ y105 ⟨rfl, hlq⟩
      rw [HFF.out]
      have HS_y105 : Hid (Sux w y105 x1.heap.size y1.heap.size S [(y102.heap.size, 49, secL f)] A_y3 2 c_y3 (rowX idN 2) none 0 0 ([]) none 0 0 ([])) := hide (HS_dy104.out.later hlq)
      clear hlq
      first | (refine hKq.out _ _ HS_y105.out.own (fun hHeld => ?_)) | (go_wp2_with fail; refine hKq.out _ _ HS_y105.out.own (fun hHeld => ?_))
      clear hKq Kq
      try simp only [Act.put, List.setIfInBounds_toArray, List.set_cons_zero, List.set_cons_succ]
      refine heldTake (i := 5) (v := .bool true) rfl (by kernel_rfl) (by kernel_rfl) (by kernel_rfl) (fun _ _ _ h => h) (Or.inl ⟨by rfl, fun W hW => run_eqS W _ (.tmp 108) (.tmp 110) _ rfl f f rfl rfl true (by simp)⟩) (by assumption) ?_
      try simp only [Act.put, List.setIfInBounds_toArray, List.set_cons_zero, List.set_cons_succ]
      refine heldTake (i := 6) (v := ?_) rfl (by kernel_rfl) (by kernel_rfl) (by kernel_rfl) (fun _ _ _ h => h) (Or.inl ⟨by rfl, ?_⟩) (by assumption) ?_
      rotate_left
      · intro w hSw; (try dsimp only at hSw); go_simp <;> (with_reducible rfl)
      try simp only [Act.put, List.setIfInBounds_toArray, List.set_cons_zero, List.set_cons_succ]
      refine heldTake (i := 7) (v := ?_) rfl (by kernel_rfl) (by kernel_rfl) (by kernel_rfl) (fun _ _ _ h => h) (Or.inl ⟨by rfl, ?_⟩) (by assumption) ?_
      rotate_left
      · intro w hSw; (try dsimp only at hSw); go_simp <;> (with_reducible rfl)
      try simp only [Act.put, List.setIfInBounds_toArray, List.set_cons_zero, List.set_cons_succ]
      refine heldTake (i := 8) (v := ?_) rfl (by kernel_rfl) (by kernel_rfl) (by kernel_rfl) (fun _ _ _ h => h) (Or.inl ⟨by rfl, ?_⟩) (by assumption) ?_
      rotate_left
      · intro w hSw; (try dsimp only at hSw); go_simp <;> (with_reducible rfl)
      try simp only [Act.put, List.setIfInBounds_toArray, List.set_cons_zero, List.set_cons_succ]
      refine heldTake (i := 9) (v := ?_) rfl (by kernel_rfl) (by kernel_rfl) (by kernel_rfl) (fun _ _ _ h => h) (Or.inl ⟨by rfl, ?_⟩) (by assumption) ?_
      rotate_left
      · intro w hSw; (try dsimp only at hSw); go_simp <;> (with_reducible rfl)
      try simp only [Act.put, List.setIfInBounds_toArray, List.set_cons_zero, List.set_cons_succ]
      refine heldTake (i := 10) (v := ?_) rfl (by kernel_rfl) (by kernel_rfl) (by kernel_rfl) (fun _ _ _ h => h) (Or.inl ⟨by rfl, ?_⟩) (by assumption) ?_
      rotate_left
      · intro w hSw; (try dsimp only at hSw); go_simp <;> (with_reducible rfl)
      try simp only [Act.put, List.setIfInBounds_toArray, List.set_cons_zero, List.set_cons_succ]
      refine heldTake (i := 11) (v := ?_) rfl (by kernel_rfl) (by kernel_rfl) (by kernel_rfl) (fun _ _ _ h => h) (Or.inl ⟨by rfl, ?_⟩) (by assumption) ?_
      rotate_left
      · intro w hSw; (try dsimp only at hSw); go_simp <;> (with_reducible rfl)
      try simp only [Act.put, List.setIfInBounds_toArray, List.set_cons_zero, List.set_cons_succ]
      refine wpAnyH_done (by kernel_rfl) ?_ _
      go_wp2_with fail
      go_ret
      exact ⟨rfl, HS_y105.out.low⟩
#print axioms stripePair_walk
end Go.Proofs.Ytjafhlljigaibaa
