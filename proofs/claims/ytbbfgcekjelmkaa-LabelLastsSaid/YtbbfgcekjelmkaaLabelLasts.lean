/- LabelLasts: a label is laid, and then the next one, power failing at any write with whatever kept: Load tells the first one, or the second, and the second if it was answered; whatever generation (28 bits), whatever numbers of blocks (1 to 64), whatever write, whatever mask; no condition. -/
import Derived.Test.YtbbfgcekjelmkaaShownL
import Derived.Test.YtbbfgcekjelmkaaArgL
import Derived.Test.YtbbfgcekjelmkaaQuiet
import Derived.Test.YtbbfgcekjelmkaaPoke
namespace Go.Proofs.Ytbbfgcekjelmkaa.LabelLasts
open Go.ChangeShapes Go.WideShapes Go.ChangeAt Go.RowKit Go.Proofs.Ytbbfgcekjelmkaa
set_option linter.unusedVariables false

theorem mask28 (v : Int) : ∃ m : Nat, bits .and .i64 v 268435455 = (m : Int) ∧ m < 268435456 := by
  have h := i64_mask v 28 (by decide)
  have h0 := Int.emod_nonneg v (show (2 : Int) ^ 28 ≠ 0 by decide)
  have h1 := Int.emod_lt_of_pos v (show (0 : Int) < 2 ^ 28 by decide)
  refine ⟨(v % 2 ^ 28).toNat, ?_, by omega⟩
  rw [Int.toNat_of_nonneg h0]
  exact h
theorem mask6 (v : Int) : ∃ m : Nat, bits .and .i64 v 63 = (m : Int) ∧ m < 64 := by
  have h := i64_mask v 6 (by decide)
  have h0 := Int.emod_nonneg v (show (2 : Int) ^ 6 ≠ 0 by decide)
  have h1 := Int.emod_lt_of_pos v (show (0 : Int) < 2 ^ 6 by decide)
  refine ⟨(v % 2 ^ 6).toNat, ?_, by omega⟩
  rw [Int.toNat_of_nonneg h0]
  exact h
theorem mask1 (v : Int) : bits .and .i64 v 1 = 0 ∨ bits .and .i64 v 1 = 1 := by
  have h := i64_mask v 1 (by decide)
  have h0 := Int.emod_nonneg v (show (2 : Int) ^ 1 ≠ 0 by decide)
  have h1 := Int.emod_lt_of_pos v (show (0 : Int) < 2 ^ 1 by decide)
  have h2 : bits .and .i64 v 1 = v % 2 ^ 1 := h
  rw [h2]
  omega
def lab (gen blocks : Int) : Lab := ⟨9, gen, 1, blocks, [(0, 200, 0), (1, 300, 0), (2, 160, 2)]⟩
theorem right_lab {gen blocks : Int} (h1 : 1 ≤ gen) (h2 : gen ≤ 4294967295) (h3 : 1 ≤ blocks) (h4 : blocks ≤ 96) : rightB (lab gen blocks) = true := by
  have hg : inB gen 1 4294967295 = true := inB_iff.2 ⟨h1, h2⟩
  have hb : inB blocks 1 96 = true := inB_iff.2 ⟨h3, h4⟩
  have hm : membersB [(0, 200, 0), (1, 300, 0), (2, 160, 2)] = true := by decide +kernel
  have ho : ownB [(0, 200, 0), (1, 300, 0), (2, 160, 2)] 1 = true := by decide +kernel
  simp only [rightB, lab, hg, hb, hm, ho, show inB 9 0 4294967295 = true by decide, Bool.and_true]
theorem tells_one {S : Bank} {x : Lab} (hq : Quiet 200 S) (hx : rightB x = true) (hm : x.member = 1) {g : Nat} (hg : g < 2) (h1 : S.newest 1 g = labS x) (h2 : S.newest 1 (1 - g) = zeroSec) : S.loadL 1 = (x, 0) := by
  obtain ⟨_, gx, _⟩ := right_parts hx
  have hb : S.bestL 1 2 = x := by
    have hc : candL 1 Lab.none_ (labS x) = x := by rw [cand_lab hx, if_pos ⟨hm, by show (0 : Int) < x.gen; omega⟩]
    rw [best_two]
    rcases (by omega : g = 0 ∨ g = 1) with rfl | rfl
    · rw [h1, h2]
      show candL 1 (candL 1 Lab.none_ (labS x)) zeroSec = x
      rw [hc, cand_zero]
    · rw [h1, h2]
      show candL 1 (candL 1 Lab.none_ zeroSec) (labS x) = x
      rw [cand_zero, hc]
  rw [hq.load (by decide) (by decide), hb, if_neg (by omega)]
theorem tells_two {S : Bank} {x y : Lab} (hq : Quiet 200 S) (hx : rightB x = true) (hy : rightB y = true) (hm : x.member = 1) (hn : y.member = 1) (hlt : x.gen < y.gen) {g : Nat} (hg : g < 2) (h1 : S.newest 1 g = labS x) (h2 : S.newest 1 (1 - g) = labS y) : S.loadL 1 = (y, 0) := by
  obtain ⟨_, gx, _⟩ := right_parts hx
  obtain ⟨_, gy, _⟩ := right_parts hy
  have hb : S.bestL 1 2 = y := by
    have hc : candL 1 Lab.none_ (labS x) = x := by rw [cand_lab hx, if_pos ⟨hm, by show (0 : Int) < x.gen; omega⟩]
    have hd : candL 1 Lab.none_ (labS y) = y := by rw [cand_lab hy, if_pos ⟨hn, by show (0 : Int) < y.gen; omega⟩]
    rw [best_two]
    rcases (by omega : g = 0 ∨ g = 1) with rfl | rfl
    · rw [h1, h2]
      show candL 1 (candL 1 Lab.none_ (labS x)) (labS y) = y
      rw [hc, cand_lab hy, if_pos ⟨hn, hlt⟩]
    · rw [h1, h2]
      show candL 1 (candL 1 Lab.none_ (labS y)) (labS x) = y
      rw [hd, cand_lab hx, if_neg (fun h => by omega)]
  rw [hq.load (by decide) (by decide), hb, if_neg (by omega)]
/-- Behind a crash where nothing is loose all is as it was. -/
theorem crash_still {S : Bank} (hd : S.down = false) (ho : S.order = []) (m : Nat) : S.crash m = { S with newest := S.flushed, order := [], down := true, armed := 0 } := by
  unfold Bank.crash
  rw [if_neg (by rw [hd]; decide)]
  unfold Bank.kept
  rw [ho]
  rfl
/-- The bank behind the first label; armed. -/
def S1 (x : Lab) (g : Nat) : Bank := (Three.wrote.put 1 g (labS x)).flush 1
theorem S1_order (x : Lab) (g : Nat) : (S1 x g).order = [] := by
  show (List.filter (fun p => p.1 != 1) (if (1, g) ∈ ([] : List (Nat × Nat)) then [] else [] ++ [(1, g)])) = []
  rw [if_neg (by simp)]
  rfl
theorem S1_quiet (x : Lab) (g : Nat) : Quiet 200 (S1 x g) := ((quiet_three.wrote).put 1 g (labS x)).flush 1
theorem S1_new (x : Lab) (g : Nat) : (S1 x g).flushed 1 g = labS x := by
  show upd Three.flushed 1 (upd2 Three.newest 1 g (labS x) 1) 1 g = labS x
  rw [upd_self, upd2_self]
theorem S1_zero (x : Lab) {g j : Nat} (h : j ≠ g) : (S1 x g).flushed 1 j = zeroSec := by
  show upd Three.flushed 1 (upd2 Three.newest 1 g (labS x) 1) 1 j = zeroSec
  rw [upd_self, upd2_ne _ _ (fun e => h e.2)]
  exact three_newest 1 j
/-- Power fails at the next write. -/
def fell (x : Lab) (g m : Nat) : Bank := { S1 x g with newest := (S1 x g).flushed, order := [], down := true, armed := 0, mask := m, writes := (S1 x g).writes + 1 }
theorem save_fell (x y : Lab) (g m : Nat) (hy : rightB y = true) (hn : y.member = 1) : ((S1 x g).arm 1 m).saveL y = (6, fell x g m) := by
  have hq := S1_quiet x g
  have ht : ((S1 x g).arm 1 m).ticked = ((S1 x g).arm 1 m).wrote := tick_none (S := ((S1 x g).arm 1 m).wrote) (fun d hd => hq.fail d (by have : d < 3 := hd; exact this)) _ (Nat.le_refl _)
  have hc : ((S1 x g).arm 1 m).count = (true, fell x g m) := by
    unfold Bank.count
    rw [if_neg (by show ¬ ((S1 x g).down = true); rw [hq.up]; decide), ht]
    simp only
    rw [if_neg (by show ¬ (1 = 0); decide), if_pos (by rfl)]
    rw [crash_still (S := { ((S1 x g).arm 1 m).wrote with armed := ((S1 x g).arm 1 m).wrote.armed - 1 }) hq.up (S1_order x g)]
    rfl
  have hl : ((S1 x g).arm 1 m).laysL y = (6, fell x g m) := by
    unfold Bank.laysL Bank.write
    rw [hc]
    rfl
  unfold Bank.saveL
  rw [hy, if_pos rfl, hl]
  rfl
theorem fell_tells (x : Lab) (g m : Nat) (hg : g < 2) (hx : rightB x = true) (hm : x.member = 1) : (fell x g m).start.loadL 1 = (x, 0) := by
  have hq := S1_quiet x g
  exact tells_one ⟨hq.n, hq.size, hq.live, rfl, rfl, hq.fail⟩ hx hm hg (S1_new x g) (S1_zero x (by omega))
/-- .. or at the one behind. -/
def mid (x : Lab) (g m : Nat) : Bank := { ((S1 x g).arm 2 m).wrote with armed := 1 }
def S2 (x y : Lab) (g m : Nat) : Bank := ((mid x g m).put 1 (1 - g) (labS y)).flush 1
theorem save_next (x y : Lab) (g m : Nat) (hg : g < 2) (hy : rightB y = true) (hn : y.member = 1) (hgen : y.gen.toNat % 2 = 1 - g) : ((S1 x g).arm 2 m).saveL y = (0, S2 x y g m) := by
  have hq := S1_quiet x g
  have ht : ((S1 x g).arm 2 m).ticked = ((S1 x g).arm 2 m).wrote := tick_none (S := ((S1 x g).arm 2 m).wrote) (fun d hd => hq.fail d (by have : d < 3 := hd; exact this)) _ (Nat.le_refl _)
  have hc : ((S1 x g).arm 2 m).count = (false, mid x g m) := by
    unfold Bank.count
    rw [if_neg (by show ¬ ((S1 x g).down = true); rw [hq.up]; decide), ht]
    simp only
    rw [if_neg (by show ¬ (2 = 0); decide), if_neg (by show ¬ (2 = 1); decide)]
    rfl
  have hmay : ∀ T : Bank, T.n = (S1 x g).n → T.dead = (S1 x g).dead → T.down = (S1 x g).down → T.may 1 = 0 := fun T h1 h2 h3 => by
    unfold Bank.may
    rw [if_neg (by rw [h1, hq.n]; decide), h2, hq.live 1 (by decide), h3, hq.up]
    rfl
  have hp : (mid x g m).place 1 (1 - g) = 0 := by
    unfold Bank.place
    rw [if_pos (hmay (mid x g m) rfl rfl rfl)]
    rw [if_pos (by show 1 - g < (S1 x g).size 1; rw [hq.size 1 (by decide)]; omega)]
  have hl : ((S1 x g).arm 2 m).laysL y = (0, (mid x g m).put 1 (1 - g) (labS y)) := by
    unfold Bank.laysL Bank.write
    rw [hc, hn, hgen]
    show (if (mid x g m).place 1 (1 - g) = 0 then _ else _) = _
    rw [if_pos hp]
    rfl
  unfold Bank.saveL
  rw [hy, if_pos rfl, hl, hn]
  show (if (0 : Nat) = 0 then _ else _) = _
  rw [if_pos rfl]
  have h2 : ((mid x g m).put 1 (1 - g) (labS y)).may 1 = 0 := hmay _ rfl rfl rfl
  show (((mid x g m).put 1 (1 - g) (labS y)).may 1, if ((mid x g m).put 1 (1 - g) (labS y)).may 1 = 0 then _ else _) = _
  rw [h2, if_pos rfl]
  rfl
theorem next_tells (x y : Lab) (g m : Nat) (hg : g < 2) (hx : rightB x = true) (hy : rightB y = true) (hm : x.member = 1) (hn : y.member = 1) (hlt : x.gen < y.gen) : ((S2 x y g m).crash m).start.loadL 1 = (y, 0) := by
  have hq := S1_quiet x g
  have ho : (S2 x y g m).order = [] := by
    show (List.filter (fun p => p.1 != 1) (if (1, 1 - g) ∈ (S1 x g).order then (S1 x g).order else (S1 x g).order ++ [(1, 1 - g)])) = []
    rw [S1_order, if_neg (by simp)]
    rfl
  rw [crash_still (S := S2 x y g m) hq.up ho]
  have hf : ∀ j, (S2 x y g m).flushed 1 j = upd2 (S1 x g).newest 1 (1 - g) (labS y) 1 j := fun j => by
    show upd (S1 x g).flushed 1 (upd2 (S1 x g).newest 1 (1 - g) (labS y) 1) 1 j = _
    rw [upd_self]
  refine tells_two ⟨hq.n, hq.size, hq.live, rfl, rfl, hq.fail⟩ hx hy hm hn hlt hg ?_ ?_
  · show (S2 x y g m).flushed 1 g = _
    rw [hf, upd2_ne _ _ (fun e => by omega)]
    have h := (S1_quiet x g)
    show upd2 Three.newest 1 g (labS x) 1 g = _
    rw [upd2_self]
  · show (S2 x y g m).flushed 1 (1 - g) = _
    rw [hf, upd2_self]
theorem save_first (x : Lab) (hx : rightB x = true) (hm : x.member = 1) : Three.saveL x = (0, S1 x (x.gen.toNat % 2)) := by
  rw [quiet_three.save hx (by rw [hm]; decide) (by decide), hm]
  rfl
theorem lab_apart {g h p q : Int} (e : g ≠ h) : sameB (lab g p) (lab h q) = false := by
  rw [Bool.eq_false_iff]
  intro h2
  exact e (congrArg Lab.gen (sameB_iff.1 h2))
set_option maxRecDepth 100000 in
set_option maxHeartbeats 8000000 in
theorem walk_0 (a0 a1 a2 : Int) (M : Nat) (w : World) (hM : M < 18446744073709551616) (hr : bits .and .i64 a2 1 = 0) :
    Calls Try.prog 6 #[.int .i64 a0, .int .i64 a1, .int .i64 a2, .int .u64 (M : Int)] w fun e w' => e = .returned (.bool true) ∧ Below w.heap.size w w' := by
  obtain ⟨m, hm, hml⟩ := mask28 a0
  obtain ⟨q1, hq1, hq1l⟩ := mask6 a1
  obtain ⟨q2, hq2, hq2l⟩ := mask6 (a1 / 64)
  obtain ⟨P, hP⟩ : ∃ P, P = plainL (1 + (m : Int)) 1 := ⟨_, rfl⟩
  obtain ⟨X, hX⟩ : ∃ X, X = lab (1 + (m : Int)) (1 + (q1 : Int)) := ⟨_, rfl⟩
  obtain ⟨Z, hZ⟩ : ∃ Z, Z = lab (1 + (m : Int) + 1) (1 + (q1 : Int)) := ⟨_, rfl⟩
  obtain ⟨Y, hY⟩ : ∃ Y, Y = lab (1 + (m : Int) + 1) (1 + (q2 : Int)) := ⟨_, rfl⟩
  have HPP := hide (fun w => plain_any (1 + (m : Int)) 1 w)
  rw [← hP] at HPP
  have HRX : Hid (rightB X = true) := by show _ = _; rw [hX]; exact right_lab (by omega) (by omega) (by omega) (by omega)
  have HRY : Hid (rightB Y = true) := by show _ = _; rw [hY]; exact right_lab (by omega) (by omega) (by omega) (by omega)
  have HXM := hide (show X.member = 1 by rw [hX]; rfl)
  have HYM := hide (show Y.member = 1 by rw [hY]; rfl)
  have HXG := hide (show X.gen = 1 + (m : Int) by rw [hX]; rfl)
  have HYG := hide (show Y.gen = 1 + (m : Int) + 1 by rw [hY]; rfl)
  have HMX := hide (show X.members = P.members by rw [hX, hP]; rfl)
  have HMY := hide (show Y.members = P.members by rw [hY, hP]; rfl)
  have HCX := hide (fun A n c => show (labC P A n c).toArray.setIfInBounds 3 (.int .i64 (1 + (q1 : Int))) = (labC X A n c).toArray by rw [hP, hX]; rfl)
  have HCZ := hide (fun A n c => show (labC X A n c).toArray.setIfInBounds 1 (.int .i64 (1 + (m : Int) + 1)) = (labC Z A n c).toArray by rw [hX, hZ]; rfl)
  have HCY := hide (fun A n c => show (labC Z A n c).toArray.setIfInBounds 3 (.int .i64 (1 + (q2 : Int))) = (labC Y A n c).toArray by rw [hZ, hY]; rfl)
  have HXY := hide (show sameB X Y = false by rw [hX, hY]; exact lab_apart (by omega))
  have HYX := hide (show sameB Y X = false by rw [hX, hY]; exact lab_apart (by omega))
  have HShown := hide shownL_any
  obtain ⟨g, hg⟩ : ∃ g, g = X.gen.toNat % 2 := ⟨_, rfl⟩
  have hg2 : g < 2 := by omega
  have hgy : Y.gen.toNat % 2 = 1 - g := by have := HXG.out; have := HYG.out; omega
  have hlt : X.gen < Y.gen := by have := HXG.out; have := HYG.out; omega
  have hsv1 := save_first X HRX.out HXM.out
  rw [← hg] at hsv1
  have HS1 := hide (fun (w1 : World) (b : Nat) (F : Nat → Prop) (h : BankOn w1 b F Three) A n c hm => lsave_on h (by decide) X A n c hm)
  rw [hsv1] at HS1
  have HArm := hide (fun (w1 : World) (b : Nat) (F : Nat → Prop) (h : BankOn w1 b F (S1 X g)) => on_arm h 1 1 M (by decide) (by decide) hM)
  have HS2 := hide (fun (w1 : World) (b : Nat) (F : Nat → Prop) (h : BankOn w1 b F ((S1 X g).arm 1 M)) A n c hm => lsave_on h (by show 0 + 1 < 4611686018427387904; decide) Y A n c hm)
  rw [save_fell X Y g M HRY.out HYM.out] at HS2
  obtain ⟨T, hT⟩ : ∃ T, T = fell X g M := ⟨_, rfl⟩
  have hup : T.down = true := by rw [hT]; rfl
  have HUp := hide (fun (w1 : World) (b : Nat) (F : Nat → Prop) (h : BankOn w1 b F T) => on_up h)
  rw [hup] at HUp
  have HT1 : Hid ((T.start).loadL 1 = (X, 0)) := by show _ = _; rw [hT]; exact fell_tells X g M hg2 HRX.out HXM.out
  rw [← hT] at HS2
  clear hT hup
  have HSameX := hide (fun A C n c m d B1 B2 w => same_any X X A C n c m d B1 B2 w)
  have HSameY := hide (fun A C n c m d B1 B2 w => same_any X Y A C n c m d B1 B2 w)
  rw [sameB_self] at HSameX
  rw [HXY.out] at HSameY
  clear hX hY hZ hP hsv1 hgy hlt hg
  have HL_w := hide (Below.refl w.heap.size w)
  go_enter Try.func6, Try.ntmps6
  go_wp2_with fail
  refine (HShown.out w).mono ?_
  rintro _ w1 ⟨rfl, hlq⟩
  have hb_w1 := hide (hlq)
  have HL_w1 := hide (HL_w.out.trans (hb_w1.out.mono HL_w.out.size))
  have hz_w1 := HL_w1.out.size
  have hy_w1 := hb_w1.out.size
  clear hlq
  go_wp2_with fail
  refine (bankNil_any w1).mono ?_
  rintro _ w2 ⟨⟨b, r, F, rfl, hB2, hlo2⟩, hlq⟩
  have hb_w2 := hide (hlq)
  have HL_w2 := hide (HL_w1.out.trans (hb_w2.out.mono HL_w1.out.size))
  have hz_w2 := HL_w2.out.size
  have hy_w2 := hb_w2.out.size
  clear hlq
  have HFB : Hid (∀ x, F x → w1.heap.size ≤ x ∧ x < w2.heap.size) := fun x hx => ⟨hlo2 x hx, hB2.1 x hx⟩
  have HBK_w2 := hide hB2
  clear hB2 hlo2
  go_wp2_with fail
  refine (HPP.out w2).mono ?_
  rintro _ w3 ⟨⟨A3, n3, c3, rfl, hG3, rfl⟩, hlq⟩
  have hb_w3 := hide (hlq)
  have HBK_w3 := hide (HBK_w2.out.later hb_w3.out)
  have HL_w3 := hide (HL_w2.out.trans (hb_w3.out.mono HL_w2.out.size))
  have hz_w3 := HL_w3.out.size
  have hy_w3 := hb_w3.out.size
  clear HBK_w2
  clear hlq
  have HG_w3 := hide hG3
  clear hG3
  have hlt3 : ∀ ad, A3 = some ad → ad.block < w3.heap.size := fun ad e => by obtain ⟨ad', e', h', _⟩ := HG_w3.out.1.1.2 (by decide); rw [e] at e'; injection e' with e'; rw [e']; exact h'
  go_wp2_with (first
    | (refine wpList_alloc_blk rfl 24 rfl _ (lab_zero w3) ?_; intro w4 ha_w4 hl_w4 hs_w4; clear hs_w4)
    | (refine wpList_store_all rfl 24 (.tmp 12) (.tmp 33) rfl w3.heap.size 24 _ ha_w4 rfl (labC P A3 3 c3) rfl lab_info rfl (labC_one _ _ _ _) ?_; intro w5 hc_w5 hg_w5 hs_w5; clear hs_w5; have hbb_w5 : Below w3.heap.size w3 w5 := hl_w4.grown hg_w5 (by have := hl_w4.size; omega) (fun g e => by injection e with e; omega); have hb_w5 := hide (hbb_w5); have HBK_w5 := hide (HBK_w3.out.later hb_w5.out); have HG_w5 := hide (HG_w3.out.later hb_w5.out); have HL_w5 := hide (HL_w3.out.trans (hb_w5.out.mono HL_w3.out.size)); have hz_w5 := HL_w5.out.size; have hy_w5 := hb_w5.out.size; clear HBK_w3 HG_w3; have HXB_w5 := hide hc_w5; have hv_HXB := hc_w5.lt; clear hbb_w5 hc_w5 ha_w4 hl_w4 hg_w5)
    | (refine wpList_poke rfl 3 (.tmp 37) (.tmp 36) rfl w3.heap.size 3 24 _ HXB_w5.out rfl (.int .i64 (1 + (q1 : Int))) rfl rfl int_one (by show 3 < 5; decide) ?_; intro w6 hbq hgq hsq; have HBK_w6 := hide (HBK_w5.out.grown hgq (fun g e hf => by injection e with e; have := HFB.out g hf; omega)); have HG_w6 := hide (HG_w5.out.grown hgq (fun h0 ad e => by have := hlt3 ad e; omega)); have HL_w6 := hide (HL_w5.out.grown hgq HL_w5.out.size (fun g e => by injection e with e; omega)); rw [HCX.out] at hbq; have HXB_w6 := hide hbq; have hv_HXB_w6 := hbq.lt; clear hbq hgq hsq HBK_w5 HG_w5 HXB_w5)
    | (refine wpList_load_blk rfl 24 (.tmp 12) rfl w3.heap.size 0 24 _ HXB_w6.out rfl (labC X A3 3 c3) _ (fun j v hj => by rw [Nat.zero_add]; simpa using hj) Try.underlying24 rfl lab_info ?_)
    | (refine wpList_alloc_blk rfl 24 rfl _ (lab_zero w6) ?_; intro w7 ha_w7 hl_w7 hs_w7; clear hs_w7)
    | (refine wpList_store_all rfl 24 (.tmp 13) (.tmp 38) rfl w6.heap.size 24 _ ha_w7 rfl (labC X A3 3 c3) rfl lab_info rfl (labC_one _ _ _ _) ?_; intro w8 hc_w8 hg_w8 hs_w8; clear hs_w8; have hbb_w8 : Below w6.heap.size w6 w8 := hl_w7.grown hg_w8 (by have := hl_w7.size; omega) (fun g e => by injection e with e; omega); have hb_w8 := hide (hbb_w8); have HBK_w8 := hide (HBK_w6.out.later hb_w8.out); have HG_w8 := hide (HG_w6.out.later hb_w8.out); have HXB_w8 := hide (HXB_w6.out.below hb_w8.out HXB_w6.out.lt); have HL_w8 := hide (HL_w6.out.trans (hb_w8.out.mono HL_w6.out.size)); have hz_w8 := HL_w8.out.size; have hy_w8 := hb_w8.out.size; clear HBK_w6 HG_w6 HXB_w6; have HYB_w8 := hide hc_w8; have hv_HYB := hc_w8.lt; clear hbb_w8 hc_w8 ha_w7 hl_w7 hg_w8; have cg := lab_c1 HYB_w8.out; rw [HXG.out] at cg)
    | (refine wpList_poke rfl 3 (.tmp 42) (.tmp 41) rfl w6.heap.size 1 24 _ HYB_w8.out rfl (.int .i64 (1 + (m : Int) + 1)) rfl rfl int_one (by show 1 < 5; decide) ?_; intro w9 hbq hgq hsq; have HBK_w9 := hide (HBK_w8.out.grown hgq (fun g e hf => by injection e with e; have := HFB.out g hf; omega)); have HG_w9 := hide (HG_w8.out.grown hgq (fun h0 ad e => by have := hlt3 ad e; omega)); have HXB_w9 := hide (HXB_w8.out.grown hgq (fun e => by injection e with e; omega)); have HL_w9 := hide (HL_w8.out.grown hgq HL_w8.out.size (fun g e => by injection e with e; omega)); rw [HCZ.out] at hbq; have HYB_w9 := hide hbq; have hv_HYB_w9 := hbq.lt; clear hbq hgq hsq HBK_w8 HG_w8 HXB_w8 HYB_w8; clear cg)
    | (refine wpList_poke rfl 3 (.tmp 47) (.tmp 46) rfl w6.heap.size 3 24 _ HYB_w9.out rfl (.int .i64 (1 + (q2 : Int))) rfl rfl int_one (by show 3 < 5; decide) ?_; intro w10 hbq hgq hsq; have HBK_w10 := hide (HBK_w9.out.grown hgq (fun g e hf => by injection e with e; have := HFB.out g hf; omega)); have HG_w10 := hide (HG_w9.out.grown hgq (fun h0 ad e => by have := hlt3 ad e; omega)); have HXB_w10 := hide (HXB_w9.out.grown hgq (fun e => by injection e with e; omega)); have HL_w10 := hide (HL_w9.out.grown hgq HL_w9.out.size (fun g e => by injection e with e; omega)); rw [HCY.out] at hbq; have HYB_w10 := hide hbq; have hv_HYB_w10 := hbq.lt; clear hbq hgq hsq HBK_w9 HG_w9 HXB_w9 HYB_w9)
    | (refine wpList_load_blk rfl 24 (.tmp 12) rfl w3.heap.size 0 24 _ HXB_w10.out rfl (labC X A3 3 c3) _ (fun j v hj => by rw [Nat.zero_add]; simpa using hj) Try.underlying24 rfl lab_info ?_))
  have hGX : MbIn w10 w10.heap.size A3 3 c3 X.members := by rw [HMX.out]; exact HG_w10.out.1
  refine (HS1.out w10 b F HBK_w10.out A3 3 c3 hGX).mono ?_
  rintro _ w11 ⟨rfl, hBq, hTq⟩
  have hzt_w11 := hTq.size
  have HBK_w11 := hide hBq
  have HG_w11 := hide (HG_w10.out.turned hTq (fun x hx hf => by have := HFB.out x hf; omega))
  have HXB_w11 := hide (HXB_w10.out.turned hTq (fun hf => by have := HFB.out _ hf; have := HXB_w10.out.lt; omega))
  have HYB_w11 := hide (HYB_w10.out.turned hTq (fun hf => by have := HFB.out _ hf; have := HYB_w10.out.lt; omega))
  have HL_w11 := hide (HL_w10.out.trans (hTq.below_ (B := w.heap.size) HL_w10.out.size (fun x hx => by have := HFB.out x hx; omega)))
  have hz_w11 := HL_w11.out.size
  clear hBq hTq
  clear HBK_w10 HG_w10 HXB_w10 HYB_w10
  clear hGX
  go_wp2_with fail
  refine (HArm.out w11 b F HBK_w11.out).mono ?_
  rintro _ w12 ⟨rfl, hBq, hTq⟩
  have hzt_w12 := hTq.size
  have HBK_w12 := hide hBq
  have HG_w12 := hide (HG_w11.out.turned hTq (fun x hx hf => by have := HFB.out x hf; omega))
  have HXB_w12 := hide (HXB_w11.out.turned hTq (fun hf => by have := HFB.out _ hf; have := HXB_w11.out.lt; omega))
  have HYB_w12 := hide (HYB_w11.out.turned hTq (fun hf => by have := HFB.out _ hf; have := HYB_w11.out.lt; omega))
  have HL_w12 := hide (HL_w11.out.trans (hTq.below_ (B := w.heap.size) HL_w11.out.size (fun x hx => by have := HFB.out x hx; omega)))
  have hz_w12 := HL_w12.out.size
  clear hBq hTq
  clear HBK_w11 HG_w11 HXB_w11 HYB_w11
  go_wp2_with (first
    | (refine wpList_load_blk rfl 24 (.tmp 13) rfl w6.heap.size 0 24 _ HYB_w12.out rfl (labC Y A3 3 c3) _ (fun j v hj => by rw [Nat.zero_add]; simpa using hj) Try.underlying24 rfl lab_info ?_))
  have hGY : MbIn w12 w12.heap.size A3 3 c3 Y.members := by rw [HMY.out]; exact HG_w12.out.1
  refine (HS2.out w12 b F HBK_w12.out A3 3 c3 hGY).mono ?_
  rintro _ w13 ⟨rfl, hBq, hTq⟩
  have hzt_w13 := hTq.size
  have HBK_w13 := hide hBq
  have HG_w13 := hide (HG_w12.out.turned hTq (fun x hx hf => by have := HFB.out x hf; omega))
  have HXB_w13 := hide (HXB_w12.out.turned hTq (fun hf => by have := HFB.out _ hf; have := HXB_w12.out.lt; omega))
  have HYB_w13 := hide (HYB_w12.out.turned hTq (fun hf => by have := HFB.out _ hf; have := HYB_w12.out.lt; omega))
  have HL_w13 := hide (HL_w12.out.trans (hTq.below_ (B := w.heap.size) HL_w12.out.size (fun x hx => by have := HFB.out x hx; omega)))
  have hz_w13 := HL_w13.out.size
  clear hBq hTq
  clear HBK_w12 HG_w12 HXB_w12 HYB_w12
  clear hGY
  go_wp2_with fail
  refine (HUp.out w13 b F HBK_w13.out).mono ?_
  rintro _ _ ⟨rfl, rfl⟩
  go_wp2_with fail
  refine (on_start HBK_w13.out).mono ?_
  rintro _ w15 ⟨rfl, hBq, hTq⟩
  have hzt_w15 := hTq.size
  have HBK_w15 := hide hBq
  have HG_w15 := hide (HG_w13.out.turned hTq (fun x hx hf => by have := HFB.out x hf; omega))
  have HXB_w15 := hide (HXB_w13.out.turned hTq (fun hf => by have := HFB.out _ hf; have := HXB_w13.out.lt; omega))
  have HYB_w15 := hide (HYB_w13.out.turned hTq (fun hf => by have := HFB.out _ hf; have := HYB_w13.out.lt; omega))
  have HL_w15 := hide (HL_w13.out.trans (hTq.below_ (B := w.heap.size) HL_w13.out.size (fun x hx => by have := HFB.out x hx; omega)))
  have hz_w15 := HL_w15.out.size
  clear hBq hTq
  clear HBK_w13 HG_w13 HXB_w13 HYB_w13
  go_wp2_with fail
  have hLd := lload_on HBK_w15.out 1
  rw [HT1.out] at hLd
  refine (hLd).mono ?_
  rintro _ w16 ⟨⟨A16, n16, c16, rfl, hG16⟩, hlq⟩
  have hb_w16 := hide (hlq)
  have HBK_w16 := hide (HBK_w15.out.later hb_w16.out)
  have HG_w16 := hide (HG_w15.out.later hb_w16.out)
  have HXB_w16 := hide (HXB_w15.out.below hb_w16.out HXB_w15.out.lt)
  have HYB_w16 := hide (HYB_w15.out.below hb_w16.out HYB_w15.out.lt)
  have HL_w16 := hide (HL_w15.out.trans (hb_w16.out.mono HL_w15.out.size))
  have hz_w16 := HL_w16.out.size
  have hy_w16 := hb_w16.out.size
  clear HBK_w15 HG_w15 HXB_w15 HYB_w15
  clear hlq
  have HGL_w16 := hide hG16
  clear hG16 hLd
  go_wp2_with (first
    | (refine wpList_alloc_blk rfl 24 rfl _ (lab_zero w16) ?_; intro w17 ha_w17 hl_w17 hs_w17; clear hs_w17)
    | (refine wpList_store_all rfl 24 (.tmp 15) (.tmp 71) rfl w16.heap.size 24 _ ha_w17 rfl (labC X A16 n16 c16) rfl lab_info rfl (labC_one _ _ _ _) ?_; intro w18 hc_w18 hg_w18 hs_w18; clear hs_w18; have hbb_w18 : Below w16.heap.size w16 w18 := hl_w17.grown hg_w18 (by have := hl_w17.size; omega) (fun g e => by injection e with e; omega); have hb_w18 := hide (hbb_w18); have HBK_w18 := hide (HBK_w16.out.later hb_w18.out); have HG_w18 := hide (HG_w16.out.later hb_w18.out); have HXB_w18 := hide (HXB_w16.out.below hb_w18.out HXB_w16.out.lt); have HYB_w18 := hide (HYB_w16.out.below hb_w18.out HYB_w16.out.lt); have HGL_w18 := hide (HGL_w16.out.later hb_w18.out); have HL_w18 := hide (HL_w16.out.trans (hb_w18.out.mono HL_w16.out.size)); have hz_w18 := HL_w18.out.size; have hy_w18 := hb_w18.out.size; clear HBK_w16 HG_w16 HXB_w16 HYB_w16 HGL_w16; have HLV_w18 := hide hc_w18; have hv_HLV := hc_w18.lt; clear hbb_w18 hc_w18 ha_w17 hl_w17 hg_w18)
    | (refine wpList_load_blk rfl 24 (.tmp 15) rfl w16.heap.size 0 24 _ HLV_w18.out rfl (labC X A16 n16 c16) _ (fun j v hj => by rw [Nat.zero_add]; simpa using hj) Try.underlying24 rfl lab_info ?_)
    | (refine wpList_load_blk rfl 24 (.tmp 12) rfl w3.heap.size 0 24 _ HXB_w18.out rfl (labC X A3 3 c3) _ (fun j v hj => by rw [Nat.zero_add]; simpa using hj) Try.underlying24 rfl lab_info ?_))
  have hGX : MbIn w18 w18.heap.size A3 3 c3 X.members := by rw [HMX.out]; exact HG_w18.out.1
  refine (HSameX.out A16 A3 n16 c16 3 c3 w18.heap.size w18.heap.size w18 HGL_w18.out.1 hGX (Nat.le_refl _) (Nat.le_refl _)).mono ?_
  rintro _ w19 ⟨rfl, hlq⟩
  have hb_w19 := hide (hlq)
  have HBK_w19 := hide (HBK_w18.out.later hb_w19.out)
  have HG_w19 := hide (HG_w18.out.later hb_w19.out)
  have HXB_w19 := hide (HXB_w18.out.below hb_w19.out HXB_w18.out.lt)
  have HYB_w19 := hide (HYB_w18.out.below hb_w19.out HYB_w18.out.lt)
  have HGL_w19 := hide (HGL_w18.out.later hb_w19.out)
  have HLV_w19 := hide (HLV_w18.out.below hb_w19.out HLV_w18.out.lt)
  have HL_w19 := hide (HL_w18.out.trans (hb_w19.out.mono HL_w18.out.size))
  have hz_w19 := HL_w19.out.size
  have hy_w19 := hb_w19.out.size
  clear HBK_w18 HG_w18 HXB_w18 HYB_w18 HGL_w18 HLV_w18
  clear hlq
  clear hGX
  go_wp2_with (first
    | (refine wpList_load_blk rfl 24 (.tmp 15) rfl w16.heap.size 0 24 _ HLV_w19.out rfl (labC X A16 n16 c16) _ (fun j v hj => by rw [Nat.zero_add]; simpa using hj) Try.underlying24 rfl lab_info ?_)
    | (refine wpList_load_blk rfl 24 (.tmp 13) rfl w6.heap.size 0 24 _ HYB_w19.out rfl (labC Y A3 3 c3) _ (fun j v hj => by rw [Nat.zero_add]; simpa using hj) Try.underlying24 rfl lab_info ?_))
  have hGY : MbIn w19 w19.heap.size A3 3 c3 Y.members := by rw [HMY.out]; exact HG_w19.out.1
  refine (HSameY.out A16 A3 n16 c16 3 c3 w19.heap.size w19.heap.size w19 HGL_w19.out.1 hGY (Nat.le_refl _) (Nat.le_refl _)).mono ?_
  rintro _ w20 ⟨rfl, hlq⟩
  have hb_w20 := hide (hlq)
  have HBK_w20 := hide (HBK_w19.out.later hb_w20.out)
  have HG_w20 := hide (HG_w19.out.later hb_w20.out)
  have HXB_w20 := hide (HXB_w19.out.below hb_w20.out HXB_w19.out.lt)
  have HYB_w20 := hide (HYB_w19.out.below hb_w20.out HYB_w19.out.lt)
  have HGL_w20 := hide (HGL_w19.out.later hb_w20.out)
  have HLV_w20 := hide (HLV_w19.out.below hb_w20.out HLV_w19.out.lt)
  have HL_w20 := hide (HL_w19.out.trans (hb_w20.out.mono HL_w19.out.size))
  have hz_w20 := HL_w20.out.size
  have hy_w20 := hb_w20.out.size
  clear HBK_w19 HG_w19 HXB_w19 HYB_w19 HGL_w19 HLV_w19
  clear hlq
  go_wp2_with fail
  go_ret
  exact ⟨rfl, HL_w20.out⟩
set_option maxRecDepth 100000 in
set_option maxHeartbeats 8000000 in
theorem walk_1 (a0 a1 a2 : Int) (M : Nat) (w : World) (hM : M < 18446744073709551616) (hr : bits .and .i64 a2 1 = 1) :
    Calls Try.prog 6 #[.int .i64 a0, .int .i64 a1, .int .i64 a2, .int .u64 (M : Int)] w fun e w' => e = .returned (.bool true) ∧ Below w.heap.size w w' := by
  obtain ⟨m, hm, hml⟩ := mask28 a0
  obtain ⟨q1, hq1, hq1l⟩ := mask6 a1
  obtain ⟨q2, hq2, hq2l⟩ := mask6 (a1 / 64)
  obtain ⟨P, hP⟩ : ∃ P, P = plainL (1 + (m : Int)) 1 := ⟨_, rfl⟩
  obtain ⟨X, hX⟩ : ∃ X, X = lab (1 + (m : Int)) (1 + (q1 : Int)) := ⟨_, rfl⟩
  obtain ⟨Z, hZ⟩ : ∃ Z, Z = lab (1 + (m : Int) + 1) (1 + (q1 : Int)) := ⟨_, rfl⟩
  obtain ⟨Y, hY⟩ : ∃ Y, Y = lab (1 + (m : Int) + 1) (1 + (q2 : Int)) := ⟨_, rfl⟩
  have HPP := hide (fun w => plain_any (1 + (m : Int)) 1 w)
  rw [← hP] at HPP
  have HRX : Hid (rightB X = true) := by show _ = _; rw [hX]; exact right_lab (by omega) (by omega) (by omega) (by omega)
  have HRY : Hid (rightB Y = true) := by show _ = _; rw [hY]; exact right_lab (by omega) (by omega) (by omega) (by omega)
  have HXM := hide (show X.member = 1 by rw [hX]; rfl)
  have HYM := hide (show Y.member = 1 by rw [hY]; rfl)
  have HXG := hide (show X.gen = 1 + (m : Int) by rw [hX]; rfl)
  have HYG := hide (show Y.gen = 1 + (m : Int) + 1 by rw [hY]; rfl)
  have HMX := hide (show X.members = P.members by rw [hX, hP]; rfl)
  have HMY := hide (show Y.members = P.members by rw [hY, hP]; rfl)
  have HCX := hide (fun A n c => show (labC P A n c).toArray.setIfInBounds 3 (.int .i64 (1 + (q1 : Int))) = (labC X A n c).toArray by rw [hP, hX]; rfl)
  have HCZ := hide (fun A n c => show (labC X A n c).toArray.setIfInBounds 1 (.int .i64 (1 + (m : Int) + 1)) = (labC Z A n c).toArray by rw [hX, hZ]; rfl)
  have HCY := hide (fun A n c => show (labC Z A n c).toArray.setIfInBounds 3 (.int .i64 (1 + (q2 : Int))) = (labC Y A n c).toArray by rw [hZ, hY]; rfl)
  have HXY := hide (show sameB X Y = false by rw [hX, hY]; exact lab_apart (by omega))
  have HYX := hide (show sameB Y X = false by rw [hX, hY]; exact lab_apart (by omega))
  have HShown := hide shownL_any
  obtain ⟨g, hg⟩ : ∃ g, g = X.gen.toNat % 2 := ⟨_, rfl⟩
  have hg2 : g < 2 := by omega
  have hgy : Y.gen.toNat % 2 = 1 - g := by have := HXG.out; have := HYG.out; omega
  have hlt : X.gen < Y.gen := by have := HXG.out; have := HYG.out; omega
  have hsv1 := save_first X HRX.out HXM.out
  rw [← hg] at hsv1
  have HS1 := hide (fun (w1 : World) (b : Nat) (F : Nat → Prop) (h : BankOn w1 b F Three) A n c hm => lsave_on h (by decide) X A n c hm)
  rw [hsv1] at HS1
  have HArm := hide (fun (w1 : World) (b : Nat) (F : Nat → Prop) (h : BankOn w1 b F (S1 X g)) => on_arm h 2 2 M (by decide) (by decide) hM)
  have HS2 := hide (fun (w1 : World) (b : Nat) (F : Nat → Prop) (h : BankOn w1 b F ((S1 X g).arm 2 M)) A n c hm => lsave_on h (by show 0 + 1 < 4611686018427387904; decide) Y A n c hm)
  rw [save_next X Y g M hg2 HRY.out HYM.out hgy] at HS2
  obtain ⟨T, hT⟩ : ∃ T, T = S2 X Y g M := ⟨_, rfl⟩
  have hup : T.down = false := by rw [hT]; exact (S1_quiet X g).up
  have HUp := hide (fun (w1 : World) (b : Nat) (F : Nat → Prop) (h : BankOn w1 b F T) => on_up h)
  rw [hup] at HUp
  have HCr := hide (fun (w1 : World) (b : Nat) (F : Nat → Prop) (h : BankOn w1 b F T) => on_crash h M hM)
  have HT1 : Hid (((T.crash M).start).loadL 1 = (Y, 0)) := by show _ = _; rw [hT]; exact next_tells X Y g M hg2 HRX.out HRY.out HXM.out HYM.out hlt
  rw [← hT] at HS2
  clear hT hup
  have HSameX := hide (fun A C n c m d B1 B2 w => same_any Y X A C n c m d B1 B2 w)
  have HSameY := hide (fun A C n c m d B1 B2 w => same_any Y Y A C n c m d B1 B2 w)
  rw [HYX.out] at HSameX
  rw [sameB_self] at HSameY
  clear hX hY hZ hP hsv1 hgy hlt hg
  have HL_w := hide (Below.refl w.heap.size w)
  go_enter Try.func6, Try.ntmps6
  go_wp2_with fail
  refine (HShown.out w).mono ?_
  rintro _ w1 ⟨rfl, hlq⟩
  have hb_w1 := hide (hlq)
  have HL_w1 := hide (HL_w.out.trans (hb_w1.out.mono HL_w.out.size))
  have hz_w1 := HL_w1.out.size
  have hy_w1 := hb_w1.out.size
  clear hlq
  go_wp2_with fail
  refine (bankNil_any w1).mono ?_
  rintro _ w2 ⟨⟨b, r, F, rfl, hB2, hlo2⟩, hlq⟩
  have hb_w2 := hide (hlq)
  have HL_w2 := hide (HL_w1.out.trans (hb_w2.out.mono HL_w1.out.size))
  have hz_w2 := HL_w2.out.size
  have hy_w2 := hb_w2.out.size
  clear hlq
  have HFB : Hid (∀ x, F x → w1.heap.size ≤ x ∧ x < w2.heap.size) := fun x hx => ⟨hlo2 x hx, hB2.1 x hx⟩
  have HBK_w2 := hide hB2
  clear hB2 hlo2
  go_wp2_with fail
  refine (HPP.out w2).mono ?_
  rintro _ w3 ⟨⟨A3, n3, c3, rfl, hG3, rfl⟩, hlq⟩
  have hb_w3 := hide (hlq)
  have HBK_w3 := hide (HBK_w2.out.later hb_w3.out)
  have HL_w3 := hide (HL_w2.out.trans (hb_w3.out.mono HL_w2.out.size))
  have hz_w3 := HL_w3.out.size
  have hy_w3 := hb_w3.out.size
  clear HBK_w2
  clear hlq
  have HG_w3 := hide hG3
  clear hG3
  have hlt3 : ∀ ad, A3 = some ad → ad.block < w3.heap.size := fun ad e => by obtain ⟨ad', e', h', _⟩ := HG_w3.out.1.1.2 (by decide); rw [e] at e'; injection e' with e'; rw [e']; exact h'
  go_wp2_with (first
    | (refine wpList_alloc_blk rfl 24 rfl _ (lab_zero w3) ?_; intro w4 ha_w4 hl_w4 hs_w4; clear hs_w4)
    | (refine wpList_store_all rfl 24 (.tmp 12) (.tmp 33) rfl w3.heap.size 24 _ ha_w4 rfl (labC P A3 3 c3) rfl lab_info rfl (labC_one _ _ _ _) ?_; intro w5 hc_w5 hg_w5 hs_w5; clear hs_w5; have hbb_w5 : Below w3.heap.size w3 w5 := hl_w4.grown hg_w5 (by have := hl_w4.size; omega) (fun g e => by injection e with e; omega); have hb_w5 := hide (hbb_w5); have HBK_w5 := hide (HBK_w3.out.later hb_w5.out); have HG_w5 := hide (HG_w3.out.later hb_w5.out); have HL_w5 := hide (HL_w3.out.trans (hb_w5.out.mono HL_w3.out.size)); have hz_w5 := HL_w5.out.size; have hy_w5 := hb_w5.out.size; clear HBK_w3 HG_w3; have HXB_w5 := hide hc_w5; have hv_HXB := hc_w5.lt; clear hbb_w5 hc_w5 ha_w4 hl_w4 hg_w5)
    | (refine wpList_poke rfl 3 (.tmp 37) (.tmp 36) rfl w3.heap.size 3 24 _ HXB_w5.out rfl (.int .i64 (1 + (q1 : Int))) rfl rfl int_one (by show 3 < 5; decide) ?_; intro w6 hbq hgq hsq; have HBK_w6 := hide (HBK_w5.out.grown hgq (fun g e hf => by injection e with e; have := HFB.out g hf; omega)); have HG_w6 := hide (HG_w5.out.grown hgq (fun h0 ad e => by have := hlt3 ad e; omega)); have HL_w6 := hide (HL_w5.out.grown hgq HL_w5.out.size (fun g e => by injection e with e; omega)); rw [HCX.out] at hbq; have HXB_w6 := hide hbq; have hv_HXB_w6 := hbq.lt; clear hbq hgq hsq HBK_w5 HG_w5 HXB_w5)
    | (refine wpList_load_blk rfl 24 (.tmp 12) rfl w3.heap.size 0 24 _ HXB_w6.out rfl (labC X A3 3 c3) _ (fun j v hj => by rw [Nat.zero_add]; simpa using hj) Try.underlying24 rfl lab_info ?_)
    | (refine wpList_alloc_blk rfl 24 rfl _ (lab_zero w6) ?_; intro w7 ha_w7 hl_w7 hs_w7; clear hs_w7)
    | (refine wpList_store_all rfl 24 (.tmp 13) (.tmp 38) rfl w6.heap.size 24 _ ha_w7 rfl (labC X A3 3 c3) rfl lab_info rfl (labC_one _ _ _ _) ?_; intro w8 hc_w8 hg_w8 hs_w8; clear hs_w8; have hbb_w8 : Below w6.heap.size w6 w8 := hl_w7.grown hg_w8 (by have := hl_w7.size; omega) (fun g e => by injection e with e; omega); have hb_w8 := hide (hbb_w8); have HBK_w8 := hide (HBK_w6.out.later hb_w8.out); have HG_w8 := hide (HG_w6.out.later hb_w8.out); have HXB_w8 := hide (HXB_w6.out.below hb_w8.out HXB_w6.out.lt); have HL_w8 := hide (HL_w6.out.trans (hb_w8.out.mono HL_w6.out.size)); have hz_w8 := HL_w8.out.size; have hy_w8 := hb_w8.out.size; clear HBK_w6 HG_w6 HXB_w6; have HYB_w8 := hide hc_w8; have hv_HYB := hc_w8.lt; clear hbb_w8 hc_w8 ha_w7 hl_w7 hg_w8; have cg := lab_c1 HYB_w8.out; rw [HXG.out] at cg)
    | (refine wpList_poke rfl 3 (.tmp 42) (.tmp 41) rfl w6.heap.size 1 24 _ HYB_w8.out rfl (.int .i64 (1 + (m : Int) + 1)) rfl rfl int_one (by show 1 < 5; decide) ?_; intro w9 hbq hgq hsq; have HBK_w9 := hide (HBK_w8.out.grown hgq (fun g e hf => by injection e with e; have := HFB.out g hf; omega)); have HG_w9 := hide (HG_w8.out.grown hgq (fun h0 ad e => by have := hlt3 ad e; omega)); have HXB_w9 := hide (HXB_w8.out.grown hgq (fun e => by injection e with e; omega)); have HL_w9 := hide (HL_w8.out.grown hgq HL_w8.out.size (fun g e => by injection e with e; omega)); rw [HCZ.out] at hbq; have HYB_w9 := hide hbq; have hv_HYB_w9 := hbq.lt; clear hbq hgq hsq HBK_w8 HG_w8 HXB_w8 HYB_w8; clear cg)
    | (refine wpList_poke rfl 3 (.tmp 47) (.tmp 46) rfl w6.heap.size 3 24 _ HYB_w9.out rfl (.int .i64 (1 + (q2 : Int))) rfl rfl int_one (by show 3 < 5; decide) ?_; intro w10 hbq hgq hsq; have HBK_w10 := hide (HBK_w9.out.grown hgq (fun g e hf => by injection e with e; have := HFB.out g hf; omega)); have HG_w10 := hide (HG_w9.out.grown hgq (fun h0 ad e => by have := hlt3 ad e; omega)); have HXB_w10 := hide (HXB_w9.out.grown hgq (fun e => by injection e with e; omega)); have HL_w10 := hide (HL_w9.out.grown hgq HL_w9.out.size (fun g e => by injection e with e; omega)); rw [HCY.out] at hbq; have HYB_w10 := hide hbq; have hv_HYB_w10 := hbq.lt; clear hbq hgq hsq HBK_w9 HG_w9 HXB_w9 HYB_w9)
    | (refine wpList_load_blk rfl 24 (.tmp 12) rfl w3.heap.size 0 24 _ HXB_w10.out rfl (labC X A3 3 c3) _ (fun j v hj => by rw [Nat.zero_add]; simpa using hj) Try.underlying24 rfl lab_info ?_))
  have hGX : MbIn w10 w10.heap.size A3 3 c3 X.members := by rw [HMX.out]; exact HG_w10.out.1
  refine (HS1.out w10 b F HBK_w10.out A3 3 c3 hGX).mono ?_
  rintro _ w11 ⟨rfl, hBq, hTq⟩
  have hzt_w11 := hTq.size
  have HBK_w11 := hide hBq
  have HG_w11 := hide (HG_w10.out.turned hTq (fun x hx hf => by have := HFB.out x hf; omega))
  have HXB_w11 := hide (HXB_w10.out.turned hTq (fun hf => by have := HFB.out _ hf; have := HXB_w10.out.lt; omega))
  have HYB_w11 := hide (HYB_w10.out.turned hTq (fun hf => by have := HFB.out _ hf; have := HYB_w10.out.lt; omega))
  have HL_w11 := hide (HL_w10.out.trans (hTq.below_ (B := w.heap.size) HL_w10.out.size (fun x hx => by have := HFB.out x hx; omega)))
  have hz_w11 := HL_w11.out.size
  clear hBq hTq
  clear HBK_w10 HG_w10 HXB_w10 HYB_w10
  clear hGX
  go_wp2_with fail
  refine (HArm.out w11 b F HBK_w11.out).mono ?_
  rintro _ w12 ⟨rfl, hBq, hTq⟩
  have hzt_w12 := hTq.size
  have HBK_w12 := hide hBq
  have HG_w12 := hide (HG_w11.out.turned hTq (fun x hx hf => by have := HFB.out x hf; omega))
  have HXB_w12 := hide (HXB_w11.out.turned hTq (fun hf => by have := HFB.out _ hf; have := HXB_w11.out.lt; omega))
  have HYB_w12 := hide (HYB_w11.out.turned hTq (fun hf => by have := HFB.out _ hf; have := HYB_w11.out.lt; omega))
  have HL_w12 := hide (HL_w11.out.trans (hTq.below_ (B := w.heap.size) HL_w11.out.size (fun x hx => by have := HFB.out x hx; omega)))
  have hz_w12 := HL_w12.out.size
  clear hBq hTq
  clear HBK_w11 HG_w11 HXB_w11 HYB_w11
  go_wp2_with (first
    | (refine wpList_load_blk rfl 24 (.tmp 13) rfl w6.heap.size 0 24 _ HYB_w12.out rfl (labC Y A3 3 c3) _ (fun j v hj => by rw [Nat.zero_add]; simpa using hj) Try.underlying24 rfl lab_info ?_))
  have hGY : MbIn w12 w12.heap.size A3 3 c3 Y.members := by rw [HMY.out]; exact HG_w12.out.1
  refine (HS2.out w12 b F HBK_w12.out A3 3 c3 hGY).mono ?_
  rintro _ w13 ⟨rfl, hBq, hTq⟩
  have hzt_w13 := hTq.size
  have HBK_w13 := hide hBq
  have HG_w13 := hide (HG_w12.out.turned hTq (fun x hx hf => by have := HFB.out x hf; omega))
  have HXB_w13 := hide (HXB_w12.out.turned hTq (fun hf => by have := HFB.out _ hf; have := HXB_w12.out.lt; omega))
  have HYB_w13 := hide (HYB_w12.out.turned hTq (fun hf => by have := HFB.out _ hf; have := HYB_w12.out.lt; omega))
  have HL_w13 := hide (HL_w12.out.trans (hTq.below_ (B := w.heap.size) HL_w12.out.size (fun x hx => by have := HFB.out x hx; omega)))
  have hz_w13 := HL_w13.out.size
  clear hBq hTq
  clear HBK_w12 HG_w12 HXB_w12 HYB_w12
  clear hGY
  go_wp2_with fail
  refine (HUp.out w13 b F HBK_w13.out).mono ?_
  rintro _ _ ⟨rfl, rfl⟩
  go_wp2_with fail
  refine (HCr.out w13 b F HBK_w13.out).mono ?_
  rintro _ w14 ⟨rfl, hBq, hTq⟩
  have hzt_w14 := hTq.size
  have HBK_w14 := hide hBq
  have HG_w14 := hide (HG_w13.out.turned hTq (fun x hx hf => by have := HFB.out x hf; omega))
  have HXB_w14 := hide (HXB_w13.out.turned hTq (fun hf => by have := HFB.out _ hf; have := HXB_w13.out.lt; omega))
  have HYB_w14 := hide (HYB_w13.out.turned hTq (fun hf => by have := HFB.out _ hf; have := HYB_w13.out.lt; omega))
  have HL_w14 := hide (HL_w13.out.trans (hTq.below_ (B := w.heap.size) HL_w13.out.size (fun x hx => by have := HFB.out x hx; omega)))
  have hz_w14 := HL_w14.out.size
  clear hBq hTq
  clear HBK_w13 HG_w13 HXB_w13 HYB_w13
  go_wp2_with fail
  refine (on_start HBK_w14.out).mono ?_
  rintro _ w15 ⟨rfl, hBq, hTq⟩
  have hzt_w15 := hTq.size
  have HBK_w15 := hide hBq
  have HG_w15 := hide (HG_w14.out.turned hTq (fun x hx hf => by have := HFB.out x hf; omega))
  have HXB_w15 := hide (HXB_w14.out.turned hTq (fun hf => by have := HFB.out _ hf; have := HXB_w14.out.lt; omega))
  have HYB_w15 := hide (HYB_w14.out.turned hTq (fun hf => by have := HFB.out _ hf; have := HYB_w14.out.lt; omega))
  have HL_w15 := hide (HL_w14.out.trans (hTq.below_ (B := w.heap.size) HL_w14.out.size (fun x hx => by have := HFB.out x hx; omega)))
  have hz_w15 := HL_w15.out.size
  clear hBq hTq
  clear HBK_w14 HG_w14 HXB_w14 HYB_w14
  go_wp2_with fail
  have hLd := lload_on HBK_w15.out 1
  rw [HT1.out] at hLd
  refine (hLd).mono ?_
  rintro _ w16 ⟨⟨A16, n16, c16, rfl, hG16⟩, hlq⟩
  have hb_w16 := hide (hlq)
  have HBK_w16 := hide (HBK_w15.out.later hb_w16.out)
  have HG_w16 := hide (HG_w15.out.later hb_w16.out)
  have HXB_w16 := hide (HXB_w15.out.below hb_w16.out HXB_w15.out.lt)
  have HYB_w16 := hide (HYB_w15.out.below hb_w16.out HYB_w15.out.lt)
  have HL_w16 := hide (HL_w15.out.trans (hb_w16.out.mono HL_w15.out.size))
  have hz_w16 := HL_w16.out.size
  have hy_w16 := hb_w16.out.size
  clear HBK_w15 HG_w15 HXB_w15 HYB_w15
  clear hlq
  have HGL_w16 := hide hG16
  clear hG16 hLd
  go_wp2_with (first
    | (refine wpList_alloc_blk rfl 24 rfl _ (lab_zero w16) ?_; intro w17 ha_w17 hl_w17 hs_w17; clear hs_w17)
    | (refine wpList_store_all rfl 24 (.tmp 15) (.tmp 71) rfl w16.heap.size 24 _ ha_w17 rfl (labC Y A16 n16 c16) rfl lab_info rfl (labC_one _ _ _ _) ?_; intro w18 hc_w18 hg_w18 hs_w18; clear hs_w18; have hbb_w18 : Below w16.heap.size w16 w18 := hl_w17.grown hg_w18 (by have := hl_w17.size; omega) (fun g e => by injection e with e; omega); have hb_w18 := hide (hbb_w18); have HBK_w18 := hide (HBK_w16.out.later hb_w18.out); have HG_w18 := hide (HG_w16.out.later hb_w18.out); have HXB_w18 := hide (HXB_w16.out.below hb_w18.out HXB_w16.out.lt); have HYB_w18 := hide (HYB_w16.out.below hb_w18.out HYB_w16.out.lt); have HGL_w18 := hide (HGL_w16.out.later hb_w18.out); have HL_w18 := hide (HL_w16.out.trans (hb_w18.out.mono HL_w16.out.size)); have hz_w18 := HL_w18.out.size; have hy_w18 := hb_w18.out.size; clear HBK_w16 HG_w16 HXB_w16 HYB_w16 HGL_w16; have HLV_w18 := hide hc_w18; have hv_HLV := hc_w18.lt; clear hbb_w18 hc_w18 ha_w17 hl_w17 hg_w18)
    | (refine wpList_load_blk rfl 24 (.tmp 15) rfl w16.heap.size 0 24 _ HLV_w18.out rfl (labC Y A16 n16 c16) _ (fun j v hj => by rw [Nat.zero_add]; simpa using hj) Try.underlying24 rfl lab_info ?_)
    | (refine wpList_load_blk rfl 24 (.tmp 12) rfl w3.heap.size 0 24 _ HXB_w18.out rfl (labC X A3 3 c3) _ (fun j v hj => by rw [Nat.zero_add]; simpa using hj) Try.underlying24 rfl lab_info ?_))
  have hGX : MbIn w18 w18.heap.size A3 3 c3 X.members := by rw [HMX.out]; exact HG_w18.out.1
  refine (HSameX.out A16 A3 n16 c16 3 c3 w18.heap.size w18.heap.size w18 HGL_w18.out.1 hGX (Nat.le_refl _) (Nat.le_refl _)).mono ?_
  rintro _ w19 ⟨rfl, hlq⟩
  have hb_w19 := hide (hlq)
  have HBK_w19 := hide (HBK_w18.out.later hb_w19.out)
  have HG_w19 := hide (HG_w18.out.later hb_w19.out)
  have HXB_w19 := hide (HXB_w18.out.below hb_w19.out HXB_w18.out.lt)
  have HYB_w19 := hide (HYB_w18.out.below hb_w19.out HYB_w18.out.lt)
  have HGL_w19 := hide (HGL_w18.out.later hb_w19.out)
  have HLV_w19 := hide (HLV_w18.out.below hb_w19.out HLV_w18.out.lt)
  have HL_w19 := hide (HL_w18.out.trans (hb_w19.out.mono HL_w18.out.size))
  have hz_w19 := HL_w19.out.size
  have hy_w19 := hb_w19.out.size
  clear HBK_w18 HG_w18 HXB_w18 HYB_w18 HGL_w18 HLV_w18
  clear hlq
  clear hGX
  go_wp2_with (first
    | (refine wpList_load_blk rfl 24 (.tmp 15) rfl w16.heap.size 0 24 _ HLV_w19.out rfl (labC Y A16 n16 c16) _ (fun j v hj => by rw [Nat.zero_add]; simpa using hj) Try.underlying24 rfl lab_info ?_)
    | (refine wpList_load_blk rfl 24 (.tmp 13) rfl w6.heap.size 0 24 _ HYB_w19.out rfl (labC Y A3 3 c3) _ (fun j v hj => by rw [Nat.zero_add]; simpa using hj) Try.underlying24 rfl lab_info ?_))
  have hGY : MbIn w19 w19.heap.size A3 3 c3 Y.members := by rw [HMY.out]; exact HG_w19.out.1
  refine (HSameY.out A16 A3 n16 c16 3 c3 w19.heap.size w19.heap.size w19 HGL_w19.out.1 hGY (Nat.le_refl _) (Nat.le_refl _)).mono ?_
  rintro _ w20 ⟨rfl, hlq⟩
  have hb_w20 := hide (hlq)
  have HBK_w20 := hide (HBK_w19.out.later hb_w20.out)
  have HG_w20 := hide (HG_w19.out.later hb_w20.out)
  have HXB_w20 := hide (HXB_w19.out.below hb_w20.out HXB_w19.out.lt)
  have HYB_w20 := hide (HYB_w19.out.below hb_w20.out HYB_w19.out.lt)
  have HGL_w20 := hide (HGL_w19.out.later hb_w20.out)
  have HLV_w20 := hide (HLV_w19.out.below hb_w20.out HLV_w19.out.lt)
  have HL_w20 := hide (HL_w19.out.trans (hb_w20.out.mono HL_w19.out.size))
  have hz_w20 := HL_w20.out.size
  have hy_w20 := hb_w20.out.size
  clear HBK_w19 HG_w19 HXB_w19 HYB_w19 HGL_w19 HLV_w19
  clear hlq
  go_wp2_with fail
  go_ret
  exact ⟨rfl, HL_w20.out⟩
theorem walk (a0 a1 a2 a3 : Int) (w : World) (_ : -9223372036854775808 ≤ a0) (_ : a0 ≤ 9223372036854775807) (_ : -9223372036854775808 ≤ a1) (_ : a1 ≤ 9223372036854775807) (_ : -9223372036854775808 ≤ a2) (_ : a2 ≤ 9223372036854775807) (h0 : 0 ≤ a3) (h1 : a3 ≤ 18446744073709551615) :
    Calls Try.prog 6 #[.int .i64 a0, .int .i64 a1, .int .i64 a2, .int .u64 a3] w fun e w' => e = .returned (.bool true) ∧ Below w.heap.size w w' := by
  obtain ⟨M, rfl⟩ : ∃ M : Nat, a3 = (M : Int) := ⟨a3.toNat, by omega⟩
  rcases mask1 a2 with h | h
  · exact walk_0 a0 a1 a2 M w (by omega) h
  · exact walk_1 a0 a1 a2 M w (by omega) h
#print axioms walk

/-! The row's frame, by program: how the walk above proves the statement. -/
set_option maxRecDepth 100000 in
theorem lifted (os : Os) (started : os.Started) (H : Type) (enc : TypeId × Value → H) :
    ReturnsInHanded {} Try.checked os 6 .any (Rows.labelLastsSpec.pre6 enc Try.prog Try.f6 Rows.labelLastsRow.domain false) (Rows.labelLastsSpec.post enc Try.prog Try.f6 false true false false) := by
  refine returnsInHanded_of_change (C := Try.checked) own started (by kernel_rfl) Try.func6
    (ChangeSpec.witness6 (enc := enc) (C := Try.checked) false ⟨#[], #[.int .i64 0, .int .i64 0, .int .i64 0, .int .u64 0], []⟩ 8 (by kernel_rfl) (by kernel_rfl) (by kernel_rfl) (by kernel_rfl)) ?_
  intro W base args ds gs before hval0 hW hcnd _
  have hval : ∀ (j : Nat) t v, Try.f6.params[j]? = some t → args[j]? = some v → Value.okWide Try.prog W .any base t v := hval0
  have hW' := hW
  obtain ⟨p, q, hA0, hV, rfl, hfz, hnd⟩ := hW
  have hA : DataW.TrodAll enc Try.prog W 0 (fun _ => true) true Try.f6.params.toList args.toList ds p := hA0
  rw [Try.params6] at hA hval
  obtain ⟨v0, vs0, d0, ds0, p0, q0, hargs, rfl, rfl, h0, r0⟩ := trodAll_cons hA
  obtain ⟨v1, vs1, d1, ds1, p1, q1, rfl, rfl, rfl, h1, r1⟩ := trodAll_cons r0
  obtain ⟨v2, vs2, d2, ds2, p2, q2, rfl, rfl, rfl, h2, r2⟩ := trodAll_cons r1
  obtain ⟨v3, vs3, d3, ds3, p3, q3, rfl, rfl, rfl, h3, r3⟩ := trodAll_cons r2
  obtain ⟨rfl, rfl, rfl⟩ := trodAll_nil r3
  obtain rfl : args = #[v0, v1, v2, v3] := by cases args; simp_all
  obtain ⟨rfl, rfl⟩ := trodVars_none hV
  obtain ⟨a0, rfl, rfl, rfl, w0⟩ := open_int Try.underlying3 (hval 0 3 v0 rfl rfl) h0
  have b0 := bounds_i64 w0
  obtain ⟨a1, rfl, rfl, rfl, w1⟩ := open_int Try.underlying3 (hval 1 3 v1 rfl rfl) h1
  have b1 := bounds_i64 w1
  obtain ⟨a2, rfl, rfl, rfl, w2⟩ := open_int Try.underlying3 (hval 2 3 v2 rfl rfl) h2
  have b2 := bounds_i64 w2
  obtain ⟨a3, rfl, rfl, rfl, w3⟩ := open_int Try.underlying39 (hval 3 39 v3 rfl rfl) h3
  have b3 := bounds_u64 w3
  clear hA0 hval0
  refine (walk a0 a1 a2 a3 W b0.1 b0.2 b1.1 b1.2 b2.1 b2.2 b3.1 b3.2).mono fun e W' ⟨he, bel⟩ => ?_
  subst he
  exact ⟨_, rfl, _, _, _, [], _, [], hW', trodAll_mk1 (shut_bool Try.underlying4 _), (trodAll_cons_mk (shut_int Try.underlying3 w0) (trodAll_cons_mk (shut_int Try.underlying3 w1) (trodAll_cons_mk (shut_int Try.underlying3 w2) (trodAll_cons_mk (shut_int Try.underlying39 w3) trodAll_mk0)))), rfl, bel.frame _, fun h => by cases h⟩

theorem over : Rows.labelLastsRow.holds Try.pinned (OpenSpec.ofChange Rows.labelLastsSpec) :=
  OpenClaim.holds_of_wide 6 Try.f6 rfl rfl rfl rfl rfl rfl rfl ⟨rfl, rfl, rfl, rfl, rfl⟩ rfl rfl rfl rfl rfl (by kernel_rfl) Try.func6 (by kernel_rfl)
    (of_decide_eq_true (by kernel_rfl)) (by unfold Func.isWrapper; first | (rw [if_pos (by decide +kernel)]; kernel_rfl) | (rw [if_neg (by decide +kernel)]; exact ⟨rfl, rfl⟩))
    (fun os started H enc _ => lifted os started H enc)

/-- The statement. -/
theorem proved : Rows.LabelLastsSaid := over
#print axioms proved
end Go.Proofs.Ytbbfgcekjelmkaa.LabelLasts
