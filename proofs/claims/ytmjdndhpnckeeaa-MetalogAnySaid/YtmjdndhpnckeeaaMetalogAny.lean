/- MetalogAny holds: each member alone, and all together in any order of the law's, tell all records that were answered; no condition. -/
import Derived.Test.YtmjdndhpnckeeaaMetS
import Derived.StillTailTactics
import Derived.Test.YtmjdndhpnckeeaaMjK
import Derived.Test.YtmjdndhpnckeeaaRows
namespace Go.Proofs.Ytmjdndhpnckeeaa
open Go.ChangeShapes Go.WideShapes Go.ChangeAt Go.RowKit
set_option linter.unusedVariables false

theorem mask24a (v : Int) : ∃ N : Nat, bits .and .i64 v 16777215 = (N : Int) ∧ N < 16777216 := by
  have h := i64_mask v 24 (by decide)
  have h2 : bits .and .i64 v 16777215 = v % 16777216 := h
  exact ⟨(v % 16777216).toNat, by rw [h2]; omega, by omega⟩
theorem own9_slice {w : World} {base : Nat} {e : TypeId} {size : Nat} {v : Value} {n : Nat} {xs : List Value} (h : w.ownsRow base e size v n xs) : ∃ A c, v = .slice A n c ∧ n ≤ c ∧ c ≤ maxLen := by
  rcases h.2 with ⟨rfl, rfl⟩ | ⟨g, cap, cur, rfl, _, _, h1, h2, _⟩
  · exact ⟨_, _, rfl, Nat.le_refl _, Nat.zero_le _⟩
  · exact ⟨_, _, rfl, h1, h2⟩
theorem own9_block_ge {w : World} {base : Nat} {e : TypeId} {size : Nat} {v : Value} {n : Nat} {xs : List Value} (h : w.ownsRow base e size v n xs) {g : Nat} (hg : v.ownBlock = some g) : base ≤ g ∧ g < w.heap.size := h.lt g hg
theorem own_aside {w w' : World} {F : Nat → Prop} {base : Nat} {e : TypeId} {size : Nat} {v : Value} {n : Nat} {xs : List Value} (h : w.ownsRow base e size v n xs) (hu : Turn F w w') (hF : ∀ g, v.ownBlock = some g → ¬ F g) : w'.ownsRow base e size v n xs := by
  refine ⟨h.1, ?_⟩
  rcases h.2 with ⟨h1, h2⟩ | ⟨g, cap, cur, rfl, hb, hh, hr⟩
  · exact .inl ⟨h1, h2⟩
  · exact .inr ⟨g, cap, cur, rfl, hb, (hu.block g (Array.getElem?_eq_some_iff.1 hh).1 (hF g rfl)).trans hh, hr⟩
set_option maxRecDepth 100000 in
set_option maxHeartbeats 8000000 in
theorem metalogAny_walk (K : LogK) (A : Option Addr) (nl c : Nat) (f : Nat → BsV) (gen : Int) (w : World) (hx : RowsIn w w.heap.size A nl c f) :
    Calls Try.prog 6 #[.slice A nl c, .int .i64 gen] w fun e w' => e = .returned (.bool true) ∧ Below w.heap.size w w' := by
  have HX := hide hx
  have hnc := hx.le
  have hc63 := hx.lt
  clear hx
  obtain ⟨M, hM0, hM24⟩ := mask24a gen
  have HGM := hide (numB_iff.2 ⟨by omega, by omega⟩ : numB (M : Int) = true)
  obtain ⟨ii, hii, hiz, his, hib⟩ := str_info9
  have HII := hide hii
  have HIZ := hide hiz
  have HIS := hide his
  have HIB := hide hib
  clear hii hiz his hib
  go_enter Try.func6, Try.ntmps6
  go_wp2_with (first
    | (go_at_call 13; refine (shown9_any K w).mono ?_; rintro _ w1 ⟨rfl, hl1⟩)
    | (go_at_call 14; refine (disks_any w1 3 (by decide)).mono ?_; rintro _ w2 ⟨⟨b, F, rfl, hB2, hlo2⟩, hl2⟩))
  have hs1 := hl1.size
  have HL2 := hide (hl1.trans (hl2.mono hs1))
  have HB2 := hide hB2
  have HLO : Hid (∀ x, F x → w.heap.size ≤ x) := hide fun x hx => Nat.le_trans hs1 (hlo2 x hx)
  clear hB2 hlo2 hl1 hl2
  have hN := newRow w2 (I64 [0, 1, 2]) 3 (0, 0)
  go_wp2_with fail
  show Calls _ _ _ (w2.alloc (.cells (I64 [0, 1, 2]).toArray 3 (0, 0))) _
  generalize w2.alloc (.cells (I64 [0, 1, 2]).toArray 3 (0, 0)) = w3 at hN ⊢
  obtain ⟨hl3, hz3, hr3⟩ := hN
  rw [← hz3] at hr3
  have hw2 := HL2.out.size
  have hF2 : ¬ F w2.heap.size := fun h => by have := HB2.out.1 _ h; omega
  refine (fresh_any K 3 [0, 1, 2] (M : Int) w2.heap.size 3 3 (HB2.out.later hl3) HLO.out (HL2.out.trans (hl3.mono hw2)) hr3 (by omega) (by omega) (by omega) hF2 (by decide) (by decide) HGM.out (by decide)).mono ?_
  rintro _ w4 ⟨p, G, rfl, hM4, hp4, hG4, hl4⟩
  have HM4 := hide hM4
  have HFG : Hid (∀ x, F x ∨ G x → x < w4.heap.size) := hide fun x h => h.elim (fun h => hM4.bank.1 x h) (fun h => (K.own hM4.log).2 x h)
  have HGP := hide (K.own hM4.log).1
  have hww4 := hM4.low.size
  clear hr3 hl3 hM4 hp4 hG4 hl4 HL2 HB2 HLO hF2 hw2 hz3
  go_wp2_with fail
  go_loopw [8, 9] (fun s8 s9 wr => ∃ (i : Nat) (S : Bank) (V : LogV) (R : List (List UInt8)) (AE : Option Addr) (cE : Nat), s8 = .slice AE i cE ∧ s9 = .int .i64 (i : Int) ∧ i ≤ 10 ∧ i ≤ nl ∧ Hid (MetIs K w F G b p noughts wr S V R (i * 240)) ∧ Hid (V.live = [0, 1, 2] ∧ V.gen = (M : Int) ∧ S.armed = 0 ∧ (∀ d, S.dead d = false) ∧ R.length = i ∧ usedL R ≤ i * 4) ∧ Hid (wr.ownsRow w4.heap.size 9 1 (.slice AE i cE) i (strV R)) ∧ w4.heap.size ≤ wr.heap.size) (fun _ s9 _ => nl - (intOf s9).toNat)
  case atStart => exact ⟨0, _, _, [], none, 0, rfl, rfl, by decide, Nat.zero_le _, HM4, hide ⟨rfl, rfl, (Disks_std 3).2.2, fun d => Disks_live 3 d, rfl, by decide⟩, hide (World.ownsRow_nil _ _ _ _), Nat.le_refl _⟩
  case round =>
    obtain ⟨i, S, V, R, AE, cE, rfl, rfl, hi10, hin, hM, hI, hE, hz4⟩ := hrel
    obtain ⟨wo, rfl⟩ : ∃ wo, wo = wr := ⟨_, rfl⟩
    by_cases hlt : i < nl ∧ i < 10
    · have hg1 : (i : Int) < (nl : Int) := by omega
      have hg2 : (i : Int) < 10 := by omega
      obtain ⟨ad, rfl, hadb, hcells⟩ := HX.out.row (by omega)
      have HC := hide (hcells i hlt.1)
      clear hcells
      generalize f i = y at HC
      obtain ⟨yA, yn, yc, yl⟩ := y
      have hyr : Reads w w.heap.size 1 yA yn (B8 yl) := HC.out.2.reads
      have hyl : yl.length = yn := by have := hyr.1; rw [B8_length] at this; omega
      have HYR := hide hyr
      clear hyr
      have hyc : yn ≤ yc := HC.out.2.le
      have hyc2 : yc ≤ 9223372036854775807 := HC.out.2.lt
      obtain ⟨m, hm⟩ : ∃ m, m = min yn 200 := ⟨_, rfl⟩
      have HMM := hide hm
      clear hm
      go_wp2_with fail
      have hm := HMM.out
      have hc5 : wo.cell? (ad.add i) = some (.slice yA yn yc) := (hM.out.low.cell (p := ad.add i) (by rw [block_of_add]; exact hadb)).trans HC.out.1
      obtain ⟨i1, i2, i3, i4, i6, i7⟩ := hI.out
      have hbl : (yl.take m).length = m := by rw [List.length_take]; omega
      have hp4 := parts_200 (n := m) (by omega)
      have HRH := hide (show Reads w w.heap.size 1 yA m (B8 (yl.take m)) by
        have h := HYR.out.head (k := m) (by omega)
        rwa [Nat.mul_one, B8_take] at h)
      have HAP := hide fun (w6 : World) (hb : Below wo.heap.size wo w6) => (hM.out.later hb).took i3 (d := 0) (by rw [i1]; decide) (i4 0) yA m yc (yl.take m) ((HRH.out.below (hM.out.low.trans (hb.mono hM.out.low.size))).more (Nat.le_trans hM.out.low.size hb.size)) (by omega) hyc2 (by omega) (by omega) (by rw [hbl]; omega)
      have HBL := hide hbl
      have HP4 := hide hp4
      clear i1 i2 i3 i4 i6 i7 hbl hp4
      by_cases hmn : yn ≤ 200
      · have hme : yn = m := by omega
        subst hme
        have hmv : min (yn : Int) 200 = (yn : Int) := by omega
        clear hm
        go_still_tail 11, (by kernel_rfl)
        change wpList _ _ _ _ _ wo.drew
        have hbd : Below wo.heap.size wo wo.drew := (Below.refl _ _).drew
        generalize wo.drew = w6 at hbd ⊢
        clear hc5
        go_wp2_with fail
        refine (HAP.out w6 hbd).mono ?_
        rintro _ w7 ⟨rfl, ⟨S7, V7, hM7, g1, g2, g3, g4⟩, hT7⟩
        have HOG : Hid (∀ g, (Value.slice AE i cE).ownBlock = some g → w4.heap.size ≤ g) := hide fun g hg => (own9_block_ge hE.out hg).1
        have hz67 := hT7.size
        have hz6 := hbd.size
        have HE7 := hide (own_aside (own_later hE.out hbd) hT7 (fun g hg h => by
          have h1 := HOG.out g hg
          rcases h with h | h
          · have := HFG.out g (.inl h); omega
          · have := HFG.out p (.inr HGP.out); omega))
        have HM7 : Hid (MetIs K w F G b p noughts w7 S7 V7 (R ++ [yl.take yn]) ((i + 1) * 240)) := hide (by rw [Nat.succ_mul]; exact hM7)
        have HI7 : Hid (V7.live = [0, 1, 2] ∧ V7.gen = (M : Int) ∧ S7.armed = 0 ∧ (∀ d, S7.dead d = false) ∧ (R ++ [yl.take yn]).length = i + 1 ∧ usedL (R ++ [yl.take yn]) ≤ (i + 1) * 4) := hide ⟨by rw [g1]; exact hI.out.1, by rw [g2]; exact hI.out.2.1, g4, fun d => by rw [g3.dead]; exact hI.out.2.2.2.1 d, by rw [List.length_append, hI.out.2.2.2.2.1]; rfl, by rw [usedL_append, usedL_cons, usedL_nil, HBL.out]; have h1 := hI.out.2.2.2.2.2; have h2 := HP4.out; omega⟩
        have hcv := conv9 (c := yc) (HRH.out.below hM7.low)
        have HCV := hide hcv
        obtain ⟨sx, hsx⟩ : ∃ sx, sx = strS (yl.take yn) := ⟨_, rfl⟩
        have HSO := hide (show sx.oneCell' = true by rw [hsx]; rfl)
        have HSC := hide (show sx.cells = #[sx] by rw [hsx]; rfl)
        have HSV := hide (show strV (R ++ [yl.take yn]) = strV R ++ [sx] by rw [strV_append, hsx])
        rw [← hsx] at HCV
        have hlump := Reads.lump (w := w7) [sx] 9 (w7.heap.size + 1) 1 (by omega) rfl
        have HLUMP := hide hlump
        have HQ := hide (show i + 1 ≤ maxLen ∧ (i + 1) * 16 ≤ 140737488355328 by simp only [maxLen]; omega)
        clear hM7 g1 g2 g3 g4 hT7 hbd HAP hlump hcv hsx
        go_wp2_with (first
          | ((with_reducible refine at_slot 60 ?_); refine wpList_conv rfl 32 9 (.tmp 59) rfl sx _ rfl HCV.out ?_)
          | ((with_reducible refine at_slot 61 ?_); refine wpList_build_str rfl (.tmp 60) rfl sx rfl HSO.out HSC.out ?_)
          | ((with_reducible refine at_slot 62 ?_); refine wpList_append_two _ rfl (.tmp 58) (.tmp 61) 31 rfl w4.heap.size 9 ii _ 1 16 Try.underlying31 HII.out HIZ.out HIS.out HIB.out rfl (by decide) _ i _ rfl (HE7.out.alloc _) (w7.heap.size + 1) (some ⟨w7.heap.size, 0, none⟩) 1 1 [sx] rfl HLUMP.out (by intro u hu; simp at hu; rw [hu]; exact HSO.out) HQ.out.1 HQ.out.2 (by rw [World.size_alloc]; omega) ?_; intro v8 w8 hown8 hg8 hor8))
        obtain ⟨A8, c8, rfl, _, _⟩ := own9_slice hown8
        go_roundw
        case rel =>
          have hal : Below w7.heap.size w7 (w7.alloc (.cells #[sx] 9)) := (Below.refl _ _).alloc (Nat.le_refl _) _
          have hTg := Turn.of_grown (F := fun x => (Value.slice AE i cE).ownBlock = some x) hg8 (fun g e => e)
          have hsz8 := hTg.size
          rw [World.size_alloc] at hsz8
          refine ⟨i + 1, S7, V7, R ++ [yl.take yn], A8, c8, rfl, by simp, by omega, by omega, hide ((HM7.out.later hal).aside hTg (fun x hx e => by have h1 := HOG.out x e; have := HFG.out x hx; omega) (fun x e => by have h1 := HOG.out x e; omega)), HI7, hide ?_, by omega⟩
          rw [HSV.out]
          exact hown8
        case measure => simp [intOf]; omega
      · have hme : 200 = m := by omega
        subst hme
        have h200 : 200 ≤ yc := by omega
        have h2w : (200 : Int) ≤ (yc : Int) := by omega
        have hmv : min (yn : Int) 200 = 200 := by omega
        clear hm
        go_still_tail 11, (by kernel_rfl)
        change wpList _ _ _ _ _ wo.drew
        have hbd : Below wo.heap.size wo wo.drew := (Below.refl _ _).drew
        generalize wo.drew = w6 at hbd ⊢
        clear hc5
        go_wp2_with fail
        refine (HAP.out w6 hbd).mono ?_
        rintro _ w7 ⟨rfl, ⟨S7, V7, hM7, g1, g2, g3, g4⟩, hT7⟩
        have HOG : Hid (∀ g, (Value.slice AE i cE).ownBlock = some g → w4.heap.size ≤ g) := hide fun g hg => (own9_block_ge hE.out hg).1
        have hz67 := hT7.size
        have hz6 := hbd.size
        have HE7 := hide (own_aside (own_later hE.out hbd) hT7 (fun g hg h => by
          have h1 := HOG.out g hg
          rcases h with h | h
          · have := HFG.out g (.inl h); omega
          · have := HFG.out p (.inr HGP.out); omega))
        have HM7 : Hid (MetIs K w F G b p noughts w7 S7 V7 (R ++ [yl.take 200]) ((i + 1) * 240)) := hide (by rw [Nat.succ_mul]; exact hM7)
        have HI7 : Hid (V7.live = [0, 1, 2] ∧ V7.gen = (M : Int) ∧ S7.armed = 0 ∧ (∀ d, S7.dead d = false) ∧ (R ++ [yl.take 200]).length = i + 1 ∧ usedL (R ++ [yl.take 200]) ≤ (i + 1) * 4) := hide ⟨by rw [g1]; exact hI.out.1, by rw [g2]; exact hI.out.2.1, g4, fun d => by rw [g3.dead]; exact hI.out.2.2.2.1 d, by rw [List.length_append, hI.out.2.2.2.2.1]; rfl, by rw [usedL_append, usedL_cons, usedL_nil, HBL.out]; have h1 := hI.out.2.2.2.2.2; have h2 := HP4.out; omega⟩
        have hcv := conv9 (c := yc) (HRH.out.below hM7.low)
        have HCV := hide hcv
        obtain ⟨sx, hsx⟩ : ∃ sx, sx = strS (yl.take 200) := ⟨_, rfl⟩
        have HSO := hide (show sx.oneCell' = true by rw [hsx]; rfl)
        have HSC := hide (show sx.cells = #[sx] by rw [hsx]; rfl)
        have HSV := hide (show strV (R ++ [yl.take 200]) = strV R ++ [sx] by rw [strV_append, hsx])
        rw [← hsx] at HCV
        have hlump := Reads.lump (w := w7) [sx] 9 (w7.heap.size + 1) 1 (by omega) rfl
        have HLUMP := hide hlump
        have HQ := hide (show i + 1 ≤ maxLen ∧ (i + 1) * 16 ≤ 140737488355328 by simp only [maxLen]; omega)
        clear hM7 g1 g2 g3 g4 hT7 hbd HAP hlump hcv hsx
        go_wp2_with (first
          | ((with_reducible refine at_slot 60 ?_); refine wpList_conv rfl 32 9 (.tmp 59) rfl sx _ rfl HCV.out ?_)
          | ((with_reducible refine at_slot 61 ?_); refine wpList_build_str rfl (.tmp 60) rfl sx rfl HSO.out HSC.out ?_)
          | ((with_reducible refine at_slot 62 ?_); refine wpList_append_two _ rfl (.tmp 58) (.tmp 61) 31 rfl w4.heap.size 9 ii _ 1 16 Try.underlying31 HII.out HIZ.out HIS.out HIB.out rfl (by decide) _ i _ rfl (HE7.out.alloc _) (w7.heap.size + 1) (some ⟨w7.heap.size, 0, none⟩) 1 1 [sx] rfl HLUMP.out (by intro u hu; simp at hu; rw [hu]; exact HSO.out) HQ.out.1 HQ.out.2 (by rw [World.size_alloc]; omega) ?_; intro v8 w8 hown8 hg8 hor8))
        obtain ⟨A8, c8, rfl, _, _⟩ := own9_slice hown8
        go_roundw
        case rel =>
          have hal : Below w7.heap.size w7 (w7.alloc (.cells #[sx] 9)) := (Below.refl _ _).alloc (Nat.le_refl _) _
          have hTg := Turn.of_grown (F := fun x => (Value.slice AE i cE).ownBlock = some x) hg8 (fun g e => e)
          have hsz8 := hTg.size
          rw [World.size_alloc] at hsz8
          refine ⟨i + 1, S7, V7, R ++ [yl.take 200], A8, c8, rfl, by simp, by omega, by omega, hide ((HM7.out.later hal).aside hTg (fun x hx e => by have h1 := HOG.out x e; have := HFG.out x hx; omega) (fun x e => by have h1 := HOG.out x e; omega)), HI7, hide ?_, by omega⟩
          rw [HSV.out]
          exact hown8
        case measure => simp [intOf]; omega
    · by_cases hin2 : i < nl
      · obtain rfl : i = 10 := by omega
        have hg1 : (10 : Int) < (nl : Int) := by omega
        rw [show ((10 : Nat) : Int) = 10 from rfl]
        obtain ⟨i1, i2, i3, i4, i6, i7⟩ := hI.out
        have HLEN := hide i6
        have HDEAD := hide i4
        have HLIVE := hide i1
        have HGEN := hide i2
        have hat := hM.out.ji.at_
        have hus := hM.out.ji.used
        obtain ⟨u, hu⟩ : ∃ u, u = usedL R := ⟨_, rfl⟩
        have HU := hide hu
        have HAT := hide (show V.at_ = u by omega)
        obtain ⟨q, hq⟩ : ∃ q, q = 48 - u := ⟨_, rfl⟩
        have hsub : (48 : Int) - (q : Int) = (u : Int) := by omega
        have HQ48 := hide (show 48 - V.at_ = q by omega)
        have HA48 := hide (show V.at_ ≤ 48 by omega)
        clear i1 i2 i3 i4 i6 i7 hat hu hq hus
        go_wp2_with fail
        obtain ⟨hlB, hg5, hrows⟩ := anyW_is wo
        unfold anyW at hlB hg5 hrows
        generalize (((((wo.alloc (.cells #[.int .i64 0] 3)).alloc (.cells #[.int .i64 1] 3)).alloc (.cells #[.int .i64 2] 3)).alloc (.cells #[.int .i64 2, .int .i64 1, .int .i64 0] 3)).alloc (.cells #[.int .i64 0, .int .i64 1, .int .i64 2] 3)).alloc (.cells #[.slice (some ⟨wo.heap.size, 0, none⟩) 1 1, .slice (some ⟨wo.heap.size + 1, 0, none⟩) 1 1, .slice (some ⟨wo.heap.size + 1 + 1, 0, none⟩) 1 1, .slice (some ⟨wo.heap.size + 1 + 1 + 1, 0, none⟩) 3 3, .slice (some ⟨wo.heap.size + 1 + 1 + 1 + 1, 0, none⟩) 3 3] 27) = wB at hlB hg5 hrows ⊢
        have HROWS := hide hrows
        have HMB := hide (hM.out.later hlB)
        have HEB := hide (own_later hE.out hlB)
        obtain ⟨gB, hgB⟩ : ∃ gB, gB = wo.heap.size + 1 + 1 + 1 + 1 + 1 := ⟨_, rfl⟩
        rw [← hgB] at HROWS hg5 ⊢
        clear hrows hlB hgB
        go_loopw [70] (fun s70 wr => ∃ k : Nat, s70 = .int .i64 (k : Int) ∧ k ≤ 5 ∧ Hid (Below wB.heap.size wB wr)) (fun s70 _ => 5 - (intOf s70).toNat)
        case atStart => exact ⟨0, rfl, by decide, hide (Below.refl _ _)⟩
        case round =>
          obtain ⟨k, rfl, hk5, hlk⟩ := hrel
          obtain ⟨wk, rfl⟩ : ∃ wk, wk = wr := ⟨_, rfl⟩
          by_cases hkl : k < 5
          · have hkw : (k : Int) < 5 := by omega
            obtain ⟨g, n, lv, hce, hrd, hn5, hsub2, d, hd⟩ := HROWS.out k hkl
            have hcek : wk.cell? ⟨gB, k, none⟩ = some (.slice (some ⟨g, 0, none⟩) n n) := (hlk.out.cell (p := ⟨gB, k, none⟩) hg5).trans hce
            have hMk := HMB.out.later hlk.out
            have hsc := hMk.scan (fun nr j => foreign_noughts _ _ _) (live := lv) (d := d) (by rw [HLIVE.out]; exact hsub2) hd (HDEAD.out d) (some ⟨g, 0, none⟩) n n ((hrd.below hlk.out).more hlk.out.size) (Nat.le_refl _) (by omega) hn5
            rw [HGEN.out, HLEN.out, ← HU.out] at hsc
            have HSC := hide hsc
            have HMK := hide hMk
            clear hsc hMk hce hrd hsub2 hd
            go_wp2_with (first
              | (go_at_call 22; refine HSC.out.mono ?_; rintro _ w6 ⟨Bk, mk, fk, rfl, hRk, hEk, hl6⟩; have HM6 := hide (HMK.out.later hl6); have hrm := K.room_any w6 p b G V HM6.out.log HA48.out; rw [HQ48.out] at hrm; have HRM := hide hrm; have HRK := hide hRk; have HEK := hide hEk; have HL6 := hide (hlk.out.trans (hl6.mono hlk.out.size)); clear hl6 hRk hEk hrm)
              | (go_at_call 24; refine HRM.out.mono ?_; rintro _ _ ⟨rfl, rfl⟩))
            have hmw6 := HM6.out.low
            go_loopw [16] (fun s16 wr => ∃ j : Nat, s16 = .int .i64 (j : Int) ∧ j ≤ 10 ∧ Hid (Below w6.heap.size w6 wr)) (fun s16 _ => 10 - (intOf s16).toNat)
            case atStart => exact ⟨0, rfl, Nat.zero_le _, hide (Below.refl _ _)⟩
            case round =>
              obtain ⟨j, rfl, hjl, hlj⟩ := hrel
              obtain ⟨wj, rfl⟩ : ∃ wj, wj = wr := ⟨_, rfl⟩
              by_cases hjj : j < 10
              · have hjw : (j : Int) < (10 : Int) := by omega
                obtain ⟨ad2, A', n', c', r, rfl, hab, hcj0, hRj, hrj⟩ := rows_at HRK.out HLEN.out.symm HEK.out hjj
                obtain ⟨gE, hgE⟩ : ∃ g, AE = some ⟨g, 0, none⟩ := by
                  rcases hE.out.2 with ⟨h1, h2⟩ | ⟨g, cap, cur, h1, _⟩
                  · omega
                  · injection h1 with h1 _ _
                    exact ⟨g, h1⟩
                subst hgE
                have hcj : wj.cell? (ad2.add j) = some (.slice A' n' c') := (hlj.out.cell (p := ad2.add j) (by rw [block_of_add]; exact hab)).trans hcj0
                obtain ⟨bx, hbx⟩ : ∃ bx : ByteArray, bx = ⟨r.toArray⟩ := ⟨_, rfl⟩
                have hcs : wj.cell? ⟨gE, j, none⟩ = some (.string bx) := by
                  have h1 := (own_later (own_later HEB.out HL6.out) hlj.out).cells (g := gE) rfl j (strS r) (strV_get hRj)
                  have hadd : (⟨gE, 0, none⟩ : Addr).add j = ⟨gE, j, none⟩ := by unfold Addr.add; split <;> simp_all
                  rw [hadd] at h1
                  rw [h1, hbx]
                  rfl
                have hC1 := (fun (W : World) (hW : ∃ q, W = wj.drewN q) => conv9 (w := W) (c := c') (by obtain ⟨q, rfl⟩ := hW; exact ((hrj.below hlj.out).drewN q)))
                have hst : strS r = .string bx := by rw [hbx]; rfl
                simp only [hst] at hC1
                have HC1 := hide hC1
                clear hC1 hst hbx hcj0 hrj
                go_wp2_with fail
                refine wp_region_quiet_lit (by kernel_rfl) (by kernel_rfl) ?_
                iterate 4 (go_big_quiet_step (fail))
                refine quietS_conv (by rfl) 32 9 (.tmp 107) rfl _ _ rfl HC1.out ?_
                simp only [Act.put, List.setIfInBounds_toArray, List.set_cons_succ, List.set_cons_zero]
                iterate 5 (go_big_quiet_step (fail))
                refine wpQuiet_nil ?_
                rintro w7 ⟨q7, rfl⟩
                have HL7 := hide (show Below w6.heap.size w6 (wj.drewN q7) from ⟨hlj.out.os, hlj.out.tape, hlj.out.output, hlj.out.size, hlj.out.block⟩)
                go_wp2
                go_roundw
                case rel => exact ⟨j + 1, by simp, by omega, HL7⟩
                case measure => simp [intOf]; omega
              · obtain rfl : j = 10 := by omega
                go_wp2_with fail
                go_roundw
                case rel => exact ⟨k + 1, by simp, by omega, hide (HL6.out.trans (hlj.out.mono HL6.out.size))⟩
                case measure => simp [intOf]; omega
          · obtain rfl : k = 5 := by omega
            go_wp2
            go_ret
            exact ⟨rfl, (HMB.out.later hlk.out).low⟩
      · have hg1 : ¬ ((i : Int) < (nl : Int)) := by omega
        obtain ⟨i1, i2, i3, i4, i6, i7⟩ := hI.out
        have HLEN := hide i6
        have HDEAD := hide i4
        have HLIVE := hide i1
        have HGEN := hide i2
        have hat := hM.out.ji.at_
        have hus := hM.out.ji.used
        obtain ⟨u, hu⟩ : ∃ u, u = usedL R := ⟨_, rfl⟩
        have HU := hide hu
        have HAT := hide (show V.at_ = u by omega)
        obtain ⟨q, hq⟩ : ∃ q, q = 48 - u := ⟨_, rfl⟩
        have hsub : (48 : Int) - (q : Int) = (u : Int) := by omega
        have HQ48 := hide (show 48 - V.at_ = q by omega)
        have HA48 := hide (show V.at_ ≤ 48 by omega)
        clear i1 i2 i3 i4 i6 i7 hat hu hq hus
        go_wp2_with fail
        obtain ⟨hlB, hg5, hrows⟩ := anyW_is wo
        unfold anyW at hlB hg5 hrows
        generalize (((((wo.alloc (.cells #[.int .i64 0] 3)).alloc (.cells #[.int .i64 1] 3)).alloc (.cells #[.int .i64 2] 3)).alloc (.cells #[.int .i64 2, .int .i64 1, .int .i64 0] 3)).alloc (.cells #[.int .i64 0, .int .i64 1, .int .i64 2] 3)).alloc (.cells #[.slice (some ⟨wo.heap.size, 0, none⟩) 1 1, .slice (some ⟨wo.heap.size + 1, 0, none⟩) 1 1, .slice (some ⟨wo.heap.size + 1 + 1, 0, none⟩) 1 1, .slice (some ⟨wo.heap.size + 1 + 1 + 1, 0, none⟩) 3 3, .slice (some ⟨wo.heap.size + 1 + 1 + 1 + 1, 0, none⟩) 3 3] 27) = wB at hlB hg5 hrows ⊢
        have HROWS := hide hrows
        have HMB := hide (hM.out.later hlB)
        have HEB := hide (own_later hE.out hlB)
        obtain ⟨gB, hgB⟩ : ∃ gB, gB = wo.heap.size + 1 + 1 + 1 + 1 + 1 := ⟨_, rfl⟩
        rw [← hgB] at HROWS hg5 ⊢
        clear hrows hlB hgB
        go_loopw [70] (fun s70 wr => ∃ k : Nat, s70 = .int .i64 (k : Int) ∧ k ≤ 5 ∧ Hid (Below wB.heap.size wB wr)) (fun s70 _ => 5 - (intOf s70).toNat)
        case atStart => exact ⟨0, rfl, by decide, hide (Below.refl _ _)⟩
        case round =>
          obtain ⟨k, rfl, hk5, hlk⟩ := hrel
          obtain ⟨wk, rfl⟩ : ∃ wk, wk = wr := ⟨_, rfl⟩
          by_cases hkl : k < 5
          · have hkw : (k : Int) < 5 := by omega
            obtain ⟨g, n, lv, hce, hrd, hn5, hsub2, d, hd⟩ := HROWS.out k hkl
            have hcek : wk.cell? ⟨gB, k, none⟩ = some (.slice (some ⟨g, 0, none⟩) n n) := (hlk.out.cell (p := ⟨gB, k, none⟩) hg5).trans hce
            have hMk := HMB.out.later hlk.out
            have hsc := hMk.scan (fun nr j => foreign_noughts _ _ _) (live := lv) (d := d) (by rw [HLIVE.out]; exact hsub2) hd (HDEAD.out d) (some ⟨g, 0, none⟩) n n ((hrd.below hlk.out).more hlk.out.size) (Nat.le_refl _) (by omega) hn5
            rw [HGEN.out, HLEN.out, ← HU.out] at hsc
            have HSC := hide hsc
            have HMK := hide hMk
            clear hsc hMk hce hrd hsub2 hd
            go_wp2_with (first
              | (go_at_call 22; refine HSC.out.mono ?_; rintro _ w6 ⟨Bk, mk, fk, rfl, hRk, hEk, hl6⟩; have HM6 := hide (HMK.out.later hl6); have hrm := K.room_any w6 p b G V HM6.out.log HA48.out; rw [HQ48.out] at hrm; have HRM := hide hrm; have HRK := hide hRk; have HEK := hide hEk; have HL6 := hide (hlk.out.trans (hl6.mono hlk.out.size)); clear hl6 hRk hEk hrm)
              | (go_at_call 24; refine HRM.out.mono ?_; rintro _ _ ⟨rfl, rfl⟩))
            have hmw6 := HM6.out.low
            go_loopw [16] (fun s16 wr => ∃ j : Nat, s16 = .int .i64 (j : Int) ∧ j ≤ i ∧ Hid (Below w6.heap.size w6 wr)) (fun s16 _ => i - (intOf s16).toNat)
            case atStart => exact ⟨0, rfl, Nat.zero_le _, hide (Below.refl _ _)⟩
            case round =>
              obtain ⟨j, rfl, hjl, hlj⟩ := hrel
              obtain ⟨wj, rfl⟩ : ∃ wj, wj = wr := ⟨_, rfl⟩
              by_cases hjj : j < i
              · have hjw : (j : Int) < (i : Int) := by omega
                obtain ⟨ad2, A', n', c', r, rfl, hab, hcj0, hRj, hrj⟩ := rows_at HRK.out HLEN.out.symm HEK.out hjj
                obtain ⟨gE, hgE⟩ : ∃ g, AE = some ⟨g, 0, none⟩ := by
                  rcases hE.out.2 with ⟨h1, h2⟩ | ⟨g, cap, cur, h1, _⟩
                  · omega
                  · injection h1 with h1 _ _
                    exact ⟨g, h1⟩
                subst hgE
                have hcj : wj.cell? (ad2.add j) = some (.slice A' n' c') := (hlj.out.cell (p := ad2.add j) (by rw [block_of_add]; exact hab)).trans hcj0
                obtain ⟨bx, hbx⟩ : ∃ bx : ByteArray, bx = ⟨r.toArray⟩ := ⟨_, rfl⟩
                have hcs : wj.cell? ⟨gE, j, none⟩ = some (.string bx) := by
                  have h1 := (own_later (own_later HEB.out HL6.out) hlj.out).cells (g := gE) rfl j (strS r) (strV_get hRj)
                  have hadd : (⟨gE, 0, none⟩ : Addr).add j = ⟨gE, j, none⟩ := by unfold Addr.add; split <;> simp_all
                  rw [hadd] at h1
                  rw [h1, hbx]
                  rfl
                have hC1 := (fun (W : World) (hW : ∃ q, W = wj.drewN q) => conv9 (w := W) (c := c') (by obtain ⟨q, rfl⟩ := hW; exact ((hrj.below hlj.out).drewN q)))
                have hst : strS r = .string bx := by rw [hbx]; rfl
                simp only [hst] at hC1
                have HC1 := hide hC1
                clear hC1 hst hbx hcj0 hrj
                go_wp2_with fail
                refine wp_region_quiet_lit (by kernel_rfl) (by kernel_rfl) ?_
                iterate 4 (go_big_quiet_step (fail))
                refine quietS_conv (by rfl) 32 9 (.tmp 107) rfl _ _ rfl HC1.out ?_
                simp only [Act.put, List.setIfInBounds_toArray, List.set_cons_succ, List.set_cons_zero]
                iterate 5 (go_big_quiet_step (fail))
                refine wpQuiet_nil ?_
                rintro w7 ⟨q7, rfl⟩
                have HL7 := hide (show Below w6.heap.size w6 (wj.drewN q7) from ⟨hlj.out.os, hlj.out.tape, hlj.out.output, hlj.out.size, hlj.out.block⟩)
                go_wp2
                go_roundw
                case rel => exact ⟨j + 1, by simp, by omega, HL7⟩
                case measure => simp [intOf]; omega
              · obtain rfl : j = i := by omega
                go_wp2_with fail
                go_roundw
                case rel => exact ⟨k + 1, by simp, by omega, hide (HL6.out.trans (hlj.out.mono HL6.out.size))⟩
                case measure => simp [intOf]; omega
          · obtain rfl : k = 5 := by omega
            go_wp2
            go_ret
            exact ⟨rfl, (HMB.out.later hlk.out).low⟩
#print axioms metalogAny_walk
namespace MetalogAny
theorem walk (A0 : Option Addr) (n0 c0 : Nat) (l0 : Nat → BsV) (a1 : Int) (w : World) (x0 : RowsIn w w.heap.size A0 n0 c0 l0) (_ : -9223372036854775808 ≤ a1) (_ : a1 ≤ 9223372036854775807) :
    Calls Try.prog 6 #[.slice A0 n0 c0, .int .i64 a1] w fun e w' => e = .returned (.bool true) ∧ Below w.heap.size w w' :=
  metalogAny_walk logK A0 n0 c0 l0 a1 w x0
/-! The row's frame, by program: how the walk above proves the statement. -/
set_option maxRecDepth 100000 in
theorem lifted (os : Os) (started : os.Started) (H : Type) (enc : TypeId × Value → H) :
    ReturnsInHanded {} Try.checked os 6 .any (Rows.metalogAnySpec.pre6 enc Try.prog Try.f6 Rows.metalogAnyRow.domain false) (Rows.metalogAnySpec.post enc Try.prog Try.f6 false true false false) := by
  refine returnsInHanded_of_change (C := Try.checked) own started (by kernel_rfl) Try.func6
    (ChangeSpec.witness6 (enc := enc) (C := Try.checked) false ⟨#[], #[.slice none 0 0, .int .i64 0], []⟩ 8 (by kernel_rfl) (by kernel_rfl) (by kernel_rfl) (by kernel_rfl)) ?_
  intro W base args ds gs before hval0 hW hcnd _
  have hval : ∀ (j : Nat) t v, Try.f6.params[j]? = some t → args[j]? = some v → Value.okWide Try.prog W .any base t v := hval0
  have hW' := hW
  obtain ⟨p, q, hA0, hV, rfl, hfz, hnd⟩ := hW
  have hA : DataW.TrodAll enc Try.prog W 0 (fun _ => true) true Try.f6.params.toList args.toList ds p := hA0
  rw [Try.params6] at hA hval
  obtain ⟨v0, vs0, d0, ds0, p0, q0, hargs, rfl, rfl, h0, r0⟩ := trodAll_cons hA
  obtain ⟨v1, vs1, d1, ds1, p1, q1, rfl, rfl, rfl, h1, r1⟩ := trodAll_cons r0
  obtain ⟨rfl, rfl, rfl⟩ := trodAll_nil r1
  obtain rfl : args = #[v0, v1] := by cases args; simp_all
  obtain ⟨rfl, rfl⟩ := trodVars_none hV
  obtain ⟨A0, n0, c0, rfl⟩ := okWide_slice Try.underlying22 (hval 0 22 v0 rfl rfl)
  have k0 := h0
  have lt0 : ∀ x ∈ p0, x.block < W.heap.size := by obtain ⟨m, hm⟩ := k0; exact DataW.trod_lt m _ _ _ hm
  obtain ⟨l0, x0⟩ := arg_rows h0
  obtain ⟨a1, rfl, rfl, rfl, w1⟩ := open_int Try.underlying3 (hval 1 3 v1 rfl rfl) h1
  have b1 := bounds_i64 w1
  clear hA0 hval0
  refine (walk A0 n0 c0 l0 a1 W x0 b1.1 b1.2).mono fun e W' ⟨he, bel⟩ => ?_
  subst he
  exact ⟨_, rfl, _, _, _, [], _, [], hW', trodAll_mk1 (shut_bool Try.underlying4 _), (trodAll_cons_mk (Below.trod laidOut (by kernel_rfl) (of_decide_eq_true (by kernel_rfl)) k0 bel lt0) (trodAll_cons_mk (shut_int Try.underlying3 w1) trodAll_mk0)), rfl, bel.frame _, fun h => by cases h⟩

theorem over : Rows.metalogAnyRow.holds Try.pinned (OpenSpec.ofChange Rows.metalogAnySpec) :=
  OpenClaim.holds_of_wide 6 Try.f6 rfl rfl rfl rfl rfl rfl rfl ⟨rfl, rfl, rfl, rfl, rfl⟩ rfl rfl rfl rfl rfl (by kernel_rfl) Try.func6 (by kernel_rfl)
    (of_decide_eq_true (by kernel_rfl)) (by unfold Func.isWrapper; first | (rw [if_pos (by decide +kernel)]; kernel_rfl) | (rw [if_neg (by decide +kernel)]; exact ⟨rfl, rfl⟩))
    (fun os started H enc _ => lifted os started H enc)

/-- The statement. -/
theorem proved : Rows.MetalogAnySaid := over
#print axioms proved
end MetalogAny
end Go.Proofs.Ytmjdndhpnckeeaa
