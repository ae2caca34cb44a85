/- MetalogLasts holds: whatever records are appended on three members, power failing at any write with whatever kept, and any one disk lost then, Scan tells all those that were answered, in order, and at most the one that was under way behind them; no condition. -/
import Derived.Test.YtmjdndhpnckeeaaMetR
import Derived.StillTailTactics
import Derived.Deep.DeepCutAuto
import Derived.Deep.CutBlock
import Derived.Test.YtmjdndhpnckeeaaMjK
import Derived.Test.YtmjdndhpnckeeaaRows
namespace Go.Proofs.Ytmjdndhpnckeeaa
open Go.ChangeShapes Go.WideShapes Go.ChangeAt Go.RowKit
set_option linter.unusedVariables false

theorem own9_slice {w : World} {base : Nat} {e : TypeId} {size : Nat} {v : Value} {n : Nat} {xs : List Value} (h : w.ownsRow base e size v n xs) : ∃ A c, v = .slice A n c ∧ n ≤ c ∧ c ≤ maxLen := by
  rcases h.2 with ⟨rfl, rfl⟩ | ⟨g, cap, cur, rfl, _, _, h1, h2, _⟩
  · exact ⟨_, _, rfl, Nat.le_refl _, Nat.zero_le _⟩
  · exact ⟨_, _, rfl, h1, h2⟩
theorem own9_block_ge {w : World} {base : Nat} {e : TypeId} {size : Nat} {v : Value} {n : Nat} {xs : List Value} (h : w.ownsRow base e size v n xs) {g : Nat} (hg : v.ownBlock = some g) : base ≤ g ∧ g < w.heap.size := h.lt g hg
theorem own_aside {w w' : World} {F : Nat → Prop} {base : Nat} {e : TypeId} {size : Nat} {v : Value} {n : Nat} {xs : List Value} (h : w.ownsRow base e size v n xs) (hu : Turn F w w') (hF : ∀ g, v.ownBlock = some g → ¬ F g) : w'.ownsRow base e size v n xs := by
  refine ⟨h.1, ?_⟩
  rcases h.2 with ⟨h1, h2⟩ | ⟨g, cap, cur, rfl, hb, hh, hr⟩
  · exact .inl ⟨h1, h2⟩
  · exact .inr ⟨g, cap, cur, rfl, hb, (hu.block g (Array.getElem?_eq_some_iff.1 hh).1 (hF g rfl)).trans hh, hr⟩
set_option maxRecDepth 100000 in
set_option maxHeartbeats 8000000 in
theorem metalogLasts_walk (K : LogK) (A : Option Addr) (nl c : Nat) (f : Nat → BsV) (ar mk lo : Int) (w : World) (hx : RowsIn w w.heap.size A nl c f) (_ : -9223372036854775808 ≤ ar) (_ : ar ≤ 9223372036854775807) (hmk0 : 0 ≤ mk) (hmk1 : mk ≤ 18446744073709551615) (_ : -9223372036854775808 ≤ lo) (_ : lo ≤ 9223372036854775807) :
    Calls Try.prog 3 #[.slice A nl c, .int .i64 ar, .int .u64 mk, .int .i64 lo] w fun e w' => e = .returned (.bool true) ∧ Below w.heap.size w w' := by
  have HX := hide hx
  have hnc := hx.le
  have hc63 := hx.lt
  clear hx
  obtain ⟨Na, hNa, hNa128⟩ := mask127 ar
  obtain ⟨NL, hNL, hNL4⟩ := mask3 lo
  obtain ⟨mN, rfl⟩ : ∃ mN : Nat, mk = (mN : Int) := ⟨mk.toNat, by omega⟩
  have HMN := hide (show mN < 18446744073709551616 by omega)
  clear hmk0 hmk1
  obtain ⟨ii, hii, hiz, his, hib⟩ := str_info9
  have HII := hide hii
  have HIZ := hide hiz
  have HIS := hide his
  have HIB := hide hib
  clear hii hiz his hib
  go_enter Try.func3, Try.ntmps3
  go_wp2_with (first
    | (go_at_call 13; refine (shown9_any K w).mono ?_; rintro _ w1 ⟨rfl, hl1⟩)
    | (go_at_call 14; refine (disks_any w1 3 (by decide)).mono ?_; rintro _ w2 ⟨⟨b, F, rfl, hB2, hlo2⟩, hl2⟩))
  have hs1 := hl1.size
  have HL2 := hide (hl1.trans (hl2.mono hs1))
  have HB2 := hide hB2
  have HLO : Hid (∀ x, F x → w.heap.size ≤ x) := hide fun x hx => Nat.le_trans hs1 (hlo2 x hx)
  clear hB2 hlo2 hl1 hl2
  have hN := newRow w2 (I64 [0, 1, 2]) 3 (0, 0)
  have hbk : Blk (w2.alloc (.cells (I64 [0, 1, 2]).toArray 3 (0, 0))) w2.heap.size 3 (I64 [0, 1, 2]).toArray := Blk.new _ _ _
  go_wp2_with fail
  show Calls _ _ _ (w2.alloc (.cells (I64 [0, 1, 2]).toArray 3 (0, 0))) _
  generalize w2.alloc (.cells (I64 [0, 1, 2]).toArray 3 (0, 0)) = w3 at hN hbk ⊢
  obtain ⟨hl3, hz3, hr3⟩ := hN
  rw [← hz3] at hr3
  have hw2 := HL2.out.size
  have hF2 : ¬ F w2.heap.size := fun h => by have := HB2.out.1 _ h; omega
  refine (fresh_any K 3 [0, 1, 2] 5 w2.heap.size 3 3 (HB2.out.later hl3) HLO.out (HL2.out.trans (hl3.mono hw2)) hr3 (by omega) (by omega) (by omega) hF2 (by decide) (by decide) (by decide) (by decide)).mono ?_
  rintro _ w4 ⟨p, G, rfl, hM4, hp4, hG4, hl4⟩
  have hF2p : w2.heap.size ≠ p := by omega
  have HK4 := hide (hbk.below hl4 hbk.lt)
  have HF2 := hide hF2
  have hw24 : w2.heap.size < w4.heap.size := (hbk.below hl4 hbk.lt).lt
  have HFG : Hid (∀ x, F x ∨ G x → x < w4.heap.size) := hide fun x h => h.elim (fun h => hM4.bank.1 x h) (fun h => (K.own hM4.log).2 x h)
  have HGP := hide (K.own hM4.log).1
  have hww4 := hM4.low.size
  have hlo4 := hM4.base.lo
  have HLO4 := hide hlo4
  have harm := hM4.arm (1 + (Na : Int)) (1 + Na) mN (by rw [if_pos (by omega)]; omega) (by omega) HMN.out
  have HARM := hide harm
  clear hr3 hl3 hM4 hp4 hG4 hl4 HL2 HB2 HLO hF2 hw2 hz3 hbk harm hlo4
  go_wp2_with fail
  refine HARM.out.mono ?_
  rintro _ w5 ⟨rfl, hM5, hT5⟩
  have HM5 := hide hM5
  have HK5 := hide (HK4.out.beside hT5 HF2.out hF2p)
  have hw45 := hT5.size
  clear hM5 hT5
  go_upto_block 0 with fail
  go_cut [13, 14, 15] from 43 to 79 (fun s13 s14 s15 wx => ∃ (i : Nat) (R : List (List UInt8)) (AE : Option Addr) (cE : Nat) (T : Bank) (ub : ByteArray) (ib : Bool), s13 = .slice AE i cE ∧ s14 = .string ub ∧ s15 = .bool ib ∧ i ≤ 10 ∧ Hid (R.length = i ∧ usedL R ≤ i * 4 ∧ (∀ r ∈ R, r.length ≤ 2120)) ∧ Hid (wx.ownsRow w4.heap.size 9 1 (.slice AE i cE) i (strV R)) ∧ Hid (BankOn wx b F T) ∧ Hid ((∀ d ∈ ([0, 1, 2] : List Nat), d < T.n ∧ 50 ≤ T.size d) ∧ ∀ d, T.dead d = false) ∧ Hid (Blk wx w2.heap.size 3 (I64 [0, 1, 2]).toArray) ∧ Hid (Below w.heap.size w wx) ∧ w4.heap.size ≤ wx.heap.size ∧ Hid ((ib = false ∧ T.down = false ∧ Holds T [0, 1, 2] noughts 5 R) ∨ (ib = true ∧ T.down = true ∧ ∃ r, r.length ≤ 200 ∧ usedL R + partsN r.length ≤ 48 ∧ i ≤ 9 ∧ ub = (⟨r.toArray⟩ : ByteArray) ∧ Nearly T [0, 1, 2] noughts 5 R r)))
  case first =>
    go_wp2_with fail
    go_loopw [13, 14, 15, 16] (fun s13 s14 s15 s16 wr => ∃ (i : Nat) (S : Bank) (V : LogV) (R : List (List UInt8)) (AE : Option Addr) (cE : Nat), s13 = .slice AE i cE ∧ s14 = .string ⟨#[]⟩ ∧ s15 = .bool false ∧ s16 = .int .i64 (i : Int) ∧ i ≤ 10 ∧ i ≤ nl ∧ Hid (MetIs K w F G b p noughts wr S V R (i * 240)) ∧ Hid (V.live = [0, 1, 2] ∧ V.gen = 5 ∧ (∀ d, S.dead d = false) ∧ R.length = i ∧ usedL R ≤ i * 4) ∧ Hid (wr.ownsRow w4.heap.size 9 1 (.slice AE i cE) i (strV R)) ∧ Hid (Blk wr w2.heap.size 3 (I64 [0, 1, 2]).toArray) ∧ w4.heap.size ≤ wr.heap.size) (fun _ _ _ s16 _ => nl - (intOf s16).toNat)
    case atStart => exact ⟨0, _, _, [], none, 0, rfl, rfl, rfl, rfl, by decide, Nat.zero_le _, HM5, hide ⟨rfl, rfl, fun d => Disks_live 3 d, rfl, by decide⟩, hide (World.ownsRow_nil _ _ _ _), HK5, hw45⟩
    case round =>
      obtain ⟨i, S, V, R, AE, cE, rfl, rfl, rfl, rfl, hi10, hin, hM, hI, hE, hK, hz4⟩ := hrel
      obtain ⟨wo, rfl⟩ : ∃ wo, wo = wr := ⟨_, rfl⟩
      have HEND : Hid (∀ (x : World), x = wo → ∃ (i' : Nat) (R' : List (List UInt8)) (AE' : Option Addr) (cE' : Nat) (T : Bank) (ub : ByteArray) (ib : Bool), (.slice AE i cE : Value) = .slice AE' i' cE' ∧ (.string ⟨#[]⟩ : Value) = .string ub ∧ (.bool false : Value) = .bool ib ∧ i' ≤ 10 ∧ Hid (R'.length = i' ∧ usedL R' ≤ i' * 4 ∧ (∀ r ∈ R', r.length ≤ 2120)) ∧ Hid (x.ownsRow w4.heap.size 9 1 (.slice AE' i' cE') i' (strV R')) ∧ Hid (BankOn x b F T) ∧ Hid ((∀ d ∈ ([0, 1, 2] : List Nat), d < T.n ∧ 50 ≤ T.size d) ∧ ∀ d, T.dead d = false) ∧ Hid (Blk x w2.heap.size 3 (I64 [0, 1, 2]).toArray) ∧ Hid (Below w.heap.size w x) ∧ w4.heap.size ≤ x.heap.size ∧ Hid ((ib = false ∧ T.down = false ∧ Holds T [0, 1, 2] noughts 5 R') ∨ (ib = true ∧ T.down = true ∧ ∃ r, r.length ≤ 200 ∧ usedL R' + partsN r.length ≤ 48 ∧ i' ≤ 9 ∧ ub = (⟨r.toArray⟩ : ByteArray) ∧ Nearly T [0, 1, 2] noughts 5 R' r))) := hide (by
        rintro x rfl
        obtain ⟨i1, i2, i4, i6, i7⟩ := hI.out
        have hlv := hM.out.ji.live
        have hho := hM.out.ji.holds
        rw [i1] at hlv hho
        rw [i2] at hho
        exact ⟨i, R, AE, cE, S, ⟨#[]⟩, false, rfl, rfl, rfl, hi10, hide ⟨i6, i7, hM.out.ji.lens⟩, hE, hide hM.out.bank, hide ⟨hlv, i4⟩, hK, hide hM.out.low, hz4, hide (.inl ⟨rfl, hM.out.ji.std.up, hho⟩)⟩)
      by_cases hlt : i < nl ∧ i < 10
      · have hg1 : (i : Int) < (nl : Int) := by omega
        have hg2 : (i : Int) < 10 := by omega
        clear HEND
        obtain ⟨ad, rfl, hadb, hcells⟩ := HX.out.row (by omega)
        have HC := hide (hcells i hlt.1)
        clear hcells
        generalize f i = y at HC
        obtain ⟨yA, yn, yc, yl⟩ := y
        have hyr : Reads w w.heap.size 1 yA yn (B8 yl) := HC.out.2.reads
        have hyl : yl.length = yn := by have := hyr.1; rw [B8_length] at this; omega
        have HYR := hide hyr
        clear hyr
        have hyc : yn ≤ yc := HC.out.2.le
        have hyc2 : yc ≤ 9223372036854775807 := HC.out.2.lt
        obtain ⟨m, hm⟩ : ∃ m, m = min yn 200 := ⟨_, rfl⟩
        have HMM := hide hm
        clear hm
        go_wp2_with fail
        have hm := HMM.out
        have hc5 : wo.cell? (ad.add i) = some (.slice yA yn yc) := (hM.out.low.cell (p := ad.add i) (by rw [block_of_add]; exact hadb)).trans HC.out.1
        obtain ⟨i1, i2, i4, i6, i7⟩ := hI.out
        have hbl : (yl.take m).length = m := by rw [List.length_take]; omega
        have hp4 := parts_200 (n := m) (by omega)
        have HRH := hide (show Reads w w.heap.size 1 yA m (B8 (yl.take m)) by
          have h := HYR.out.head (k := m) (by omega)
          rwa [Nat.mul_one, B8_take] at h)
        have HAP := hide fun (w6 : World) (hb : Below wo.heap.size wo w6) => (hM.out.later hb).either (d := 0) (by rw [i1]; decide) (i4 0) yA m yc (yl.take m) ((HRH.out.below (hM.out.low.trans (hb.mono hM.out.low.size))).more (Nat.le_trans hM.out.low.size hb.size)) (by omega) hyc2 (by omega) (by omega) (by rw [hbl]; omega)
        have HBL := hide hbl
        have HP4 := hide hp4
        clear i1 i2 i4 i6 i7 hbl hp4
        by_cases hmn : yn ≤ 200
        · have hme : yn = m := by omega
          subst hme
          have hmv : min (yn : Int) 200 = (yn : Int) := by omega
          clear hm
          go_still_tail 11, (by kernel_rfl)
          change wpList _ _ _ _ _ wo.drew
          have hbd : Below wo.heap.size wo wo.drew := (Below.refl _ _).drew
          generalize wo.drew = w6 at hbd ⊢
          clear hc5
          go_wp2_with fail
          refine (HAP.out w6 hbd).mono ?_
          rintro _ w7 ⟨⟨rfl, S7, V7, hM7, g1, g2, g3⟩ | ⟨rfl, S7, hB7, hdn, hal, hnr⟩, hT7⟩
          · have HOG : Hid (∀ g, (Value.slice AE i cE).ownBlock = some g → w4.heap.size ≤ g) := hide fun g hg => (own9_block_ge hE.out hg).1
            have hz67 := hT7.size
            have hz6 := hbd.size
            have HE7 := hide (own_aside (own_later hE.out hbd) hT7 (fun g hg h => by
              have h1 := HOG.out g hg
              rcases h with h | h
              · have := HFG.out g (.inl h); omega
              · have := HFG.out p (.inr HGP.out); omega))
            have HK7 := hide ((hK.out.below hbd hK.out.lt).beside hT7 HF2.out hF2p)
            have HM7 : Hid (MetIs K w F G b p noughts w7 S7 V7 (R ++ [yl.take yn]) ((i + 1) * 240)) := hide (by rw [Nat.succ_mul]; exact hM7)
            have HI7 : Hid (V7.live = [0, 1, 2] ∧ V7.gen = 5 ∧ (∀ d, S7.dead d = false) ∧ (R ++ [yl.take yn]).length = i + 1 ∧ usedL (R ++ [yl.take yn]) ≤ (i + 1) * 4) := hide ⟨by rw [g1]; exact hI.out.1, by rw [g2]; exact hI.out.2.1, fun d => by rw [g3.dead]; exact hI.out.2.2.1 d, by rw [List.length_append, hI.out.2.2.2.1]; rfl, by rw [usedL_append, usedL_cons, usedL_nil, HBL.out]; have h1 := hI.out.2.2.2.2; have h2 := HP4.out; omega⟩
            have hcv := conv9 (c := yc) (HRH.out.below hM7.low)
            have HCV := hide hcv
            obtain ⟨sx, hsx⟩ : ∃ sx, sx = strS (yl.take yn) := ⟨_, rfl⟩
            have HSO := hide (show sx.oneCell' = true by rw [hsx]; rfl)
            have HSC := hide (show sx.cells = #[sx] by rw [hsx]; rfl)
            have HSV := hide (show strV (R ++ [yl.take yn]) = strV R ++ [sx] by rw [strV_append, hsx])
            rw [← hsx] at HCV
            have hlump := Reads.lump (w := w7) [sx] 9 (w7.heap.size + 1) 1 (by omega) rfl
            have HLUMP := hide hlump
            have HQ := hide (show i + 1 ≤ maxLen ∧ (i + 1) * 16 ≤ 140737488355328 by simp only [maxLen]; omega)
            clear hM7 g1 g2 g3 hT7 hbd HAP hlump hcv hsx
            go_wp2_with (first
              | ((with_reducible refine at_slot 77 ?_); refine wpList_conv rfl 32 9 (.tmp 76) rfl sx _ rfl HCV.out ?_)
              | ((with_reducible refine at_slot 78 ?_); refine wpList_build_str rfl (.tmp 77) rfl sx rfl HSO.out HSC.out ?_)
              | ((with_reducible refine at_slot 79 ?_); refine wpList_append_two _ rfl (.tmp 75) (.tmp 78) 31 rfl w4.heap.size 9 ii _ 1 16 Try.underlying31 HII.out HIZ.out HIS.out HIB.out rfl (by decide) _ i _ rfl (HE7.out.alloc _) (w7.heap.size + 1) (some ⟨w7.heap.size, 0, none⟩) 1 1 [sx] rfl HLUMP.out (by intro u hu; simp at hu; rw [hu]; exact HSO.out) HQ.out.1 HQ.out.2 (by rw [World.size_alloc]; omega) ?_; intro v8 w8 hown8 hg8 hor8))
            obtain ⟨A8, c8, rfl, _, _⟩ := own9_slice hown8
            go_roundw
            case rel =>
              have hal : Below w7.heap.size w7 (w7.alloc (.cells #[sx] 9)) := (Below.refl _ _).alloc (Nat.le_refl _) _
              have hTg := Turn.of_grown (F := fun x => (Value.slice AE i cE).ownBlock = some x) hg8 (fun g e => e)
              have hsz8 := hTg.size
              rw [World.size_alloc] at hsz8
              refine ⟨i + 1, S7, V7, R ++ [yl.take yn], A8, c8, rfl, rfl, rfl, by simp, by omega, by omega, hide ((HM7.out.later hal).aside hTg (fun x hx e => by have h1 := HOG.out x e; have := HFG.out x hx; omega) (fun x e => by have h1 := HOG.out x e; omega)), HI7, hide ?_, hide ?_, by omega⟩
              · rw [HSV.out]
                exact hown8
              · have hk7 := HK7.out.below hal HK7.out.lt
                exact hk7.of_block (hTg.block _ hk7.lt (fun e => by have h1 := HOG.out _ e; omega))
            case measure => simp [intOf]; omega
          · have HOG : Hid (∀ g, (Value.slice AE i cE).ownBlock = some g → w4.heap.size ≤ g) := hide fun g hg => (own9_block_ge hE.out hg).1
            have hz67 := hT7.size
            have hz6 := hbd.size
            have HE7 := hide (own_aside (own_later hE.out hbd) hT7 (fun g hg h => by
              have h1 := HOG.out g hg
              rcases h with h | h
              · have := HFG.out g (.inl h); omega
              · have := HFG.out p (.inr HGP.out); omega))
            have HK7 := hide ((hK.out.below hbd hK.out.lt).beside hT7 HF2.out hF2p)
            have hlow7 := hM.out.base.low (hM.out.later hbd).low hT7
            have hcv := conv9 (c := yc) (HRH.out.below hlow7)
            obtain ⟨bx, hbx⟩ : ∃ bx : ByteArray, bx = ⟨(yl.take yn).toArray⟩ := ⟨_, rfl⟩
            rw [show strS (yl.take yn) = .string bx by rw [hbx]; rfl] at hcv
            have HCV := hide hcv
            have HBX := hide hbx
            have HFAR : Hid ((∀ d ∈ ([0, 1, 2] : List Nat), d < S7.n ∧ 50 ≤ S7.size d) ∧ (∀ d, S7.dead d = false) ∧ R.length = i ∧ usedL R ≤ i * 4 ∧ (∀ r ∈ R, r.length ≤ 2120) ∧ Nearly S7 [0, 1, 2] noughts 5 R (yl.take yn) ∧ (yl.take yn).length ≤ 200 ∧ usedL R + partsN (yl.take yn).length ≤ 48) := by
              obtain ⟨i1, i2, i4, i6, i7⟩ := hI.out
              have hlv := hM.out.ji.live
              have hnr2 := hnr
              rw [i1] at hlv hnr2
              rw [i2] at hnr2
              have h2 := HP4.out
              have h3 := HBL.out
              exact hide ⟨by rw [hal.n, hal.size]; exact hlv, fun d => by rw [hal.dead]; exact i4 d, i6, i7, hM.out.ji.lens, hnr2, by omega, by rw [h3]; omega⟩
            have HB7 := hide hB7
            have HDN := hide hdn
            have HLW7 := hide hlow7
            clear hB7 hdn hal hnr hT7 hbd HAP hcv hbx hlow7
            go_wp2_with ((with_reducible refine at_slot 70 ?_); refine wpList_conv rfl 32 9 (.tmp 69) rfl (.string bx) _ rfl HCV.out ?_)
            go_meet
            obtain ⟨f1, f2, f3, f4, f5, f6, f7, f8⟩ := HFAR.out
            exact ⟨i, R, AE, cE, S7, bx, true, rfl, rfl, rfl, by omega, hide ⟨f3, f4, f5⟩, HE7, HB7, hide ⟨f1, f2⟩, HK7, HLW7, by omega, hide (.inr ⟨rfl, HDN.out, _, f7, f8, by omega, HBX.out, f6⟩)⟩
        · have hme : 200 = m := by omega
          subst hme
          have h200 : 200 ≤ yc := by omega
          have h2w : (200 : Int) ≤ (yc : Int) := by omega
          have hmv : min (yn : Int) 200 = 200 := by omega
          clear hm
          go_still_tail 11, (by kernel_rfl)
          change wpList _ _ _ _ _ wo.drew
          have hbd : Below wo.heap.size wo wo.drew := (Below.refl _ _).drew
          generalize wo.drew = w6 at hbd ⊢
          clear hc5
          go_wp2_with fail
          refine (HAP.out w6 hbd).mono ?_
          rintro _ w7 ⟨⟨rfl, S7, V7, hM7, g1, g2, g3⟩ | ⟨rfl, S7, hB7, hdn, hal, hnr⟩, hT7⟩
          · have HOG : Hid (∀ g, (Value.slice AE i cE).ownBlock = some g → w4.heap.size ≤ g) := hide fun g hg => (own9_block_ge hE.out hg).1
            have hz67 := hT7.size
            have hz6 := hbd.size
            have HE7 := hide (own_aside (own_later hE.out hbd) hT7 (fun g hg h => by
              have h1 := HOG.out g hg
              rcases h with h | h
              · have := HFG.out g (.inl h); omega
              · have := HFG.out p (.inr HGP.out); omega))
            have HK7 := hide ((hK.out.below hbd hK.out.lt).beside hT7 HF2.out hF2p)
            have HM7 : Hid (MetIs K w F G b p noughts w7 S7 V7 (R ++ [yl.take 200]) ((i + 1) * 240)) := hide (by rw [Nat.succ_mul]; exact hM7)
            have HI7 : Hid (V7.live = [0, 1, 2] ∧ V7.gen = 5 ∧ (∀ d, S7.dead d = false) ∧ (R ++ [yl.take 200]).length = i + 1 ∧ usedL (R ++ [yl.take 200]) ≤ (i + 1) * 4) := hide ⟨by rw [g1]; exact hI.out.1, by rw [g2]; exact hI.out.2.1, fun d => by rw [g3.dead]; exact hI.out.2.2.1 d, by rw [List.length_append, hI.out.2.2.2.1]; rfl, by rw [usedL_append, usedL_cons, usedL_nil, HBL.out]; have h1 := hI.out.2.2.2.2; have h2 := HP4.out; omega⟩
            have hcv := conv9 (c := yc) (HRH.out.below hM7.low)
            have HCV := hide hcv
            obtain ⟨sx, hsx⟩ : ∃ sx, sx = strS (yl.take 200) := ⟨_, rfl⟩
            have HSO := hide (show sx.oneCell' = true by rw [hsx]; rfl)
            have HSC := hide (show sx.cells = #[sx] by rw [hsx]; rfl)
            have HSV := hide (show strV (R ++ [yl.take 200]) = strV R ++ [sx] by rw [strV_append, hsx])
            rw [← hsx] at HCV
            have hlump := Reads.lump (w := w7) [sx] 9 (w7.heap.size + 1) 1 (by omega) rfl
            have HLUMP := hide hlump
            have HQ := hide (show i + 1 ≤ maxLen ∧ (i + 1) * 16 ≤ 140737488355328 by simp only [maxLen]; omega)
            clear hM7 g1 g2 g3 hT7 hbd HAP hlump hcv hsx
            go_wp2_with (first
              | ((with_reducible refine at_slot 77 ?_); refine wpList_conv rfl 32 9 (.tmp 76) rfl sx _ rfl HCV.out ?_)
              | ((with_reducible refine at_slot 78 ?_); refine wpList_build_str rfl (.tmp 77) rfl sx rfl HSO.out HSC.out ?_)
              | ((with_reducible refine at_slot 79 ?_); refine wpList_append_two _ rfl (.tmp 75) (.tmp 78) 31 rfl w4.heap.size 9 ii _ 1 16 Try.underlying31 HII.out HIZ.out HIS.out HIB.out rfl (by decide) _ i _ rfl (HE7.out.alloc _) (w7.heap.size + 1) (some ⟨w7.heap.size, 0, none⟩) 1 1 [sx] rfl HLUMP.out (by intro u hu; simp at hu; rw [hu]; exact HSO.out) HQ.out.1 HQ.out.2 (by rw [World.size_alloc]; omega) ?_; intro v8 w8 hown8 hg8 hor8))
            obtain ⟨A8, c8, rfl, _, _⟩ := own9_slice hown8
            go_roundw
            case rel =>
              have hal : Below w7.heap.size w7 (w7.alloc (.cells #[sx] 9)) := (Below.refl _ _).alloc (Nat.le_refl _) _
              have hTg := Turn.of_grown (F := fun x => (Value.slice AE i cE).ownBlock = some x) hg8 (fun g e => e)
              have hsz8 := hTg.size
              rw [World.size_alloc] at hsz8
              refine ⟨i + 1, S7, V7, R ++ [yl.take 200], A8, c8, rfl, rfl, rfl, by simp, by omega, by omega, hide ((HM7.out.later hal).aside hTg (fun x hx e => by have h1 := HOG.out x e; have := HFG.out x hx; omega) (fun x e => by have h1 := HOG.out x e; omega)), HI7, hide ?_, hide ?_, by omega⟩
              · rw [HSV.out]
                exact hown8
              · have hk7 := HK7.out.below hal HK7.out.lt
                exact hk7.of_block (hTg.block _ hk7.lt (fun e => by have h1 := HOG.out _ e; omega))
            case measure => simp [intOf]; omega
          · have HOG : Hid (∀ g, (Value.slice AE i cE).ownBlock = some g → w4.heap.size ≤ g) := hide fun g hg => (own9_block_ge hE.out hg).1
            have hz67 := hT7.size
            have hz6 := hbd.size
            have HE7 := hide (own_aside (own_later hE.out hbd) hT7 (fun g hg h => by
              have h1 := HOG.out g hg
              rcases h with h | h
              · have := HFG.out g (.inl h); omega
              · have := HFG.out p (.inr HGP.out); omega))
            have HK7 := hide ((hK.out.below hbd hK.out.lt).beside hT7 HF2.out hF2p)
            have hlow7 := hM.out.base.low (hM.out.later hbd).low hT7
            have hcv := conv9 (c := yc) (HRH.out.below hlow7)
            obtain ⟨bx, hbx⟩ : ∃ bx : ByteArray, bx = ⟨(yl.take 200).toArray⟩ := ⟨_, rfl⟩
            rw [show strS (yl.take 200) = .string bx by rw [hbx]; rfl] at hcv
            have HCV := hide hcv
            have HBX := hide hbx
            have HFAR : Hid ((∀ d ∈ ([0, 1, 2] : List Nat), d < S7.n ∧ 50 ≤ S7.size d) ∧ (∀ d, S7.dead d = false) ∧ R.length = i ∧ usedL R ≤ i * 4 ∧ (∀ r ∈ R, r.length ≤ 2120) ∧ Nearly S7 [0, 1, 2] noughts 5 R (yl.take 200) ∧ (yl.take 200).length ≤ 200 ∧ usedL R + partsN (yl.take 200).length ≤ 48) := by
              obtain ⟨i1, i2, i4, i6, i7⟩ := hI.out
              have hlv := hM.out.ji.live
              have hnr2 := hnr
              rw [i1] at hlv hnr2
              rw [i2] at hnr2
              have h2 := HP4.out
              have h3 := HBL.out
              exact hide ⟨by rw [hal.n, hal.size]; exact hlv, fun d => by rw [hal.dead]; exact i4 d, i6, i7, hM.out.ji.lens, hnr2, by omega, by rw [h3]; omega⟩
            have HB7 := hide hB7
            have HDN := hide hdn
            have HLW7 := hide hlow7
            clear hB7 hdn hal hnr hT7 hbd HAP hcv hbx hlow7
            go_wp2_with ((with_reducible refine at_slot 70 ?_); refine wpList_conv rfl 32 9 (.tmp 69) rfl (.string bx) _ rfl HCV.out ?_)
            go_meet
            obtain ⟨f1, f2, f3, f4, f5, f6, f7, f8⟩ := HFAR.out
            exact ⟨i, R, AE, cE, S7, bx, true, rfl, rfl, rfl, by omega, hide ⟨f3, f4, f5⟩, HE7, HB7, hide ⟨f1, f2⟩, HK7, HLW7, by omega, hide (.inr ⟨rfl, HDN.out, _, f7, f8, by omega, HBX.out, f6⟩)⟩
      · by_cases hin2 : i < nl
        · obtain rfl : i = 10 := by omega
          have hg1 : (10 : Int) < (nl : Int) := by omega
          go_wp2_with fail
          go_meet
          exact HEND.out _ rfl
        · have hg1 : ¬ ((i : Int) < (nl : Int)) := by omega
          go_wp2_with fail
          go_meet
          exact HEND.out _ rfl
  case rest =>
    obtain ⟨i, R, AE, cE, T, ub, ib, rfl, rfl, rfl, hi10, HRI, HE, HB, HT, HK, HL, hz4, HA⟩ := hcut
    have hbnd : ¬ ((i : Int) < (i : Int)) := by omega
    have hbnd2 : ¬ ((i : Int) + 1 < (i : Int)) := by omega
    rcases HA.out with ⟨hib, hup, hho⟩ | ⟨hib, hdn, r, hr200, hur, hi9, hub, hnr⟩
    · subst hib
      have hU := on_up HB.out
      rw [hup] at hU
      have HU := hide (show Calls Try.prog 18 #[.pointer (some ⟨b, 0, none⟩)] wc fun e w' => e = .returned (.bool true) ∧ wc = w' from hU)
      have HCR := hide (on_crash HB.out mN HMN.out)
      obtain ⟨q1, q2, q3, _, _⟩ := crash_shape (S := T) mN
      have HBK := hide (back_of (T := T.crash mN) (by rw [q1, q2]; exact HT.out.1) (by rw [q3]; exact HT.out.2) NL)
      have HVS := hide (back_holds HBK.out (hho.crash mN) HRI.out.2.2 (by have := HRI.out.2.1; omega) (by have := HRI.out.1; omega))
      clear hup hho hU q1 q2 q3 HA
      go_wp2_with (first
        | (go_at_call 18; refine HU.out.mono ?_; rintro _ _ ⟨rfl, rfl⟩)
        | (go_at_call 19; refine HCR.out.mono ?_; rintro _ y5 ⟨rfl, hB5, hT5⟩; have HST := hide (on_start hB5); clear hB5)
        | (go_at_call 20; refine HST.out.mono ?_; rintro _ y6 ⟨rfl, hB6, hT6⟩; have HFA := hide (failV hB6 NL); clear hB6)
        | (go_at_call 21; refine HFA.out.mono ?_; rintro _ y7 ⟨⟨v7, rfl⟩, hB7, hT7⟩; have HBY := hide hB7; have HTY := hide (hT5.trans (hT6.trans hT7)); clear hB7 hT5 hT6 hT7))
      have hT := HTY.out
      have HKY := hide (HK.out.of_block (hT.block _ HK.out.lt HF2.out))
      have HEY := hide (own_aside HE.out hT (fun g hg h => by have h1 := (own9_block_ge HE.out hg).1; have := HFG.out g (.inl h); omega))
      have HLY := hide (below_turned HL.out HLO4.out hT HL.out.size)
      have hsc := scan_of K HBY.out HBK.out.up HBK.out.lv HVS.out.1 HVS.out.2 (some ⟨w2.heap.size, 0, none⟩) 3 3 (HKY.out.readsI (n := 3) rfl) (by omega) (by omega) (by omega)
      rw [HRI.out.1] at hsc
      clear hT
      refine hsc.mono ?_
      rintro _ y8 ⟨Bk, mk8, fk, rfl, hRk, hEk, hl8⟩
      have HRK := hide hRk
      have HEK := hide hEk
      have HL8 := hide (HLY.out.trans (hl8.mono HLY.out.size))
      have HE8 := hide (own_later HEY.out hl8)
      clear hsc hRk hEk hl8
      have HLX := hide HRI.out.1.symm
      go_wp2_with fail
      go_loopw [22] (fun s22 wr => ∃ j : Nat, s22 = .int .i64 (j : Int) ∧ j ≤ i ∧ Hid (Below y8.heap.size y8 wr)) (fun s22 _ => i - (intOf s22).toNat)
      case atStart => exact ⟨0, rfl, Nat.zero_le _, hide (Below.refl _ _)⟩
      case round =>
        obtain ⟨j, rfl, hjl, hlj⟩ := hrel
        obtain ⟨wj, rfl⟩ : ∃ wj, wj = wr := ⟨_, rfl⟩
        by_cases hjj : j < i
        · have hjw : (j : Int) < (i : Int) := by omega
          obtain ⟨ad2, A', n', c', r', hBk, hab, hcj0, hRj0, hrj⟩ := rows_at HRK.out HLX.out HEK.out (j := j) (by omega)
          subst hBk
          have hRj : R[j]? = some r' := hRj0
          obtain ⟨gE, hgE⟩ : ∃ g, AE = some ⟨g, 0, none⟩ := by
            rcases HE.out.2 with ⟨h1, h2⟩ | ⟨g, cap, cur, h1, _⟩
            · omega
            · injection h1 with h1 _ _
              exact ⟨g, h1⟩
          subst hgE
          have hcj : wj.cell? (ad2.add j) = some (.slice A' n' c') := (hlj.out.cell (p := ad2.add j) (by rw [block_of_add]; exact hab)).trans hcj0
          obtain ⟨bx, hbx⟩ : ∃ bx : ByteArray, bx = ⟨r'.toArray⟩ := ⟨_, rfl⟩
          have hcs : wj.cell? ⟨gE, j, none⟩ = some (.string bx) := by
            have h1 := (own_later HE8.out hlj.out).cells (g := gE) rfl j (strS r') (strV_get hRj)
            have hadd : (⟨gE, 0, none⟩ : Addr).add j = ⟨gE, j, none⟩ := by unfold Addr.add; split <;> simp_all
            rw [hadd] at h1
            rw [h1, hbx]
            rfl
          have hC1 := (fun (W : World) (hW : ∃ q, W = wj.drewN q) => conv9 (w := W) (c := c') (by obtain ⟨q, rfl⟩ := hW; exact ((hrj.below hlj.out).drewN q)))
          have hst : strS r' = .string bx := by rw [hbx]; rfl
          simp only [hst] at hC1
          have HC1 := hide hC1
          clear hC1 hst hbx hcj0 hrj
          go_wp2_with fail
          refine wp_region_quiet_lit (by kernel_rfl) (by kernel_rfl) ?_
          iterate 4 (go_big_quiet_step (fail))
          refine quietS_conv (by rfl) 32 9 (.tmp 145) rfl _ _ rfl HC1.out ?_
          simp only [Act.put, List.setIfInBounds_toArray, List.set_cons_succ, List.set_cons_zero]
          iterate 5 (go_big_quiet_step (fail))
          refine wpQuiet_nil ?_
          rintro z7 ⟨q7, rfl⟩
          have HL7 := hide (show Below y8.heap.size y8 (wj.drewN q7) from ⟨hlj.out.os, hlj.out.tape, hlj.out.output, hlj.out.size, hlj.out.block⟩)
          go_wp2
          go_roundw
          case rel => exact ⟨j + 1, by simp, by omega, HL7⟩
          case measure => simp [intOf]; omega
        · obtain rfl : j = i := by omega
          go_wp2
          go_ret
          exact ⟨rfl, HL8.out.trans (hlj.out.mono HL8.out.size)⟩
    · subst hib
      have hU := on_up HB.out
      rw [hdn] at hU
      have HU := hide (show Calls Try.prog 18 #[.pointer (some ⟨b, 0, none⟩)] wc fun e w' => e = .returned (.bool false) ∧ wc = w' from hU)
      have HST := hide (on_start HB.out)
      have HBK := hide (back_of (T := T) HT.out.1 HT.out.2 NL)
      have HUB := hide hub
      have HL1 := hide (show (R ++ [r]).length = i + 1 by rw [List.length_append, HRI.out.1]; rfl)
      obtain ⟨hv, hs⟩ := back_near HBK.out hnr HRI.out.2.2 (by omega) hur (by have := HRI.out.1; omega)
      clear hdn hnr hU HA hub
      go_wp2_with (first
        | (go_at_call 18; refine HU.out.mono ?_; rintro _ _ ⟨rfl, rfl⟩)
        | (go_at_call 20; refine HST.out.mono ?_; rintro _ y6 ⟨rfl, hB6, hT6⟩; have HFA := hide (failV hB6 NL); clear hB6)
        | (go_at_call 21; refine HFA.out.mono ?_; rintro _ y7 ⟨⟨v7, rfl⟩, hB7, hT7⟩; have HBY := hide hB7; have HTY := hide (hT6.trans hT7); clear hB7 hT6 hT7))
      rcases hs with hs | hs
      · have HVS := hide (And.intro hv hs)
        clear hv hs
        have hT := HTY.out
        have HKY := hide (HK.out.of_block (hT.block _ HK.out.lt HF2.out))
        have HEY := hide (own_aside HE.out hT (fun g hg h => by have h1 := (own9_block_ge HE.out hg).1; have := HFG.out g (.inl h); omega))
        have HLY := hide (below_turned HL.out HLO4.out hT HL.out.size)
        have hsc := scan_of K HBY.out HBK.out.up HBK.out.lv HVS.out.1 HVS.out.2 (some ⟨w2.heap.size, 0, none⟩) 3 3 (HKY.out.readsI (n := 3) rfl) (by omega) (by omega) (by omega)
        rw [HRI.out.1] at hsc
        clear hT
        refine hsc.mono ?_
        rintro _ y8 ⟨Bk, mk8, fk, rfl, hRk, hEk, hl8⟩
        have HRK := hide hRk
        have HEK := hide hEk
        have HL8 := hide (HLY.out.trans (hl8.mono HLY.out.size))
        have HE8 := hide (own_later HEY.out hl8)
        clear hsc hRk hEk hl8
        have HLX := hide HRI.out.1.symm
        go_wp2_with fail
        go_loopw [22] (fun s22 wr => ∃ j : Nat, s22 = .int .i64 (j : Int) ∧ j ≤ i ∧ Hid (Below y8.heap.size y8 wr)) (fun s22 _ => i - (intOf s22).toNat)
        case atStart => exact ⟨0, rfl, Nat.zero_le _, hide (Below.refl _ _)⟩
        case round =>
          obtain ⟨j, rfl, hjl, hlj⟩ := hrel
          obtain ⟨wj, rfl⟩ : ∃ wj, wj = wr := ⟨_, rfl⟩
          by_cases hjj : j < i
          · have hjw : (j : Int) < (i : Int) := by omega
            obtain ⟨ad2, A', n', c', r', hBk, hab, hcj0, hRj0, hrj⟩ := rows_at HRK.out HLX.out HEK.out (j := j) (by omega)
            subst hBk
            have hRj : R[j]? = some r' := hRj0
            obtain ⟨gE, hgE⟩ : ∃ g, AE = some ⟨g, 0, none⟩ := by
              rcases HE.out.2 with ⟨h1, h2⟩ | ⟨g, cap, cur, h1, _⟩
              · omega
              · injection h1 with h1 _ _
                exact ⟨g, h1⟩
            subst hgE
            have hcj : wj.cell? (ad2.add j) = some (.slice A' n' c') := (hlj.out.cell (p := ad2.add j) (by rw [block_of_add]; exact hab)).trans hcj0
            obtain ⟨bx, hbx⟩ : ∃ bx : ByteArray, bx = ⟨r'.toArray⟩ := ⟨_, rfl⟩
            have hcs : wj.cell? ⟨gE, j, none⟩ = some (.string bx) := by
              have h1 := (own_later HE8.out hlj.out).cells (g := gE) rfl j (strS r') (strV_get hRj)
              have hadd : (⟨gE, 0, none⟩ : Addr).add j = ⟨gE, j, none⟩ := by unfold Addr.add; split <;> simp_all
              rw [hadd] at h1
              rw [h1, hbx]
              rfl
            have hC1 := (fun (W : World) (hW : ∃ q, W = wj.drewN q) => conv9 (w := W) (c := c') (by obtain ⟨q, rfl⟩ := hW; exact ((hrj.below hlj.out).drewN q)))
            have hst : strS r' = .string bx := by rw [hbx]; rfl
            simp only [hst] at hC1
            have HC1 := hide hC1
            clear hC1 hst hbx hcj0 hrj
            go_wp2_with fail
            refine wp_region_quiet_lit (by kernel_rfl) (by kernel_rfl) ?_
            iterate 4 (go_big_quiet_step (fail))
            refine quietS_conv (by rfl) 32 9 (.tmp 145) rfl _ _ rfl HC1.out ?_
            simp only [Act.put, List.setIfInBounds_toArray, List.set_cons_succ, List.set_cons_zero]
            iterate 5 (go_big_quiet_step (fail))
            refine wpQuiet_nil ?_
            rintro z7 ⟨q7, rfl⟩
            have HL7 := hide (show Below y8.heap.size y8 (wj.drewN q7) from ⟨hlj.out.os, hlj.out.tape, hlj.out.output, hlj.out.size, hlj.out.block⟩)
            go_wp2
            go_roundw
            case rel => exact ⟨j + 1, by simp, by omega, HL7⟩
            case measure => simp [intOf]; omega
          · obtain rfl : j = i := by omega
            go_wp2
            go_ret
            exact ⟨rfl, HL8.out.trans (hlj.out.mono HL8.out.size)⟩
      · have HVS := hide (And.intro hv hs)
        clear hv hs
        have hT := HTY.out
        have HKY := hide (HK.out.of_block (hT.block _ HK.out.lt HF2.out))
        have HEY := hide (own_aside HE.out hT (fun g hg h => by have h1 := (own9_block_ge HE.out hg).1; have := HFG.out g (.inl h); omega))
        have HLY := hide (below_turned HL.out HLO4.out hT HL.out.size)
        have hsc := scan_of K HBY.out HBK.out.up HBK.out.lv HVS.out.1 HVS.out.2 (some ⟨w2.heap.size, 0, none⟩) 3 3 (HKY.out.readsI (n := 3) rfl) (by omega) (by omega) (by omega)
        rw [HL1.out] at hsc
        clear hT
        refine hsc.mono ?_
        rintro _ y8 ⟨Bk, mk8, fk, rfl, hRk, hEk, hl8⟩
        have HRK := hide hRk
        have HEK := hide hEk
        have HL8 := hide (HLY.out.trans (hl8.mono HLY.out.size))
        have HE8 := hide (own_later HEY.out hl8)
        clear hsc hRk hEk hl8
        have HLX := hide HL1.out.symm
        obtain ⟨ad8, A8, n8, c8, r8, hBk8, hab8, hcj8, hRj8, hrj8⟩ := rows_at HRK.out HLX.out HEK.out (j := i) (by omega)
        have hr8 : r8 = r := by
          rw [List.getElem?_append_right (by rw [HRI.out.1]; exact Nat.le_refl _), HRI.out.1, Nat.sub_self] at hRj8
          injection hRj8 with h
          exact h.symm
        subst hr8
        subst hBk8
        have hcv8 := conv9 (c := c8) hrj8
        rw [show strS r8 = .string ub by rw [HUB.out]; rfl] at hcv8
        have HCV8 := hide hcv8
        have hadb8 := hab8
        have hb1 : ((i : Int) < (i : Int) + 1) := by omega
        have hb2 : ¬ ((i : Int) + 1 < (i : Int) + 1) := by omega
        clear hcv8 hRj8 hrj8
        go_wp2_with ((with_reducible refine at_slot 130 ?_); refine when_conv (by rfl) 32 9 (.tmp 129) rfl (.string ub) _ rfl HCV8.out ?_)
        clear hcj8
        go_loopw [22] (fun s22 wr => ∃ j : Nat, s22 = .int .i64 (j : Int) ∧ j ≤ i ∧ Hid (Below y8.heap.size y8 wr)) (fun s22 _ => i - (intOf s22).toNat)
        case atStart => exact ⟨0, rfl, Nat.zero_le _, hide (Below.refl _ _)⟩
        case round =>
          obtain ⟨j, rfl, hjl, hlj⟩ := hrel
          obtain ⟨wj, rfl⟩ : ∃ wj, wj = wr := ⟨_, rfl⟩
          by_cases hjj : j < i
          · have hjw : (j : Int) < (i : Int) := by omega
            obtain ⟨ad2, A', n', c', r', hBk, hab, hcj0, hRj0, hrj⟩ := rows_at HRK.out HLX.out HEK.out (j := j) (by omega)
            injection hBk with hBk
            subst hBk
            have hRj : R[j]? = some r' := by rwa [List.getElem?_append_left (by rw [HRI.out.1]; exact hjj)] at hRj0
            obtain ⟨gE, hgE⟩ : ∃ g, AE = some ⟨g, 0, none⟩ := by
              rcases HE.out.2 with ⟨h1, h2⟩ | ⟨g, cap, cur, h1, _⟩
              · omega
              · injection h1 with h1 _ _
                exact ⟨g, h1⟩
            subst hgE
            have hcj : wj.cell? (ad8.add j) = some (.slice A' n' c') := (hlj.out.cell (p := ad8.add j) (by rw [block_of_add]; exact hab)).trans hcj0
            obtain ⟨bx, hbx⟩ : ∃ bx : ByteArray, bx = ⟨r'.toArray⟩ := ⟨_, rfl⟩
            have hcs : wj.cell? ⟨gE, j, none⟩ = some (.string bx) := by
              have h1 := (own_later HE8.out hlj.out).cells (g := gE) rfl j (strS r') (strV_get hRj)
              have hadd : (⟨gE, 0, none⟩ : Addr).add j = ⟨gE, j, none⟩ := by unfold Addr.add; split <;> simp_all
              rw [hadd] at h1
              rw [h1, hbx]
              rfl
            have hC1 := (fun (W : World) (hW : ∃ q, W = wj.drewN q) => conv9 (w := W) (c := c') (by obtain ⟨q, rfl⟩ := hW; exact ((hrj.below hlj.out).drewN q)))
            have hst : strS r' = .string bx := by rw [hbx]; rfl
            simp only [hst] at hC1
            have HC1 := hide hC1
            clear hC1 hst hbx hcj0 hrj
            go_wp2_with fail
            refine wp_region_quiet_lit (by kernel_rfl) (by kernel_rfl) ?_
            iterate 4 (go_big_quiet_step (fail))
            refine quietS_conv (by rfl) 32 9 (.tmp 145) rfl _ _ rfl HC1.out ?_
            simp only [Act.put, List.setIfInBounds_toArray, List.set_cons_succ, List.set_cons_zero]
            iterate 5 (go_big_quiet_step (fail))
            refine wpQuiet_nil ?_
            rintro z7 ⟨q7, rfl⟩
            have HL7 := hide (show Below y8.heap.size y8 (wj.drewN q7) from ⟨hlj.out.os, hlj.out.tape, hlj.out.output, hlj.out.size, hlj.out.block⟩)
            go_wp2
            go_roundw
            case rel => exact ⟨j + 1, by simp, by omega, HL7⟩
            case measure => simp [intOf]; omega
          · obtain rfl : j = i := by omega
            go_wp2
            go_ret
            exact ⟨rfl, HL8.out.trans (hlj.out.mono HL8.out.size)⟩
#print axioms metalogLasts_walk
namespace MetalogLasts
theorem walk (A0 : Option Addr) (n0 c0 : Nat) (l0 : Nat → BsV) (a1 a2 a3 : Int) (w : World) (x0 : RowsIn w w.heap.size A0 n0 c0 l0) (b1 : -9223372036854775808 ≤ a1) (b2 : a1 ≤ 9223372036854775807) (b3 : 0 ≤ a2) (b4 : a2 ≤ 18446744073709551615) (b5 : -9223372036854775808 ≤ a3) (b6 : a3 ≤ 9223372036854775807) :
    Calls Try.prog 3 #[.slice A0 n0 c0, .int .i64 a1, .int .u64 a2, .int .i64 a3] w fun e w' => e = .returned (.bool true) ∧ Below w.heap.size w w' :=
  metalogLasts_walk logK A0 n0 c0 l0 a1 a2 a3 w x0 b1 b2 b3 b4 b5 b6
/-! The row's frame, by program: how the walk above proves the statement. -/
set_option maxRecDepth 100000 in
theorem lifted (os : Os) (started : os.Started) (H : Type) (enc : TypeId × Value → H) :
    ReturnsInHanded {} Try.checked os 3 .any (Rows.metalogLastsSpec.pre6 enc Try.prog Try.f3 Rows.metalogLastsRow.domain false) (Rows.metalogLastsSpec.post enc Try.prog Try.f3 false true false false) := by
  refine returnsInHanded_of_change (C := Try.checked) own started (by kernel_rfl) Try.func3
    (ChangeSpec.witness6 (enc := enc) (C := Try.checked) false ⟨#[], #[.slice none 0 0, .int .i64 0, .int .u64 0, .int .i64 0], []⟩ 8 (by kernel_rfl) (by kernel_rfl) (by kernel_rfl) (by kernel_rfl)) ?_
  intro W base args ds gs before hval0 hW hcnd _
  have hval : ∀ (j : Nat) t v, Try.f3.params[j]? = some t → args[j]? = some v → Value.okWide Try.prog W .any base t v := hval0
  have hW' := hW
  obtain ⟨p, q, hA0, hV, rfl, hfz, hnd⟩ := hW
  have hA : DataW.TrodAll enc Try.prog W 0 (fun _ => true) true Try.f3.params.toList args.toList ds p := hA0
  rw [Try.params3] at hA hval
  obtain ⟨v0, vs0, d0, ds0, p0, q0, hargs, rfl, rfl, h0, r0⟩ := trodAll_cons hA
  obtain ⟨v1, vs1, d1, ds1, p1, q1, rfl, rfl, rfl, h1, r1⟩ := trodAll_cons r0
  obtain ⟨v2, vs2, d2, ds2, p2, q2, rfl, rfl, rfl, h2, r2⟩ := trodAll_cons r1
  obtain ⟨v3, vs3, d3, ds3, p3, q3, rfl, rfl, rfl, h3, r3⟩ := trodAll_cons r2
  obtain ⟨rfl, rfl, rfl⟩ := trodAll_nil r3
  obtain rfl : args = #[v0, v1, v2, v3] := by cases args; simp_all
  obtain ⟨rfl, rfl⟩ := trodVars_none hV
  obtain ⟨A0, n0, c0, rfl⟩ := okWide_slice Try.underlying22 (hval 0 22 v0 rfl rfl)
  have k0 := h0
  have lt0 : ∀ x ∈ p0, x.block < W.heap.size := by obtain ⟨m, hm⟩ := k0; exact DataW.trod_lt m _ _ _ hm
  obtain ⟨l0, x0⟩ := arg_rows h0
  obtain ⟨a1, rfl, rfl, rfl, w1⟩ := open_int Try.underlying3 (hval 1 3 v1 rfl rfl) h1
  have b1 := bounds_i64 w1
  obtain ⟨a2, rfl, rfl, rfl, w2⟩ := open_int Try.underlying23 (hval 2 23 v2 rfl rfl) h2
  have b2 := bounds_u64 w2
  obtain ⟨a3, rfl, rfl, rfl, w3⟩ := open_int Try.underlying3 (hval 3 3 v3 rfl rfl) h3
  have b3 := bounds_i64 w3
  clear hA0 hval0
  refine (walk A0 n0 c0 l0 a1 a2 a3 W x0 b1.1 b1.2 b2.1 b2.2 b3.1 b3.2).mono fun e W' ⟨he, bel⟩ => ?_
  subst he
  exact ⟨_, rfl, _, _, _, [], _, [], hW', trodAll_mk1 (shut_bool Try.underlying4 _), (trodAll_cons_mk (Below.trod laidOut (by kernel_rfl) (of_decide_eq_true (by kernel_rfl)) k0 bel lt0) (trodAll_cons_mk (shut_int Try.underlying3 w1) (trodAll_cons_mk (shut_int Try.underlying23 w2) (trodAll_cons_mk (shut_int Try.underlying3 w3) trodAll_mk0)))), rfl, bel.frame _, fun h => by cases h⟩

theorem over : Rows.metalogLastsRow.holds Try.pinned (OpenSpec.ofChange Rows.metalogLastsSpec) :=
  OpenClaim.holds_of_wide 3 Try.f3 rfl rfl rfl rfl rfl rfl rfl ⟨rfl, rfl, rfl, rfl, rfl⟩ rfl rfl rfl rfl rfl (by kernel_rfl) Try.func3 (by kernel_rfl)
    (of_decide_eq_true (by kernel_rfl)) (by unfold Func.isWrapper; first | (rw [if_pos (by decide +kernel)]; kernel_rfl) | (rw [if_neg (by decide +kernel)]; exact ⟨rfl, rfl⟩))
    (fun os started H enc _ => lifted os started H enc)

/-- The statement. -/
theorem proved : Rows.MetalogLastsSaid := over
#print axioms proved
end MetalogLasts
end Go.Proofs.Ytmjdndhpnckeeaa
