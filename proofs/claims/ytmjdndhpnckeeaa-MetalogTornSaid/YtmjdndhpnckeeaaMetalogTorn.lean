/- MetalogTorn holds: with any one sector of a journal written over with noughts the records ahead of the one whose it was are told, and no others; no condition. -/
import Derived.Test.YtmjdndhpnckeeaaMetL
import Derived.Test.YtmjdndhpnckeeaaJouM
import Derived.Test.YtmjdndhpnckeeaaArgI
import Derived.StillTailTactics
import Derived.Test.YtmjdndhpnckeeaaMjK
import Derived.Test.YtmjdndhpnckeeaaRows
namespace Go.Proofs.Ytmjdndhpnckeeaa
open Go.ChangeShapes Go.WideShapes Go.ChangeAt Go.RowKit
set_option linter.unusedVariables false

theorem int9_info : ∃ i, Try.prog.info? 3 = some i ∧ i.zero = some (.int .i64 0) ∧ i.size = 1 ∧ i.bytes = 8 := ⟨(Try.prog.info? 3).get!, by kernel_rfl, by kernel_rfl, by kernel_rfl, by kernel_rfl⟩
theorem own9_slice {w : World} {base : Nat} {e : TypeId} {size : Nat} {v : Value} {n : Nat} {xs : List Value} (h : w.ownsRow base e size v n xs) : ∃ A c, v = .slice A n c ∧ n ≤ c ∧ c ≤ maxLen := by
  rcases h.2 with ⟨rfl, rfl⟩ | ⟨g, cap, cur, rfl, _, _, h1, h2, _⟩
  · exact ⟨_, _, rfl, Nat.le_refl _, Nat.zero_le _⟩
  · exact ⟨_, _, rfl, h1, h2⟩
theorem own9_block_ge {w : World} {base : Nat} {e : TypeId} {size : Nat} {v : Value} {n : Nat} {xs : List Value} (h : w.ownsRow base e size v n xs) {g : Nat} (hg : v.ownBlock = some g) : base ≤ g ∧ g < w.heap.size := h.lt g hg
theorem own_aside {w w' : World} {F : Nat → Prop} {base : Nat} {e : TypeId} {size : Nat} {v : Value} {n : Nat} {xs : List Value} (h : w.ownsRow base e size v n xs) (hu : Turn F w w') (hF : ∀ g, v.ownBlock = some g → ¬ F g) : w'.ownsRow base e size v n xs := by
  refine ⟨h.1, ?_⟩
  rcases h.2 with ⟨h1, h2⟩ | ⟨g, cap, cur, rfl, hb, hh, hr⟩
  · exact .inl ⟨h1, h2⟩
  · exact .inr ⟨g, cap, cur, rfl, hb, (hu.block g (Array.getElem?_eq_some_iff.1 hh).1 (hF g rfl)).trans hh, hr⟩
theorem mask255 (v : Int) : ∃ N : Nat, bits .and .i64 v 255 = (N : Int) ∧ N < 256 := by
  have h := i64_mask v 8 (by decide)
  have h2 : bits .and .i64 v 255 = v % 256 := h
  exact ⟨(v % 256).toNat, by rw [h2]; omega, by omega⟩
set_option maxRecDepth 100000 in
set_option maxHeartbeats 8000000 in
theorem metalogTorn_walk (K : LogK) (A : Option Addr) (nl c : Nat) (f : Nat → BsV) (at_ : Int) (w : World) (hx : RowsIn w w.heap.size A nl c f) :
    Calls Try.prog 8 #[.slice A nl c, .int .i64 at_] w fun e w' => e = .returned (.bool true) ∧ Below w.heap.size w w' := by
  have HX := hide hx
  have hnc := hx.le
  have hc63 := hx.lt
  clear hx
  obtain ⟨N0, hN0, hN256⟩ := mask255 at_
  obtain ⟨ii, hii, hiz, his, hib⟩ := int9_info
  have HII := hide hii
  have HIZ := hide hiz
  have HIS := hide his
  have HIB := hide hib
  clear hii hiz his hib
  go_enter Try.func8, Try.ntmps8
  go_wp2_with (first
    | (go_at_call 13; refine (shown9_any K w).mono ?_; rintro _ w1 ⟨rfl, hl1⟩)
    | (go_at_call 14; refine (disks_any w1 1 (by decide)).mono ?_; rintro _ w2 ⟨⟨b, F, rfl, hB2, hlo2⟩, hl2⟩))
  have hs1 := hl1.size
  have HL2 := hide (hl1.trans (hl2.mono hs1))
  have HB2 := hide hB2
  have HLO : Hid (∀ x, F x → w.heap.size ≤ x) := hide fun x hx => Nat.le_trans hs1 (hlo2 x hx)
  clear hB2 hlo2 hl1 hl2
  have hN := newRow w2 (I64 [0]) 3 (0, 0)
  show Calls _ _ _ (w2.alloc (.cells (I64 [0]).toArray 3 (0, 0))) _
  generalize w2.alloc (.cells (I64 [0]).toArray 3 (0, 0)) = w3 at hN ⊢
  obtain ⟨hl3, hz3, hr3⟩ := hN
  rw [← hz3] at hr3
  have hw2 := HL2.out.size
  have hF2 : ¬ F w2.heap.size := fun h => by have := HB2.out.1 _ h; omega
  refine (fresh_any K 1 [0] 3 w2.heap.size 1 1 (HB2.out.later hl3) HLO.out (HL2.out.trans (hl3.mono hw2)) hr3 (by omega) (by omega) (by omega) hF2 (by decide) (by decide) (by decide) (by decide)).mono ?_
  rintro _ w4 ⟨p, G, rfl, hM4, hp4, hG4, hl4⟩
  have HM4 := hide hM4
  have HFG : Hid (∀ x, F x ∨ G x → x < w4.heap.size) := hide fun x h => h.elim (fun h => hM4.bank.1 x h) (fun h => (K.own hM4.log).2 x h)
  have HGP := hide (K.own hM4.log).1
  have hww4 := hM4.low.size
  clear hr3 hl3 hM4 hp4 hG4 hl4 HL2 HB2 HLO hF2
  go_wp2_with fail
  go_loopw [8, 9, 10] (fun s8 s9 s10 wr => ∃ (i : Nat) (S : Bank) (V : LogV) (R : List (List UInt8)) (AE : Option Addr) (cE us : Nat), s8 = .slice AE i cE ∧ s9 = .int .i64 (us : Int) ∧ s10 = .int .i64 (i : Int) ∧ i ≤ 8 ∧ i ≤ nl ∧ us ≤ 48 ∧ Hid (MetIs K w F G b p noughts wr S V R (i * 240)) ∧ Hid (V.live = [0] ∧ V.gen = 3 ∧ S.armed = 0 ∧ S.dead 0 = false ∧ R.length = i ∧ usedL R ≤ i * 4 ∧ us = usedL R) ∧ Hid (wr.ownsRow w4.heap.size 3 1 (.slice AE i cE) i (I64 (endsL R))) ∧ w4.heap.size ≤ wr.heap.size) (fun _ _ s10 _ => nl - (intOf s10).toNat)
  case atStart => exact ⟨0, _, _, [], none, 0, 0, rfl, rfl, rfl, by decide, Nat.zero_le _, by decide, HM4, hide ⟨rfl, rfl, (Disks_std 1).2.2, Disks_live 1 0, rfl, by decide, rfl⟩, hide (World.ownsRow_nil _ _ _ _), Nat.le_refl _⟩
  case round =>
    obtain ⟨i, S, V, R, AE, cE, us, rfl, rfl, rfl, hi8, hin, hus48, hM, hI, hE, hz4⟩ := hrel
    obtain ⟨wo, rfl⟩ : ∃ wo, wo = wr := ⟨_, rfl⟩
    by_cases hlt : i < nl ∧ i < 8
    · have hg1 : (i : Int) < (nl : Int) := by omega
      have hg2 : (i : Int) < 8 := by omega
      obtain ⟨ad, rfl, hadb, hcells⟩ := HX.out.row (by omega)
      have HC := hide (hcells i hlt.1)
      clear hcells
      generalize f i = y at HC
      obtain ⟨yA, yn, yc, yl⟩ := y
      have hyr : Reads w w.heap.size 1 yA yn (B8 yl) := HC.out.2.reads
      have hyl : yl.length = yn := by have := hyr.1; rw [B8_length] at this; omega
      have HYR := hide hyr
      clear hyr
      have hyc : yn ≤ yc := HC.out.2.le
      have hyc2 : yc ≤ 9223372036854775807 := HC.out.2.lt
      obtain ⟨m, hm⟩ : ∃ m, m = min yn 200 := ⟨_, rfl⟩
      have HMM := hide hm
      clear hm
      go_wp2_with fail
      have hm := HMM.out
      have hc5 : wo.cell? (ad.add i) = some (.slice yA yn yc) := (hM.out.low.cell (p := ad.add i) (by rw [block_of_add]; exact hadb)).trans HC.out.1
      obtain ⟨i1, i2, i3, i4, i6, i7, i8⟩ := hI.out
      have hbl : (yl.take m).length = m := by rw [List.length_take]; omega
      have hp4 := parts_200 (n := m) (by omega)
      have HAP := hide fun (w6 : World) (hb : Below wo.heap.size wo w6) => (hM.out.later hb).took i3 (d := 0) (by rw [i1]; decide) i4 yA m yc (yl.take m) (by
        have h := ((HYR.out.head (k := m) (by omega)).below (hM.out.low.trans (hb.mono hM.out.low.size))).more (Nat.le_trans hM.out.low.size hb.size)
        rwa [Nat.mul_one, B8_take] at h) (by omega) hyc2 (by omega) (by omega) (by rw [hbl]; omega)
      obtain ⟨pn, hpn⟩ : ∃ pn, pn = partsN m := ⟨_, rfl⟩
      have hpi := partsI_nat m
      rw [← hpn] at hp4 hpi
      have HPN := hide hpn
      have HBL := hide hbl
      have hus2 : us + pn ≤ 48 := by omega
      have hum : usedL R + pn ≤ (i + 1) * 4 := by omega
      clear i1 i2 i3 i4 i6 i7 i8 hpn hbl
      by_cases hmn : yn ≤ 200
      · have hme : yn = m := by omega
        subst hme
        have hmv : min (yn : Int) 200 = (yn : Int) := by omega
        clear hm
        go_still_tail 11, (by kernel_rfl)
        change wpList _ _ _ _ _ wo.drew
        have hbd : Below wo.heap.size wo wo.drew := (Below.refl _ _).drew
        generalize wo.drew = w6 at hbd ⊢
        clear hc5
        go_wp2_with fail
        refine (HAP.out w6 hbd).mono ?_
        rintro _ w7 ⟨rfl, ⟨S7, V7, hM7, g1, g2, g3, g4⟩, hT7⟩
        have HOG : Hid (∀ g, (Value.slice AE i cE).ownBlock = some g → w4.heap.size ≤ g) := hide fun g hg => (own9_block_ge hE.out hg).1
        have hz67 := hT7.size
        have hz6 := hbd.size
        have HE7 := hide (own_aside (own_later hE.out hbd) hT7 (fun g hg h => by
          have h1 := HOG.out g hg
          rcases h with h | h
          · have := HFG.out g (.inl h); omega
          · have := HFG.out p (.inr HGP.out); omega))
        have HM7 : Hid (MetIs K w F G b p noughts w7 S7 V7 (R ++ [yl.take yn]) ((i + 1) * 240)) := hide (by rw [Nat.succ_mul]; exact hM7)
        have hule : usedL (R ++ [yl.take yn]) = us + pn := by rw [usedL_append, usedL_cons, usedL_nil, HBL.out, ← HPN.out, hI.out.2.2.2.2.2.2]; omega
        have HULE := hide hule
        have HI7 : Hid (V7.live = [0] ∧ V7.gen = 3 ∧ S7.armed = 0 ∧ S7.dead 0 = false ∧ (R ++ [yl.take yn]).length = i + 1 ∧ usedL (R ++ [yl.take yn]) ≤ (i + 1) * 4 ∧ us + pn = usedL (R ++ [yl.take yn])) := hide ⟨by rw [g1]; exact hI.out.1, by rw [g2]; exact hI.out.2.1, g4, by rw [g3.dead]; exact hI.out.2.2.2.1, by rw [List.length_append, hI.out.2.2.2.2.1]; rfl, by rw [hule, hI.out.2.2.2.2.2.2]; exact hum, hule.symm⟩
        have hlump := Reads.lump (w := w7) [.int .i64 ((us : Int) + (pn : Int))] 3 (w7.heap.size + 1) 1 (by omega) rfl
        have HLUMP := hide hlump
        have HQ := hide (show i + 1 ≤ maxLen ∧ (i + 1) * 8 ≤ 140737488355328 by simp only [maxLen]; omega)
        clear hM7 g1 g2 g3 g4 hT7 hbd HAP hlump hule hum
        go_wp2_with (first
          | (go_at_call 23; refine (recParts_any _ _).mono ?_; rintro _ _ ⟨rfl, rfl⟩; (first | rw [hpi] | rw [show partsI 200 = (pn : Int) from hpi]))
          | (refine wpList_append_row rfl (.tmp 60) (.tmp 62) 27 rfl w4.heap.size 3 ii _ 1 8 Try.underlying27 HII.out HIZ.out HIS.out HIB.out rfl (by decide) _ _ _ rfl (HE7.out.alloc _) (w7.heap.size + 1) (some ⟨w7.heap.size, 0, none⟩) 1 1 [.int .i64 ((us : Int) + (pn : Int))] rfl HLUMP.out (by intro u hu; simp at hu; rw [hu]; rfl) HQ.out.1 HQ.out.2 (by rw [World.size_alloc]; omega) ?_; intro v8 w8 hown8 hg8))
        obtain ⟨A8, c8, rfl, _, _⟩ := own9_slice hown8
        go_roundw
        case rel =>
          have hal : Below w7.heap.size w7 (w7.alloc (.cells #[.int .i64 ((us : Int) + (pn : Int))] 3)) := (Below.refl _ _).alloc (Nat.le_refl _) _
          have hTg := Turn.of_grown (F := fun x => (Value.slice AE i cE).ownBlock = some x) hg8 (fun g e => e)
          have hsz8 := hTg.size
          rw [World.size_alloc] at hsz8
          refine ⟨i + 1, S7, V7, R ++ [yl.take yn], A8, c8, us + pn, rfl, by simp, by simp, by omega, by omega, by omega, hide ((HM7.out.later hal).aside hTg (fun x hx e => by have h1 := HOG.out x e; have := HFG.out x hx; omega) (fun x e => by have h1 := HOG.out x e; omega)), HI7, hide ?_, by omega⟩
          rw [endsL_append, I64_append, HULE.out]
          have e : ((us + pn : Nat) : Int) = (us : Int) + (pn : Int) := by omega
          show World.ownsRow _ _ _ _ _ _ (I64 (endsL R) ++ [.int .i64 ((us + pn : Nat) : Int)])
          rw [e]
          exact hown8
        case measure => simp [intOf]; omega
      · have hme : 200 = m := by omega
        subst hme
        have h200 : 200 ≤ yc := by omega
        have h2w : (200 : Int) ≤ (yc : Int) := by omega
        have hmv : min (yn : Int) 200 = 200 := by omega
        clear hm
        go_still_tail 11, (by kernel_rfl)
        change wpList _ _ _ _ _ wo.drew
        have hbd : Below wo.heap.size wo wo.drew := (Below.refl _ _).drew
        generalize wo.drew = w6 at hbd ⊢
        clear hc5
        go_wp2_with fail
        refine (HAP.out w6 hbd).mono ?_
        rintro _ w7 ⟨rfl, ⟨S7, V7, hM7, g1, g2, g3, g4⟩, hT7⟩
        have HOG : Hid (∀ g, (Value.slice AE i cE).ownBlock = some g → w4.heap.size ≤ g) := hide fun g hg => (own9_block_ge hE.out hg).1
        have hz67 := hT7.size
        have hz6 := hbd.size
        have HE7 := hide (own_aside (own_later hE.out hbd) hT7 (fun g hg h => by
          have h1 := HOG.out g hg
          rcases h with h | h
          · have := HFG.out g (.inl h); omega
          · have := HFG.out p (.inr HGP.out); omega))
        have HM7 : Hid (MetIs K w F G b p noughts w7 S7 V7 (R ++ [yl.take 200]) ((i + 1) * 240)) := hide (by rw [Nat.succ_mul]; exact hM7)
        have hule : usedL (R ++ [yl.take 200]) = us + pn := by rw [usedL_append, usedL_cons, usedL_nil, HBL.out, ← HPN.out, hI.out.2.2.2.2.2.2]; omega
        have HULE := hide hule
        have HI7 : Hid (V7.live = [0] ∧ V7.gen = 3 ∧ S7.armed = 0 ∧ S7.dead 0 = false ∧ (R ++ [yl.take 200]).length = i + 1 ∧ usedL (R ++ [yl.take 200]) ≤ (i + 1) * 4 ∧ us + pn = usedL (R ++ [yl.take 200])) := hide ⟨by rw [g1]; exact hI.out.1, by rw [g2]; exact hI.out.2.1, g4, by rw [g3.dead]; exact hI.out.2.2.2.1, by rw [List.length_append, hI.out.2.2.2.2.1]; rfl, by rw [hule, hI.out.2.2.2.2.2.2]; exact hum, hule.symm⟩
        have hlump := Reads.lump (w := w7) [.int .i64 ((us : Int) + (pn : Int))] 3 (w7.heap.size + 1) 1 (by omega) rfl
        have HLUMP := hide hlump
        have HQ := hide (show i + 1 ≤ maxLen ∧ (i + 1) * 8 ≤ 140737488355328 by simp only [maxLen]; omega)
        clear hM7 g1 g2 g3 g4 hT7 hbd HAP hlump hule hum
        go_wp2_with (first
          | (go_at_call 23; refine (recParts_any _ _).mono ?_; rintro _ _ ⟨rfl, rfl⟩; (first | rw [hpi] | rw [show partsI 200 = (pn : Int) from hpi]))
          | (refine wpList_append_row rfl (.tmp 60) (.tmp 62) 27 rfl w4.heap.size 3 ii _ 1 8 Try.underlying27 HII.out HIZ.out HIS.out HIB.out rfl (by decide) _ _ _ rfl (HE7.out.alloc _) (w7.heap.size + 1) (some ⟨w7.heap.size, 0, none⟩) 1 1 [.int .i64 ((us : Int) + (pn : Int))] rfl HLUMP.out (by intro u hu; simp at hu; rw [hu]; rfl) HQ.out.1 HQ.out.2 (by rw [World.size_alloc]; omega) ?_; intro v8 w8 hown8 hg8))
        obtain ⟨A8, c8, rfl, _, _⟩ := own9_slice hown8
        go_roundw
        case rel =>
          have hal : Below w7.heap.size w7 (w7.alloc (.cells #[.int .i64 ((us : Int) + (pn : Int))] 3)) := (Below.refl _ _).alloc (Nat.le_refl _) _
          have hTg := Turn.of_grown (F := fun x => (Value.slice AE i cE).ownBlock = some x) hg8 (fun g e => e)
          have hsz8 := hTg.size
          rw [World.size_alloc] at hsz8
          refine ⟨i + 1, S7, V7, R ++ [yl.take 200], A8, c8, us + pn, rfl, by simp, by simp, by omega, by omega, by omega, hide ((HM7.out.later hal).aside hTg (fun x hx e => by have h1 := HOG.out x e; have := HFG.out x hx; omega) (fun x e => by have h1 := HOG.out x e; omega)), HI7, hide ?_, by omega⟩
          rw [endsL_append, I64_append, HULE.out]
          have e : ((us + pn : Nat) : Int) = (us : Int) + (pn : Int) := by omega
          show World.ownsRow _ _ _ _ _ _ (I64 (endsL R) ++ [.int .i64 ((us + pn : Nat) : Int)])
          rw [e]
          exact hown8
        case measure => simp [intOf]; omega
    · by_cases hin2 : i < nl
      · obtain rfl : i = 8 := by omega
        have hg1 : (8 : Int) < (nl : Int) := by omega
        by_cases hu0 : us = 0
        · have hu0w : (us : Int) = 0 := by omega
          go_wp2_with fail
          go_ret
          exact ⟨rfl, hM.out.low⟩
        · have hu0w : ¬ ((us : Int) = 0) := by omega
          obtain ⟨k, hkd⟩ : ∃ k : Nat, k = N0 % us := ⟨_, rfl⟩
          have hkl : k < us := by rw [hkd]; exact Nat.mod_lt _ (by omega)
          have hkm : (N0 : Int) % (us : Int) = (k : Int) := by rw [hkd]; rfl
          clear hkd
          obtain ⟨i1, i2, i3, i4, i6, i7, i8⟩ := hI.out
          obtain ⟨R1, r, R2, ri, hR, hkr, hri⟩ := journal_at R k (by omega)
          subst hR
          have HHE := hide hE.out
          obtain ⟨gE, hgE⟩ : ∃ g, AE = some ⟨g, 0, none⟩ := by
            rcases hE.out.2 with ⟨h1, h2⟩ | ⟨g, cap, cur, h1, _⟩
            · exfalso
              simp at i6
              omega
            · injection h1 with h1 _ _
              exact ⟨g, h1⟩
          subst hgE
          have HKR := hide hkr
          have HRI := hide hri
          have hk48 : k ≤ 48 := by omega
          have h0 := hM.out.ji.live 0 (by rw [i1]; decide)
          have h50 := hM.out.few
          have hwr : S.write 0 (2 + k) zeroSec = (0, S.tickA.put 0 (2 + k) zeroSec) := by
            rcases hM.out.ji.std.write (d := 0) (k := 2 + k) h0.1 (by omega) zeroSec with ⟨h, _⟩ | ⟨_, h, _⟩ | ⟨_, _, h⟩
            · omega
            · rw [i4] at h; cases h
            · exact h
          have HWR := hide hwr
          have HTORN := hide (hM.out.ji.torn i1 i4 hkr hri)
          rw [i2] at HTORN
          clear hkr hwr i1 i2 i3 i4 i6 i7 i8 h0 h50
          go_wp2_with fail
          rw [show (2 : Int) + (k : Int) = ((2 + k : Nat) : Int) by omega]
          refine (on_write hM.out.bank (by have := hM.out.few; omega) 0 (2 + k) zeroSec).mono ?_
          rintro _ w9 ⟨rfl, hB9, hT9⟩
          rw [HWR.out] at hB9 ⊢
          have hz9 := hT9.size
          have HE9 := hide (own_aside HHE.out hT9 (fun g hg h => by
            have h1 := (own9_block_ge HHE.out hg).1
            have := HFG.out g (.inl h)
            omega))
          have HB9 := hide hB9
          have HL9 := hide (hM.out.base.low hM.out.low (Turn.wide hT9 (fun x hx => .inl hx)))
          have hlen : (R1 ++ r :: R2).length = 8 := hI.out.2.2.2.2.1
          have HLEN := hide hlen
          clear hB9 hT9 hlen
          go_wp2_with fail
          go_loopw [13] (fun s13 wr => ∃ q : Nat, s13 = .int .i64 (q : Int) ∧ q ≤ R1.length ∧ w9 = wr) (fun s13 _ => R1.length + 1 - (intOf s13).toNat)
          case atStart => exact ⟨0, rfl, Nat.zero_le _, rfl⟩
          case round =>
            obtain ⟨q, rfl, hq, hwr9⟩ := hrel
            subst hwr9
            have hql : q < (R1 ++ r :: R2).length := by rw [List.length_append, List.length_cons]; omega
            obtain ⟨hv, hlow, hup⟩ := ends_at (R2 := R2) HKR.out HRI.out hql
            have hcell : w9.cell? ⟨gE, q, none⟩ = some (.int .i64 ((usedL ((R1 ++ r :: R2).take (q + 1)) : Nat) : Int)) := by
              have h1 := HE9.out.cells (g := gE) rfl q (.int .i64 ((usedL ((R1 ++ r :: R2).take (q + 1)) : Nat) : Int)) (by simp [I64, hv])
              have hadd : (⟨gE, 0, none⟩ : Addr).add q = ⟨gE, q, none⟩ := by unfold Addr.add; split <;> simp_all
              rwa [hadd] at h1
            have hqi : (q : Int) < (8 : Int) := by have := HLEN.out; omega
            generalize usedL ((R1 ++ r :: R2).take (q + 1)) = u at hlow hup hcell
            clear hv hql
            by_cases hq1 : q < R1.length
            · have hle : (u : Int) ≤ (k : Int) := by have := hlow hq1; omega
              have hq63 : q ≤ 100 := by have := HLEN.out; rw [List.length_append] at this; omega
              clear hlow hup
              go_wp2_with fail
              go_roundw
              case rel => exact ⟨q + 1, rfl, by omega, by trivial⟩
              case measure => simp [intOf]; omega
            · have hqe : q = R1.length := by omega
              have hgt : ¬ ((u : Int) ≤ (k : Int)) := by have := hup hqe; omega
              have HQE := hide hqe
              clear hlow hup hqe
              go_wp2_with fail
              have hN := newRow w9 (I64 [0]) 3 (0, 0)
              show Calls _ _ _ (w9.alloc (.cells (I64 [0]).toArray 3 (0, 0))) _
              generalize w9.alloc (.cells (I64 [0]).toArray 3 (0, 0)) = w10 at hN ⊢
              obtain ⟨hl10, hz10, hr10⟩ := hN
              rw [← hz10] at hr10
              have hlv := hM.out.ji.live 0 (by rw [hI.out.1]; decide)
              have hv := views_ne (S := S.tickA.put 0 (2 + k) zeroSec) (live := [0]) (d := 0) (by decide) hI.out.2.2.2.1
              refine (K.scan_any w10 b F _ (some ⟨w9.heap.size, 0, none⟩) 1 1 [0] 3 (HB9.out.later hl10) hM.out.ji.std.up hr10 (by omega) (by omega) (by omega) (fun d hd => by
                obtain rfl : d = 0 := by simpa using hd
                exact hlv)).mono ?_
              rintro _ w11 ⟨B1, m1, k1, f1, rfl, _, hR11, hl11⟩
              rw [if_neg hv, HTORN.out] at hR11
              rw [if_neg hv, if_neg hv, HTORN.out]
              have hm1 : m1 = q := by have := congrArg List.length hR11; have h2 := HQE.out; simp at this; omega
              subst hm1
              have HL11 := hide ((HL9.out.trans (hl10.mono HL9.out.size)).trans (hl11.mono (by have := HL9.out.size; omega)))
              clear hR11 hl11 hl10 hr10 hv hlv
              go_wp2_with fail
              go_ret
              exact ⟨rfl, HL11.out⟩
      · have hg1 : ¬ ((i : Int) < (nl : Int)) := by omega
        by_cases hu0 : us = 0
        · have hu0w : (us : Int) = 0 := by omega
          go_wp2_with fail
          go_ret
          exact ⟨rfl, hM.out.low⟩
        · have hu0w : ¬ ((us : Int) = 0) := by omega
          obtain ⟨k, hkd⟩ : ∃ k : Nat, k = N0 % us := ⟨_, rfl⟩
          have hkl : k < us := by rw [hkd]; exact Nat.mod_lt _ (by omega)
          have hkm : (N0 : Int) % (us : Int) = (k : Int) := by rw [hkd]; rfl
          clear hkd
          obtain ⟨i1, i2, i3, i4, i6, i7, i8⟩ := hI.out
          obtain ⟨R1, r, R2, ri, hR, hkr, hri⟩ := journal_at R k (by omega)
          subst hR
          have HHE := hide hE.out
          obtain ⟨gE, hgE⟩ : ∃ g, AE = some ⟨g, 0, none⟩ := by
            rcases hE.out.2 with ⟨h1, h2⟩ | ⟨g, cap, cur, h1, _⟩
            · exfalso
              simp at i6
              omega
            · injection h1 with h1 _ _
              exact ⟨g, h1⟩
          subst hgE
          have HKR := hide hkr
          have HRI := hide hri
          have hk48 : k ≤ 48 := by omega
          have h0 := hM.out.ji.live 0 (by rw [i1]; decide)
          have h50 := hM.out.few
          have hwr : S.write 0 (2 + k) zeroSec = (0, S.tickA.put 0 (2 + k) zeroSec) := by
            rcases hM.out.ji.std.write (d := 0) (k := 2 + k) h0.1 (by omega) zeroSec with ⟨h, _⟩ | ⟨_, h, _⟩ | ⟨_, _, h⟩
            · omega
            · rw [i4] at h; cases h
            · exact h
          have HWR := hide hwr
          have HTORN := hide (hM.out.ji.torn i1 i4 hkr hri)
          rw [i2] at HTORN
          clear hkr hwr i1 i2 i3 i4 i6 i7 i8 h0 h50
          go_wp2_with fail
          rw [show (2 : Int) + (k : Int) = ((2 + k : Nat) : Int) by omega]
          refine (on_write hM.out.bank (by have := hM.out.few; omega) 0 (2 + k) zeroSec).mono ?_
          rintro _ w9 ⟨rfl, hB9, hT9⟩
          rw [HWR.out] at hB9 ⊢
          have hz9 := hT9.size
          have HE9 := hide (own_aside HHE.out hT9 (fun g hg h => by
            have h1 := (own9_block_ge HHE.out hg).1
            have := HFG.out g (.inl h)
            omega))
          have HB9 := hide hB9
          have HL9 := hide (hM.out.base.low hM.out.low (Turn.wide hT9 (fun x hx => .inl hx)))
          have hlen : (R1 ++ r :: R2).length = i := hI.out.2.2.2.2.1
          have HLEN := hide hlen
          clear hB9 hT9 hlen
          go_wp2_with fail
          go_loopw [13] (fun s13 wr => ∃ q : Nat, s13 = .int .i64 (q : Int) ∧ q ≤ R1.length ∧ w9 = wr) (fun s13 _ => R1.length + 1 - (intOf s13).toNat)
          case atStart => exact ⟨0, rfl, Nat.zero_le _, rfl⟩
          case round =>
            obtain ⟨q, rfl, hq, hwr9⟩ := hrel
            subst hwr9
            have hql : q < (R1 ++ r :: R2).length := by rw [List.length_append, List.length_cons]; omega
            obtain ⟨hv, hlow, hup⟩ := ends_at (R2 := R2) HKR.out HRI.out hql
            have hcell : w9.cell? ⟨gE, q, none⟩ = some (.int .i64 ((usedL ((R1 ++ r :: R2).take (q + 1)) : Nat) : Int)) := by
              have h1 := HE9.out.cells (g := gE) rfl q (.int .i64 ((usedL ((R1 ++ r :: R2).take (q + 1)) : Nat) : Int)) (by simp [I64, hv])
              have hadd : (⟨gE, 0, none⟩ : Addr).add q = ⟨gE, q, none⟩ := by unfold Addr.add; split <;> simp_all
              rwa [hadd] at h1
            have hqi : (q : Int) < (i : Int) := by have := HLEN.out; omega
            generalize usedL ((R1 ++ r :: R2).take (q + 1)) = u at hlow hup hcell
            clear hv hql
            by_cases hq1 : q < R1.length
            · have hle : (u : Int) ≤ (k : Int) := by have := hlow hq1; omega
              have hq63 : q ≤ 100 := by have := HLEN.out; rw [List.length_append] at this; omega
              clear hlow hup
              go_wp2_with fail
              go_roundw
              case rel => exact ⟨q + 1, rfl, by omega, by trivial⟩
              case measure => simp [intOf]; omega
            · have hqe : q = R1.length := by omega
              have hgt : ¬ ((u : Int) ≤ (k : Int)) := by have := hup hqe; omega
              have HQE := hide hqe
              clear hlow hup hqe
              go_wp2_with fail
              have hN := newRow w9 (I64 [0]) 3 (0, 0)
              show Calls _ _ _ (w9.alloc (.cells (I64 [0]).toArray 3 (0, 0))) _
              generalize w9.alloc (.cells (I64 [0]).toArray 3 (0, 0)) = w10 at hN ⊢
              obtain ⟨hl10, hz10, hr10⟩ := hN
              rw [← hz10] at hr10
              have hlv := hM.out.ji.live 0 (by rw [hI.out.1]; decide)
              have hv := views_ne (S := S.tickA.put 0 (2 + k) zeroSec) (live := [0]) (d := 0) (by decide) hI.out.2.2.2.1
              refine (K.scan_any w10 b F _ (some ⟨w9.heap.size, 0, none⟩) 1 1 [0] 3 (HB9.out.later hl10) hM.out.ji.std.up hr10 (by omega) (by omega) (by omega) (fun d hd => by
                obtain rfl : d = 0 := by simpa using hd
                exact hlv)).mono ?_
              rintro _ w11 ⟨B1, m1, k1, f1, rfl, _, hR11, hl11⟩
              rw [if_neg hv, HTORN.out] at hR11
              rw [if_neg hv, if_neg hv, HTORN.out]
              have hm1 : m1 = q := by have := congrArg List.length hR11; have h2 := HQE.out; simp at this; omega
              subst hm1
              have HL11 := hide ((HL9.out.trans (hl10.mono HL9.out.size)).trans (hl11.mono (by have := HL9.out.size; omega)))
              clear hR11 hl11 hl10 hr10 hv hlv
              go_wp2_with fail
              go_ret
              exact ⟨rfl, HL11.out⟩
#print axioms metalogTorn_walk
namespace MetalogTorn
theorem walk (A0 : Option Addr) (n0 c0 : Nat) (l0 : Nat → BsV) (a1 : Int) (w : World) (x0 : RowsIn w w.heap.size A0 n0 c0 l0) (_ : -9223372036854775808 ≤ a1) (_ : a1 ≤ 9223372036854775807) :
    Calls Try.prog 8 #[.slice A0 n0 c0, .int .i64 a1] w fun e w' => e = .returned (.bool true) ∧ Below w.heap.size w w' :=
  metalogTorn_walk logK A0 n0 c0 l0 a1 w x0
/-! The row's frame, by program: how the walk above proves the statement. -/
set_option maxRecDepth 100000 in
theorem lifted (os : Os) (started : os.Started) (H : Type) (enc : TypeId × Value → H) :
    ReturnsInHanded {} Try.checked os 8 .any (Rows.metalogTornSpec.pre6 enc Try.prog Try.f8 Rows.metalogTornRow.domain false) (Rows.metalogTornSpec.post enc Try.prog Try.f8 false true false false) := by
  refine returnsInHanded_of_change (C := Try.checked) own started (by kernel_rfl) Try.func8
    (ChangeSpec.witness6 (enc := enc) (C := Try.checked) false ⟨#[], #[.slice none 0 0, .int .i64 0], []⟩ 8 (by kernel_rfl) (by kernel_rfl) (by kernel_rfl) (by kernel_rfl)) ?_
  intro W base args ds gs before hval0 hW hcnd _
  have hval : ∀ (j : Nat) t v, Try.f8.params[j]? = some t → args[j]? = some v → Value.okWide Try.prog W .any base t v := hval0
  have hW' := hW
  obtain ⟨p, q, hA0, hV, rfl, hfz, hnd⟩ := hW
  have hA : DataW.TrodAll enc Try.prog W 0 (fun _ => true) true Try.f8.params.toList args.toList ds p := hA0
  rw [Try.params8] at hA hval
  obtain ⟨v0, vs0, d0, ds0, p0, q0, hargs, rfl, rfl, h0, r0⟩ := trodAll_cons hA
  obtain ⟨v1, vs1, d1, ds1, p1, q1, rfl, rfl, rfl, h1, r1⟩ := trodAll_cons r0
  obtain ⟨rfl, rfl, rfl⟩ := trodAll_nil r1
  obtain rfl : args = #[v0, v1] := by cases args; simp_all
  obtain ⟨rfl, rfl⟩ := trodVars_none hV
  obtain ⟨A0, n0, c0, rfl⟩ := okWide_slice Try.underlying22 (hval 0 22 v0 rfl rfl)
  have k0 := h0
  have lt0 : ∀ x ∈ p0, x.block < W.heap.size := by obtain ⟨m, hm⟩ := k0; exact DataW.trod_lt m _ _ _ hm
  obtain ⟨l0, x0⟩ := arg_rows h0
  obtain ⟨a1, rfl, rfl, rfl, w1⟩ := open_int Try.underlying3 (hval 1 3 v1 rfl rfl) h1
  have b1 := bounds_i64 w1
  clear hA0 hval0
  refine (walk A0 n0 c0 l0 a1 W x0 b1.1 b1.2).mono fun e W' ⟨he, bel⟩ => ?_
  subst he
  exact ⟨_, rfl, _, _, _, [], _, [], hW', trodAll_mk1 (shut_bool Try.underlying4 _), (trodAll_cons_mk (Below.trod laidOut (by kernel_rfl) (of_decide_eq_true (by kernel_rfl)) k0 bel lt0) (trodAll_cons_mk (shut_int Try.underlying3 w1) trodAll_mk0)), rfl, bel.frame _, fun h => by cases h⟩

theorem over : Rows.metalogTornRow.holds Try.pinned (OpenSpec.ofChange Rows.metalogTornSpec) :=
  OpenClaim.holds_of_wide 8 Try.f8 rfl rfl rfl rfl rfl rfl rfl ⟨rfl, rfl, rfl, rfl, rfl⟩ rfl rfl rfl rfl rfl (by kernel_rfl) Try.func8 (by kernel_rfl)
    (of_decide_eq_true (by kernel_rfl)) (by unfold Func.isWrapper; first | (rw [if_pos (by decide +kernel)]; kernel_rfl) | (rw [if_neg (by decide +kernel)]; exact ⟨rfl, rfl⟩))
    (fun os started H enc _ => lifted os started H enc)

/-- The statement. -/
theorem proved : Rows.MetalogTornSaid := over
#print axioms proved
end MetalogTorn
end Go.Proofs.Ytmjdndhpnckeeaa
