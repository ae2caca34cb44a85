/- CheckTorn holds: with any one sector of a checkpoint written over with noughts on all members Load does not tell it, and Seen tells what was met; no condition. -/
import Derived.Test.YtmjdndhpnckeeaaChkC
import Derived.Deep.DeepCutAuto
import Derived.Test.YtmjdndhpnckeeaaArg
import Derived.Test.YtmjdndhpnckeeaaChkK
import Derived.Test.YtmjdndhpnckeeaaRows
namespace Go.Proofs.Ytmjdndhpnckeeaa
open Go.ChangeShapes Go.WideShapes Go.ChangeAt Go.RowKit
set_option linter.unusedVariables false

theorem mask255t (v : Int) : ∃ N : Nat, bits .and .i64 v 255 = (N : Int) ∧ N < 256 := by
  have h := i64_mask v 8 (by decide)
  have h2 : bits .and .i64 v 255 = v % 256 := h
  exact ⟨(v % 256).toNat, by rw [h2]; omega, by omega⟩
def oldL : List UInt8 := [111, 108, 100]
theorem place_one9 (k : Int) (d : Int) : ∀ v ∈ [Value.int .i64 d, .int .i64 k], v.oneCell' = true := by
  intro v hv
  simp at hv
  rcases hv with rfl | rfl <;> rfl
theorem place_zero9 (w : World) : (zeroValue 49).run Try.prog w = .ok (.agg #[.int .i64 0, .int .i64 0]) w := by kernel_rfl
theorem place_info9 : (Try.prog.info? 49).map (·.size) = some 2 := by kernel_rfl
theorem built_place9 (d k : Int) : Try.prog.built 49 [(0, .int .i64 d), (1, .int .i64 k)] = some #[.int .i64 d, .int .i64 k] := by kernel_rfl
/-- A sector of noughts is written to one that lives, no fall armed. -/
theorem put_zero {S : Bank} (hS : Std S) (h0 : S.armed = 0) {d q : Nat} (hd : d < S.n) (hq : q < S.size d) (hx : S.dead d = false) (s : Sec) : S.write d q s = (0, S.tickA.put d q s) := by
  rcases hS.write (d := d) (k := q) hd hq s with ⟨h, _⟩ | ⟨_, h, _⟩ | ⟨_, _, h⟩
  · omega
  · rw [hx] at h; cases h
  · exact h
theorem newest_put (S : Bank) (d q : Nat) (s : Sec) (i j : Nat) : ((S.tickA.put d q s).newest i j) = if i = d ∧ j = q then s else S.newest i j := rfl
set_option maxRecDepth 100000 in
set_option maxHeartbeats 8000000 in
theorem checkTorn_walk (K : CheckK) (A : Option Addr) (n c : Nat) (l : List UInt8) (at_ : Int) (bo : Bool) (w : World) (hr : Reads w w.heap.size 1 A n (B8 l)) (hc : n ≤ c) (hcm : c ≤ 9223372036854775807) :
    Calls Try.prog 12 #[.slice A n c, .int .i64 at_, .bool bo] w fun e w' => e = .returned (.bool true) ∧ Below w.heap.size w w' := by
  have HS := hide (shown10_any K w)
  have HR := hide hr
  obtain ⟨N0, hN0, hN256⟩ := mask255t at_
  clear hr
  go_enter Try.func12, Try.ntmps12
  go_upto_region 5 with (first
    | (go_at_call 27; refine HS.out.mono ?_; rintro _ w1 ⟨rfl, hl1⟩)
    | (go_at_call 28; refine (disks_any w1 2 (by decide)).mono ?_; rintro _ w2 ⟨⟨b, F, rfl, hB2, hlo2⟩, hl2⟩))
  have hs1 := hl1.size
  have HI2 : Hid (CkIs w F b w2 (Disks 2) [0, 1] noC 0) := hide { lo := fun x hx => Nat.le_trans hs1 (hlo2 x hx), bank := hB2, ck := Disks_ck 2 [0, 1] (by decide), few := Nat.le_of_eq (Disks_std 2).2.1, low := hl1.trans (hl2.mono hs1) }
  clear hB2 hlo2 hl1 hl2 hs1
  go_cut [0] (fun v0 wx => w2 = wx ∧ ∃ m : Nat, m ≤ n ∧ m ≤ 600 ∧ v0 = .slice A m c)
  case first =>
    by_cases hmn : (n : Int) ≤ 600
    · go_wp2_with fail
      go_meet
      case rel => exact ⟨rfl, (min (n : Int) 600).toNat, by omega, by omega, rfl⟩
    · go_wp2_with fail
      go_meet
      case rel => exact ⟨rfl, (min (n : Int) 600).toNat, by omega, by omega, rfl⟩
  case rest =>
    obtain ⟨rfl, m, hmn, hm600, rfl⟩ := hcut
    have hh := HR.out.head (k := m) hmn
    rw [Nat.mul_one, B8_take] at hh
    obtain ⟨xa, hxa⟩ : ∃ xa, xa = l.take m := ⟨_, rfl⟩
    rw [← hxa] at hh
    have hxl : xa.length = m := by have := hh.1; rw [B8_length] at this; omega
    have HXA := hide hh
    have HXL := hide (show xa.length ≤ 1696 by omega)
    obtain ⟨Np, hNp⟩ : ∃ Np, Np = partsN xa.length := ⟨_, rfl⟩
    have hNpi : partsI (m : Int) = (Np : Int) := by rw [hNp, hxl]; exact partsI_nat m
    have hp32 := parts_32 HXL.out
    rw [← hNp] at hp32
    have hmax : max (1 : Int) (((m : Int) + 52) / 53) = (Np : Int) := by
      unfold partsI at hNpi
      rw [if_neg (by omega)] at hNpi
      split at hNpi <;> omega
    obtain ⟨k, hkd⟩ : ∃ k : Nat, k = N0 % Np := ⟨_, rfl⟩
    have hkl : k < Np := by rw [hkd]; exact Nat.mod_lt _ (by omega)
    have hkm : (N0 : Int) % (Np : Int) = (k : Int) := by rw [hkd]; rfl
    have hNpw : ¬ ((Np : Int) = 0) := by omega
    have HNP := hide hNp
    have hk32 : k < 32 := by omega
    have HP32 := hide hp32
    clear hh hxa HR hxl hNp hNpi hkd hp32
    have kc := fun (w : World) (C : Array Value) (n c : Nat) => Lib.run_convert_bytes_const (P := Try.prog) w 32 5 C n c Try.underlying32 Try.underlying5
    go_wp2_with ((with_reducible refine at_slot 32 ?_); have hN6 := newRow9 w2 (I64 [0, 1]) 3 (0, 0); have hbk : Blk (w2.alloc (.cells (I64 [0, 1]).toArray 3 (0, 0))) w2.heap.size 3 (I64 [0, 1]).toArray := Blk.new _ _ _; show wpList _ _ _ _ _ (w2.alloc (.cells (I64 [0, 1]).toArray 3 (0, 0))); generalize w2.alloc (.cells (I64 [0, 1]).toArray 3 (0, 0)) = w3 at hN6 hbk ⊢; obtain ⟨hl3, hz3, hr3⟩ := hN6; have HZ3 := hide hz3; clear hz3 hr3)
    clear kc
    have hN := newRow9 w3 (B8 oldL) 5 (3, 4)
    show Calls _ _ _ (w3.alloc (.cells (B8 oldL).toArray 5 (3, 4))) _
    generalize w3.alloc (.cells (B8 oldL).toArray 5 (3, 4)) = w3b at hN ⊢
    obtain ⟨hl3b, hz3b, hr3b⟩ := hN
    rw [← hz3b] at hr3b
    have hF2 : ¬ F w2.heap.size := fun hf => absurd (HI2.out.bank.1 _ hf) (Nat.lt_irrefl _)
    have hF3 : ¬ F w3.heap.size := fun hf => by have h1 := HI2.out.bank.1 _ hf; have h2 := HZ3.out; omega
    have HI3 := hide ((HI2.out.later hl3).later hl3b)
    have HK3 := hide (hbk.below hl3b hbk.lt)
    have hsv := HI3.out.save K (Disks_std 2).2.2 (by decide) (by decide) (by decide) (a := 0) (g := 4) (x := oldL) (by decide) (by decide) (by decide) (by decide) (some ⟨w2.heap.size, 0, none⟩) 2 2 (Blk.readsI9 (xs := [0, 1]) HK3.out rfl) (by omega) (by omega) (by omega) (fun ad e _ hf => by injection e with e; subst e; exact hF2 hf) (some ⟨w3.heap.size, 0, none⟩) 3 3 hr3b (by omega) (by omega) (fun ad e _ hf => by injection e with e; subst e; exact hF3 hf)
    refine hsv.mono ?_
    rintro _ w4 ⟨rfl, ⟨S4, hI4, _, hA4⟩, hT4⟩
    have HI4 := hide hI4
    have HK4 := hide (HK3.out.of_block (hT4.block _ HK3.out.lt hF2))
    have HA4 := hide hA4
    clear hsv hr3b hl3 hl3b hz3b hbk hI4 hA4 hT4 HK3 HI3 hF3
    go_wp2_with fail
    have hsv := HI4.out.save K HA4.out (by decide) (by decide) (by decide) (a := 1) (g := 5) (x := xa) (by decide) HXL.out (by decide) (by decide) (some ⟨w2.heap.size, 0, none⟩) 2 2 (Blk.readsI9 (xs := [0, 1]) HK4.out rfl) (by omega) (by omega) (by omega) (fun ad e _ hf => by injection e with e; subst e; exact hF2 hf) A m c ((HXA.out.below HI4.out.low).more HI4.out.low.size) (by omega) hcm (HXA.out.far HI4.out.lo)
    refine hsv.mono ?_
    rintro _ w5 ⟨rfl, ⟨S5, hI5, _, hA5⟩, hT5⟩
    have HI5 := hide hI5
    have HA5 := hide hA5
    have HK5 := hide (HK4.out.of_block (hT5.block _ HK4.out.lt hF2))
    have h50 : 50 + (32 + k) < 50 + 64 := by omega
    have hlv := hI5.ck.lv
    have hal := hI5.ck.alive
    have hw1 := put_zero hI5.ck.std hA5 (d := 0) (q := 50 + (32 + k)) (hlv 0 (by decide)).1 (by have := (hlv 0 (by decide)).2; omega) (hal 0 (by decide)) zeroSec
    have HWR := hide (fun (wq : World) (h : BankOn wq b F S5) => on_write h (by have := hI5.few; omega) 0 (50 + (32 + k)) zeroSec)
    rw [hw1] at HWR
    have hst1 : Std (S5.tickA.put 0 (50 + (32 + k)) zeroSec) := hI5.ck.std.tickA.put 0 _ zeroSec
    obtain ⟨S6, hS6⟩ : ∃ S6, S6 = S5.tickA.put 0 (50 + (32 + k)) zeroSec := ⟨_, rfl⟩
    rw [← hS6] at HWR hst1
    have hA6 : S6.armed = 0 := by rw [hS6]; show S5.armed - 1 = 0; omega
    have hf6 : S6.writes ≤ 1000 := by rw [hS6]; show S5.writes + 1 ≤ 1000; have := hI5.few; omega
    have hlv6 : ∀ d ∈ ([0, 1] : List Nat), d < S6.n ∧ 114 ≤ S6.size d := by rw [hS6]; exact hlv
    have hal6 : ∀ d ∈ ([0, 1] : List Nat), S6.dead d = false := by rw [hS6]; exact hal
    have hnw6 : ∀ i j, S6.newest i j = if i = 0 ∧ j = 50 + (32 + k) then zeroSec else S5.newest i j := by rw [hS6]; exact newest_put S5 0 _ zeroSec
    have hat : (82 : Int) + (k : Int) = ((50 + (32 + k) : Nat) : Int) := by omega
    have HAT := hide hat
    obtain ⟨U, hU⟩ : ∃ U, U = secL zeroSec := ⟨_, rfl⟩
    have hsv2 : secV zeroSec = .agg U.toArray := by rw [hU]; rfl
    have HBZ := hide (show Try.prog.built 51 [] = some U.toArray by rw [hU]; exact built_zero)
    rw [hsv2, ← hat] at HWR
    have HNW := hide hnw6
    have HCS := hide hI5.ck
    have HST6 := hide (show Std S6 ∧ S6.armed = 0 ∧ S6.writes ≤ 1000 ∧ (∀ d ∈ ([0, 1] : List Nat), d < S6.n ∧ 114 ≤ S6.size d) ∧ (∀ d ∈ ([0, 1] : List Nat), S6.dead d = false) from ⟨hst1, hA6, hf6, hlv6, hal6⟩)
    have HSV2 := hide hsv2
    clear hsv hI5 hA5 hT5 HK4 HI4 h50 hlv hal hw1 hst1 hS6 hA6 hf6 hlv6 hal6 hnw6 hat hU hsv2
    cases bo with
    | false =>
      go_wp2_with (first
          | ((with_reducible refine at_slot 49 ?_); refine wpList_build_is rfl 49 _ rfl _ rfl _ (built_place9 _ _) ?_)
          | ((with_reducible refine at_slot 13 ?_); refine wpList_alloc_blk rfl 49 rfl _ (place_zero9 _) ?_; intro y1 hp1q hlp1 hsp1; have hp1 : Blk y1 w5.heap.size 49 #[.int .i64 0, .int .i64 0] := hp1q; have hyz1 := hp1q.lt; clear hsp1 hp1q)
          | ((with_reducible refine at_store 13 ?_); refine wpList_store_all rfl 49 (.tmp 13) (.tmp 49) rfl w5.heap.size 49 _ hp1 rfl [.int .i64 0, .int .i64 (82 + (k : Int))] rfl place_info9 rfl (place_one9 _ _) ?_; intro y2 hp2 hgp2 hsp2; have hlp2 : Below w5.heap.size w5 y2 := hlp1.grown hgp2 (by omega) (fun g e => by injection e with e; omega); have hyz2 := hp2.lt; have HP2 := hide hp2; have HI6 := hide (HI5.out.later hlp2); have HK6 := hide (HK5.out.below hlp2 HK5.out.lt); have hFp : ¬ F w5.heap.size := fun hf => absurd (HI5.out.bank.1 _ hf) (Nat.lt_irrefl _); clear hp1 hlp1 hgp2 hsp2 hp2 hlp2)
          | ((with_reducible refine at_slot 51 ?_); refine wpList_load_blk rfl 49 (.tmp 13) rfl w5.heap.size 0 49 _ HP2.out rfl [.int .i64 0, .int .i64 (82 + (k : Int))] _ (fun j v hj => by rw [Nat.zero_add]; simpa using hj) Try.underlying49 rfl place_info9 ?_)
          | ((with_reducible refine at_slot 52 ?_); refine wpList_build_is rfl 51 #[] rfl [] (by simp) U.toArray HBZ.out ?_)
          | (go_at_call 26; refine (HWR.out y2 HI6.out.bank).mono ?_; rintro _ w6 ⟨rfl, hB6, hT6⟩; have HB6 := hide hB6; have HK7 := hide (HK6.out.of_block (hT6.block _ HK6.out.lt hF2)); have HL6 := hide (HI6.out.turned hT6); clear hB6 hT6))
      have hlt := load_torn (D := [0, 1]) (V := viewsC S6 [0, 1]) (g := 4) (x := oldL) (h := 5) (k := k) (y := xa) (Z := fun d => d == 0) (C := fun d j => if (d == 0) = true ∧ j = 32 + k then List.replicate 64 0 else putC (putC noC 0 4 oldL) 1 5 xa d j) (fun d _ j _ => rfl) ?_ (by decide) (by decide) HXL.out (by decide) (by decide) (by decide) (by rw [← HNP.out]; exact hkl)
      rotate_left
      · have hnew : ∀ d ∈ ([0, 1] : List Nat), ∀ j, j < 64 → (S6.newest d (50 + j)).1 = if (d == 0) = true ∧ j = 32 + k then List.replicate 64 0 else putC (putC noC 0 4 oldL) 1 5 xa d j := fun d hd j hj => by
          rw [HNW.out]
          by_cases hz : d = 0 ∧ j = 32 + k
          · rw [if_pos ⟨hz.1, by omega⟩, if_pos ⟨by rw [hz.1]; rfl, hz.2⟩]
            rfl
          · rw [if_neg (fun h => hz ⟨h.1, by omega⟩), if_neg (fun h => hz ⟨by simpa using h.1, h.2⟩)]
            exact HCS.out.newest hd hj
        refine ⟨fun v hv => ?_, fun d hd => ⟨_, viewsC_mem.2 ⟨d, hd, HST6.out.2.2.2.2 d hd, rfl⟩, fun j hj => hnew d hd j hj⟩⟩
        obtain ⟨d, hd, _, rfl⟩ := viewsC_mem.1 hv
        exact ⟨d, hd, fun j hj => hnew d hd j hj⟩
      obtain ⟨le, _, lg, lb⟩ := hlt.2 ⟨1, by decide, rfl⟩
      have hld := K.load_any w6 b F S6 (some ⟨w2.heap.size, 0, none⟩) 2 2 [0, 1] HB6.out HST6.out.1.up (Blk.readsI9 (xs := [0, 1]) HK7.out rfl) (by omega) (by omega) (by omega) HST6.out.2.2.2.1 (by decide)
      generalize loadR (viewsC S6 [0, 1]) = L at hld le lg lb hlt
      rw [le, lb] at hld
      have HLD := hide hld
      have HLG := hide lg
      obtain ⟨bx, hbx⟩ : ∃ bx : ByteArray, bx = ⟨xa.toArray⟩ := ⟨_, rfl⟩
      have HLB := hide (show strS xa = .string bx by rw [hbx]; rfl)
      have hcvA := fun (w' : World) (hb : Below w.heap.size w w') => conv9 (c := c) (HXA.out.below hb)
      rw [HLB.out] at hcvA
      have HCA := hide hcvA
      clear hld hlt le lg lb hcvA hbx
      go_wp2_with (first
          | (go_at_call 30; refine HLD.out.mono ?_; rintro _ w8 ⟨B8_, m8, q8, rfl, hrB, _, _, _, hl8⟩; have HRB := hide hrB; have HL8 := hide (HL6.out.trans (hl8.mono HL6.out.size)); clear hrB hl8)
          | ((with_reducible refine at_slot 14 ?_); refine wpList_alloc_blk rfl 55 rfl _ (found_zero _) ?_; intro x4 hb4 hl4 hs4; clear hs4)
          | ((with_reducible refine at_store 14 ?_); refine wpList_store_all rfl 55 (.tmp 14) (.tmp 64) rfl w8.heap.size 55 _ hb4 rfl (foundC L B8_ m8 q8) rfl found_info rfl (foundC_one _ _ _ _) ?_; intro x5 hb5 hg5 hs5; have hy4 := hb4.lt; have hl35 : Below w8.heap.size w8 x5 := hl4.grown hg5 (by omega) (fun g e => by injection e with e; omega); have HL9 := hide (HL8.out.trans (hl35.mono HL8.out.size)); have z1 := found_c1 hb5; have z2 := found_c2 hb5; rw [HLG.out] at z1; have hcv := conv9 (c := q8) (HRB.out.below hl35); rw [HLB.out] at hcv; have HCV := hide hcv; clear hb4 hl4 hb5 hg5 hs5 hl35 hcv)
          | ((with_reducible refine at_slot 92 ?_); refine when_conv (by rfl) 32 9 (.tmp 91) rfl _ _ rfl HCV.out ?_)
          | ((with_reducible refine at_slot 94 ?_); refine when_conv (by rfl) 32 9 (.tmp 93) rfl _ _ rfl (HCA.out x5 HL9.out) ?_))
      go_ret
      exact ⟨by simp, HL9.out⟩
    | true =>
      have hw2 := put_zero HST6.out.1 HST6.out.2.1 (d := 1) (q := 50 + (32 + k)) (HST6.out.2.2.2.1 1 (by decide)).1 (by have := (HST6.out.2.2.2.1 1 (by decide)).2; omega) (HST6.out.2.2.2.2 1 (by decide)) zeroSec
      have HWR2 := hide (fun (wq : World) (h : BankOn wq b F S6) => on_write h (by have := HST6.out.2.2.1; omega) 1 (50 + (32 + k)) zeroSec)
      rw [hw2] at HWR2
      have hst2 : Std (S6.tickA.put 1 (50 + (32 + k)) zeroSec) := HST6.out.1.tickA.put 1 _ zeroSec
      obtain ⟨S7, hS7⟩ : ∃ S7, S7 = S6.tickA.put 1 (50 + (32 + k)) zeroSec := ⟨_, rfl⟩
      rw [← hS7] at HWR2 hst2
      have hlv7 : ∀ d ∈ ([0, 1] : List Nat), d < S7.n ∧ 114 ≤ S7.size d := by rw [hS7]; exact HST6.out.2.2.2.1
      have hal7 : ∀ d ∈ ([0, 1] : List Nat), S7.dead d = false := by rw [hS7]; exact HST6.out.2.2.2.2
      have hnw7 : ∀ i j, S7.newest i j = if i = 1 ∧ j = 50 + (32 + k) then zeroSec else S6.newest i j := by rw [hS7]; exact newest_put S6 1 _ zeroSec
      rw [HSV2.out, ← HAT.out] at HWR2
      have HNW7 := hide hnw7
      have HST7 := hide (show Std S7 ∧ (∀ d ∈ ([0, 1] : List Nat), d < S7.n ∧ 114 ≤ S7.size d) ∧ (∀ d ∈ ([0, 1] : List Nat), S7.dead d = false) from ⟨hst2, hlv7, hal7⟩)
      clear hw2 hst2 hS7 hlv7 hal7 hnw7
      go_wp2_with (first
          | ((with_reducible refine at_slot 57 ?_); have hp7 : Blk (w6.setCell ⟨w5.heap.size, 0, none⟩ (.int .i64 1)) w5.heap.size 49 #[.int .i64 1, .int .i64 (82 + (k : Int))] := HP6.out.set_ 0 (.int .i64 1); have hT7 := Turn.set (F := fun x => x = w5.heap.size) (Turn.refl _ w6) (⟨w5.heap.size, 0, none⟩ : Addr) (.inl rfl) (.int .i64 1); show wpList _ _ _ _ _ (w6.setCell ⟨w5.heap.size, 0, none⟩ (.int .i64 1)); generalize w6.setCell (⟨w5.heap.size, 0, none⟩ : Addr) (.int .i64 1) = y7 at hp7 hT7 ⊢; have HB7 := hide (HB6.out.kept hT7 (fun x hx e => hpF6 (e ▸ hx))); have HK9 := hide (HK7.out.of_block (hT7.block _ HK7.out.lt (fun e => absurd HK5.out.lt (by rw [e]; exact Nat.lt_irrefl _)))); have HL7 := hide (below_turned HL6.out (fun x e => by rw [e]; exact HI5.out.low.size) hT7 HL6.out.size); refine wpList_load_blk rfl 49 (.tmp 13) rfl w5.heap.size 0 49 _ hp7 rfl [.int .i64 1, .int .i64 (82 + (k : Int))] _ (fun j v hj => by rw [Nat.zero_add]; simpa using hj) Try.underlying49 rfl place_info9 ?_; clear hp7 hT7)
          | ((with_reducible refine at_slot 58 ?_); refine wpList_build_is rfl 51 #[] rfl [] (by simp) U.toArray HBZ.out ?_)
          | (go_at_call 26; refine (HWR2.out y7 HB7.out).mono ?_; rintro _ w7 ⟨rfl, hB8, hT8⟩; have HB8 := hide hB8; have HKA := hide (HK9.out.of_block (hT8.block _ HK9.out.lt hF2)); have HLA := hide (below_turned HL7.out HI5.out.lo hT8 HL7.out.size); clear hB8 hT8)
          | ((with_reducible refine at_slot 49 ?_); refine wpList_build_is rfl 49 _ rfl _ rfl _ (built_place9 _ _) ?_)
          | ((with_reducible refine at_slot 13 ?_); refine wpList_alloc_blk rfl 49 rfl _ (place_zero9 _) ?_; intro y1 hp1q hlp1 hsp1; have hp1 : Blk y1 w5.heap.size 49 #[.int .i64 0, .int .i64 0] := hp1q; have hyz1 := hp1q.lt; clear hsp1 hp1q)
          | ((with_reducible refine at_store 13 ?_); refine wpList_store_all rfl 49 (.tmp 13) (.tmp 49) rfl w5.heap.size 49 _ hp1 rfl [.int .i64 0, .int .i64 (82 + (k : Int))] rfl place_info9 rfl (place_one9 _ _) ?_; intro y2 hp2 hgp2 hsp2; have hlp2 : Below w5.heap.size w5 y2 := hlp1.grown hgp2 (by omega) (fun g e => by injection e with e; omega); have hyz2 := hp2.lt; have HP2 := hide hp2; have HI6 := hide (HI5.out.later hlp2); have HK6 := hide (HK5.out.below hlp2 HK5.out.lt); have hFp : ¬ F w5.heap.size := fun hf => absurd (HI5.out.bank.1 _ hf) (Nat.lt_irrefl _); clear hp1 hlp1 hgp2 hsp2 hp2 hlp2)
          | ((with_reducible refine at_slot 51 ?_); refine wpList_load_blk rfl 49 (.tmp 13) rfl w5.heap.size 0 49 _ HP2.out rfl [.int .i64 0, .int .i64 (82 + (k : Int))] _ (fun j v hj => by rw [Nat.zero_add]; simpa using hj) Try.underlying49 rfl place_info9 ?_)
          | ((with_reducible refine at_slot 52 ?_); refine wpList_build_is rfl 51 #[] rfl [] (by simp) U.toArray HBZ.out ?_)
          | (go_at_call 26; refine (HWR.out y2 HI6.out.bank).mono ?_; rintro _ w6 ⟨rfl, hB6, hT6⟩; have HB6 := hide hB6; have HK7 := hide (HK6.out.of_block (hT6.block _ HK6.out.lt hF2)); have HL6 := hide (HI6.out.turned hT6); have hp6 := HP2.out.of_block (hT6.block _ HP2.out.lt hFp); have HP6 := hide hp6; have q0 : w6.cell? ⟨w5.heap.size, 0, none⟩ = some (.int .i64 0) := hp6.cell 0; have qf : w6.frozen? ⟨w5.heap.size, 0, none⟩ = false := hp6.frozen 0; have hpF6 : ¬ F w5.heap.size := hFp; clear hp6; clear hB6 hT6))
      have hlt := load_torn (D := [0, 1]) (V := viewsC S7 [0, 1]) (g := 4) (x := oldL) (h := 5) (k := k) (y := xa) (Z := fun _ => true) (C := fun d j => if (true : Bool) = true ∧ j = 32 + k then List.replicate 64 0 else putC (putC noC 0 4 oldL) 1 5 xa d j) (fun d _ j _ => rfl) ?_ (by decide) (by decide) HXL.out (by decide) (by decide) (by decide) (by rw [← HNP.out]; exact hkl)
      rotate_left
      · have hnew : ∀ d ∈ ([0, 1] : List Nat), ∀ j, j < 64 → (S7.newest d (50 + j)).1 = if (true : Bool) = true ∧ j = 32 + k then List.replicate 64 0 else putC (putC noC 0 4 oldL) 1 5 xa d j := fun d hd j hj => by
          have hd01 : d = 0 ∨ d = 1 := by simpa using hd
          rw [HNW7.out]
          by_cases hz1 : d = 1 ∧ j = 32 + k
          · rw [if_pos ⟨hz1.1, by omega⟩, if_pos ⟨rfl, hz1.2⟩]
            rfl
          · rw [if_neg (fun h => hz1 ⟨h.1, by omega⟩), HNW.out]
            by_cases hz : d = 0 ∧ j = 32 + k
            · rw [if_pos ⟨hz.1, by omega⟩, if_pos ⟨rfl, hz.2⟩]
              rfl
            · rw [if_neg (fun h => hz ⟨h.1, by omega⟩), if_neg (fun h => hd01.elim (fun e => hz ⟨e, h.2⟩) (fun e => hz1 ⟨e, h.2⟩))]
              exact HCS.out.newest hd hj
        refine ⟨fun v hv => ?_, fun d hd => ⟨_, viewsC_mem.2 ⟨d, hd, HST7.out.2.2 d hd, rfl⟩, fun j hj => hnew d hd j hj⟩⟩
        obtain ⟨d, hd, _, rfl⟩ := viewsC_mem.1 hv
        exact ⟨d, hd, fun j hj => hnew d hd j hj⟩
      obtain ⟨le, _, lg, lb⟩ := hlt.1 (fun _ _ => rfl)
      have hld := K.load_any w7 b F S7 (some ⟨w2.heap.size, 0, none⟩) 2 2 [0, 1] HB8.out HST7.out.1.up (Blk.readsI9 (xs := [0, 1]) HKA.out rfl) (by omega) (by omega) (by omega) HST7.out.2.1 (by decide)
      generalize loadR (viewsC S7 [0, 1]) = L at hld le lg lb hlt
      rw [le, lb] at hld
      have HLD := hide hld
      have HLG := hide lg
      have HLB := hide (show strS oldL = .string ⟨#[111, 108, 100]⟩ from rfl)
      clear hld hlt le lg lb
      go_wp2_with (first
          | (go_at_call 30; refine HLD.out.mono ?_; rintro _ w8 ⟨B8_, m8, q8, rfl, hrB, _, _, _, hl8⟩; have HRB := hide hrB; have HL8 := hide (HLA.out.trans (hl8.mono HLA.out.size)); clear hrB hl8)
          | ((with_reducible refine at_slot 14 ?_); refine wpList_alloc_blk rfl 55 rfl _ (found_zero _) ?_; intro x4 hb4 hl4 hs4; clear hs4)
          | ((with_reducible refine at_store 14 ?_); refine wpList_store_all rfl 55 (.tmp 14) (.tmp 64) rfl w8.heap.size 55 _ hb4 rfl (foundC L B8_ m8 q8) rfl found_info rfl (foundC_one _ _ _ _) ?_; intro x5 hb5 hg5 hs5; have hy4 := hb4.lt; have hl35 : Below w8.heap.size w8 x5 := hl4.grown hg5 (by omega) (fun g e => by injection e with e; omega); have HL9 := hide (HL8.out.trans (hl35.mono HL8.out.size)); have z1 := found_c1 hb5; have z2 := found_c2 hb5; rw [HLG.out] at z1; have hcv := conv9 (c := q8) (HRB.out.below hl35); rw [HLB.out] at hcv; have HCV := hide hcv; clear hb4 hl4 hb5 hg5 hs5 hl35 hcv)
          | ((with_reducible refine at_slot 83 ?_); refine when_conv (by rfl) 32 9 (.tmp 82) rfl _ _ rfl HCV.out ?_))
      go_ret
      exact ⟨by simp, HL9.out⟩
#print axioms checkTorn_walk
namespace CheckTorn
set_option linter.unusedVariables false
theorem walk (A0 : Option Addr) (n0 c0 : Nat) (l0 : List UInt8) (a1 : Int) (a2 : Bool) (w : World) (x0 : Reads w w.heap.size 1 A0 n0 (B8 l0)) (g0 : n0 ≤ c0) (z0 : c0 ≤ 9223372036854775807) (b1 : -9223372036854775808 ≤ a1) (e1 : a1 ≤ 9223372036854775807) :
    Calls Try.prog 12 #[.slice A0 n0 c0, .int .i64 a1, .bool a2] w fun e w' => e = .returned (.bool true) ∧ Below w.heap.size w w' :=
  checkTorn_walk checkK A0 n0 c0 l0 a1 a2 w x0 g0 z0
/-! The row's frame, by program: how the walk above proves the statement. -/
set_option maxRecDepth 100000 in
theorem lifted (os : Os) (started : os.Started) (H : Type) (enc : TypeId × Value → H) :
    ReturnsInHanded {} Try.checked os 12 .any (Rows.checkTornSpec.pre6 enc Try.prog Try.f12 Rows.checkTornRow.domain false) (Rows.checkTornSpec.post enc Try.prog Try.f12 false true false false) := by
  refine returnsInHanded_of_change (C := Try.checked) own started (by kernel_rfl) Try.func12
    (ChangeSpec.witness6 (enc := enc) (C := Try.checked) false ⟨#[], #[.slice none 0 0, .int .i64 0, .bool false], []⟩ 8 (by kernel_rfl) (by kernel_rfl) (by kernel_rfl) (by kernel_rfl)) ?_
  intro W base args ds gs before hval0 hW hcnd _
  have hval : ∀ (j : Nat) t v, Try.f12.params[j]? = some t → args[j]? = some v → Value.okWide Try.prog W .any base t v := hval0
  have hW' := hW
  obtain ⟨p, q, hA0, hV, rfl, hfz, hnd⟩ := hW
  have hA : DataW.TrodAll enc Try.prog W 0 (fun _ => true) true Try.f12.params.toList args.toList ds p := hA0
  rw [Try.params12] at hA hval
  obtain ⟨v0, vs0, d0, ds0, p0, q0, hargs, rfl, rfl, h0, r0⟩ := trodAll_cons hA
  obtain ⟨v1, vs1, d1, ds1, p1, q1, rfl, rfl, rfl, h1, r1⟩ := trodAll_cons r0
  obtain ⟨v2, vs2, d2, ds2, p2, q2, rfl, rfl, rfl, h2, r2⟩ := trodAll_cons r1
  obtain ⟨rfl, rfl, rfl⟩ := trodAll_nil r2
  obtain rfl : args = #[v0, v1, v2] := by cases args; simp_all
  obtain ⟨rfl, rfl⟩ := trodVars_none hV
  obtain ⟨A0, n0, c0, rfl⟩ := okWide_slice Try.underlying32 (hval 0 32 v0 rfl rfl)
  have k0 := h0
  have lt0 : ∀ x ∈ p0, x.block < W.heap.size := by obtain ⟨m, hm⟩ := k0; exact DataW.trod_lt m _ _ _ hm
  obtain ⟨l0, x0, g0, z0⟩ := arg_bytes h0
  obtain ⟨a1, rfl, rfl, rfl, w1⟩ := open_int Try.underlying3 (hval 1 3 v1 rfl rfl) h1
  have b1 := bounds_i64 w1
  obtain ⟨a2, rfl, rfl, rfl⟩ := open_bool Try.underlying4 (hval 2 4 v2 rfl rfl) h2
  clear hA0 hval0
  refine (walk A0 n0 c0 l0 a1 a2 W x0 g0 z0 b1.1 b1.2).mono fun e W' ⟨he, bel⟩ => ?_
  subst he
  exact ⟨_, rfl, _, _, _, [], _, [], hW', trodAll_mk1 (shut_bool Try.underlying4 _), (trodAll_cons_mk (Below.trod laidOut (by kernel_rfl) (of_decide_eq_true (by kernel_rfl)) k0 bel lt0) (trodAll_cons_mk (shut_int Try.underlying3 w1) (trodAll_cons_mk (shut_bool Try.underlying4 a2) trodAll_mk0))), rfl, bel.frame _, fun h => by cases h⟩

theorem over : Rows.checkTornRow.holds Try.pinned (OpenSpec.ofChange Rows.checkTornSpec) :=
  OpenClaim.holds_of_wide 12 Try.f12 rfl rfl rfl rfl rfl rfl rfl ⟨rfl, rfl, rfl, rfl, rfl⟩ rfl rfl rfl rfl rfl (by kernel_rfl) Try.func12 (by kernel_rfl)
    (of_decide_eq_true (by kernel_rfl)) (by unfold Func.isWrapper; first | (rw [if_pos (by decide +kernel)]; kernel_rfl) | (rw [if_neg (by decide +kernel)]; exact ⟨rfl, rfl⟩))
    (fun os started H enc _ => lifted os started H enc)

/-- The statement. -/
theorem proved : Rows.CheckTornSaid := over
#print axioms proved
end CheckTorn
end Go.Proofs.Ytmjdndhpnckeeaa
