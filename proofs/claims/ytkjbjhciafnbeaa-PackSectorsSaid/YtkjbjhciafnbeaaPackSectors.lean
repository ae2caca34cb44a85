/- PackSectors holds: for all bytes (their first three thousand) Sectors answers what the document's answer over strings is, and writing over its answer leaves the bytes as they were; for all sectors (the first forty) Bytes answers all their bytes in order; no condition. -/
import Derived.Test.YtkjbjhciafnbeaaShown
import Derived.Test.YtkjbjhciafnbeaaArgSec
import Derived.Test.YtkjbjhciafnbeaaRefSec
import Derived.Deep.RegionHeld
namespace Go.Proofs.Ytkjbjhciafnbeaa.PackSectors
open Go.ChangeShapes Go.WideShapes Go.ChangeAt Go.RowKit
set_option linter.unusedVariables false

set_option maxRecDepth 100000 in
set_option maxHeartbeats 8000000 in
theorem walk (A : Option Addr) (n c : Nat) (bs : List UInt8) (C : Option Addr) (m d : Nat) (ls : List UInt8) (w : World)
    (hr : Reads w w.heap.size 1 A n (B8 bs)) (hc : n ≤ c) (hc2 : c ≤ 9223372036854775807) (hs : Reads w w.heap.size 64 C m (B8 ls)) (hd : m ≤ d) (hd2 : d ≤ 9223372036854775807) :
    Calls Try.prog 4 #[.slice A n c, .slice C m d] w fun e w' => e = .returned (.bool true) ∧ Below w.heap.size w w' := by
  obtain ⟨i1, hj0, hy0, hy1, hy2⟩ := info_parts u8_info
  by_cases hp : n ≤ 3000
  · by_cases hq : m ≤ 40
    · have hrp := hr.head (k := n) (by omega)
      rw [Nat.mul_one, B8_take] at hrp
      have hsq := hs.head (k := m) (by omega)
      rw [B8_take] at hsq
      obtain ⟨X, hX⟩ : ∃ X, X = bs.take n := ⟨_, rfl⟩
      obtain ⟨Y, hY⟩ : ∃ Y, Y = ls.take (m * 64) := ⟨_, rfl⟩
      rw [← hX] at hrp
      rw [← hY] at hsq
      clear hX hY
      have hxl : X.length = n := by have := hrp.1; rw [B8_length] at this; omega
      have hp3 : (n : Nat) ≤ 3000 := by omega
      have hq4 : (m : Nat) ≤ 40 := by omega
      have hch : chars ⟨X.toArray⟩ = X := by simp [chars]
      have hsz : (⟨X.toArray⟩ : ByteArray).size = X.length := by simp [ByteArray.size]
      have HRS := hide (fun W => refSectors_any ⟨X.toArray⟩ W (by rw [hsz, hxl]; omega))
      rw [hch] at HRS
      have HPL := hide (show (pad X).length = (n + 63) / 64 * 64 by rw [pad_length, hxl])
      clear hch hsz hxl
      have hm1 : 0 + n ≤ maxLen := by simp only [maxLen]; omega
      have hm2 : (0 + n) * 1 ≤ 140737488355328 := by omega
      go_enter Try.func4, Try.ntmps4
      go_wp2_with fail
      refine (shown_any _).mono ?_
      rintro e w1 ⟨rfl, hb1⟩
      have hr1 := hrp.below hb1
      go_wp2_with (at_builtin; refine wpList_append_any _ rfl (.tmp 21) (.tmp 22) _ rfl w1.heap.size 5 i1 _ 1 1 Try.underlying22 hj0 hy0 hy1 hy2 rfl (by omega) _ 0 [] rfl (World.ownsRow_made w1 #[] 0 (Nat.le_refl _) (Nat.zero_le _) rfl) w.heap.size A n c (B8 X) rfl (hr1.alloc hb1.size _) (B8_one _) hm1 hm2 (le_alloc (Nat.le_refl _) _) ?_; intro v2 w2 hown2 hbel2)
      obtain ⟨A2, c2, hv2, hn2, hc2'⟩ := own_shape hown2
      rw [hv2] at hown2 ⊢
      rw [List.nil_append] at hown2
      simp only [Nat.zero_add] at hown2 hn2 ⊢
      have hb2 : Below w.heap.size w w2 := (hb1.alloc hb1.size _).trans (hbel2.mono hb1.size)
      have hro2 := Reads.of_own hown2
      go_wp2_with fail
      refine (sectors_any A2 n c2 X _ hro2 hn2 (by simpa [maxLen] using hc2') (by omega)).mono ?_
      rintro e w3 ⟨A3, n3, c3, rfl, hn3, hc3', hown3, hbel3⟩
      have hb3 : Below w.heap.size w w3 := hb2.trans (hbel3.mono hb2.size)
      have hl3 := hown3.1
      rw [B8_length, HPL.out] at hl3
      have h3a : n3 ≤ 47 := by omega
      clear hl3
      have hk3 := run_conv_reads (P := Try.prog) w3 22 5 9 Try.underlying22 Try.underlying5 Try.underlying9 _ A n c X (hrp.below hb3)
      go_wp2_with fail
      refine (HRS.out w3).mono ?_
      rintro e w4 ⟨A4, n4, c4, rfl, hn4, hc4', hown4, hbel4⟩
      have hl4 := hown4.1
      rw [B8_length, HPL.out] at hl4
      have h4a : n4 ≤ 47 := by omega
      clear hl4 hk3
      have hb4 : Below w.heap.size w w4 := hb3.trans (hbel4.mono hb3.size)
      have hdec : decide (pad X = pad X) = true := by simp
      have HSM := hide (sameSec_any A3 A4 n3 c3 n4 c4 _ _ _ _ w4 ((Reads.of_own hown3).later hbel4) (Reads.of_own hown4) (by omega) (by omega))
      go_wp2_with fail
      refine HSM.out.mono ?_
      rintro e w5 ⟨rfl, q, rfl⟩
      rw [hdec]
      have hown5 := World.ownsRow.kept (own_later hown3 hbel4) (grown_of_below (below_drewN (Below.refl w4.heap.size w4) q) none) (by cases hv : (Value.slice A3 n3 c3).ownBlock <;> simp)
      have hb5 : Below w.heap.size w (w4.drewN q) := below_drewN hb4 q
      have hro5 : Reads (w4.drewN q) w2.heap.size 1 A2 n (B8 X) := (((hro2.below hbel3).keep (fun p hp => (hbel4.mono hbel3.size).cell hp))).drewN q
      have hsz5 : w2.heap.size ≤ (w4.drewN q).heap.size := Nat.le_trans hbel3.size hbel4.size
      generalize w4.drewN q = W at *
      go_wp2_with fail
      go_loopw [9] (fun i wr => ∃ (k : Nat) (zs : List UInt8), k ≤ n3 ∧ i = .int .i64 k ∧ wr.ownsRow w2.heap.size 38 64 (.slice A3 n3 c3) n3 (B8 zs) ∧ Below w2.heap.size W wr) (fun i _ => n3 - (intOf i).toNat)
      case atStart => exact ⟨0, _, Nat.zero_le _, rfl, hown5, Below.refl _ _⟩
      case round =>
        obtain ⟨k, zs, hk, rfl, hown, hbel⟩ := hrel
        by_cases hkn : k < n3
        · obtain ⟨g, c6, hv6, hg6, hlt6⟩ := hown.form (by omega)
          have hA3 : A3 = some ⟨g, 0, none⟩ := by injection hv6
          subst hA3
          have hzl := hown.1
          rw [B8_length] at hzl
          obtain ⟨y, hy⟩ : ∃ y, zs[k * 64]? = some y := ⟨_, List.getElem?_eq_getElem (by omega)⟩
          have hcell : wr.cell? ⟨g, k * 64, none⟩ = some (.int .u8 ((y.toNat : Nat) : Int)) := by
            rw [hown.cellAt _ (by omega)]
            simp [B8, hy]
          have hfz := hown.frozenAt (k * 64)
          obtain ⟨z, hz⟩ : ∃ z : UInt8, ((y.toNat : Int) + 1) % 256 = ((z.toNat : Nat) : Int) := ⟨UInt8.ofNat ((y.toNat + 1) % 256), by simp⟩
          obtain ⟨hst, hgr⟩ := hown.stored (k * 64) (.int .u8 (((y.toNat : Int) + 1) % 256))
          have hbs := hbel.grown hgr (Nat.le_trans hsz5 hbel.size) (fun j hj => by simp at hj; omega)
          have HST := hide hst.drew
          rw [hz, B8_set, ← hz] at HST
          have HBS := hide hbs.drew
          clear hown hv6 hzl hy hst hgr hbs hz hown3 hown5 HSM
          go_wp2_with fail
          go_region
          go_wp2
          go_roundw
          case rel => exact ⟨k + 1, _, by omega, by go_num, HST.out, HBS.out⟩
          case measure => simp [intOf]; omega
        · have hbw : Below w.heap.size w wr := hb5.trans (hbel.mono hb2.size)
          have hrb := hrp.below hbw
          have hro := hro5.below hbel
          have hls := (hsq.below hbw).more hbw.size
          have hsw := hbw.size
          have hkb := fun (W' : World) (h : Below wr.heap.size wr W') => run_conv_reads (P := Try.prog) W' 22 5 9 Try.underlying22 Try.underlying5 Try.underlying9 _ A n c X (hrb.below (h.mono hsw))
          have hko := fun (W' : World) (h : Below wr.heap.size wr W') => run_conv_reads (P := Try.prog) W' 22 5 9 Try.underlying22 Try.underlying5 Try.underlying9 _ A2 n c2 X (hro.below (h.mono (Nat.le_trans hsz5 hbel.size)))
          have HBY := hide (fun (W' : World) (h : Below wr.heap.size wr W') => bytes_any C m d Y W' ((hls.below h).more h.size) (by omega))
          have HRB := hide (fun (W' : World) (h : Below wr.heap.size wr W') => refBytes_any C m d Y _ W' (hls.below h) (by omega))
          have HCONV := hide (fun (W' : World) (bb : Nat) (A' : Option Addr) (n' c' : Nat) (h : W'.ownsRow bb 5 1 (.slice A' n' c') n' (B8 Y)) => own_conv (P := Try.prog) 22 5 9 Try.underlying22 Try.underlying5 Try.underlying9 h)
          have HBW := hide hbw
          clear hown3 hown5 HSM hown hls hrb hro hbw hbel hr hs hrp hsq hb1 hb2 hb3 hb4 hb5 hro5 hro2 hr1 hown2 hown4
          go_wp2_with fail
          go_region_held (fun W' => Below wr.heap.size wr W') (first | assumption | exact (Below.refl _ _).drew | exact Below.trans (Below.drew (Below.refl _ _)) (by assumption))
            ((first
            | (go_at_call 20; refine (HBY.out _ (by assumption)).mono ?_; rintro e w7 ⟨A7, n7, c7, rfl, hn7, hc7, hown7, hbel7⟩; have hk7 := HCONV.out w7 _ A7 n7 c7 hown7; clear hown7)
            | (go_at_call 21; refine (HRB.out _ (by assumption)).mono ?_; rintro e w8 ⟨rfl, rfl⟩)))
          all_goals
            have hS7 : Below wr.heap.size wr w7 := by assumption
            have hfin := HBW.out.trans (hS7.mono hsw)
            clear hbel7 hk7 hS7
            go_wp2
            go_ret
            exact ⟨rfl, hfin⟩
    · have hrp := hr.head (k := n) (by omega)
      rw [Nat.mul_one, B8_take] at hrp
      have hsq := hs.head (k := 40) (by omega)
      rw [B8_take] at hsq
      obtain ⟨X, hX⟩ : ∃ X, X = bs.take n := ⟨_, rfl⟩
      obtain ⟨Y, hY⟩ : ∃ Y, Y = ls.take (40 * 64) := ⟨_, rfl⟩
      rw [← hX] at hrp
      rw [← hY] at hsq
      clear hX hY
      have hxl : X.length = n := by have := hrp.1; rw [B8_length] at this; omega
      have hp3 : (n : Nat) ≤ 3000 := by omega
      have hq4 : (40 : Nat) ≤ 40 := by omega
      have hch : chars ⟨X.toArray⟩ = X := by simp [chars]
      have hsz : (⟨X.toArray⟩ : ByteArray).size = X.length := by simp [ByteArray.size]
      have HRS := hide (fun W => refSectors_any ⟨X.toArray⟩ W (by rw [hsz, hxl]; omega))
      rw [hch] at HRS
      have HPL := hide (show (pad X).length = (n + 63) / 64 * 64 by rw [pad_length, hxl])
      clear hch hsz hxl
      have hm1 : 0 + n ≤ maxLen := by simp only [maxLen]; omega
      have hm2 : (0 + n) * 1 ≤ 140737488355328 := by omega
      go_enter Try.func4, Try.ntmps4
      go_wp2_with fail
      refine (shown_any _).mono ?_
      rintro e w1 ⟨rfl, hb1⟩
      have hr1 := hrp.below hb1
      go_wp2_with (at_builtin; refine wpList_append_any _ rfl (.tmp 21) (.tmp 22) _ rfl w1.heap.size 5 i1 _ 1 1 Try.underlying22 hj0 hy0 hy1 hy2 rfl (by omega) _ 0 [] rfl (World.ownsRow_made w1 #[] 0 (Nat.le_refl _) (Nat.zero_le _) rfl) w.heap.size A n c (B8 X) rfl (hr1.alloc hb1.size _) (B8_one _) hm1 hm2 (le_alloc (Nat.le_refl _) _) ?_; intro v2 w2 hown2 hbel2)
      obtain ⟨A2, c2, hv2, hn2, hc2'⟩ := own_shape hown2
      rw [hv2] at hown2 ⊢
      rw [List.nil_append] at hown2
      simp only [Nat.zero_add] at hown2 hn2 ⊢
      have hb2 : Below w.heap.size w w2 := (hb1.alloc hb1.size _).trans (hbel2.mono hb1.size)
      have hro2 := Reads.of_own hown2
      go_wp2_with fail
      refine (sectors_any A2 n c2 X _ hro2 hn2 (by simpa [maxLen] using hc2') (by omega)).mono ?_
      rintro e w3 ⟨A3, n3, c3, rfl, hn3, hc3', hown3, hbel3⟩
      have hb3 : Below w.heap.size w w3 := hb2.trans (hbel3.mono hb2.size)
      have hl3 := hown3.1
      rw [B8_length, HPL.out] at hl3
      have h3a : n3 ≤ 47 := by omega
      clear hl3
      have hk3 := run_conv_reads (P := Try.prog) w3 22 5 9 Try.underlying22 Try.underlying5 Try.underlying9 _ A n c X (hrp.below hb3)
      go_wp2_with fail
      refine (HRS.out w3).mono ?_
      rintro e w4 ⟨A4, n4, c4, rfl, hn4, hc4', hown4, hbel4⟩
      have hl4 := hown4.1
      rw [B8_length, HPL.out] at hl4
      have h4a : n4 ≤ 47 := by omega
      clear hl4 hk3
      have hb4 : Below w.heap.size w w4 := hb3.trans (hbel4.mono hb3.size)
      have hdec : decide (pad X = pad X) = true := by simp
      have HSM := hide (sameSec_any A3 A4 n3 c3 n4 c4 _ _ _ _ w4 ((Reads.of_own hown3).later hbel4) (Reads.of_own hown4) (by omega) (by omega))
      go_wp2_with fail
      refine HSM.out.mono ?_
      rintro e w5 ⟨rfl, q, rfl⟩
      rw [hdec]
      have hown5 := World.ownsRow.kept (own_later hown3 hbel4) (grown_of_below (below_drewN (Below.refl w4.heap.size w4) q) none) (by cases hv : (Value.slice A3 n3 c3).ownBlock <;> simp)
      have hb5 : Below w.heap.size w (w4.drewN q) := below_drewN hb4 q
      have hro5 : Reads (w4.drewN q) w2.heap.size 1 A2 n (B8 X) := (((hro2.below hbel3).keep (fun p hp => (hbel4.mono hbel3.size).cell hp))).drewN q
      have hsz5 : w2.heap.size ≤ (w4.drewN q).heap.size := Nat.le_trans hbel3.size hbel4.size
      generalize w4.drewN q = W at *
      go_wp2_with fail
      go_loopw [9] (fun i wr => ∃ (k : Nat) (zs : List UInt8), k ≤ n3 ∧ i = .int .i64 k ∧ wr.ownsRow w2.heap.size 38 64 (.slice A3 n3 c3) n3 (B8 zs) ∧ Below w2.heap.size W wr) (fun i _ => n3 - (intOf i).toNat)
      case atStart => exact ⟨0, _, Nat.zero_le _, rfl, hown5, Below.refl _ _⟩
      case round =>
        obtain ⟨k, zs, hk, rfl, hown, hbel⟩ := hrel
        by_cases hkn : k < n3
        · obtain ⟨g, c6, hv6, hg6, hlt6⟩ := hown.form (by omega)
          have hA3 : A3 = some ⟨g, 0, none⟩ := by injection hv6
          subst hA3
          have hzl := hown.1
          rw [B8_length] at hzl
          obtain ⟨y, hy⟩ : ∃ y, zs[k * 64]? = some y := ⟨_, List.getElem?_eq_getElem (by omega)⟩
          have hcell : wr.cell? ⟨g, k * 64, none⟩ = some (.int .u8 ((y.toNat : Nat) : Int)) := by
            rw [hown.cellAt _ (by omega)]
            simp [B8, hy]
          have hfz := hown.frozenAt (k * 64)
          obtain ⟨z, hz⟩ : ∃ z : UInt8, ((y.toNat : Int) + 1) % 256 = ((z.toNat : Nat) : Int) := ⟨UInt8.ofNat ((y.toNat + 1) % 256), by simp⟩
          obtain ⟨hst, hgr⟩ := hown.stored (k * 64) (.int .u8 (((y.toNat : Int) + 1) % 256))
          have hbs := hbel.grown hgr (Nat.le_trans hsz5 hbel.size) (fun j hj => by simp at hj; omega)
          have HST := hide hst.drew
          rw [hz, B8_set, ← hz] at HST
          have HBS := hide hbs.drew
          clear hown hv6 hzl hy hst hgr hbs hz hown3 hown5 HSM
          go_wp2_with fail
          go_region
          go_wp2
          go_roundw
          case rel => exact ⟨k + 1, _, by omega, by go_num, HST.out, HBS.out⟩
          case measure => simp [intOf]; omega
        · have hbw : Below w.heap.size w wr := hb5.trans (hbel.mono hb2.size)
          have hrb := hrp.below hbw
          have hro := hro5.below hbel
          have hls := (hsq.below hbw).more hbw.size
          have hsw := hbw.size
          have hkb := fun (W' : World) (h : Below wr.heap.size wr W') => run_conv_reads (P := Try.prog) W' 22 5 9 Try.underlying22 Try.underlying5 Try.underlying9 _ A n c X (hrb.below (h.mono hsw))
          have hko := fun (W' : World) (h : Below wr.heap.size wr W') => run_conv_reads (P := Try.prog) W' 22 5 9 Try.underlying22 Try.underlying5 Try.underlying9 _ A2 n c2 X (hro.below (h.mono (Nat.le_trans hsz5 hbel.size)))
          have HBY := hide (fun (W' : World) (h : Below wr.heap.size wr W') => bytes_any C 40 d Y W' ((hls.below h).more h.size) (by omega))
          have HRB := hide (fun (W' : World) (h : Below wr.heap.size wr W') => refBytes_any C 40 d Y _ W' (hls.below h) (by omega))
          have HCONV := hide (fun (W' : World) (bb : Nat) (A' : Option Addr) (n' c' : Nat) (h : W'.ownsRow bb 5 1 (.slice A' n' c') n' (B8 Y)) => own_conv (P := Try.prog) 22 5 9 Try.underlying22 Try.underlying5 Try.underlying9 h)
          have HBW := hide hbw
          clear hown3 hown5 HSM hown hls hrb hro hbw hbel hr hs hrp hsq hb1 hb2 hb3 hb4 hb5 hro5 hro2 hr1 hown2 hown4
          go_wp2_with fail
          go_region_held (fun W' => Below wr.heap.size wr W') (first | assumption | exact (Below.refl _ _).drew | exact Below.trans (Below.drew (Below.refl _ _)) (by assumption))
            ((first
            | (go_at_call 20; refine (HBY.out _ (by assumption)).mono ?_; rintro e w7 ⟨A7, n7, c7, rfl, hn7, hc7, hown7, hbel7⟩; have hk7 := HCONV.out w7 _ A7 n7 c7 hown7; clear hown7)
            | (go_at_call 21; refine (HRB.out _ (by assumption)).mono ?_; rintro e w8 ⟨rfl, rfl⟩)))
          all_goals
            have hS7 : Below wr.heap.size wr w7 := by assumption
            have hfin := HBW.out.trans (hS7.mono hsw)
            clear hbel7 hk7 hS7
            go_wp2
            go_ret
            exact ⟨rfl, hfin⟩
  · by_cases hq : m ≤ 40
    · have hrp := hr.head (k := 3000) (by omega)
      rw [Nat.mul_one, B8_take] at hrp
      have hsq := hs.head (k := m) (by omega)
      rw [B8_take] at hsq
      obtain ⟨X, hX⟩ : ∃ X, X = bs.take 3000 := ⟨_, rfl⟩
      obtain ⟨Y, hY⟩ : ∃ Y, Y = ls.take (m * 64) := ⟨_, rfl⟩
      rw [← hX] at hrp
      rw [← hY] at hsq
      clear hX hY
      have hxl : X.length = 3000 := by have := hrp.1; rw [B8_length] at this; omega
      have hp3 : (3000 : Nat) ≤ 3000 := by omega
      have hq4 : (m : Nat) ≤ 40 := by omega
      have hch : chars ⟨X.toArray⟩ = X := by simp [chars]
      have hsz : (⟨X.toArray⟩ : ByteArray).size = X.length := by simp [ByteArray.size]
      have HRS := hide (fun W => refSectors_any ⟨X.toArray⟩ W (by rw [hsz, hxl]; omega))
      rw [hch] at HRS
      have HPL := hide (show (pad X).length = (3000 + 63) / 64 * 64 by rw [pad_length, hxl])
      clear hch hsz hxl
      have hm1 : 0 + 3000 ≤ maxLen := by simp only [maxLen]; omega
      have hm2 : (0 + 3000) * 1 ≤ 140737488355328 := by omega
      go_enter Try.func4, Try.ntmps4
      go_wp2_with fail
      refine (shown_any _).mono ?_
      rintro e w1 ⟨rfl, hb1⟩
      have hr1 := hrp.below hb1
      go_wp2_with (at_builtin; refine wpList_append_any _ rfl (.tmp 21) (.tmp 22) _ rfl w1.heap.size 5 i1 _ 1 1 Try.underlying22 hj0 hy0 hy1 hy2 rfl (by omega) _ 0 [] rfl (World.ownsRow_made w1 #[] 0 (Nat.le_refl _) (Nat.zero_le _) rfl) w.heap.size A 3000 c (B8 X) rfl (hr1.alloc hb1.size _) (B8_one _) hm1 hm2 (le_alloc (Nat.le_refl _) _) ?_; intro v2 w2 hown2 hbel2)
      obtain ⟨A2, c2, hv2, hn2, hc2'⟩ := own_shape hown2
      rw [hv2] at hown2 ⊢
      rw [List.nil_append] at hown2
      simp only [Nat.zero_add] at hown2 hn2 ⊢
      have hb2 : Below w.heap.size w w2 := (hb1.alloc hb1.size _).trans (hbel2.mono hb1.size)
      have hro2 := Reads.of_own hown2
      go_wp2_with fail
      refine (sectors_any A2 3000 c2 X _ hro2 hn2 (by simpa [maxLen] using hc2') (by omega)).mono ?_
      rintro e w3 ⟨A3, n3, c3, rfl, hn3, hc3', hown3, hbel3⟩
      have hb3 : Below w.heap.size w w3 := hb2.trans (hbel3.mono hb2.size)
      have hl3 := hown3.1
      rw [B8_length, HPL.out] at hl3
      have h3a : n3 ≤ 47 := by omega
      clear hl3
      have hk3 := run_conv_reads (P := Try.prog) w3 22 5 9 Try.underlying22 Try.underlying5 Try.underlying9 _ A 3000 c X (hrp.below hb3)
      go_wp2_with fail
      refine (HRS.out w3).mono ?_
      rintro e w4 ⟨A4, n4, c4, rfl, hn4, hc4', hown4, hbel4⟩
      have hl4 := hown4.1
      rw [B8_length, HPL.out] at hl4
      have h4a : n4 ≤ 47 := by omega
      clear hl4 hk3
      have hb4 : Below w.heap.size w w4 := hb3.trans (hbel4.mono hb3.size)
      have hdec : decide (pad X = pad X) = true := by simp
      have HSM := hide (sameSec_any A3 A4 n3 c3 n4 c4 _ _ _ _ w4 ((Reads.of_own hown3).later hbel4) (Reads.of_own hown4) (by omega) (by omega))
      go_wp2_with fail
      refine HSM.out.mono ?_
      rintro e w5 ⟨rfl, q, rfl⟩
      rw [hdec]
      have hown5 := World.ownsRow.kept (own_later hown3 hbel4) (grown_of_below (below_drewN (Below.refl w4.heap.size w4) q) none) (by cases hv : (Value.slice A3 n3 c3).ownBlock <;> simp)
      have hb5 : Below w.heap.size w (w4.drewN q) := below_drewN hb4 q
      have hro5 : Reads (w4.drewN q) w2.heap.size 1 A2 3000 (B8 X) := (((hro2.below hbel3).keep (fun p hp => (hbel4.mono hbel3.size).cell hp))).drewN q
      have hsz5 : w2.heap.size ≤ (w4.drewN q).heap.size := Nat.le_trans hbel3.size hbel4.size
      generalize w4.drewN q = W at *
      go_wp2_with fail
      go_loopw [9] (fun i wr => ∃ (k : Nat) (zs : List UInt8), k ≤ n3 ∧ i = .int .i64 k ∧ wr.ownsRow w2.heap.size 38 64 (.slice A3 n3 c3) n3 (B8 zs) ∧ Below w2.heap.size W wr) (fun i _ => n3 - (intOf i).toNat)
      case atStart => exact ⟨0, _, Nat.zero_le _, rfl, hown5, Below.refl _ _⟩
      case round =>
        obtain ⟨k, zs, hk, rfl, hown, hbel⟩ := hrel
        by_cases hkn : k < n3
        · obtain ⟨g, c6, hv6, hg6, hlt6⟩ := hown.form (by omega)
          have hA3 : A3 = some ⟨g, 0, none⟩ := by injection hv6
          subst hA3
          have hzl := hown.1
          rw [B8_length] at hzl
          obtain ⟨y, hy⟩ : ∃ y, zs[k * 64]? = some y := ⟨_, List.getElem?_eq_getElem (by omega)⟩
          have hcell : wr.cell? ⟨g, k * 64, none⟩ = some (.int .u8 ((y.toNat : Nat) : Int)) := by
            rw [hown.cellAt _ (by omega)]
            simp [B8, hy]
          have hfz := hown.frozenAt (k * 64)
          obtain ⟨z, hz⟩ : ∃ z : UInt8, ((y.toNat : Int) + 1) % 256 = ((z.toNat : Nat) : Int) := ⟨UInt8.ofNat ((y.toNat + 1) % 256), by simp⟩
          obtain ⟨hst, hgr⟩ := hown.stored (k * 64) (.int .u8 (((y.toNat : Int) + 1) % 256))
          have hbs := hbel.grown hgr (Nat.le_trans hsz5 hbel.size) (fun j hj => by simp at hj; omega)
          have HST := hide hst.drew
          rw [hz, B8_set, ← hz] at HST
          have HBS := hide hbs.drew
          clear hown hv6 hzl hy hst hgr hbs hz hown3 hown5 HSM
          go_wp2_with fail
          go_region
          go_wp2
          go_roundw
          case rel => exact ⟨k + 1, _, by omega, by go_num, HST.out, HBS.out⟩
          case measure => simp [intOf]; omega
        · have hbw : Below w.heap.size w wr := hb5.trans (hbel.mono hb2.size)
          have hrb := hrp.below hbw
          have hro := hro5.below hbel
          have hls := (hsq.below hbw).more hbw.size
          have hsw := hbw.size
          have hkb := fun (W' : World) (h : Below wr.heap.size wr W') => run_conv_reads (P := Try.prog) W' 22 5 9 Try.underlying22 Try.underlying5 Try.underlying9 _ A 3000 c X (hrb.below (h.mono hsw))
          have hko := fun (W' : World) (h : Below wr.heap.size wr W') => run_conv_reads (P := Try.prog) W' 22 5 9 Try.underlying22 Try.underlying5 Try.underlying9 _ A2 3000 c2 X (hro.below (h.mono (Nat.le_trans hsz5 hbel.size)))
          have HBY := hide (fun (W' : World) (h : Below wr.heap.size wr W') => bytes_any C m d Y W' ((hls.below h).more h.size) (by omega))
          have HRB := hide (fun (W' : World) (h : Below wr.heap.size wr W') => refBytes_any C m d Y _ W' (hls.below h) (by omega))
          have HCONV := hide (fun (W' : World) (bb : Nat) (A' : Option Addr) (n' c' : Nat) (h : W'.ownsRow bb 5 1 (.slice A' n' c') n' (B8 Y)) => own_conv (P := Try.prog) 22 5 9 Try.underlying22 Try.underlying5 Try.underlying9 h)
          have HBW := hide hbw
          clear hown3 hown5 HSM hown hls hrb hro hbw hbel hr hs hrp hsq hb1 hb2 hb3 hb4 hb5 hro5 hro2 hr1 hown2 hown4
          go_wp2_with fail
          go_region_held (fun W' => Below wr.heap.size wr W') (first | assumption | exact (Below.refl _ _).drew | exact Below.trans (Below.drew (Below.refl _ _)) (by assumption))
            ((first
            | (go_at_call 20; refine (HBY.out _ (by assumption)).mono ?_; rintro e w7 ⟨A7, n7, c7, rfl, hn7, hc7, hown7, hbel7⟩; have hk7 := HCONV.out w7 _ A7 n7 c7 hown7; clear hown7)
            | (go_at_call 21; refine (HRB.out _ (by assumption)).mono ?_; rintro e w8 ⟨rfl, rfl⟩)))
          all_goals
            have hS7 : Below wr.heap.size wr w7 := by assumption
            have hfin := HBW.out.trans (hS7.mono hsw)
            clear hbel7 hk7 hS7
            go_wp2
            go_ret
            exact ⟨rfl, hfin⟩
    · have hrp := hr.head (k := 3000) (by omega)
      rw [Nat.mul_one, B8_take] at hrp
      have hsq := hs.head (k := 40) (by omega)
      rw [B8_take] at hsq
      obtain ⟨X, hX⟩ : ∃ X, X = bs.take 3000 := ⟨_, rfl⟩
      obtain ⟨Y, hY⟩ : ∃ Y, Y = ls.take (40 * 64) := ⟨_, rfl⟩
      rw [← hX] at hrp
      rw [← hY] at hsq
      clear hX hY
      have hxl : X.length = 3000 := by have := hrp.1; rw [B8_length] at this; omega
      have hp3 : (3000 : Nat) ≤ 3000 := by omega
      have hq4 : (40 : Nat) ≤ 40 := by omega
      have hch : chars ⟨X.toArray⟩ = X := by simp [chars]
      have hsz : (⟨X.toArray⟩ : ByteArray).size = X.length := by simp [ByteArray.size]
      have HRS := hide (fun W => refSectors_any ⟨X.toArray⟩ W (by rw [hsz, hxl]; omega))
      rw [hch] at HRS
      have HPL := hide (show (pad X).length = (3000 + 63) / 64 * 64 by rw [pad_length, hxl])
      clear hch hsz hxl
      have hm1 : 0 + 3000 ≤ maxLen := by simp only [maxLen]; omega
      have hm2 : (0 + 3000) * 1 ≤ 140737488355328 := by omega
      go_enter Try.func4, Try.ntmps4
      go_wp2_with fail
      refine (shown_any _).mono ?_
      rintro e w1 ⟨rfl, hb1⟩
      have hr1 := hrp.below hb1
      go_wp2_with (at_builtin; refine wpList_append_any _ rfl (.tmp 21) (.tmp 22) _ rfl w1.heap.size 5 i1 _ 1 1 Try.underlying22 hj0 hy0 hy1 hy2 rfl (by omega) _ 0 [] rfl (World.ownsRow_made w1 #[] 0 (Nat.le_refl _) (Nat.zero_le _) rfl) w.heap.size A 3000 c (B8 X) rfl (hr1.alloc hb1.size _) (B8_one _) hm1 hm2 (le_alloc (Nat.le_refl _) _) ?_; intro v2 w2 hown2 hbel2)
      obtain ⟨A2, c2, hv2, hn2, hc2'⟩ := own_shape hown2
      rw [hv2] at hown2 ⊢
      rw [List.nil_append] at hown2
      simp only [Nat.zero_add] at hown2 hn2 ⊢
      have hb2 : Below w.heap.size w w2 := (hb1.alloc hb1.size _).trans (hbel2.mono hb1.size)
      have hro2 := Reads.of_own hown2
      go_wp2_with fail
      refine (sectors_any A2 3000 c2 X _ hro2 hn2 (by simpa [maxLen] using hc2') (by omega)).mono ?_
      rintro e w3 ⟨A3, n3, c3, rfl, hn3, hc3', hown3, hbel3⟩
      have hb3 : Below w.heap.size w w3 := hb2.trans (hbel3.mono hb2.size)
      have hl3 := hown3.1
      rw [B8_length, HPL.out] at hl3
      have h3a : n3 ≤ 47 := by omega
      clear hl3
      have hk3 := run_conv_reads (P := Try.prog) w3 22 5 9 Try.underlying22 Try.underlying5 Try.underlying9 _ A 3000 c X (hrp.below hb3)
      go_wp2_with fail
      refine (HRS.out w3).mono ?_
      rintro e w4 ⟨A4, n4, c4, rfl, hn4, hc4', hown4, hbel4⟩
      have hl4 := hown4.1
      rw [B8_length, HPL.out] at hl4
      have h4a : n4 ≤ 47 := by omega
      clear hl4 hk3
      have hb4 : Below w.heap.size w w4 := hb3.trans (hbel4.mono hb3.size)
      have hdec : decide (pad X = pad X) = true := by simp
      have HSM := hide (sameSec_any A3 A4 n3 c3 n4 c4 _ _ _ _ w4 ((Reads.of_own hown3).later hbel4) (Reads.of_own hown4) (by omega) (by omega))
      go_wp2_with fail
      refine HSM.out.mono ?_
      rintro e w5 ⟨rfl, q, rfl⟩
      rw [hdec]
      have hown5 := World.ownsRow.kept (own_later hown3 hbel4) (grown_of_below (below_drewN (Below.refl w4.heap.size w4) q) none) (by cases hv : (Value.slice A3 n3 c3).ownBlock <;> simp)
      have hb5 : Below w.heap.size w (w4.drewN q) := below_drewN hb4 q
      have hro5 : Reads (w4.drewN q) w2.heap.size 1 A2 3000 (B8 X) := (((hro2.below hbel3).keep (fun p hp => (hbel4.mono hbel3.size).cell hp))).drewN q
      have hsz5 : w2.heap.size ≤ (w4.drewN q).heap.size := Nat.le_trans hbel3.size hbel4.size
      generalize w4.drewN q = W at *
      go_wp2_with fail
      go_loopw [9] (fun i wr => ∃ (k : Nat) (zs : List UInt8), k ≤ n3 ∧ i = .int .i64 k ∧ wr.ownsRow w2.heap.size 38 64 (.slice A3 n3 c3) n3 (B8 zs) ∧ Below w2.heap.size W wr) (fun i _ => n3 - (intOf i).toNat)
      case atStart => exact ⟨0, _, Nat.zero_le _, rfl, hown5, Below.refl _ _⟩
      case round =>
        obtain ⟨k, zs, hk, rfl, hown, hbel⟩ := hrel
        by_cases hkn : k < n3
        · obtain ⟨g, c6, hv6, hg6, hlt6⟩ := hown.form (by omega)
          have hA3 : A3 = some ⟨g, 0, none⟩ := by injection hv6
          subst hA3
          have hzl := hown.1
          rw [B8_length] at hzl
          obtain ⟨y, hy⟩ : ∃ y, zs[k * 64]? = some y := ⟨_, List.getElem?_eq_getElem (by omega)⟩
          have hcell : wr.cell? ⟨g, k * 64, none⟩ = some (.int .u8 ((y.toNat : Nat) : Int)) := by
            rw [hown.cellAt _ (by omega)]
            simp [B8, hy]
          have hfz := hown.frozenAt (k * 64)
          obtain ⟨z, hz⟩ : ∃ z : UInt8, ((y.toNat : Int) + 1) % 256 = ((z.toNat : Nat) : Int) := ⟨UInt8.ofNat ((y.toNat + 1) % 256), by simp⟩
          obtain ⟨hst, hgr⟩ := hown.stored (k * 64) (.int .u8 (((y.toNat : Int) + 1) % 256))
          have hbs := hbel.grown hgr (Nat.le_trans hsz5 hbel.size) (fun j hj => by simp at hj; omega)
          have HST := hide hst.drew
          rw [hz, B8_set, ← hz] at HST
          have HBS := hide hbs.drew
          clear hown hv6 hzl hy hst hgr hbs hz hown3 hown5 HSM
          go_wp2_with fail
          go_region
          go_wp2
          go_roundw
          case rel => exact ⟨k + 1, _, by omega, by go_num, HST.out, HBS.out⟩
          case measure => simp [intOf]; omega
        · have hbw : Below w.heap.size w wr := hb5.trans (hbel.mono hb2.size)
          have hrb := hrp.below hbw
          have hro := hro5.below hbel
          have hls := (hsq.below hbw).more hbw.size
          have hsw := hbw.size
          have hkb := fun (W' : World) (h : Below wr.heap.size wr W') => run_conv_reads (P := Try.prog) W' 22 5 9 Try.underlying22 Try.underlying5 Try.underlying9 _ A 3000 c X (hrb.below (h.mono hsw))
          have hko := fun (W' : World) (h : Below wr.heap.size wr W') => run_conv_reads (P := Try.prog) W' 22 5 9 Try.underlying22 Try.underlying5 Try.underlying9 _ A2 3000 c2 X (hro.below (h.mono (Nat.le_trans hsz5 hbel.size)))
          have HBY := hide (fun (W' : World) (h : Below wr.heap.size wr W') => bytes_any C 40 d Y W' ((hls.below h).more h.size) (by omega))
          have HRB := hide (fun (W' : World) (h : Below wr.heap.size wr W') => refBytes_any C 40 d Y _ W' (hls.below h) (by omega))
          have HCONV := hide (fun (W' : World) (bb : Nat) (A' : Option Addr) (n' c' : Nat) (h : W'.ownsRow bb 5 1 (.slice A' n' c') n' (B8 Y)) => own_conv (P := Try.prog) 22 5 9 Try.underlying22 Try.underlying5 Try.underlying9 h)
          have HBW := hide hbw
          clear hown3 hown5 HSM hown hls hrb hro hbw hbel hr hs hrp hsq hb1 hb2 hb3 hb4 hb5 hro5 hro2 hr1 hown2 hown4
          go_wp2_with fail
          go_region_held (fun W' => Below wr.heap.size wr W') (first | assumption | exact (Below.refl _ _).drew | exact Below.trans (Below.drew (Below.refl _ _)) (by assumption))
            ((first
            | (go_at_call 20; refine (HBY.out _ (by assumption)).mono ?_; rintro e w7 ⟨A7, n7, c7, rfl, hn7, hc7, hown7, hbel7⟩; have hk7 := HCONV.out w7 _ A7 n7 c7 hown7; clear hown7)
            | (go_at_call 21; refine (HRB.out _ (by assumption)).mono ?_; rintro e w8 ⟨rfl, rfl⟩)))
          all_goals
            have hS7 : Below wr.heap.size wr w7 := by assumption
            have hfin := HBW.out.trans (hS7.mono hsw)
            clear hbel7 hk7 hS7
            go_wp2
            go_ret
            exact ⟨rfl, hfin⟩

/-! The row's frame, by program: how the walk above proves the statement. -/
set_option maxRecDepth 100000 in
theorem lifted (os : Os) (started : os.Started) (H : Type) (enc : TypeId × Value → H) :
    ReturnsInHanded {} Try.checked os 4 .any (Rows.packSectorsSpec.pre6 enc Try.prog Try.f4 Rows.packSectorsRow.domain false) (Rows.packSectorsSpec.post enc Try.prog Try.f4 false true false false) := by
  refine returnsInHanded_of_change (C := Try.checked) own started (by kernel_rfl) Try.func4
    (ChangeSpec.witness6 (enc := enc) (C := Try.checked) false ⟨#[], #[.slice none 0 0, .slice none 0 0], []⟩ 8 (by kernel_rfl) (by kernel_rfl) (by kernel_rfl) (by kernel_rfl)) ?_
  intro W base args ds gs before hval0 hW hcnd _
  have hval : ∀ (j : Nat) t v, Try.f4.params[j]? = some t → args[j]? = some v → Value.okWide Try.prog W .any base t v := hval0
  have hW' := hW
  obtain ⟨p, q, hA0, hV, rfl, hfz, hnd⟩ := hW
  have hA : DataW.TrodAll enc Try.prog W 0 (fun _ => true) true Try.f4.params.toList args.toList ds p := hA0
  rw [Try.params4] at hA hval
  obtain ⟨v0, vs0, d0, ds0, p0, q0, hargs, rfl, rfl, h0, r0⟩ := trodAll_cons hA
  obtain ⟨v1, vs1, d1, ds1, p1, q1, rfl, rfl, rfl, h1, r1⟩ := trodAll_cons r0
  obtain ⟨rfl, rfl, rfl⟩ := trodAll_nil r1
  obtain rfl : args = #[v0, v1] := by cases args; simp_all
  obtain ⟨rfl, rfl⟩ := trodVars_none hV
  obtain ⟨A0, n0, c0, rfl⟩ := okWide_slice Try.underlying22 (hval 0 22 v0 rfl rfl)
  have k0 := h0
  have lt0 : ∀ x ∈ p0, x.block < W.heap.size := by obtain ⟨m, hm⟩ := k0; exact DataW.trod_lt m _ _ _ hm
  obtain ⟨l0, x0, g0, z0⟩ := arg_bytes h0
  obtain ⟨A1, n1, c1, rfl⟩ := okWide_slice Try.underlying33 (hval 1 33 v1 rfl rfl)
  have k1 := h1
  have lt1 : ∀ x ∈ p1, x.block < W.heap.size := by obtain ⟨m, hm⟩ := k1; exact DataW.trod_lt m _ _ _ hm
  obtain ⟨l1, x1, g1, z1⟩ := arg_secs h1
  clear hA0 hval0
  refine (walk A0 n0 c0 l0 A1 n1 c1 l1 W x0 g0 z0 x1 g1 z1).mono fun e W' ⟨he, bel⟩ => ?_
  subst he
  exact ⟨_, rfl, _, _, _, [], _, [], hW', trodAll_mk1 (shut_bool Try.underlying4 _), (trodAll_cons_mk (Below.trod laidOut (by kernel_rfl) (of_decide_eq_true (by kernel_rfl)) k0 bel lt0) (trodAll_cons_mk (Below.trod laidOut (by kernel_rfl) (of_decide_eq_true (by kernel_rfl)) k1 bel lt1) trodAll_mk0)), rfl, bel.frame _, fun h => by cases h⟩

theorem over : Rows.packSectorsRow.holds Try.pinned (OpenSpec.ofChange Rows.packSectorsSpec) :=
  OpenClaim.holds_of_wide 4 Try.f4 rfl rfl rfl rfl rfl rfl rfl ⟨rfl, rfl, rfl, rfl, rfl⟩ rfl rfl rfl rfl rfl (by kernel_rfl) Try.func4 (by kernel_rfl)
    (of_decide_eq_true (by kernel_rfl)) (by unfold Func.isWrapper; first | (rw [if_pos (by decide +kernel)]; kernel_rfl) | (rw [if_neg (by decide +kernel)]; exact ⟨rfl, rfl⟩))
    (fun os started H enc _ => lifted os started H enc)

/-- The statement. -/
theorem proved : Rows.PackSectorsSaid := over
#print axioms proved
end Go.Proofs.Ytkjbjhciafnbeaa.PackSectors
