/- BitsReads holds: for every number and every row of bytes, Of answers as the document's own reading of them does, leaves what was handed in, and keeps none of it; no condition besides the card's own: math/bits.deBruijn64tab is as its initialiser lays it. -/
import Derived.Test.YtpakipacclmimaaDoorPlainO
import Derived.Test.YtpakipacclmimaaDoorCards
import Derived.Test.YtpakipacclmimaaDoorTie
import Derived.Deep.DeepCutAuto
import Derived.Deep.CutBlock
namespace Go.Proofs.YtpakipacclmimaaDoor.BitsReads
open Go.ChangeShapes Go.WideShapes Go.ChangeAt Go.RowKit
set_option linter.unusedVariables false

theorem own_own_ne {w : World} {B B' : Nat} {e e' : TypeId} {s s' n n' : Nat} {v v' : Value} {xs xs' : List Value} (h : w.ownsRow B e s v n xs) (h' : w.ownsRow B' e' s' v' n' xs') (hne : e ≠ e') : v'.ownBlock = none ∨ v'.ownBlock ≠ v.ownBlock := by
  rcases h'.2 with ⟨rfl, _⟩ | ⟨g', cap, cur, rfl, _, hh, _⟩
  · exact .inl rfl
  · exact .inr fun e1 => own_blk_ne h hh hne e1
set_option maxRecDepth 100000 in
set_option maxHeartbeats 4000000 in
theorem walk_all (n : Int) (A : Option Addr) (nt c : Nat) (l : List UInt8) (w : World) (hT : Tab w) (hr : Reads w w.heap.size 1 A nt (B8 l)) (hc : nt ≤ c) (hc2 : c ≤ 9223372036854775807) (hs : nt ≤ 300) :
    Calls Tryd.prog 4 #[.int .i64 n, .slice A nt c] w fun e w' => e = .returned (.bool true) ∧ Below w.heap.size w w' := by
  obtain ⟨i0, hi0, hz0, hz1, hz2⟩ := info_parts u8_info
  have hd : decide ((nt : Int) ≤ 300) = true := by simp; omega
  obtain ⟨bs, hbs⟩ : ∃ bs, bs = l.take nt := ⟨_, rfl⟩
  have hrk : Reads w w.heap.size 1 A nt (B8 bs) := by have := hr.head (k := nt) (by omega); rwa [Nat.mul_one, B8_take, ← hbs] at this
  clear hbs hr
  go_enter Tryd.func4, Tryd.ntmps4
  go_wp2_with fail
  refine (shown_any w hT).mono ?_
  rintro e w1 ⟨rfl, hb1⟩
  have hr1 := hrk.later hb1
  have hown1 : (w1.alloc (.cells #[] 5)).ownsRow w1.heap.size 5 1 (.slice (some ⟨w1.heap.size, 0, none⟩) 0 0) 0 [] :=
    World.ownsRow_lit (base := w1.heap.size) (e := 5) (size := 1) w1 #[] 0 (Nat.le_refl _) (Nat.zero_le _) rfl
  have h1 : 0 + nt ≤ maxLen := by unfold maxLen; omega
  have h2 : (0 + nt) * 1 ≤ 140737488355328 := by omega
  have H1 := hide h1
  have H2 := hide h2
  clear h1 h2
  go_wp2_with (first | (at_builtin; refine wpList_append_any _ rfl (.tmp 18) (.tmp 19) _ rfl w1.heap.size 5 i0 _ 1 1 Tryd.underlying36 hi0 hz0 hz1 hz2 rfl (by decide) _ _ _ rfl hown1 _ A nt c (B8 bs) rfl (hr1.alloc (Nat.le_refl _) _) (B8_one _) H1.out H2.out (le_alloc (Nat.le_refl _) _) ?_; intro v2 w2 hown2 hb2; simp only [Nat.zero_add, List.nil_append] at hown2; obtain ⟨A2, c2, rfl, hk2, hm2⟩ := own_shape hown2))
  have hba2 : Below w1.heap.size w1 w2 := ((Below.refl _ _).alloc (Nat.le_refl _) _).trans hb2
  have hbel2 : Below w.heap.size w w2 := hb1.trans (hba2.mono hb1.size)
  have hr2 := hr1.later hba2
  clear hown1 hb2 hr1
  refine (of_any (w := w2) n _ _ _ bs (Reads.of_own hown2)).mono ?_
  rintro e w3 ⟨hb3, hcode⟩
  have hbel3 : Below w.heap.size w w3 := hbel2.trans (hb3.mono hbel2.size)
  have hr3 := hr2.later hb3
  have hown3 := own_later hown2 hb3
  have HW1 : Hid (w.heap.size ≤ w1.heap.size) := hb1.size
  have HRK : Hid (nt ≤ 9223372036854775807) := by show _ ≤ _; omega
  clear hba2 hbel2 hr2 hown2 hb1
  rcases hcode with ⟨hz, rfl⟩ | ⟨hz, rfl, hm3⟩
  · have HZ := hide hz
    clear hz
    go_wp2_with fail
    refine (rof_any (w := w3) n _ _ _ bs hr3 HRK.out).mono ?_
    rintro e w4 ⟨hb4, hcode⟩
    rcases hcode with ⟨_, rfl⟩ | ⟨h0, _⟩
    case inr => exact absurd h0 HZ.out
    have hbel4 : Below w.heap.size w w4 := hbel3.trans (hb4.mono hbel3.size)
    have hr4 := hr3.later hb4
    have hown4 := own_later hown3 hb4
    have hk1 := run_conv_reads (P := Tryd.prog) w4 36 5 9 Tryd.underlying36 Tryd.underlying5 Tryd.underlying9 _ A nt c bs hr4
    have hk2 := run_conv_reads (P := Tryd.prog) w4 36 5 9 Tryd.underlying36 Tryd.underlying5 Tryd.underlying9 _ A2 nt c2 bs (Reads.of_own hown4)
    clear hb3 hbel3 hr3 hown3 hb4
    obtain ⟨code, hcd⟩ : ∃ code, code = ofCode n bs := ⟨_, rfl⟩
    rw [← hcd]
    clear hcd HZ
    go_wp2_with fail
    clear hk1 hk2
    go_loopw [11] (fun a wr => ∃ (k : Nat) (xs : List Value), k ≤ nt ∧ a = .int .i64 (k : Int) ∧ wr.ownsRow w1.heap.size 5 1 (.slice A2 nt c2) nt xs ∧ Below w.heap.size w wr) (fun a _ => nt - (intOf a).toNat)
    case atStart => exact ⟨0, _, by omega, rfl, hown4, hbel4⟩
    case round =>
      clear hown4 hbel4 hr4
      obtain ⟨k, xs, hk, rfl, hown, hbel⟩ := hrel
      by_cases hlt : k < nt
      · obtain ⟨g, rfl⟩ := own_at hown (by omega)
        have hlen : xs.length = nt := by have := hown.1; simpa using this
        have hx : xs[k]? = some xs[k] := List.getElem?_eq_getElem (by omega)
        have hcell := (hown.cellAt k (by omega)).trans hx
        have hf := hown.frozenAt k
        obtain ⟨xv, hxv⟩ : ∃ xv, xv = xs[k] := ⟨_, rfl⟩
        rw [← hxv] at hcell
        clear hx hxv hlen
        go_wp2_with fail
        have hown5 := (hown.stored k (.int .u8 255)).1
        go_roundw
        case rel => exact ⟨k + 1, _, by omega, by go_num, hown5, hbel.setCell (p := ⟨g, k, none⟩) (Nat.le_trans HW1.out (hown.lt g rfl).1) _⟩
        case measure => simp [intOf]; omega
      · go_wp2_with fail
        go_ret
        exact ⟨rfl, hbel⟩
  · have hn0 : 0 ≤ n := by
      rcases Int.lt_or_le n 0 with h | h
      · rw [code_1 (.inl h)] at hz; cases hz
      · exact h
    obtain ⟨N, rfl⟩ := Int.eq_ofNat_of_zero_le hn0
    have hN : N ≤ 65536 := hm3.le
    rw [Int.toNat_natCast] at hm3
    have hparts := of_parts hz
    have HY : Hid (bytesOf N (bitAt bs) = bs) := bytesOf_bits hparts.1
    have HOUT : Hid (∀ i, N ≤ i → bitAt bs i = false) := hparts.2
    have HZ := hide hz
    obtain ⟨b, hb⟩ : ∃ b, b = w2.heap.size := ⟨_, rfl⟩
    rw [← hb] at hm3 ⊢
    clear hz hparts hn0 hb
    go_wp2_with fail
    refine (rof_any (w := w3) N _ _ _ bs hr3 HRK.out).mono ?_
    rintro e w4 ⟨hb4, hcode⟩
    rcases hcode with ⟨h0, _⟩ | ⟨_, p, AL, cL, rfl, href⟩
    · exact absurd HZ.out h0
    rw [Int.toNat_natCast] at href
    have hbel4 : Below w.heap.size w w4 := hbel3.trans (hb4.mono hbel3.size)
    have hr4 := hr3.later hb4
    have hown4 := own_later hown3 hb4
    have hm4 := hm3.later hb4
    have hk1 := run_conv_reads (P := Tryd.prog) w4 36 5 9 Tryd.underlying36 Tryd.underlying5 Tryd.underlying9 _ A nt c bs hr4
    have hk2 := run_conv_reads (P := Tryd.prog) w4 36 5 9 Tryd.underlying36 Tryd.underlying5 Tryd.underlying9 _ A2 nt c2 bs (Reads.of_own hown4)
    clear hb3 hbel3 hr3 hown3 hb4 hm3
    go_wp2_with fail
    clear hk1 hk2
    go_loopw [11] (fun a wr => ∃ (k : Nat) (xs : List Value), k ≤ nt ∧ a = .int .i64 (k : Int) ∧ wr.ownsRow w1.heap.size 5 1 (.slice A2 nt c2) nt xs ∧ Below w.heap.size w wr ∧ MapAt wr b N (bitAt bs) ∧ RefAt wr w3.heap.size p AL cL N (bitAt bs)) (fun a _ => nt - (intOf a).toNat)
    case atStart => exact ⟨0, _, by omega, rfl, hown4, hbel4, hm4, href⟩
    case round =>
      clear hown4 hbel4 hr4 hm4 href
      obtain ⟨k, xs, hk, rfl, hown, hbel, hmr, hrf⟩ := hrel
      by_cases hlt : k < nt
      · obtain ⟨g, rfl⟩ := own_at hown (by omega)
        have hlen : xs.length = nt := by have := hown.1; simpa using this
        have hx : xs[k]? = some xs[k] := List.getElem?_eq_getElem (by omega)
        have hcell := (hown.cellAt k (by omega)).trans hx
        have hf := hown.frozenAt k
        obtain ⟨xv, hxv⟩ : ∃ xv, xv = xs[k] := ⟨_, rfl⟩
        rw [← hxv] at hcell
        clear hx hxv hlen
        go_wp2_with fail
        have hown5 := (hown.stored k (.int .u8 255)).1
        have hgs : wr.grownBy (wr.setCell ⟨g, k, none⟩ (.int .u8 255)) (some g) := grown_set (grown_refl _ _) ⟨g, k, none⟩ rfl _
        have hm5 := hmr.grown hgs (own_map_ne hown hmr (by decide))
        have hrf5 := hrf.grown hgs (own_blk_ne hown hrf.blk (by decide)) (own_own_ne hown hrf.row (by decide))
        go_roundw
        case rel => exact ⟨k + 1, _, by omega, by go_num, hown5, hbel.setCell (p := ⟨g, k, none⟩) (Nat.le_trans HW1.out (hown.lt g rfl).1) _, hm5, hrf5⟩
        case measure => simp [intOf]; omega
      · have hrb := hrk.below hbel
        have hsw := hbel.size
        have hkb := fun (W' : World) (h : Below wr.heap.size wr W') => run_conv_reads (P := Tryd.prog) W' 36 5 9 Tryd.underlying36 Tryd.underlying5 Tryd.underlying9 _ A nt c bs (hrb.below (h.mono hsw))
        have HLE := hide (fun (W' : World) (h : Below wr.heap.size wr W') => len_any (hmr.later h))
        have HCO := hide (fun (W' : World) (h : Below wr.heap.size wr W') => count_any (hmr.later h))
        have HRC := hide (fun (W' : World) (h : Below wr.heap.size wr W') => rcount_any (hrf.later h))
        have HBY := hide (fun (W' : World) (h : Below wr.heap.size wr W') => bytes_any (hmr.later h))
        have HBW := hide hbel
        clear hown hbel hmr hrf hrb hrk
        go_wp2_with fail
        go_region_held (fun W' => Below wr.heap.size wr W') (first | assumption | exact (Below.refl _ _).drew | exact Below.trans (Below.drew (Below.refl _ _)) (by assumption))
          ((first
          | (go_at_call 15; refine (HLE.out _ (by assumption)).mono ?_; rintro e w7 ⟨rfl, rfl⟩)
          | (go_at_call 18; refine (HCO.out _ (by assumption)).mono ?_; rintro e w7 ⟨rfl, rfl⟩)
          | (go_at_call 19; refine (HRC.out _ (by assumption)).mono ?_; rintro e w7 ⟨rfl, rfl⟩)
          | (go_at_call 16; refine (HBY.out _ (by assumption)).mono ?_; rintro e w8 ⟨A8, n8, c8, rfl, hn8, hc8, hown8, hbel8⟩; rw [HY.out] at hown8; have hk8 := own_conv (P := Tryd.prog) 36 5 9 Tryd.underlying36 Tryd.underlying5 Tryd.underlying9 hown8; clear hown8)))
        all_goals
          have hS8 : Below wr.heap.size wr w8 := by assumption
          have hfin := HBW.out.trans (hS8.mono hsw)
          clear hbel8 hk8 hS8 hkb
          go_wp2
          go_ret
          exact ⟨rfl, hfin⟩
set_option maxRecDepth 100000 in
set_option maxHeartbeats 4000000 in
theorem walk_part (n : Int) (A : Option Addr) (nt c : Nat) (l : List UInt8) (w : World) (hT : Tab w) (hr : Reads w w.heap.size 1 A nt (B8 l)) (hc : nt ≤ c) (hc2 : c ≤ 9223372036854775807) (hs : 300 < nt) :
    Calls Tryd.prog 4 #[.int .i64 n, .slice A nt c] w fun e w' => e = .returned (.bool true) ∧ Below w.heap.size w w' := by
  obtain ⟨i0, hi0, hz0, hz1, hz2⟩ := info_parts u8_info
  have hd : decide ((nt : Int) ≤ 300) = false := by simp; omega
  obtain ⟨bs, hbs⟩ : ∃ bs, bs = l.take 300 := ⟨_, rfl⟩
  have hrk : Reads w w.heap.size 1 A 300 (B8 bs) := by have := hr.head (k := 300) (by omega); rwa [Nat.mul_one, B8_take, ← hbs] at this
  clear hbs hr
  go_enter Tryd.func4, Tryd.ntmps4
  go_wp2_with fail
  refine (shown_any w hT).mono ?_
  rintro e w1 ⟨rfl, hb1⟩
  have hr1 := hrk.later hb1
  have hown1 : (w1.alloc (.cells #[] 5)).ownsRow w1.heap.size 5 1 (.slice (some ⟨w1.heap.size, 0, none⟩) 0 0) 0 [] :=
    World.ownsRow_lit (base := w1.heap.size) (e := 5) (size := 1) w1 #[] 0 (Nat.le_refl _) (Nat.zero_le _) rfl
  have h1 : 0 + 300 ≤ maxLen := by unfold maxLen; omega
  have h2 : (0 + 300) * 1 ≤ 140737488355328 := by omega
  have H1 := hide h1
  have H2 := hide h2
  clear h1 h2
  go_wp2_with (first | (at_builtin; refine wpList_append_any _ rfl (.tmp 18) (.tmp 19) _ rfl w1.heap.size 5 i0 _ 1 1 Tryd.underlying36 hi0 hz0 hz1 hz2 rfl (by decide) _ _ _ rfl hown1 _ A 300 c (B8 bs) rfl (hr1.alloc (Nat.le_refl _) _) (B8_one _) H1.out H2.out (le_alloc (Nat.le_refl _) _) ?_; intro v2 w2 hown2 hb2; simp only [Nat.zero_add, List.nil_append] at hown2; obtain ⟨A2, c2, rfl, hk2, hm2⟩ := own_shape hown2))
  have hba2 : Below w1.heap.size w1 w2 := ((Below.refl _ _).alloc (Nat.le_refl _) _).trans hb2
  have hbel2 : Below w.heap.size w w2 := hb1.trans (hba2.mono hb1.size)
  have hr2 := hr1.later hba2
  clear hown1 hb2 hr1
  refine (of_any (w := w2) n _ _ _ bs (Reads.of_own hown2)).mono ?_
  rintro e w3 ⟨hb3, hcode⟩
  have hbel3 : Below w.heap.size w w3 := hbel2.trans (hb3.mono hbel2.size)
  have hr3 := hr2.later hb3
  have hown3 := own_later hown2 hb3
  have HW1 : Hid (w.heap.size ≤ w1.heap.size) := hb1.size
  have HRK : Hid (300 ≤ 9223372036854775807) := by show _ ≤ _; omega
  clear hba2 hbel2 hr2 hown2 hb1
  rcases hcode with ⟨hz, rfl⟩ | ⟨hz, rfl, hm3⟩
  · have HZ := hide hz
    clear hz
    go_wp2_with fail
    refine (rof_any (w := w3) n _ _ _ bs hr3 HRK.out).mono ?_
    rintro e w4 ⟨hb4, hcode⟩
    rcases hcode with ⟨_, rfl⟩ | ⟨h0, _⟩
    case inr => exact absurd h0 HZ.out
    have hbel4 : Below w.heap.size w w4 := hbel3.trans (hb4.mono hbel3.size)
    have hr4 := hr3.later hb4
    have hown4 := own_later hown3 hb4
    have hk1 := run_conv_reads (P := Tryd.prog) w4 36 5 9 Tryd.underlying36 Tryd.underlying5 Tryd.underlying9 _ A 300 c bs hr4
    have hk2 := run_conv_reads (P := Tryd.prog) w4 36 5 9 Tryd.underlying36 Tryd.underlying5 Tryd.underlying9 _ A2 300 c2 bs (Reads.of_own hown4)
    clear hb3 hbel3 hr3 hown3 hb4
    obtain ⟨code, hcd⟩ : ∃ code, code = ofCode n bs := ⟨_, rfl⟩
    rw [← hcd]
    clear hcd HZ
    go_wp2_with fail
    clear hk1 hk2
    go_loopw [11] (fun a wr => ∃ (k : Nat) (xs : List Value), k ≤ 300 ∧ a = .int .i64 (k : Int) ∧ wr.ownsRow w1.heap.size 5 1 (.slice A2 300 c2) 300 xs ∧ Below w.heap.size w wr) (fun a _ => 300 - (intOf a).toNat)
    case atStart => exact ⟨0, _, by omega, rfl, hown4, hbel4⟩
    case round =>
      clear hown4 hbel4 hr4
      obtain ⟨k, xs, hk, rfl, hown, hbel⟩ := hrel
      by_cases hlt : k < 300
      · obtain ⟨g, rfl⟩ := own_at hown (by omega)
        have hlen : xs.length = 300 := by have := hown.1; simpa using this
        have hx : xs[k]? = some xs[k] := List.getElem?_eq_getElem (by omega)
        have hcell := (hown.cellAt k (by omega)).trans hx
        have hf := hown.frozenAt k
        obtain ⟨xv, hxv⟩ : ∃ xv, xv = xs[k] := ⟨_, rfl⟩
        rw [← hxv] at hcell
        clear hx hxv hlen
        go_wp2_with fail
        have hown5 := (hown.stored k (.int .u8 255)).1
        go_roundw
        case rel => exact ⟨k + 1, _, by omega, by go_num, hown5, hbel.setCell (p := ⟨g, k, none⟩) (Nat.le_trans HW1.out (hown.lt g rfl).1) _⟩
        case measure => simp [intOf]; omega
      · go_wp2_with fail
        go_ret
        exact ⟨rfl, hbel⟩
  · have hn0 : 0 ≤ n := by
      rcases Int.lt_or_le n 0 with h | h
      · rw [code_1 (.inl h)] at hz; cases hz
      · exact h
    obtain ⟨N, rfl⟩ := Int.eq_ofNat_of_zero_le hn0
    have hN : N ≤ 65536 := hm3.le
    rw [Int.toNat_natCast] at hm3
    have hparts := of_parts hz
    have HY : Hid (bytesOf N (bitAt bs) = bs) := bytesOf_bits hparts.1
    have HOUT : Hid (∀ i, N ≤ i → bitAt bs i = false) := hparts.2
    have HZ := hide hz
    obtain ⟨b, hb⟩ : ∃ b, b = w2.heap.size := ⟨_, rfl⟩
    rw [← hb] at hm3 ⊢
    clear hz hparts hn0 hb
    go_wp2_with fail
    refine (rof_any (w := w3) N _ _ _ bs hr3 HRK.out).mono ?_
    rintro e w4 ⟨hb4, hcode⟩
    rcases hcode with ⟨h0, _⟩ | ⟨_, p, AL, cL, rfl, href⟩
    · exact absurd HZ.out h0
    rw [Int.toNat_natCast] at href
    have hbel4 : Below w.heap.size w w4 := hbel3.trans (hb4.mono hbel3.size)
    have hr4 := hr3.later hb4
    have hown4 := own_later hown3 hb4
    have hm4 := hm3.later hb4
    have hk1 := run_conv_reads (P := Tryd.prog) w4 36 5 9 Tryd.underlying36 Tryd.underlying5 Tryd.underlying9 _ A 300 c bs hr4
    have hk2 := run_conv_reads (P := Tryd.prog) w4 36 5 9 Tryd.underlying36 Tryd.underlying5 Tryd.underlying9 _ A2 300 c2 bs (Reads.of_own hown4)
    clear hb3 hbel3 hr3 hown3 hb4 hm3
    go_wp2_with fail
    clear hk1 hk2
    go_loopw [11] (fun a wr => ∃ (k : Nat) (xs : List Value), k ≤ 300 ∧ a = .int .i64 (k : Int) ∧ wr.ownsRow w1.heap.size 5 1 (.slice A2 300 c2) 300 xs ∧ Below w.heap.size w wr ∧ MapAt wr b N (bitAt bs) ∧ RefAt wr w3.heap.size p AL cL N (bitAt bs)) (fun a _ => 300 - (intOf a).toNat)
    case atStart => exact ⟨0, _, by omega, rfl, hown4, hbel4, hm4, href⟩
    case round =>
      clear hown4 hbel4 hr4 hm4 href
      obtain ⟨k, xs, hk, rfl, hown, hbel, hmr, hrf⟩ := hrel
      by_cases hlt : k < 300
      · obtain ⟨g, rfl⟩ := own_at hown (by omega)
        have hlen : xs.length = 300 := by have := hown.1; simpa using this
        have hx : xs[k]? = some xs[k] := List.getElem?_eq_getElem (by omega)
        have hcell := (hown.cellAt k (by omega)).trans hx
        have hf := hown.frozenAt k
        obtain ⟨xv, hxv⟩ : ∃ xv, xv = xs[k] := ⟨_, rfl⟩
        rw [← hxv] at hcell
        clear hx hxv hlen
        go_wp2_with fail
        have hown5 := (hown.stored k (.int .u8 255)).1
        have hgs : wr.grownBy (wr.setCell ⟨g, k, none⟩ (.int .u8 255)) (some g) := grown_set (grown_refl _ _) ⟨g, k, none⟩ rfl _
        have hm5 := hmr.grown hgs (own_map_ne hown hmr (by decide))
        have hrf5 := hrf.grown hgs (own_blk_ne hown hrf.blk (by decide)) (own_own_ne hown hrf.row (by decide))
        go_roundw
        case rel => exact ⟨k + 1, _, by omega, by go_num, hown5, hbel.setCell (p := ⟨g, k, none⟩) (Nat.le_trans HW1.out (hown.lt g rfl).1) _, hm5, hrf5⟩
        case measure => simp [intOf]; omega
      · have hrb := hrk.below hbel
        have hsw := hbel.size
        have hkb := fun (W' : World) (h : Below wr.heap.size wr W') => run_conv_reads (P := Tryd.prog) W' 36 5 9 Tryd.underlying36 Tryd.underlying5 Tryd.underlying9 _ A 300 c bs (hrb.below (h.mono hsw))
        have HLE := hide (fun (W' : World) (h : Below wr.heap.size wr W') => len_any (hmr.later h))
        have HCO := hide (fun (W' : World) (h : Below wr.heap.size wr W') => count_any (hmr.later h))
        have HRC := hide (fun (W' : World) (h : Below wr.heap.size wr W') => rcount_any (hrf.later h))
        have HBY := hide (fun (W' : World) (h : Below wr.heap.size wr W') => bytes_any (hmr.later h))
        have HBW := hide hbel
        clear hown hbel hmr hrf hrb hrk
        go_wp2_with fail
        go_region_held (fun W' => Below wr.heap.size wr W') (first | assumption | exact (Below.refl _ _).drew | exact Below.trans (Below.drew (Below.refl _ _)) (by assumption))
          ((first
          | (go_at_call 15; refine (HLE.out _ (by assumption)).mono ?_; rintro e w7 ⟨rfl, rfl⟩)
          | (go_at_call 18; refine (HCO.out _ (by assumption)).mono ?_; rintro e w7 ⟨rfl, rfl⟩)
          | (go_at_call 19; refine (HRC.out _ (by assumption)).mono ?_; rintro e w7 ⟨rfl, rfl⟩)
          | (go_at_call 16; refine (HBY.out _ (by assumption)).mono ?_; rintro e w8 ⟨A8, n8, c8, rfl, hn8, hc8, hown8, hbel8⟩; rw [HY.out] at hown8; have hk8 := own_conv (P := Tryd.prog) 36 5 9 Tryd.underlying36 Tryd.underlying5 Tryd.underlying9 hown8; clear hown8)))
        all_goals
          have hS8 : Below wr.heap.size wr w8 := by assumption
          have hfin := HBW.out.trans (hS8.mono hsw)
          clear hbel8 hk8 hS8 hkb
          go_wp2
          go_ret
          exact ⟨rfl, hfin⟩
theorem walk (n : Int) (A : Option Addr) (nt c : Nat) (l : List UInt8) (w : World) (hT : Tab w) (_ : -9223372036854775808 ≤ n) (_ : n ≤ 9223372036854775807) (hr : Reads w w.heap.size 1 A nt (B8 l)) (hc : nt ≤ c) (hc2 : c ≤ 9223372036854775807) :
    Calls Tryd.prog 4 #[.int .i64 n, .slice A nt c] w fun e w' => e = .returned (.bool true) ∧ Below w.heap.size w w' := by
  by_cases hs : nt ≤ 300
  · exact walk_all n A nt c l w hT hr hc hc2 hs
  · exact walk_part n A nt c l w hT hr hc hc2 (by omega)

/-! The row's frame, by program: how the walk above proves the statement. -/
set_option maxRecDepth 100000 in
theorem lifted (os : Os) (started : os.Started) (H : Type) (enc : TypeId × Value → H) :
    ReturnsInHanded {} Tryd.checked os 4 .any (fun w args => (Rows.bitsReadsSpec.pre enc Tryd.prog Tryd.f4 Rows.bitsReadsRow.domain false w args ∧ laidMetH Tryd.prog tabL w) ∧ sizedMet enc Tryd.prog Tryd.f4 (OpenSpec.ofChange Rows.bitsReadsSpec) false w args) (Rows.bitsReadsSpec.post enc Tryd.prog Tryd.f4 false true false false) := by
  refine returnsInHanded_of_change_and (C := Tryd.checked) (X := fun w _ => laidMetH Tryd.prog tabL w) (fun _ _ _ hh h => h.of_heap hh) own started (by kernel_rfl) Tryd.func4
    (ChangeSpec.witness_shaped (enc := enc) (C := Tryd.checked) (os := os) (X := fun w _ => laidMetH Tryd.prog tabL w) false (World.doorLaid Tryd.prog 400 os) #[.int .i64 0, .slice none 0 0] 8 rfl (World.shaped_of_RefB (by kernel_rfl) (by kernel_rfl)) (by kernel_rfl) (by kernel_rfl) (by kernel_rfl) (door_met os _)) ?_
  intro W base args ds gs before hval0 hW _ _ hL _
  have hval : ∀ (j : Nat) t v, Tryd.f4.params[j]? = some t → args[j]? = some v → Value.okWide Tryd.prog W .any base t v := hval0
  have hW' := hW
  obtain ⟨p, q, hA0, hV, rfl, hfz, hnd⟩ := hW
  have hA : DataW.TrodAll enc Tryd.prog W 0 (fun _ => true) true Tryd.f4.params.toList args.toList ds p := hA0
  rw [Tryd.params4] at hA hval
  obtain ⟨v0, vs0, d0, ds0, p0, q0, hargs, rfl, rfl, h0, r0⟩ := trodAll_cons hA
  obtain ⟨v1, vs1, d1, ds1, p1, q1, rfl, rfl, rfl, h1, r1⟩ := trodAll_cons r0
  obtain ⟨rfl, rfl, rfl⟩ := trodAll_nil r1
  obtain rfl : args = #[v0, v1] := by cases args; simp_all
  obtain ⟨rfl, rfl⟩ := trodVars_none hV
  obtain ⟨a0, rfl, rfl, rfl, w0⟩ := open_int Tryd.underlying3 (hval 0 3 v0 rfl rfl) h0
  have b0 := bounds_i64 w0
  obtain ⟨A1, n1, c1, rfl⟩ := okWide_slice Tryd.underlying36 (hval 1 36 v1 rfl rfl)
  have k1 := h1
  have lt1 : ∀ x ∈ p1, x.block < W.heap.size := by obtain ⟨m, hm⟩ := k1; exact DataW.trod_lt m _ _ _ hm
  obtain ⟨l1, x1, g1, z1⟩ := arg_bytes h1
  clear hA0 hval0
  refine (walk a0 A1 n1 c1 l1 W (of_laid hL) b0.1 b0.2 x1 g1 z1).mono fun e W' ⟨he, bel⟩ => ?_
  subst he
  exact ⟨_, rfl, _, _, _, [], _, [], hW', trodAll_mk1 (shut_bool Tryd.underlying4 _), (trodAll_cons_mk (shut_int Tryd.underlying3 w0) (trodAll_cons_mk (Below.trod laidOut (by kernel_rfl) (of_decide_eq_true (by kernel_rfl)) k1 bel lt1) trodAll_mk0)), rfl, bel.frame _, fun h => by cases h⟩

theorem over : Rows.bitsReadsRow.holds Tryd.pinned (OpenSpec.ofChange Rows.bitsReadsSpec) :=
  OpenClaim.holds_of_wide 4 Tryd.f4 rfl rfl rfl rfl rfl rfl rfl ⟨rfl, rfl, rfl, rfl, rfl⟩ rfl rfl rfl rfl rfl (by kernel_rfl) Tryd.func4 (by kernel_rfl)
    (of_decide_eq_true (by kernel_rfl)) (by unfold Func.isWrapper; first | (rw [if_pos (by decide +kernel)]; kernel_rfl) | (rw [if_neg (by decide +kernel)]; exact ⟨rfl, rfl⟩))
    (fun os started H enc _ => lifted os started H enc)

/-- The statement: the tied card. -/
theorem proved : Rows.BitsReadsCardSaid :=
  Claim7.holds_tied_plain_at .later [] [.data] true Rows.bitsReadsCard.stood.harness Rows.bitsReadsCard.stood.looks
    over (fun _ h => by cases h) (by kernel_rfl) (fun _ h => by cases h) bitsReads_row_tie rfl ⟨rfl, rfl⟩ (by kernel_rfl) rfl
    (fun f fn hf hfn => by
      obtain rfl : f = 4 := Option.some.inj ((show Tryd.prog.funcNamed "braidwork/braidworklaw02.BitsReads" = some 4 by kernel_rfl).symm.trans hf) |>.symm
      obtain rfl : fn = Tryd.f4 := (Option.some.inj (Tryd.func4.symm.trans hfn)).symm
      exact ⟨by kernel_rfl, fun j t ht => by
        rw [Tryd.params4] at ht
        have hm : t ∈ [3, 36] := by simpa using Array.mem_of_getElem? ht
        have hall : ([3, 36].all fun u => !Tryd.prog.wantsStandIn u) = true := by kernel_rfl
        exact (show Tryd.prog.wantsStandIn t = false by simpa using List.all_eq_true.1 hall t hm)⟩)
    (by kernel_rfl)
#print axioms proved
end Go.Proofs.YtpakipacclmimaaDoor.BitsReads
