/- What the reference's Clone and Bytes do. -/
import Derived.Test.YtpakipacclmimaaDoorPlainW
namespace Go.Proofs.YtpakipacclmimaaDoor
open Go.RowKit

theorem BL_one (n : Nat) (t : Nat → Bool) : ∀ u ∈ BL n t, u.oneCell' = true := by
  intro u hu
  simp only [BL, List.mem_map] at hu
  obtain ⟨i, _, rfl⟩ := hu
  rfl
/-! ### The bytes, place by place -/
theorem byteOf_cut_lt (t : Nat → Bool) (i : Nat) : (byteOf (cut t i) (i / 8)).toNat < 2 ^ (i % 8) := by
  rw [byteOf_toNat]
  apply Nat.lt_pow_two_of_testBit
  intro k hk
  rw [word_bit]
  have : ¬ (8 * (i / 8) + k < i) := by omega
  simp [cut, this]
theorem byteOf_cut_zero (t : Nat → Bool) {i j : Nat} (h : i ≤ 8 * j) : byteOf (cut t i) j = 0 := by
  rw [byteOf, word_zero (fun k _ => by
    have : ¬ (8 * j + k < i) := by omega
    simp only [cut, decide_eq_false this, Bool.false_and])]
  rfl
theorem bytes_grow (t : Nat → Bool) {i : Nat} (h : i % 8 = 0) : bytesOf i (cut t i) ++ [0] = bytesOf (i + 1) (cut t i) := by
  have e : (i + 1 + 7) / 8 = (i + 7) / 8 + 1 := by omega
  rw [bytesOf, bytesOf, e, List.range_succ, List.map_append, List.map_cons, List.map_nil, byteOf_cut_zero t (by omega)]
theorem bytes_stay (t : Nat → Bool) {i : Nat} (h : i % 8 ≠ 0) : bytesOf i (cut t i) = bytesOf (i + 1) (cut t i) := by
  have e : (i + 1 + 7) / 8 = (i + 7) / 8 := by omega
  rw [bytesOf, bytesOf, e]
theorem bytes_add (t : Nat → Bool) {i : Nat} (h : t i = true) : (B8 (bytesOf (i + 1) (cut t i))).set (i / 8) (.int .u8 ((((byteOf (cut t i) (i / 8)).toNat + 2 ^ (i % 8) : Nat)) : Int)) = B8 (bytesOf (i + 1) (cut t (i + 1))) := by
  have hb := bytesOf_set (i + 1) (cut t i) (i := i) (by omega)
  have hj := nat_join (i % 8) (2 ^ (i % 8)) _ (Nat.mod_self _) (byteOf_cut_lt t i)
  rw [cut_yes h, ← hb, Nat.or_comm, hj, Nat.add_comm (2 ^ (i % 8))]

section
variable {B p c n : Nat} {A : Option Addr} {t : Nat → Bool} {w : World}
set_option maxRecDepth 100000 in
theorem rclone_any (hm : RefAt w B p A c n t) :
    Calls Tryd.prog 12 #[.pointer (some ⟨p, 0, none⟩)] w (RefAns w n t) := by
  obtain ⟨i0, hi0, hz0, hz1, hz2⟩ := info_parts bool_info
  have h0 := hm.cell0
  have hl := hm.le
  have h0a : ∀ o, (w.alloc o).cell? ⟨p, 0, none⟩ = some (.slice A n c) := fun o => (World.cell?_alloc_lt w o ⟨p, 0, none⟩ hm.blk.lt).trans h0
  have hr : Reads (w.alloc (.cells #[] 4)) w.heap.size 1 A n (BL n t) := (Reads.of_own hm.row).alloc (Nat.le_refl _) _
  have hown0 : (w.alloc (.cells #[] 4)).ownsRow w.heap.size 4 1 (.slice (some ⟨w.heap.size, 0, none⟩) 0 0) 0 [] :=
    World.ownsRow_lit (base := w.heap.size) (e := 4) (size := 1) w #[] 0 (Nat.le_refl _) (Nat.zero_le _) rfl
  have h1 : 0 + n ≤ maxLen := by unfold maxLen; omega
  have h2 : (0 + n) * 1 ≤ 140737488355328 := by omega
  have H1 := hide h1
  have H2 := hide h2
  clear h1 h2
  go_enter Tryd.func12, Tryd.ntmps12
  go_wp2_with (first | (at_builtin; refine wpList_append_any _ rfl (.tmp 3) (.tmp 7) _ rfl w.heap.size 4 i0 _ 1 1 Tryd.underlying39 hi0 hz0 hz1 hz2 rfl (by decide) _ _ _ rfl hown0 _ A n c (BL n t) rfl hr (BL_one _ _) H1.out H2.out (le_alloc (Nat.le_refl _) _) ?_; intro v1 w1 hown1 hb1; simp only [Nat.zero_add, List.nil_append] at hown1; obtain ⟨A1, c1, rfl, hk1, hm1⟩ := own_shape hown1))
  have hs1 : w.heap.size ≤ w1.heap.size := Nat.le_trans (le_alloc (Nat.le_refl _) _) hb1.size
  go_ret
  exact ⟨w1.heap.size, A1, c1, rfl, ⟨Blk.new _ _ _, hown1.alloc _, hl, hs1⟩, (((Below.refl _ _).alloc (Nat.le_refl _) _).trans hb1).alloc hs1 _⟩
set_option maxRecDepth 100000 in
set_option maxHeartbeats 1000000 in
theorem rbytes_any (hm : RefAt w B p A c n t) (ho : ∀ i, n ≤ i → t i = false) :
    Calls Tryd.prog 20 #[.pointer (some ⟨p, 0, none⟩)] w (Made w.heap.size 5 1 (B8 (bytesOf n t)) w) := by
  obtain ⟨i0, hi0, hz0, hz1, hz2⟩ := info_parts u8_info
  have h0 := hm.cell0
  have hl := hm.le
  have hown0 : (w.alloc (.cells #[] 5)).ownsRow w.heap.size 5 1 (.slice (some ⟨w.heap.size, 0, none⟩) 0 0) 0 [] :=
    World.ownsRow_lit (base := w.heap.size) (e := 5) (size := 1) w #[] 0 (Nat.le_refl _) (Nat.zero_le _) rfl
  have hbel0 : Below w.heap.size w (w.alloc (.cells #[] 5)) := (Below.refl _ _).alloc (Nat.le_refl _) _
  go_enter Tryd.func20, Tryd.ntmps20
  go_wp2_with fail
  go_loopw [3, 4] (fun s a wr => ∃ (k m : Nat) (A1 : Option Addr) (c1 : Nat), k ≤ n ∧ a = .int .i64 (k : Int) ∧ s = .slice A1 m c1 ∧ Hid (m = (k + 7) / 8) ∧ m ≤ 8192 ∧ wr.ownsRow w.heap.size 5 1 (.slice A1 m c1) m (B8 (bytesOf k (cut t k))) ∧ Below w.heap.size w wr) (fun _ a _ => n - (intOf a).toNat)
  case atStart => exact ⟨0, 0, _, _, by omega, rfl, rfl, hide rfl, by omega, hown0, hbel0⟩
  case round =>
    clear hown0 hbel0
    obtain ⟨k, m, A1, c1, hk, rfl, rfl, HM, hm8, hown, hbel⟩ := hrel
    have hmr := hm.later hbel
    have h0r := hmr.cell0
    by_cases hlt : k < n
    · have hmn : m ≤ 8192 := hm8
      obtain ⟨q, hq⟩ : ∃ q, q = k % 8 := ⟨_, rfl⟩
      have hq8 : q < 8 := by omega
      obtain ⟨pw, hpw⟩ : ∃ pw, pw = 2 ^ q := ⟨_, rfl⟩
      obtain ⟨x, hx⟩ : ∃ x, x = (byteOf (cut t k) (k / 8)).toNat := ⟨_, rfl⟩
      have hxl : x < pw := by rw [hx, hpw, hq]; exact byteOf_cut_lt t k
      have hpl : pw ≤ 128 := by rw [hpw]; exact Nat.le_trans (Nat.pow_le_pow_right (by decide) (by omega : q ≤ 7)) (by decide)
      have HX : Hid ((B8 (bytesOf (k + 1) (cut t k)))[k / 8]? = some (.int .u8 (x : Int))) := by
        show _ = _
        rw [B8, List.getElem?_map, bytesOf_at (k + 1) _ (by omega), hx]
        rfl
      have HADD : Hid (t k = true → (B8 (bytesOf (k + 1) (cut t k))).set (k / 8) (.int .u8 ((x + pw : Nat) : Int)) = B8 (bytesOf (k + 1) (cut t (k + 1)))) := by
        intro h
        rw [hx, hpw, hq]
        exact bytes_add t h
      have HNO : Hid (t k = false → cut t (k + 1) = cut t k) := fun h => cut_no h
      have hpe : (2 : Int) ^ (k % 8) % 256 = (pw : Int) := by
        rw [← hq]
        have e : (2 : Int) ^ q = (pw : Int) := by rw [hpw, Int.natCast_pow]; rfl
        rw [e]; omega
      have hpe2 : IntKind.u8.wrap ((2 : Int) ^ (k % 8)) = (pw : Int) := by rw [IntKind.wrap_u8', hpe]
      have hHM1 : 8 * m ≤ k + 7 := by have := HM.out; omega
      have hHM2 : k + 7 < 8 * m + 8 := by have := HM.out; omega
      obtain ⟨g, rfl⟩ := own_at hm.row (by omega)
      clear hq hpw hx
      by_cases hk8 : k % 8 = 0
      · have hd8 : ((k : Int) % 8 == 0) = true := by rw [beq_iff_eq]; omega
        have HG : Hid (B8 (bytesOf k (cut t k)) ++ [.int .u8 0] = B8 (bytesOf (k + 1) (cut t k))) := by show _ = _; rw [← bytes_grow t hk8, B8_append]; rfl
        have hk9 : 8 * m ≤ k := by omega
        have hk10 : k ≤ 8 * m := by omega
        clear hk8
        have h1 : m + 1 ≤ maxLen := by unfold maxLen; omega
        have h2 : (m + 1) * 1 ≤ 140737488355328 := by omega
        have H1 := hide h1
        have H2 := hide h2
        clear h1 h2
        cases htk : t k
        · have HT := hide htk
          have HN := hide (HNO.out htk)
          clear htk
          go_wp2_with (first | (at_builtin; refine wpList_append_any _ rfl (.tmp 18) (.tmp 19) _ rfl w.heap.size 5 i0 _ 1 1 Tryd.underlying36 hi0 hz0 hz1 hz2 rfl (by decide) _ _ _ rfl (hown.alloc _) (wr.heap.size + 1) (some ⟨wr.heap.size, 0, none⟩) 1 1 [.int .u8 0] rfl (Reads.one _ _ _ _ (by omega)) (one_u8 _) H1.out H2.out (le_alloc hbel.size _) ?_; intro v2 w2 hown2 hb2; rw [HG.out] at hown2; have hbel2 : Below w.heap.size w w2 := (hbel.alloc hbel.size _).trans hb2; have hm2 := hm.later hbel2; have h02 := hm2.cell0; have hc2 := (hm2.row.cellAt k (by omega)).trans (BL_at n t hlt); rw [HT.out] at hc2; obtain ⟨A2, c2, rfl, hk2, hmx2⟩ := own_shape hown2; obtain ⟨g2, rfl⟩ := own_at hown2 (by omega); have hcx := (hown2.cellAt (k / 8) (by omega)).trans HX.out; have hfx := hown2.frozenAt (k / 8)))
          have HM2 : Hid (m + 1 = (k + 1 + 7) / 8) := by show _ = _; omega
          rw [← HN.out] at hown2
          go_roundw
          case rel => exact ⟨k + 1, m + 1, _, c2, by omega, by go_num, rfl, HM2, by omega, hown2, hbel2⟩
          case measure => simp [intOf]; omega
        · have HT := hide htk
          have HA := hide (HADD.out htk)
          clear htk
          go_wp2_with (first | (at_builtin; refine wpList_append_any _ rfl (.tmp 18) (.tmp 19) _ rfl w.heap.size 5 i0 _ 1 1 Tryd.underlying36 hi0 hz0 hz1 hz2 rfl (by decide) _ _ _ rfl (hown.alloc _) (wr.heap.size + 1) (some ⟨wr.heap.size, 0, none⟩) 1 1 [.int .u8 0] rfl (Reads.one _ _ _ _ (by omega)) (one_u8 _) H1.out H2.out (le_alloc hbel.size _) ?_; intro v2 w2 hown2 hb2; rw [HG.out] at hown2; have hbel2 : Below w.heap.size w w2 := (hbel.alloc hbel.size _).trans hb2; have hm2 := hm.later hbel2; have h02 := hm2.cell0; have hc2 := (hm2.row.cellAt k (by omega)).trans (BL_at n t hlt); rw [HT.out] at hc2; obtain ⟨A2, c2, rfl, hk2, hmx2⟩ := own_shape hown2; obtain ⟨g2, rfl⟩ := own_at hown2 (by omega); have hcx := (hown2.cellAt (k / 8) (by omega)).trans HX.out; have hfx := hown2.frozenAt (k / 8)))
          have HM2 : Hid (m + 1 = (k + 1 + 7) / 8) := by show _ = _; omega
          have hown3 := (hown2.stored (k / 8) (.int .u8 ((x + pw : Nat) : Int))).1
          rw [HA.out] at hown3
          go_roundw
          case rel => exact ⟨k + 1, m + 1, _, c2, by omega, by go_num, rfl, HM2, by omega, hown3, hbel2.setCell (p := ⟨g2, k / 8, none⟩) (hown2.lt g2 rfl).1 _⟩
          case measure => simp [intOf]; omega
      · have hd8 : ((k : Int) % 8 == 0) = false := by rw [beq_eq_false_iff_ne]; omega
        have HG : Hid (bytesOf k (cut t k) = bytesOf (k + 1) (cut t k)) := bytes_stay t hk8
        cases htk : t k
        · have HT := hide htk
          have HN := hide (HNO.out htk)
          clear htk
          have hown2 := hown
          rw [HG.out] at hown2
          obtain ⟨g2, rfl⟩ := own_at hown2 (by omega)
          have hc2 := (hmr.row.cellAt k (by omega)).trans (BL_at n t hlt)
          rw [HT.out] at hc2
          have hcx := (hown2.cellAt (k / 8) (by omega)).trans HX.out
          have hfx := hown2.frozenAt (k / 8)
          go_wp2_with fail
          have HM2 : Hid (m = (k + 1 + 7) / 8) := by show _ = _; omega
          rw [← HN.out] at hown2
          go_roundw
          case rel => exact ⟨k + 1, m, _, c1, by omega, by go_num, rfl, HM2, by omega, hown2, hbel⟩
          case measure => simp [intOf]; omega
        · have HT := hide htk
          have HA := hide (HADD.out htk)
          clear htk
          have hown2 := hown
          rw [HG.out] at hown2
          obtain ⟨g2, rfl⟩ := own_at hown2 (by omega)
          have hc2 := (hmr.row.cellAt k (by omega)).trans (BL_at n t hlt)
          rw [HT.out] at hc2
          have hcx := (hown2.cellAt (k / 8) (by omega)).trans HX.out
          have hfx := hown2.frozenAt (k / 8)
          go_wp2_with fail
          have HM2 : Hid (m = (k + 1 + 7) / 8) := by show _ = _; omega
          have hown3 := (hown2.stored (k / 8) (.int .u8 ((x + pw : Nat) : Int))).1
          rw [HA.out] at hown3
          go_roundw
          case rel => exact ⟨k + 1, m, _, c1, by omega, by go_num, rfl, HM2, by omega, hown3, hbel.setCell (p := ⟨g2, k / 8, none⟩) (hown2.lt g2 rfl).1 _⟩
          case measure => simp [intOf]; omega
    · go_wp2_with fail
      go_ret
      have e : k = n := by omega
      have e2 : m = (n + 7) / 8 := by rw [HM.out, e]
      rw [e, cut_all ho] at hown
      obtain ⟨A2, c2, he, h1, h2⟩ := own_shape hown
      injection he with _ _ h3
      subst h3
      exact ⟨_, _, _, rfl, h1, h2, hown, hbel⟩
end
#print axioms rclone_any
end Go.Proofs.YtpakipacclmimaaDoor
