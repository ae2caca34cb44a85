/- When two rows of sectors are the same: what Same answers. -/
import Derived.Test.YtdchdmbkojnmcaaSec
import Derived.Test.YtdchdmbkojnmcaaArr
namespace Go.Proofs.Ytdchdmbkojnmcaa
open Go.RowKit

theorem samesec_no {a b : List UInt8} {k : Nat} (h : secAt a k ≠ secAt b k) : decide (a = b) = false := by
  rw [decide_eq_false_iff_not]
  rintro rfl
  exact h rfl
theorem samesec_yes {a b : List UInt8} {n : Nat} (ha : a.length = n * 64) (hb : b.length = n * 64) (h : a.take (n * 64) = b.take (n * 64)) : decide (a = b) = true := by
  rw [List.take_of_length_le (by omega), List.take_of_length_le (by omega)] at h
  exact decide_eq_true h
theorem samesec_len {a b : List UInt8} (h : a.length ≠ b.length) : decide (a = b) = false := by
  rw [decide_eq_false_iff_not]
  rintro rfl
  exact h rfl
theorem sec_size {cs : List UInt8} (h : cs.length = 64) : (Try.prog.info? 35).map (·.size) = some (B8 cs).length := by rw [B8_length, h]; kernel_rfl
theorem u8_cells : Try.prog.cellsOf 5 = 1 := by kernel_rfl
theorem sec_guard : Try.prog.eqGuardType Try.prog.depth 35 = false := by kernel_rfl

set_option maxRecDepth 100000 in
set_option maxHeartbeats 1000000 in
theorem sameSec_any (A C : Option Addr) (n c m d : Nat) (a b : List UInt8) (B1 B2 : Nat) (w : World) (ha : Reads w B1 64 A n (B8 a)) (hb : Reads w B2 64 C m (B8 b)) (hn : n ≤ 70368743000000) (hm : m ≤ 70368743000000) :
    Calls Try.prog 12 #[.slice A n c, .slice C m d] w fun e w' => e = .returned (.bool (decide (a = b))) ∧ ∃ q, w' = w.drewN q := by
  have hla : a.length = n * 64 := by have := ha.1; rwa [B8_length] at this
  have hlb : b.length = m * 64 := by have := hb.1; rwa [B8_length] at this
  obtain ⟨i0, hi0, _⟩ := info_parts u8_parts
  by_cases hnm : n = m
  · subst hnm
    have LA := hide hla
    have LB := hide hlb
    clear hla hlb
    go_enter Try.func12, Try.ntmps12
    go_wp2
    go_loopw [5] (fun i wr => ∃ k q : Nat, k ≤ n ∧ i = .int .i64 k ∧ wr = w.drewN q ∧ Hid (a.take (k * 64) = b.take (k * 64))) (fun i _ => n - (intOf i).toNat)
    case atStart => exact ⟨0, 0, Nat.zero_le _, rfl, rfl, hide (by simp)⟩
    case round =>
      obtain ⟨k, q, hk, rfl, rfl, hall⟩ := hrel
      by_cases hkn : k < n
      · obtain ⟨ad, rfl, _, hca⟩ := ha.sec_at hkn
        obtain ⟨bd, rfl, _, hcb⟩ := hb.sec_at hkn
        have hsa := secAt_length LA.out hkn
        have hsb := secAt_length LB.out hkn
        have hka := sec_size hsa
        have hkb := sec_size hsb
        have HX := hide (take_secAt a k)
        have HY := hide (take_secAt b k)
        obtain ⟨X, hX⟩ : ∃ X, X = secAt a k := ⟨_, rfl⟩
        obtain ⟨Y, hY⟩ : ∃ Y, Y = secAt b k := ⟨_, rfl⟩
        have HCA := hide hca
        have HCB := hide hcb
        rw [← hX] at HCA hsa hka HX
        rw [← hY] at HCB hsb hkb HY
        have HSA := hide hsa
        have HSB := hide hsb
        have HKA := hide hka
        have HKB := hide hkb
        have HXX := hide hX
        have HYY := hide hY
        clear hca hcb hsa hsb hka hkb hX hY
        go_wp2_with fail
        refine wp_region_quiet_lit (by kernel_rfl) (by kernel_rfl) ?_
        iterate 3 (go_big_quiet_step (fail))
        refine quiet_load_at rfl 35 (.tmp 19) rfl (ad.add (k * 64)) rfl (B8 X) _ (by rintro w1 ⟨q1, rfl⟩ j v hv; exact HCA.out j v hv) Try.underlying35 rfl HKA.out ?_
        simp only [Act.put, List.setIfInBounds_toArray, List.set_cons_succ, List.set_cons_zero]
        iterate 3 (go_big_quiet_step (fail))
        refine quiet_load_at rfl 35 (.tmp 23) rfl (bd.add (k * 64)) rfl (B8 Y) _ (by rintro w1 ⟨q1, rfl⟩ j v hv; exact HCB.out j v hv) Try.underlying35 rfl HKB.out ?_
        refine quiet_neq_bytes rfl 35 5 35 (.tmp 20) (.tmp 24) rfl 64 i0 Try.underlying35 Try.underlying5 hi0 u8_cells sec_guard X Y HSA.out HSB.out rfl rfl ?_
        refine wpQuiet_nil ?_
        rintro w1 ⟨q1, rfl⟩
        simp only [Act.put, List.setIfInBounds_toArray, List.set_cons_succ, List.set_cons_zero]
        by_cases hxy : X = Y
        · subst hxy
          have hdd : (!decide (X = X)) = false := by simp
          rw [hdd]
          go_wp2
          go_roundw
          case rel => exact ⟨k + 1, _, by omega, by go_num, rfl, hide (by rw [HX.out, HY.out, hall.out])⟩
          case measure => simp [intOf]; omega
        · have hdd : (!decide (X = Y)) = true := by simp [hxy]
          have H := hide (samesec_no (a := a) (b := b) (k := k) (by rw [← HXX.out, ← HYY.out]; exact hxy))
          rw [hdd]
          go_wp2
          go_ret
          exact ⟨ret_b H.out.symm, _, World.drewN_drewN _ _ _⟩
      · obtain rfl : k = n := by omega
        have H := hide (samesec_yes LA.out LB.out hall.out)
        go_wp2
        go_ret
        exact ⟨ret_b H.out.symm, q, rfl⟩
  · have H := hide (samesec_len (a := a) (b := b) (by omega))
    have hne : ((n : Int) != (m : Int)) = true := by simp; omega
    clear hla hlb
    go_enter Try.func12, Try.ntmps12
    go_wp2
    go_ret
    exact ⟨ret_b H.out.symm, 0, rfl⟩
#print axioms sameSec_any
end Go.Proofs.Ytdchdmbkojnmcaa
