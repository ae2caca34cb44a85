/- What Used and Room of the reference's map answer. -/
import Derived.Test.YtmaiikmgpeafkabDoorRefE
namespace Go.Proofs.YtmaiikmgpeafkabDoor
open Go.RowKit

theorem own_cell {w : World} {e : TypeId} {A : Option Addr} {n c : Nat} {xs : List Value} (h : w.ownsRow 0 e 1 (.slice A n c) n xs) (hn : 0 < n) : ∃ g, A = some ⟨g, 0, none⟩ := by
  obtain ⟨g, cap, hv, _⟩ := World.ownsRow.form h hn
  exact ⟨g, by injection hv⟩
section
variable {w : World} {r : Nat} {vm : Value} {vt : Nat → Value} {S : Ext}
/-- Where member k's booleans lie. -/
theorem RefE.bools (h : RefE w r vm vt S) {k m : Nat} (hx : S.ks[k]? = some m) : ∃ A c, vt m = .slice A (S.n m) c ∧ S.n m ≤ c ∧ c ≤ maxLen ∧
    ∀ i, i < S.n m → ∃ g, A = some ⟨g, 0, none⟩ ∧ w.cell? ⟨g, i, none⟩ = some (.bool (S.t m i)) ∧ w.frozen? ⟨g, i, none⟩ = false := by
  have hm : m ∈ S.ks := List.mem_iff_getElem?.2 ⟨k, hx⟩
  have hr := h.mem m hm
  obtain ⟨A, c, hv, h1, h2⟩ := own_shape hr
  rw [hv] at hr
  refine ⟨A, c, hv, by omega, by omega, fun i hi => ?_⟩
  obtain ⟨g, rfl⟩ := own_cell hr (by omega)
  exact ⟨g, rfl, (hr.cellAt i (by omega)).trans (BL_at _ _ hi), hr.frozenAt i⟩
set_option maxRecDepth 100000 in
set_option maxHeartbeats 800000 in
theorem refUsed_any (h : RefE w r vm vt S) (hok : S.Ok) (d : Int) (g1 : -9223372036854775808 ≤ d) (g2 : d < 9223372036854775808) :
    Calls Tryd.prog 28 #[.pointer (some ⟨r, 0, none⟩), .int .i64 d] w fun e w' => e = .returned (.int .i64 ((usedE S d : Nat) : Int)) ∧ w = w' := by
  have HAT := hide (refAt_any h hok d g1 g2)
  have k0 := h.c0
  cases hd : inE S d with
  | false =>
    have HU : Hid (usedE S d = 0) := hide (by unfold usedE; rw [hd]; rfl)
    rw [atE_out hd] at HAT
    clear h hd
    go_enter Tryd.func28, Tryd.ntmps28
    go_wp2_with (first
      | (go_at_call 33; refine HAT.out.mono ?_; rintro _ _ ⟨rfl, rfl⟩))
    go_loop [6, 7] (fun s a => s = .int .i64 0 ∧ a = .int .i64 0) (fun _ _ => 0)
    case atStart => exact ⟨rfl, rfl⟩
    case round =>
      obtain ⟨rfl, rfl⟩ := hrel
      go_wp2_with fail
      go_ret
      exact ⟨by rw [HU.out]; rfl, rfl⟩
  | true =>
    obtain ⟨m, rfl, hm⟩ := inE_nat hd
    have HU : Hid (usedE S (m : Int) = cnt (S.t m) (S.n m)) := hide (usedE_in hm)
    obtain ⟨k, hk, hx⟩ := atE_in hm
    have hkl : k < S.ks.length := (List.getElem?_eq_some_iff.1 hx).1
    have hkk : (k : Int) < (S.ks.length : Int) := by omega
    have hf := hok.few
    rw [hk] at HAT
    have hnm := hok.small m hm
    obtain ⟨ad, c, rfl, hlc, hcm, _, hc1⟩ := h.cell hx
    obtain ⟨A, cm, hv, hnc, hcc, hbs⟩ := h.bools hx
    rw [hv] at hc1
    have HB := hide hbs
    obtain ⟨n, hn⟩ : ∃ n, n = S.n m := ⟨_, rfl⟩
    obtain ⟨t, ht⟩ : ∃ t, t = S.t m := ⟨_, rfl⟩
    rw [← hn] at hc1 hnm HB HU hnc
    rw [← ht] at HB HU
    clear h hd hm hk hx hv hbs hn ht
    go_enter Tryd.func28, Tryd.ntmps28
    go_wp2_with (first
      | (go_at_call 33; refine HAT.out.mono ?_; rintro _ _ ⟨rfl, rfl⟩))
    go_loop [6, 7] (fun s a => ∃ j v : Nat, j ≤ n ∧ v ≤ j ∧ a = .int .i64 (j : Int) ∧ s = .int .i64 (v : Int) ∧ Hid (v = cnt t j)) (fun _ a => n - (intOf a).toNat)
    case atStart => exact ⟨0, 0, by omega, by omega, rfl, rfl, hide rfl⟩
    case round =>
      obtain ⟨j, v, hj, hvj, rfl, rfl, HR⟩ := hrel
      by_cases hlt : j < n
      · obtain ⟨g, rfl, hc, _⟩ := HB.out j hlt
        have hjj : (j : Int) < (n : Int) := by omega
        cases htk : t j
        · have HV : Hid (v = cnt t (j + 1)) := by show _ = _; rw [cnt, htk, ← HR.out]; rfl
          rw [htk] at hc
          clear htk
          go_wp2_with fail
          go_round
          case rel => exact ⟨j + 1, v, by omega, by omega, by go_num, rfl, HV⟩
          case measure => simp [intOf]; omega
        · have HV : Hid (v + 1 = cnt t (j + 1)) := by show _ = _; rw [cnt, htk, ← HR.out]; rfl
          rw [htk] at hc
          clear htk
          go_wp2_with fail
          go_round
          case rel => exact ⟨j + 1, v + 1, by omega, by omega, by go_num, by go_num, HV⟩
          case measure => simp [intOf]; omega
      · have HV : Hid (v = cnt t n) := by show _ = _; rw [HR.out]; congr 1; omega
        have hjj : ¬ ((j : Int) < (n : Int)) := by omega
        go_wp2_with fail
        go_ret
        exact ⟨ret_of (by rw [HU.out, ← HV.out]), rfl⟩
set_option maxRecDepth 100000 in
set_option maxHeartbeats 800000 in
theorem refRoom_any (h : RefE w r vm vt S) (hok : S.Ok) (d : Int) (g1 : -9223372036854775808 ≤ d) (g2 : d < 9223372036854775808) :
    Calls Tryd.prog 30 #[.pointer (some ⟨r, 0, none⟩), .int .i64 d] w fun e w' => e = .returned (.int .i64 ((roomE S d : Nat) : Int)) ∧ ∃ n, w' = w.drewN n := by
  have HAT := hide (refAt_any h hok d g1 g2)
  have k0 := h.c0
  cases hd : inE S d with
  | false =>
    have HU : Hid (roomE S d = 0) := hide (by unfold roomE; rw [hd]; rfl)
    rw [atE_out hd] at HAT
    clear h hd
    go_enter Tryd.func30, Tryd.ntmps30
    go_wp2_with (first
      | (go_at_call 33; refine HAT.out.mono ?_; rintro _ _ ⟨rfl, rfl⟩))
    go_ret
    exact ⟨by rw [HU.out]; rfl, 0, rfl⟩
  | true =>
    obtain ⟨m, rfl, hm⟩ := inE_nat hd
    have HUS : Hid (∀ n, Calls Tryd.prog 28 #[.pointer (some ⟨r, 0, none⟩), .int .i64 (m : Int)] (w.drewN n) fun e w' => e = .returned (.int .i64 ((cnt (S.t m) (S.n m) : Nat) : Int)) ∧ w.drewN n = w') := hide (fun n => by
      rw [← usedE_in hm]
      exact refUsed_any (h.drewN n) hok (m : Int) g1 g2)
    have HU : Hid (roomE S (m : Int) = S.n m - cnt (S.t m) (S.n m)) := hide (roomE_in hm)
    have hle := cnt_le (S.t m) (S.n m)
    obtain ⟨k, hk, hx⟩ := atE_in hm
    have hkl : k < S.ks.length := (List.getElem?_eq_some_iff.1 hx).1
    have hkk : (k : Int) < (S.ks.length : Int) := by omega
    have hf := hok.few
    rw [hk] at HAT
    have hnm := hok.small m hm
    obtain ⟨ad, c, rfl, hlc, hcm, _, hc1⟩ := h.cell hx
    obtain ⟨A, cm, hv, hnc, hcc, hbs⟩ := h.bools hx
    rw [hv] at hc1
    obtain ⟨u, hu⟩ : ∃ u, u = cnt (S.t m) (S.n m) := ⟨_, rfl⟩
    rw [← hu] at hle HU HUS
    obtain ⟨n, hn⟩ : ∃ n, n = S.n m := ⟨_, rfl⟩
    rw [← hn] at hc1 hnm HU hle hnc
    have HLE := hide hle
    have HNM := hide hnm
    have hk0 : decide ((k : Int) < (0 : Int)) = false := by simp
    clear h hd hm hk hx hv hbs hn hu hle hnm
    go_enter Tryd.func30, Tryd.ntmps30
    go_wp2_with (first
      | (go_at_call 33; refine HAT.out.mono ?_; rintro _ _ ⟨rfl, rfl⟩))
    go_quiet (exact quiet_as (HUS.out _))
    go_wp2_with fail
    go_ret
    have hle := HLE.out
    have hnm := HNM.out
    refine ⟨ret_of ?_, _, rfl⟩
    rw [HU.out]
    rw [show wrap64 ((n : Int) - (u : Int)) = (n : Int) - (u : Int) from by unfold wrap64; omega]
    omega
end
#print axioms refRoom_any
end Go.Proofs.YtmaiikmgpeafkabDoor
