/- What Safe and AllSafe of group answer. -/
import Derived.Test.YtmaiikmgpeafkaaGrpE
namespace Go.Proofs.Ytmaiikmgpeafkaa
open Go.RowKit

noncomputable def safeB (rm : List Int) (L : List GrV) (d : Int) : Bool := fitsB rm (needyL L d)
theorem needyL_sorted {L : List GrV} {d : Int} : ∀ l ∈ needyL L d, l.Pairwise (· ≤ ·) := by
  intro l hl
  obtain ⟨g, _, rfl⟩ := List.mem_map.1 hl
  exact rise_sorted _
theorem needyL_few {w : World} {B n c : Nat} {A : Option Addr} {L : List GrV} (h : GsIn w B A n c L) (hfew : ∀ g ∈ L, g.n ≤ 1000000) {d : Int} : ∀ l ∈ needyL L d, l.length < 4611686018427387904 := by
  intro l hl
  obtain ⟨g, hg, rfl⟩ := List.mem_map.1 hl
  have hgL := (List.mem_filter.1 hg).1
  rw [rise_length, dks_length, ExIn.len (h.mem g hgL)]
  have := hfew g hgL
  omega
theorem needyL_length (L : List GrV) (d : Int) : (needyL L d).length ≤ L.length := by
  rw [needyL, List.length_map]
  exact List.length_filter_le _ _
theorem safe_any (A : Option Addr) (n c : Nat) (L : List GrV) (AR : Option Addr) (cR : Nat) (rm : List Int) (d : Int) (B0 : Nat) (w : World) (hr : GsIn w B0 A n c L) (hrm : Reads w B0 1 AR rm.length (I64 rm)) (hB0 : B0 ≤ w.heap.size) (hn : n ≤ 1000000) (hfew : ∀ g ∈ L, g.n ≤ 1000000) (hrn : rm.length ≤ 1000000) :
    Calls Try.prog 16 #[.slice A n c, .slice AR rm.length cR, .int .i64 d] w fun e w' => e = .returned (.bool (safeB rm L d)) ∧ (safeB rm L d = false → ∃ T, Viol rm (needyL L d) T) ∧ Below w.heap.size w w' := by
  have HN := hide (needy_any A n c L d B0 w hr hB0 hn hfew)
  have HS := hide (needyL_sorted (L := L) (d := d))
  have HF := hide (needyL_few hr hfew (d := d))
  have hlen := needyL_length L d
  rw [hr.len] at hlen
  unfold safeB
  obtain ⟨Bs, hBs⟩ : ∃ Bs, Bs = needyL L d := ⟨_, rfl⟩
  rw [← hBs] at HN HS HF hlen ⊢
  clear hBs
  go_enter Try.func16, Try.ntmps16
  go_wp2_with (first
    | (go_at_call 29; refine HN.out.mono ?_; rintro _ w1 ⟨v, rfl, hnd, hl1⟩; obtain ⟨AG, cG, rfl, _, _⟩ := hnd.shape; have HE := hide (eachFinds_any AG cG AR cR rm Bs w1 ((hrm.below (hl1.mono hB0)).more (Nat.le_trans hB0 hl1.size)) hrn (by omega) (hnd.gb HS.out) HF.out))
    | (go_at_call 28; refine HE.out.mono ?_; rintro _ w2 ⟨rfl, hv, hl2⟩))
  go_ret
  exact ⟨rfl, hv, hl1.trans (hl2.mono hl1.size)⟩
noncomputable def allSafeB (rm : List Int) (L : List GrV) : Bool := (List.range rm.length).all (fun (d : Nat) => safeB rm L (d : Int))
theorem all_take {p : Nat → Bool} {n k : Nat} (hk : k < n) (hp : p k = false) : (List.range n).all p = false := by
  rw [List.all_eq_false]
  exact ⟨k, List.mem_range.2 hk, by rw [hp]; decide⟩
theorem all_range {p : Nat → Bool} {n : Nat} (h : ∀ d, d < n → p d = true) : (List.range n).all p = true := by
  rw [List.all_eq_true]
  exact fun d hd => h d (List.mem_range.1 hd)
set_option maxHeartbeats 1000000 in
theorem allSafe_any (A : Option Addr) (n c : Nat) (L : List GrV) (AR : Option Addr) (cR : Nat) (rm : List Int) (B0 : Nat) (w : World) (hr : GsIn w B0 A n c L) (hrm : Reads w B0 1 AR rm.length (I64 rm)) (hB0 : B0 ≤ w.heap.size) (hn : n ≤ 1000000) (hfew : ∀ g ∈ L, g.n ≤ 1000000) (hrn : rm.length ≤ 1000000) :
    Calls Try.prog 18 #[.slice A n c, .slice AR rm.length cR] w fun e w' => e = .returned (.bool (allSafeB rm L)) ∧ Below w.heap.size w w' := by
  have HR := hide hr
  have HRM := hide hrm
  have HFEW := hide hfew
  unfold allSafeB
  obtain ⟨p, hp⟩ : ∃ p : Nat → Bool, p = fun (d : Nat) => safeB rm L (d : Int) := ⟨_, rfl⟩
  rw [← hp]
  have HP := hide hp
  clear hp hr hrm hfew
  go_enter Try.func18, Try.ntmps18
  go_wp2
  go_loopw [8] (fun i wr => ∃ k : Nat, k ≤ rm.length ∧ i = .int .i64 k ∧ Hid (∀ d, d < k → p d = true) ∧ Below w.heap.size w wr) (fun i _ => rm.length - (intOf i).toNat)
  case atStart => exact ⟨0, Nat.zero_le _, rfl, hide (fun d h => absurd h (Nat.not_lt_zero _)), Below.refl _ _⟩
  case round =>
    obtain ⟨k, hk, rfl, HA, hbel⟩ := hrel
    by_cases hkn : k < rm.length
    · have hc := safe_any A n c L AR cR rm (k : Int) B0 wr (HR.out.below (hbel.mono hB0)) (HRM.out.below (hbel.mono hB0)) (Nat.le_trans hB0 hbel.size) hn HFEW.out hrn
      have hpk : safeB rm L (k : Int) = p k := by rw [HP.out]
      rw [hpk] at hc
      have HC := hide hc
      clear hc hpk
      cases hq : p k with
      | true =>
        have HC2 := hide HC.out
        rw [hq] at HC2
        have HA2 : Hid (∀ d, d < k + 1 → p d = true) := hide (fun d hd => by
          by_cases e : d = k
          · rw [e]; exact hq
          · exact HA.out d (by omega))
        clear HC hq
        go_wp2_with (first | (go_at_call 16; refine HC2.out.mono ?_; rintro _ w2 ⟨rfl, _, hl2⟩))
        have hl3 := hbel.trans (hl2.mono hbel.size)
        go_roundw
        case rel => exact ⟨k + 1, by omega, by go_num, HA2, hl3⟩
        case measure => simp [intOf]; omega
      | false =>
        have HC2 := hide HC.out
        rw [hq] at HC2
        have HQ := hide (all_take hkn hq)
        clear HC hq
        go_wp2_with (first | (go_at_call 16; refine HC2.out.mono ?_; rintro _ w2 ⟨rfl, _, hl2⟩))
        have hl3 := hbel.trans (hl2.mono hbel.size)
        go_ret
        exact ⟨ret_bool HQ.out.symm, hl3⟩
    · obtain rfl : k = rm.length := by omega
      have HQ := hide (all_range HA.out)
      go_wp2
      go_ret
      exact ⟨ret_bool HQ.out.symm, hbel⟩
#print axioms allSafe_any
end Go.Proofs.Ytmaiikmgpeafkaa
