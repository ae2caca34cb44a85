/- The reference's count and Spare. -/
import Derived.Test.YtmaiikmgpeafkaaGrpU
namespace Go.Proofs.Ytmaiikmgpeafkaa
open Go.RowKit

theorem add_off (a : Addr) {n : Nat} (hn : n ≠ 0) : a.add n = ⟨a.block, a.off + n, none⟩ := by unfold Addr.add; rw [if_neg hn]
/-- The group's extents, behind the group's address. -/
theorem GsIn.ext {w : World} {B n c k : Nat} {A : Option Addr} {L : List GrV} (h : GsIn w B A n c L) (hk : k < n) : ∃ ad g, A = some ad ∧ L[k]? = some g ∧ GrIn w B g ∧ w.cell? ⟨(ad.add (k * 3)).block, (ad.add (k * 3)).off + 2, none⟩ = some (.slice g.A g.n g.c) := by
  obtain ⟨ad, g, hA, _, hg, hgi, hc⟩ := h.at_ hk
  refine ⟨ad, g, hA, hg, hgi, ?_⟩
  have := hc 2 _ rfl
  rwa [add_off _ (by decide)] at this
theorem ExIn.disk {w : World} {B n c k : Nat} {A : Option Addr} {l : List Ex} (h : ExIn w B A n c l) (hk : k < n) : ∃ ae x, A = some ae ∧ l[k]? = some x ∧ w.cell? (ae.add (k * 2)) = some (.int .i64 x.1) := by
  obtain ⟨ae, x, hA, _, hx, hc⟩ := h.at_ hk
  refine ⟨ae, x, hA, hx, ?_⟩
  have := hc 0 _ rfl
  rwa [add_of_add, Nat.add_zero] at this
theorem count_more (P : List Int) (d e : Int) : (P ++ [d]).count e = P.count e + if d = e then 1 else 0 := by
  rw [List.count_append, List.count_singleton]
  by_cases h : d = e
  · subst h; simp
  · simp [h]
def seenA (L : List GrV) (g : GrV) (k j : Nat) : List Int := allD (L.take k) ++ dks (g.ex.take j)
theorem seenA_zero (L : List GrV) (g : GrV) (k : Nat) : seenA L g k 0 = allD (L.take k) := by simp [seenA, dks]
theorem seenA_end {L : List GrV} {g : GrV} {k : Nat} (h : L[k]? = some g) : seenA L g k g.ex.length = allD (L.take (k + 1)) := by
  unfold seenA allD
  rw [grow_take h, List.take_length]
theorem seenA_more {L : List GrV} {g : GrV} {k j : Nat} {x : Ex} (h : g.ex[j]? = some x) : seenA L g k (j + 1) = seenA L g k j ++ [x.1] := by
  unfold seenA
  rw [dks_take h, List.append_assoc]
theorem seenA_len {L : List GrV} {g : GrV} {k j : Nat} (h : L[k]? = some g) : (seenA L g k j).length ≤ (allD L).length := by
  have h3 : (dks (g.ex.take j)).length ≤ (dks g.ex).length := by simp [dks]; omega
  have h4 := len_take_flat L (k + 1)
  have h5 : (allD (L.take (k + 1))).length = (allD (L.take k)).length + (dks g.ex).length := by
    unfold allD
    rw [grow_take h, List.length_append]
  unfold seenA
  rw [List.length_append]
  omega
set_option maxHeartbeats 1000000 in
theorem refCount_any (A : Option Addr) (n c : Nat) (L : List GrV) (d : Int) (B0 : Nat) (w : World) (hr : GsIn w B0 A n c L) (hn : n ≤ 1000000) (hfew : ∀ g ∈ L, g.n ≤ 1000000) (hall : (allD L).length ≤ 1000000) :
    Calls Try.prog 31 #[.slice A n c, .int .i64 d] w fun e w' => e = .returned (.int .i64 ((allD L).count d : Int)) ∧ w = w' := by
  have HR := hide hr
  have HL := hide hr.len
  have HF := hide hfew
  clear hr hfew
  go_enter Try.func31, Try.ntmps31
  go_wp2
  go_loopw [5, 6] (fun s5 i wr => ∃ k m : Nat, k ≤ n ∧ i = .int .i64 k ∧ s5 = .int .i64 m ∧ Hid (m = (allD (L.take k)).count d) ∧ wr = w) (fun _ i _ => n - (intOf i).toNat)
  case atStart => exact ⟨0, 0, Nat.zero_le _, rfl, rfl, hide (by simp [allD]), rfl⟩
  case round =>
    obtain ⟨k, m, hk, rfl, rfl, HM, rfl⟩ := hrel
    by_cases hkn : k < n
    · obtain ⟨ad, g, rfl, hg, hgi, hc2⟩ := HR.out.ext hkn
      have HG := hide hg
      have HGI := hide hgi
      have hgn := HF.out g (List.mem_of_getElem? hg)
      have HGL := hide (ExIn.len hgi)
      have HM0 : Hid (m = (seenA L g k 0).count d) := hide (by rw [seenA_zero]; exact HM.out)
      clear hg hgi
      go_wp2
      go_loopw [5, 7] (fun s5 i w4 => ∃ j m : Nat, j ≤ g.n ∧ i = .int .i64 j ∧ s5 = .int .i64 m ∧ Hid (m = (seenA L g k j).count d) ∧ w4 = wr) (fun _ i _ => g.n - (intOf i).toNat)
      case atStart => exact ⟨0, m, Nat.zero_le _, rfl, rfl, HM0, rfl⟩
      case round =>
        clear HM0 HM
        obtain ⟨j, m, hj, rfl, rfl, HM, rfl⟩ := hrel
        have hml : m ≤ 1000000 := by rw [HM.out]; exact Nat.le_trans (count_le_len _ _) (Nat.le_trans (seenA_len HG.out) hall)
        by_cases hjn : j < g.n
        · obtain ⟨ae, x, hA, hx, hce⟩ := ExIn.disk HGI.out hjn
          have HMM := hide (show (seenA L g k (j + 1)).count d = m + if x.1 = d then 1 else 0 by rw [seenA_more hx, count_more, HM.out])
          obtain ⟨y, hy⟩ : ∃ y, y = x.1 := ⟨_, rfl⟩
          rw [← hy] at hce HMM
          rw [hA] at hc2
          clear hx hy hA
          by_cases he : y = d
          · have HM2 : Hid (m + 1 = (seenA L g k (j + 1)).count d) := hide (by rw [HMM.out, if_pos he])
            have hne : (y == d) = true := by simpa using he
            clear he
            go_wp2
            go_roundw
            case rel => exact ⟨j + 1, m + 1, by omega, by go_num, by go_num, HM2, trivial⟩
            case measure => simp [intOf]; omega
          · have HM2 : Hid (m = (seenA L g k (j + 1)).count d) := hide (by rw [HMM.out, if_neg he]; rfl)
            have hne : (y == d) = false := by simpa using he
            clear he
            go_wp2
            go_roundw
            case rel => exact ⟨j + 1, m, by omega, by go_num, rfl, HM2, trivial⟩
            case measure => simp [intOf]; omega
        · obtain rfl : j = g.n := by omega
          have hM := HM.out
          rw [← HGL.out, seenA_end HG.out] at hM
          have HM2 := hide hM
          clear hM
          go_wp2
          go_roundw
          case rel => exact ⟨k + 1, m, by omega, by go_num, rfl, HM2, trivial⟩
          case measure => simp [intOf]; omega
    · obtain rfl : k = n := by omega
      have hM := HM.out
      rw [List.take_of_length_le (by rw [HL.out]; exact Nat.le_refl _)] at hM
      have HM2 := hide hM
      clear hM
      go_wp2
      go_ret
      exact ⟨ret_of (by rw [HM2.out]), rfl⟩
theorem count_inD {n d : Int} {l : List Int} (h0 : 0 ≤ d) (h1 : d < n) : (inD n l).count d = l.count d := by
  unfold inD
  exact List.count_filter (by simp [h0, h1])
/-- The greatest of what is counted over a list, of those of a part. -/
def MxOf (Q P : List Int) (m : Nat) : Prop := (∀ d ∈ P, Q.count d ≤ m) ∧ (m = 0 ∨ ∃ d ∈ P, Q.count d = m)
theorem MxOf.nil (Q : List Int) : MxOf Q [] 0 := ⟨fun _ h => absurd h List.not_mem_nil, .inl rfl⟩
theorem MxOf.more {Q P : List Int} {m : Nat} (h : MxOf Q P m) (d : Int) {m' : Nat} (hm : (m < Q.count d ∧ m' = Q.count d) ∨ (Q.count d ≤ m ∧ m' = m)) : MxOf Q (P ++ [d]) m' := by
  refine ⟨fun e he => ?_, ?_⟩
  · rcases List.mem_append.1 he with he | he
    · have := h.1 e he; omega
    · simp at he; subst he; omega
  · rcases hm with ⟨h1, h2⟩ | ⟨h1, h2⟩
    · exact .inr ⟨d, by simp, h2.symm⟩
    · rcases h.2 with h3 | ⟨e, h3, h4⟩
      · exact .inl (by omega)
      · exact .inr ⟨e, by simp [h3], by omega⟩
theorem MxOf.mx {Q : List Int} {m : Nat} (h : MxOf Q Q m) : IsMx Q m := by
  refine ⟨fun d => ?_, ?_⟩
  · by_cases hd : d ∈ Q
    · exact h.1 d hd
    · rw [List.count_eq_zero_of_not_mem hd]; omega
  · rcases h.2 with h | ⟨d, _, h⟩
    · exact .inl h
    · exact .inr ⟨d, h⟩
set_option maxHeartbeats 1000000 in
theorem refSpare_any (A : Option Addr) (n c : Nat) (L : List GrV) (ds : Int) (B0 : Nat) (w : World) (hr : GsIn w B0 A n c L) (hn : n ≤ 1000000) (hfew : ∀ g ∈ L, g.n ≤ 1000000) (hall : (allD L).length ≤ 1000000) :
    Calls Try.prog 21 #[.slice A n c, .int .i64 ds] w fun e w' => ∃ m : Nat, e = .returned (.int .i64 (m : Int)) ∧ IsMx (inD ds (allD L)) m ∧ w = w' := by
  have HR := hide hr
  have HL := hide hr.len
  have HF := hide hfew
  obtain ⟨Q, hQ⟩ : ∃ Q, Q = inD ds (allD L) := ⟨_, rfl⟩
  have HQ := hide hQ
  have hQc : ∀ d : Int, 0 ≤ d → d < ds → Q.count d = (allD L).count d := fun d h0 h1 => by rw [hQ]; exact count_inD h0 h1
  have HQC := hide hQc
  rw [← hQ]
  clear hr hfew hQ hQc
  go_enter Try.func21, Try.ntmps21
  go_wp2
  go_loopw [5, 6] (fun s5 i wr => ∃ k m : Nat, k ≤ n ∧ i = .int .i64 k ∧ s5 = .int .i64 m ∧ m ≤ 1000000 ∧ Hid (MxOf Q (inD ds (allD (L.take k))) m) ∧ wr = w) (fun _ i _ => n - (intOf i).toNat)
  case atStart => exact ⟨0, 0, Nat.zero_le _, rfl, rfl, Nat.zero_le _, hide (MxOf.nil Q), rfl⟩
  case round =>
    obtain ⟨k, m, hk, rfl, rfl, hml, HM, rfl⟩ := hrel
    by_cases hkn : k < n
    · obtain ⟨ad, g, rfl, hg, hgi, hc2⟩ := HR.out.ext hkn
      have HG := hide hg
      have HGI := hide hgi
      have hgn := HF.out g (List.mem_of_getElem? hg)
      have HGL := hide (ExIn.len hgi)
      have HM0 : Hid (MxOf Q (seenD ds L g k 0) m) := hide (by rw [seenD_zero]; exact HM.out)
      clear hg hgi
      go_wp2
      go_loopw [5, 7] (fun s5 i w4 => ∃ j m : Nat, j ≤ g.n ∧ i = .int .i64 j ∧ s5 = .int .i64 m ∧ m ≤ 1000000 ∧ Hid (MxOf Q (seenD ds L g k j) m) ∧ w4 = wr) (fun _ i _ => g.n - (intOf i).toNat)
      case atStart => exact ⟨0, m, Nat.zero_le _, rfl, rfl, hml, HM0, rfl⟩
      case round =>
        clear HM0 HM
        obtain ⟨j, m, hj, rfl, rfl, hml, HM, rfl⟩ := hrel
        by_cases hjn : j < g.n
        · obtain ⟨ae, x, hA, hx, hce⟩ := ExIn.disk HGI.out hjn
          obtain ⟨y, hy⟩ : ∃ y, y = x.1 := ⟨_, rfl⟩
          rw [← hy] at hce
          rw [hA] at hc2
          have HXE := hide hx
          have HY := hide hy
          obtain ⟨C, hC⟩ : ∃ C, C = (allD L).count y := ⟨_, rfl⟩
          have hCl : C ≤ 1000000 := by rw [hC]; exact Nat.le_trans (count_le_len _ _) hall
          have hcount := refCount_any (some ad) n c L y B0 wr HR.out hn HF.out hall
          rw [← hC] at hcount
          have HC := hide hcount
          have HCC := hide hC
          clear hx hy hA hcount hC
          by_cases h0 : y < 0
          · have HN := hide (seenD_no (n := ds) (L := L) (k := k) HXE.out (by rw [← HY.out]; exact .inl h0))
            have HM2 : Hid (MxOf Q (seenD ds L g k (j + 1)) m) := hide (by rw [HN.out]; exact HM.out)
            go_wp2_with (first | (go_at_call 31; refine HC.out.mono ?_; rintro _ _ ⟨rfl, rfl⟩))
            go_roundw
            case rel => exact ⟨j + 1, m, by omega, by go_num, rfl, hml, HM2, trivial⟩
            case measure => simp [intOf]; omega
          · by_cases h1 : ds ≤ y
            · have HN := hide (seenD_no (n := ds) (L := L) (k := k) HXE.out (by rw [← HY.out]; exact .inr h1))
              have HM2 : Hid (MxOf Q (seenD ds L g k (j + 1)) m) := hide (by rw [HN.out]; exact HM.out)
              go_wp2_with (first | (go_at_call 31; refine HC.out.mono ?_; rintro _ _ ⟨rfl, rfl⟩))
              go_roundw
              case rel => exact ⟨j + 1, m, by omega, by go_num, rfl, hml, HM2, trivial⟩
              case measure => simp [intOf]; omega
            · have HN := hide (seenD_yes (n := ds) (L := L) (k := k) HXE.out (by rw [← HY.out]; omega) (by rw [← HY.out]; omega))
              have hqc : Q.count y = C := by rw [HCC.out]; exact HQC.out y (by omega) (by omega)
              by_cases h2 : m < C
              · have HM2 : Hid (MxOf Q (seenD ds L g k (j + 1)) C) := hide (by rw [HN.out, ← HY.out]; exact HM.out.more y (.inl ⟨by omega, hqc.symm⟩))
                clear hqc
                go_wp2_with (first | (go_at_call 31; refine HC.out.mono ?_; rintro _ _ ⟨rfl, rfl⟩))
                go_roundw
                case rel => exact ⟨j + 1, C, by omega, by go_num, rfl, hCl, HM2, trivial⟩
                case measure => simp [intOf]; omega
              · have HM2 : Hid (MxOf Q (seenD ds L g k (j + 1)) m) := hide (by rw [HN.out, ← HY.out]; exact HM.out.more y (.inr ⟨by omega, rfl⟩))
                clear hqc
                go_wp2_with (first | (go_at_call 31; refine HC.out.mono ?_; rintro _ _ ⟨rfl, rfl⟩))
                go_roundw
                case rel => exact ⟨j + 1, m, by omega, by go_num, rfl, hml, HM2, trivial⟩
                case measure => simp [intOf]; omega
        · obtain rfl : j = g.n := by omega
          have hM := HM.out
          rw [← HGL.out, seenD_end HG.out] at hM
          have HM2 := hide hM
          clear hM
          go_wp2
          go_roundw
          case rel => exact ⟨k + 1, m, by omega, by go_num, rfl, hml, HM2, trivial⟩
          case measure => simp [intOf]; omega
    · obtain rfl : k = n := by omega
      have hM := HM.out
      rw [List.take_of_length_le (by rw [HL.out]; exact Nat.le_refl _), ← HQ.out] at hM
      have HM2 := hide hM.mx
      clear hM
      go_wp2
      go_ret
      exact ⟨m, rfl, HM2.out, rfl⟩
#print axioms refCount_any
end Go.Proofs.Ytmaiikmgpeafkaa
