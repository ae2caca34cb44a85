/- What needy of group answers: of each group that has a disk the disks, rising. -/
import Derived.Test.YtmaiikmgpeafkaaGrpD
import Derived.Test.YtmaiikmgpeafkaaTwoRows
namespace Go.Proofs.Ytmaiikmgpeafkaa
open Go.RowKit

theorem filter_more {α : Type} {p : α → Bool} {L : List α} {k : Nat} {x : α} (hx : L[k]? = some x) (hp : p x = true) : (L.take (k + 1)).filter p = (L.take k).filter p ++ [x] := by
  rw [take_more hx, List.filter_append]
  simp [hp]
theorem filter_less {α : Type} {p : α → Bool} {L : List α} {k : Nat} {x : α} (hx : L[k]? = some x) (hp : p x = false) : (L.take (k + 1)).filter p = (L.take k).filter p := by
  rw [take_more hx, List.filter_append]
  simp [hp]
/-- Rows of two kinds are never one block. -/
theorem kinds_apart {w : World} {b1 b2 s1 s2 n1 n2 : Nat} {e1 e2 : TypeId} {v1 v2 : Value} {xs ys : List Value} (h1 : w.ownsRow b1 e1 s1 v1 n1 xs) (h2 : w.ownsRow b2 e2 s2 v2 n2 ys) (he : e1 ≠ e2) : Apart v1 v2 := by
  intro g hg1 hg2
  rcases h1.2 with ⟨rfl, _⟩ | ⟨g1, cap1, cur1, rfl, _, hb1, _⟩
  · simp [Value.ownBlock] at hg1
  rcases h2.2 with ⟨rfl, _⟩ | ⟨g2, cap2, cur2, rfl, _, hb2, _⟩
  · simp [Value.ownBlock] at hg2
  simp [Value.ownBlock] at hg1 hg2
  subst hg1 hg2
  rw [hb1] at hb2
  injection hb2 with hb2
  injection hb2 with _ hb2 _
  exact he hb2
theorem ints_parts : (Try.prog.info? 22).map (fun i => (i.zero, i.size, i.bytes)) = some (some (.slice none 0 0), 1, 24) := by kernel_rfl
/-- The disks of each group that has disk d. -/
def needyL (L : List GrV) (d : Int) : List (List Int) := (L.filter (fun g => hasB g.ex d)).map (fun g => rise (dks g.ex))
theorem needyL_append (a b : List GrV) (d : Int) : needyL (a ++ b) d = needyL a d ++ needyL b d := by simp [needyL]
/-- A row of rows of numbers, the call's own. -/
def Nd (w : World) (base : Nat) (v : Value) (Ls : List (List Int)) : Prop :=
  ∃ vs : List Value, vs.length = Ls.length ∧ w.ownsRow base 22 1 v Ls.length vs ∧ ∀ (i : Nat) u l, vs[i]? = some u → Ls[i]? = some l → Rw w w.heap.size u l
section
variable {w w' : World} {base : Nat} {v : Value} {Ls : List (List Int)}
theorem Nd.nil (w : World) (base : Nat) : Nd w base (.slice none 0 0) [] := ⟨[], rfl, World.ownsRow_nil _ _ _ _, fun i u l h => by simp at h⟩
theorem Nd.later (h : Nd w base v Ls) (hb : Below w.heap.size w w') : Nd w' base v Ls := by
  obtain ⟨vs, h1, h2, h3⟩ := h
  exact ⟨vs, h1, own_later h2 hb, fun i u l hu hl => ((h3 i u l hu hl).below hb).more hb.size⟩
theorem Nd.drewN (h : Nd w base v Ls) (q : Nat) : Nd (w.drewN q) base v Ls := h.later ⟨rfl, rfl, rfl, Nat.le_refl _, fun _ _ => rfl⟩
theorem Nd.mono {base' : Nat} (h : Nd w base v Ls) (hb : base' ≤ base) : Nd w base' v Ls := by
  obtain ⟨vs, h1, h2, h3⟩ := h
  exact ⟨vs, h1, own_mono h2 hb, h3⟩
theorem Nd.shape (h : Nd w base v Ls) : ∃ A c, v = .slice A Ls.length c ∧ Ls.length ≤ c ∧ c ≤ maxLen := by
  obtain ⟨vs, h1, h2, h3⟩ := h
  exact own_shape h2
/-- Row i of them. -/
theorem Nd.at_ (h : Nd w base v Ls) {i : Nat} {l : List Int} (hl : Ls[i]? = some l) : ∃ g c u, v = .slice (some ⟨g, 0, none⟩) Ls.length c ∧ g < w.heap.size ∧ w.cell? ⟨g, i, none⟩ = some u ∧ Rw w w.heap.size u l := by
  obtain ⟨vs, h1, h2, h3⟩ := h
  have hi : i < Ls.length := (List.getElem?_eq_some_iff.1 hl).1
  obtain ⟨g, c, hv, _, hlt⟩ := h2.form (by omega)
  have hu : vs[i]? = some (vs[i]'(by omega)) := List.getElem?_eq_getElem (by omega)
  subst hv
  have hc := h2.cells (g := g) rfl i _ hu
  have hadd : (⟨g, 0, none⟩ : Addr).add i = ⟨g, i, none⟩ := by unfold Addr.add; split <;> simp_all
  rw [hadd] at hc
  exact ⟨g, c, _, rfl, hlt, hc, h3 i _ l hu hl⟩
/-- One row more. -/
theorem Nd.more {vs : List Value} {u v' : Value} {l : List Int} {wa : World} (h1 : vs.length = Ls.length) (h3 : ∀ (i : Nat) u l, vs[i]? = some u → Ls[i]? = some l → Rw wa wa.heap.size u l) (hv : wa.ownsRow base 22 1 v Ls.length vs) (hu : Rw wa wa.heap.size u l)
    (hown : w'.ownsRow base 22 1 v' (Ls.length + 1) (vs ++ [u])) (hg : wa.grownBy w' v.ownBlock) : Nd w' base v' (Ls ++ [l]) := by
  have hkeep : ∀ x r, Rw wa wa.heap.size x r → Rw w' w'.heap.size x r := by
    intro x r hx
    refine ⟨own_same hx.1 fun b hb => hg.block b (hx.2 b hb) (fun e => ?_), fun b hb => Nat.lt_of_lt_of_le (hx.2 b hb) hg.size⟩
    exact kinds_apart hv hx.1 (by decide) b e.symm hb
  refine ⟨vs ++ [u], by simp [h1], by rw [List.length_append]; exact hown, fun i x r hx hr => ?_⟩
  by_cases hi : i < vs.length
  · rw [List.getElem?_append_left hi] at hx
    rw [List.getElem?_append_left (by omega)] at hr
    exact hkeep x r (h3 i x r hx hr)
  · have e1 : i = vs.length := by
      have := (List.getElem?_eq_some_iff.1 hx).1
      simp at this
      omega
    subst e1
    rw [List.getElem?_append_right (Nat.le_refl _)] at hx
    rw [h1, List.getElem?_append_right (Nat.le_refl _)] at hr
    simp at hx hr
    subst hx hr
    exact hkeep _ _ hu
end
set_option maxRecDepth 100000 in
set_option maxHeartbeats 1000000 in
theorem needy_any (A : Option Addr) (n c : Nat) (L : List GrV) (d : Int) (B0 : Nat) (w : World) (hr : GsIn w B0 A n c L) (hB0 : B0 ≤ w.heap.size) (hn : n ≤ 1000000) (hfew : ∀ g ∈ L, g.n ≤ 1000000) :
    Calls Try.prog 29 #[.slice A n c, .int .i64 d] w fun e w' => ∃ v, e = .returned v ∧ Nd w' w.heap.size v (needyL L d) ∧ Below w.heap.size w w' := by
  obtain ⟨i0, hi0, hz0, hz1i, hz2i⟩ := info_parts ints_parts
  have HL := hide hr.len
  have HF := hide hfew
  obtain ⟨p, hp⟩ : ∃ p, p = fun g : GrV => hasB g.ex d := ⟨_, rfl⟩
  have hpd : ∀ g : GrV, p g = hasB g.ex d := by rw [hp]; exact fun _ => rfl
  have HP := hide hpd
  have hall : needyL L d = (L.filter p).map (fun g => rise (dks g.ex)) := by rw [hp]; rfl
  rw [hall]
  clear hall hpd hp hfew
  go_enter Try.func29, Try.ntmps29
  go_wp2
  go_loopw [5, 10] (fun s5 i wr => ∃ (k : Nat), k ≤ n ∧ i = .int .i64 k ∧ Hid (Nd wr w.heap.size s5 (((L.take k).filter p).map (fun g => rise (dks g.ex)))) ∧ Below w.heap.size w wr) (fun _ i _ => n - (intOf i).toNat)
  case atStart => exact ⟨0, Nat.zero_le _, rfl, hide (Nd.nil _ _), Below.refl _ _⟩
  case round =>
    obtain ⟨k, hk, rfl, HN, hbel⟩ := hrel
    by_cases hkn : k < n
    · obtain ⟨ad, g, rfl, hab, hx, hgi, hcs⟩ := (hr.below (hbel.mono hB0)).at_ hkn
      have HS := hide hcs
      have HX := hide hx
      have hzr := hbel.size
      have hB0r := Nat.le_trans hB0 hzr
      have hgn := HF.out g (List.mem_of_getElem? hx)
      clear hcs hx
      cases h0 : p g with
      | false =>
        have HQ := hide (filter_less HX.out h0)
        rw [HP.out] at h0
        have H0 := hide h0
        clear h0
        go_wp2_with (first
          | ((with_reducible refine at_slot 13 ?_); refine wpList_load_at rfl 36 (.tmp 12) rfl (ad.add (k * 3)) rfl (grC g) _ HS.out Try.underlying36 rfl grp_info ?_)
          | ((with_reducible refine at_slot 7 ?_); refine wpList_alloc_blk rfl 36 rfl _ (grp_zero _) ?_; intro w2 hb2 hl2 hs2; clear hs2)
          | ((with_reducible refine at_store 7 ?_); refine wpList_store_all rfl 36 (.tmp 7) (.tmp 13) rfl wr.heap.size 36 _ hb2 rfl (grC g) rfl grp_info rfl (grC_one _) ?_; intro w3 hb3 hg3 hs3; clear hs3; have hl3 : Below wr.heap.size wr w3 := hl2.grown hg3 hl2.size (fun g e => (by injection e with e; omega)))
          | ((with_reducible refine at_slot 14 ?_); refine wpList_load_blk rfl 36 (.tmp 7) rfl wr.heap.size 0 36 _ hb3 rfl (grC g) _ (fun j v hv => (by rw [Nat.zero_add]; simpa using hv)) Try.underlying36 rfl grp_info ?_)
          | (go_at_call 34; refine (has_any g d B0 w3 (hgi.below (hl3.mono hB0r)) (Nat.le_trans hB0r hl3.size)).mono ?_; rw [H0.out]; rintro _ w4 ⟨rfl, hl4⟩))
        have hl5 : Below wr.heap.size wr w4 := hl3.trans (hl4.mono hl3.size)
        have HN5 : Hid (Nd w4 w.heap.size u5 (((L.take (k + 1)).filter p).map (fun g => rise (dks g.ex)))) := hide (by rw [HQ.out]; exact HN.out.later hl5)
        have hl6 := hbel.trans (hl5.mono hzr)
        go_roundw
        case rel => exact ⟨k + 1, by omega, by go_num, HN5, hl6⟩
        case measure => simp [intOf]; omega
      | true =>
        have HQ := hide (filter_more HX.out h0)
        rw [HP.out] at h0
        have H0 := hide h0
        obtain ⟨Ls, hLs⟩ : ∃ Ls, Ls = ((L.take k).filter p).map (fun g => rise (dks g.ex)) := ⟨_, rfl⟩
        have hle : Ls.length ≤ k := by
          rw [hLs, List.length_map]
          exact Nat.le_trans (List.length_filter_le _ _) (by rw [List.length_take]; omega)
        rw [← hLs] at HN
        have HLS := hide hLs
        obtain ⟨vs, hv1, hv2, hv3⟩ := HN.out
        have HV1 := hide hv1
        have HV2 := hide hv2
        have HV3 := hide hv3
        have hm1 : Ls.length + 1 ≤ maxLen := by simp only [maxLen]; omega
        have hm2 : (Ls.length + 1) * 24 ≤ 140737488355328 := by omega
        have HM := hide (And.intro hm1 hm2)
        clear h0 hv1 hv2 hv3 hLs HN hm1 hm2
        go_wp2_with (first
          | ((with_reducible refine at_slot 13 ?_); refine wpList_load_at rfl 36 (.tmp 12) rfl (ad.add (k * 3)) rfl (grC g) _ HS.out Try.underlying36 rfl grp_info ?_)
          | ((with_reducible refine at_slot 7 ?_); refine wpList_alloc_blk rfl 36 rfl _ (grp_zero _) ?_; intro w2 hb2 hl2 hs2; clear hs2)
          | ((with_reducible refine at_store 7 ?_); refine wpList_store_all rfl 36 (.tmp 7) (.tmp 13) rfl wr.heap.size 36 _ hb2 rfl (grC g) rfl grp_info rfl (grC_one _) ?_; intro w3 hb3 hg3 hs3; clear hs3; have hl3 : Below wr.heap.size wr w3 := hl2.grown hg3 hl2.size (fun g e => (by injection e with e; omega)))
          | ((with_reducible refine at_slot 14 ?_); refine wpList_load_blk rfl 36 (.tmp 7) rfl wr.heap.size 0 36 _ hb3 rfl (grC g) _ (fun j v hv => (by rw [Nat.zero_add]; simpa using hv)) Try.underlying36 rfl grp_info ?_)
          | ((with_reducible refine at_slot 18 ?_); refine wpList_load_blk rfl 36 (.tmp 7) rfl wr.heap.size 0 36 _ hb4 rfl (grC g) _ (fun j v hv => (by rw [Nat.zero_add]; simpa using hv)) Try.underlying36 rfl grp_info ?_)
          | (go_at_call 34; refine (has_any g d B0 w3 (hgi.below (hl3.mono hB0r)) (Nat.le_trans hB0r hl3.size)).mono ?_; rw [H0.out]; rintro _ w4 ⟨rfl, hl4⟩; have hb4 := hb3.below hl4 hb3.lt; have hl5 : Below wr.heap.size wr w4 := hl3.trans (hl4.mono hl3.size))
          | (go_at_call 36; refine (disksOf_any g B0 w4 (hgi.below (hl5.mono hB0r)) (Nat.le_trans hB0r hl5.size) hgn).mono ?_; rintro _ w6 ⟨v6, rfl, hrow6, hl6⟩; obtain ⟨A6, c6, rfl, _, _⟩ := own_shape hrow6; have hl7 : Below wr.heap.size wr w6 := hl5.trans (hl6.mono hl5.size); have HV6 := hide (own_later HV2.out hl7); have hz7 := hl7.size)
          | ((with_reducible refine at_slot 21 ?_); refine wpList_append_two _ rfl (.tmp 17) (.tmp 20) _ rfl w.heap.size 22 i0 _ 1 24 Try.underlying51 hi0 hz0 hz1i hz2i rfl (by decide) _ Ls.length _ rfl (HV6.out.alloc _) (w6.heap.size + 1) (some ⟨w6.heap.size, 0, none⟩) 1 1 [.slice A6 g.n c6] rfl (Reads.one _ _ _ _ (by omega)) (by intro x hx; simp at hx; subst hx; rfl) HM.out.1 HM.out.2 (le_alloc (by omega) _) ?_; intro v8 w8 hown8 hg8 hb8))
        have hl9 := Below.alloc (Below.refl w6.heap.size w6) (Nat.le_refl _) (.cells #[.slice A6 g.n c6] 22)
        have hlen6 : g.n = (rise (dks g.ex)).length := by rw [rise_length, dks_length, ExIn.len (hgi)]
        have hN8 : Nd w8 w.heap.size v8 (((L.take (k + 1)).filter p).map (fun g => rise (dks g.ex))) := by
          rw [HQ.out, List.map_append, ← HLS.out]
          have hrow7 : w6.ownsRow w4.heap.size 3 1 (.slice A6 g.n c6) (rise (dks g.ex)).length (I64 (rise (dks g.ex))) := by rw [← hlen6]; exact hrow6
          have hu := ((Rw.of_own hrow7).below hl9).more hl9.size
          exact Nd.more HV1.out (fun i u l hu hl => (((HV3.out i u l hu hl).below (hl7.trans (hl9.mono hl7.size))).more (Nat.le_trans hz7 hl9.size))) (HV6.out.alloc _) hu hown8 hg8
        have HN8 := hide hN8
        have hl10 : Below w.heap.size w w8 := ((hbel.trans (hl7.mono hzr)).trans (hl9.mono (by omega))).grown hg8 (by have := hl9.size; omega) (fun g e => (HV6.out.lt g e).1)
        clear hN8 hown8 hg8 hb8 hl9
        go_roundw
        case rel => exact ⟨k + 1, by omega, by go_num, HN8, hl10⟩
        case measure => simp [intOf]; omega
    · obtain rfl : k = n := by omega
      have hN := HN.out
      rw [List.take_of_length_le (by rw [HL.out]; exact Nat.le_refl _)] at hN
      have HN2 := hide hN
      clear hN
      go_wp2
      go_ret
      exact ⟨_, rfl, HN2.out, hbel⟩
#print axioms needy_any
end Go.Proofs.Ytmaiikmgpeafkaa
