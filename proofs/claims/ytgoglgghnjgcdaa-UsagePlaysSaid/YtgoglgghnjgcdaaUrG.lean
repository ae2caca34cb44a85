/- What the document's Groups and Emptiest of a table answer. -/
import Derived.Test.YtgoglgghnjgcdaaUrB
namespace Go.Proofs.Ytgoglgghnjgcdaa
open Go.RowKit Go.Maps

/-- The least number above one, of those of a list (-1: none). -/
def bestU (last : Int) (l : List Gr) : Int := l.foldl (fun b x => if last < x.id ∧ (b < 0 ∨ x.id < b) then x.id else b) (-1)
theorem bestU_more (last : Int) {l : List Gr} {k : Nat} {x : Gr} (hx : l[k]? = some x) : bestU last (l.take (k + 1)) = if last < x.id ∧ (bestU last (l.take k) < 0 ∨ x.id < bestU last (l.take k)) then x.id else bestU last (l.take k) := by
  unfold bestU
  rw [List.take_add_one, hx, List.foldl_append]
  rfl
theorem bestU_is (last : Int) (l : List Gr) (h0 : ∀ x ∈ l, 0 ≤ x.id) : (bestU last l = -1 ∧ ∀ x ∈ l, x.id ≤ last) ∨ ((∃ x ∈ l, x.id = bestU last l) ∧ last < bestU last l ∧ 0 ≤ bestU last l ∧ ∀ x ∈ l, last < x.id → bestU last l ≤ x.id) := by
  have hk : ∀ k, k ≤ l.length → (bestU last (l.take k) = -1 ∧ ∀ x ∈ l.take k, x.id ≤ last) ∨ ((∃ x ∈ l.take k, x.id = bestU last (l.take k)) ∧ last < bestU last (l.take k) ∧ 0 ≤ bestU last (l.take k) ∧ ∀ x ∈ l.take k, last < x.id → bestU last (l.take k) ≤ x.id) := by
    intro k
    induction k with
    | zero => intro _; exact .inl ⟨rfl, fun x hx => by simp at hx⟩
    | succ k ih =>
      intro hkl
      have ih := ih (by omega)
      have hx : l[k]? = some l[k] := List.getElem?_eq_getElem (by omega)
      generalize l[k] = x at hx
      have hm := h0 x (List.mem_of_getElem? hx)
      rw [bestU_more last hx]
      have htk : ∀ y, y ∈ l.take (k + 1) ↔ y ∈ l.take k ∨ y = x := fun y => by rw [List.take_add_one, hx]; simp
      generalize bestU last (l.take k) = b at ih
      by_cases hc : last < x.id ∧ (b < 0 ∨ x.id < b)
      · rw [if_pos hc]
        refine .inr ⟨⟨x, (htk x).2 (.inr rfl), rfl⟩, hc.1, hm, fun y hy hl => ?_⟩
        rcases (htk y).1 hy with hy | rfl
        · rcases ih with ⟨h1, h2⟩ | ⟨_, _, h3, h4⟩
          · have := h2 y hy; omega
          · have := h4 y hy hl
            omega
        · omega
      · rw [if_neg hc]
        rcases ih with ⟨h1, h2⟩ | ⟨⟨z, hz, hzb⟩, h2, h3, h4⟩
        · refine .inl ⟨h1, fun y hy => ?_⟩
          rcases (htk y).1 hy with hy | rfl
          · exact h2 y hy
          · omega
        · refine .inr ⟨⟨z, (htk z).2 (.inl hz), hzb⟩, h2, h3, fun y hy hl => ?_⟩
          rcases (htk y).1 hy with hy | rfl
          · exact h4 y hy hl
          · omega
  have := hk l.length (Nat.le_refl _)
  rw [List.take_length] at this
  exact this
/-- How many live slots the emptiest so far has (-1: there is none). -/
def leastU (S : Us) : Option Int → Int
  | none => -1
  | some o => ((S.cnt o : Nat) : Int)
section
variable {S : Us}
theorem step_no {acc : Option Int} {g : Int} (h : S.has g = false) : S.emptyStep acc g = acc := by unfold Us.emptyStep; rw [h]; rfl
theorem step_first {g : Int} (h : S.has g = true) : S.emptyStep none g = some g := by unfold Us.emptyStep; rw [h]; rfl
theorem step_yes {g o : Int} (h : S.has g = true) (he : S.cnt g < S.cnt o ∨ S.cnt g = S.cnt o ∧ g < o) : S.emptyStep (some o) g = some g := by
  unfold Us.emptyStep Us.emptier
  rw [h]
  simp only [if_true]
  by_cases hc : S.cnt g = S.cnt o
  · rw [if_pos hc, if_pos (by simp; omega)]
  · rw [if_neg hc, if_pos (by simp; omega)]
theorem step_old {g o : Int} (h : S.has g = true) (he : ¬ (S.cnt g < S.cnt o ∨ S.cnt g = S.cnt o ∧ g < o)) : S.emptyStep (some o) g = some o := by
  unfold Us.emptyStep Us.emptier
  rw [h]
  simp only [if_true]
  by_cases hc : S.cnt g = S.cnt o
  · rw [if_pos hc, if_neg (by simp; omega)]
  · rw [if_neg hc, if_neg (by simp; omega)]
theorem groups_rise (h : S.Ok) : S.groups.Pairwise (· < ·) := by
  have hp : S.groups.Perm (S.G.map Gr.id) := List.mergeSort_perm _ _
  have hn : S.groups.Nodup := hp.nodup_iff.2 h.ids
  have hs : S.groups.Pairwise (· ≤ ·) := (List.pairwise_mergeSort (le := fun x y : Int => decide (x ≤ y)) (fun a b c h1 h2 => by simp at *; omega) (fun a b => by simp; omega) (S.G.map Gr.id)).imp (fun h => by simpa using h)
  exact (hs.and hn).imp fun {a b} ⟨h1, h2⟩ => by omega
theorem groups_mem {x : Int} : x ∈ S.groups ↔ ∃ e ∈ S.G, e.id = x := by
  have hp : S.groups.Perm (S.G.map Gr.id) := List.mergeSort_perm _ _
  rw [hp.mem_iff, List.mem_map]
/-- The last number told: -1 ahead of the first one. -/
def lastU (S : Us) (n : Nat) : Int := if n = 0 then -1 else S.groups.getD (n - 1) 0
/-- The least number above the last one that was told is the next one. -/
theorem best_next (h : S.Ok) {n : Nat} (hn : n < S.G.length) : S.groups[n]? = some (bestU (lastU S n) S.G) := by
  have hl := S.groups_len
  have hr := groups_rise h
  have hrl : ∀ i j, (hi : i < S.groups.length) → (hj : j < S.groups.length) → i < j → S.groups[i] < S.groups[j] := List.pairwise_iff_getElem.1 hr
  have hx : S.groups[n]? = some S.groups[n] := List.getElem?_eq_getElem (by omega)
  have hla : lastU S n < S.groups[n] := by
    unfold lastU
    by_cases h0 : n = 0
    · rw [if_pos h0]
      obtain ⟨e, he, heq⟩ := groups_mem.1 (List.mem_of_getElem? hx)
      have := (h.gs e he).1
      omega
    · rw [if_neg h0]
      have := hrl (n - 1) n (by omega) (by omega) (by omega)
      rw [List.getD_eq_getElem?_getD, List.getElem?_eq_getElem (show n - 1 < S.groups.length by omega)]
      exact this
  obtain ⟨e, he, heq⟩ := groups_mem.1 (List.mem_of_getElem? hx)
  rcases bestU_is (lastU S n) S.G (fun x hx => (h.gs x hx).1) with ⟨_, h2⟩ | ⟨⟨z, hz, hzb⟩, h2, _, h4⟩
  · have := h2 e he
    omega
  · rw [hx]
    congr 1
    have hle := h4 e he (by omega)
    have hzm := groups_mem.2 ⟨z, hz, hzb⟩
    obtain ⟨j, hj, hje⟩ := List.mem_iff_getElem.1 hzm
    rcases Nat.lt_trichotomy j n with hjn | hjn | hjn
    · exfalso
      unfold lastU at h2
      rw [if_neg (by omega), List.getD_eq_getElem?_getD, List.getElem?_eq_getElem (show n - 1 < S.groups.length by omega)] at h2
      have h2 : S.groups[n - 1] < bestU (lastU S n) S.G := by unfold lastU; rw [if_neg (by omega), List.getD_eq_getElem?_getD, List.getElem?_eq_getElem (show n - 1 < S.groups.length by omega)]; exact h2
      rcases Nat.lt_or_ge j (n - 1) with hj1 | hj1
      · have := hrl j (n - 1) hj (by omega) hj1
        omega
      · have : j = n - 1 := by omega
        subst this
        omega
    · subst hjn
      exact hje
    · have := hrl n j (by omega) hj hjn
      omega
theorem lastU_succ (h : S.Ok) {n : Nat} (hn : n < S.G.length) : lastU S (n + 1) = bestU (lastU S n) S.G := by
  have := best_next h hn
  unfold lastU
  rw [if_neg (by omega), List.getD_eq_getElem?_getD, Nat.add_sub_cancel, this]
  rfl
variable {w w' : World} {r cG cL : Nat} {AG AL : Option Addr}
set_option maxRecDepth 100000 in
set_option maxHeartbeats 2000000 in
theorem rgroups_any (h : RefRd w r AG cG AL cL S) (hok : S.Ok) (hf : S.G.length < 1000000) :
    Calls Try.prog 37 #[.pointer (some ⟨r, 0, none⟩)] w fun e w' => ∃ v, e = .returned v ∧ w'.ownsRow w.heap.size 3 1 v S.groups.length (I64 S.groups) ∧ Below w.heap.size w w' := by
  obtain ⟨i0, hi0, hz0, hz1i, hz2i⟩ := info_parts usg_int_parts
  have HI := hide (fun (w' : World) (hb : Below w.heap.size w w') => h.later hb)
  have HOK := hide hok
  obtain ⟨n, hn⟩ : ∃ n, S.G.length = n := ⟨_, rfl⟩
  have HN := hide hn
  have HGL := hide (S.groups_len.trans hn)
  have HC := hide (fun (w' : World) (hb : Below w.heap.size w w') => (show w'.cell? ⟨r, 0, none⟩ = some (.slice AG n cG) by rw [(h.later hb).c0, hn]))
  rw [hn] at hf
  clear h hok hn
  go_enter Try.func37, Try.ntmps37
  go_wp2
  have hba : Below w.heap.size w (w.alloc (.cells #[] 3)) := (Below.refl _ w).alloc (Nat.le_refl _) _
  go_loopw [3, 4, 5, 6, 7] (fun v s4 s5 _ _ wr => ∃ (k : Nat) (la : Int), k ≤ n ∧ s5 = .int .i64 (k : Int) ∧ s4 = .int .i64 la ∧ Hid (la = lastU S k) ∧ Hid (wr.ownsRow w.heap.size 3 1 v k (I64 (S.groups.take k))) ∧ Below w.heap.size w wr) (fun _ _ s5 _ _ _ => n - (intOf s5).toNat)
  case atStart => exact ⟨0, -1, Nat.zero_le _, rfl, rfl, hide rfl, hide (World.ownsRow_made w #[] 0 (Nat.le_refl _) (Nat.zero_le _) rfl), hba⟩
  case round =>
    obtain ⟨k, la, hk, rfl, rfl, HLA, HR, hbel⟩ := hrel
    have hc0 := HC.out wr hbel
    have hsz := hbel.size
    by_cases hkn : k < n
    · have HNX := hide (best_next HOK.out (n := k) (by rw [HN.out]; exact hkn))
      have HLS := hide (lastU_succ HOK.out (n := k) (by rw [HN.out]; exact hkn))
      have HRd := hide (HI.out wr hbel)
      go_wp2_with fail
      go_loopw [6, 7] (fun s6 s7 wz => ∃ (i : Nat) (b : Int), i ≤ n ∧ s7 = .int .i64 (i : Int) ∧ s6 = .int .i64 b ∧ Hid (b = bestU la (S.G.take i)) ∧ Hid (wr = wz)) (fun _ s7 _ => n - (intOf s7).toNat)
      case atStart => exact ⟨0, -1, Nat.zero_le _, rfl, rfl, hide rfl, (by first | exact hide rfl | exact hide trivial)⟩
      case round =>
        obtain ⟨i, b, hi, rfl, rfl, HB, HW⟩ := hrel
        obtain rfl := HW.out
        clear HW
        by_cases hin : i < n
        · obtain ⟨ad, x, hA, hx, h1, h2⟩ := gr_at HRd.out.gr (k := i) (by rw [HN.out]; exact hin)
          subst hA
          have hbm := bestU_more la hx
          rw [← HB.out] at hbm
          clear hx
          by_cases hla : la < x.id
          · have hd1 : decide (la < x.id) = true := by simpa using hla
            by_cases hb0 : b < 0
            · have HB2 : Hid (x.id = bestU la (S.G.take (i + 1))) := hide (by rw [hbm, if_pos ⟨hla, .inl hb0⟩])
              have hd2 : decide (b < 0) = true := by simpa using hb0
              clear hbm
              go_wp2
              go_roundw
              case rel => exact ⟨i + 1, x.id, by omega, by go_num, rfl, HB2, (by first | exact hide rfl | exact hide trivial)⟩
              case measure => simp [intOf]; omega
            · have hd2 : decide (b < 0) = false := by simpa using hb0
              by_cases hxb : x.id < b
              · have HB2 : Hid (x.id = bestU la (S.G.take (i + 1))) := hide (by rw [hbm, if_pos ⟨hla, .inr hxb⟩])
                have hd3 : decide (x.id < b) = true := by simpa using hxb
                clear hbm
                go_wp2
                go_roundw
                case rel => exact ⟨i + 1, x.id, by omega, by go_num, rfl, HB2, (by first | exact hide rfl | exact hide trivial)⟩
                case measure => simp [intOf]; omega
              · have HB2 : Hid (b = bestU la (S.G.take (i + 1))) := hide (by rw [hbm, if_neg (by omega)])
                have hd3 : decide (x.id < b) = false := by simpa using hxb
                clear hbm
                go_wp2
                go_roundw
                case rel => exact ⟨i + 1, b, by omega, by go_num, rfl, HB2, (by first | exact hide rfl | exact hide trivial)⟩
                case measure => simp [intOf]; omega
          · have HB2 : Hid (b = bestU la (S.G.take (i + 1))) := hide (by rw [hbm, if_neg (by omega)])
            have hd1 : decide (la < x.id) = false := by simpa using hla
            clear hbm
            go_wp2
            go_roundw
            case rel => exact ⟨i + 1, b, by omega, by go_num, rfl, HB2, (by first | exact hide rfl | exact hide trivial)⟩
            case measure => simp [intOf]; omega
        · have hb := HB.out
          rw [List.take_of_length_le (by rw [HN.out]; omega), HLA.out] at hb
          have HB3 : Hid (b = lastU S (k + 1)) := hide (by rw [hb, HLS.out])
          have HQ : Hid (S.groups.take (k + 1) = S.groups.take k ++ [b]) := hide (by rw [List.take_add_one, HNX.out, ← hb]; rfl)
          have HM := hide (show k + 1 ≤ maxLen ∧ (k + 1) * 8 ≤ 140737488355328 by simp only [maxLen]; omega)
          clear hb
          go_wp2_with (first
            | ((with_reducible refine at_slot 64 ?_); refine wpList_append_any _ rfl (.tmp 61) (.tmp 63) _ rfl w.heap.size 3 i0 _ 1 8 Try.underlying32 hi0 hz0 hz1i hz2i rfl (by decide) _ k _ rfl (own_later HR.out ((Below.refl _ wr).alloc (Nat.le_refl _) _)) (wr.heap.size + 1) (some ⟨wr.heap.size, 0, none⟩) 1 1 [.int .i64 b] rfl (Reads.one _ _ _ _ (by omega)) (by intro x hx; simp at hx; subst hx; rfl) HM.out.1 HM.out.2 (by rw [World.size_alloc]; omega) ?_; intro v2 w2 hown2 hl2))
          have HR2 : Hid (w2.ownsRow w.heap.size 3 1 v2 (k + 1) (I64 (S.groups.take (k + 1)))) := hide (by rw [HQ.out, I64_append]; exact hown2)
          have hl3 : Below w.heap.size w w2 := (hbel.alloc hsz _).trans hl2
          clear hown2 hl2
          go_roundw
          case rel => exact ⟨k + 1, b, by omega, by go_num, rfl, HB3, HR2, hl3⟩
          case measure => simp [intOf]; omega
    · obtain rfl : k = n := by omega
      have HRR := HR.out
      rw [List.take_of_length_le (by rw [HGL.out]; omega)] at HRR
      have HR2 : Hid (wr.ownsRow w.heap.size 3 1 u3 S.groups.length (I64 S.groups)) := hide (by rw [HGL.out]; exact HRR)
      clear HRR
      go_wp2
      go_ret
      exact ⟨_, rfl, HR2.out, hbel⟩
set_option maxRecDepth 100000 in
set_option maxHeartbeats 2000000 in
theorem remptiest_any (h : RefRd w r AG cG AL cL S) (hok : S.Ok) (hgl : S.G.length < 1000000) (hf : S.L.length < 1000000) (A : Option Addr) (n c : Nat) (l : List Int) (hr : Reads w w.heap.size 1 A n (I64 l)) (hn : n ≤ 9223372036854775807) :
    Calls Try.prog 42 #[.pointer (some ⟨r, 0, none⟩), .slice A n c] w fun e w' => e = .returned (.tuple #[.int .i64 ((S.emptiest l).getD 0), .bool (S.emptiest l).isSome]) ∧ Below w.heap.size w w' := by
  have hlen : l.length = n := by have := hr.1; rw [I64_length] at this; omega
  have HLEN := hide hlen
  have HR := hide hr
  have HB := hide (fun (w' : World) (hb : Below w.heap.size w w') (g : Int) => rblocks_any (h.later hb) hok hgl hf g)
  have HSL := hide (fun (w' : World) (hb : Below w.heap.size w w') (g : Int) => rslots_any (h.later hb) hok hgl g)
  have HCN := hide (fun g => Us.blocks_len hok g)
  have HHS := hide (fun g => Us.has_slots hok g)
  have HLE := hide (fun g => Us.slots_le hok g)
  clear h hok hr hlen hgl hf
  go_enter Try.func42, Try.ntmps42
  go_wp2
  go_loopw [6, 7, 8, 9, 10] (fun e m i _ _ wr => ∃ (k : Nat) (acc : Option Int), k ≤ n ∧ i = .int .i64 (k : Int) ∧ e = .int .i64 (acc.getD 0) ∧ m = .int .i64 (leastU S acc) ∧ Hid (acc = (l.take k).foldl S.emptyStep none) ∧ Below w.heap.size w wr) (fun _ _ i _ _ _ => n - (intOf i).toNat)
  case atStart => exact ⟨0, none, Nat.zero_le _, rfl, rfl, rfl, hide (by rw [List.take_zero]; rfl), Below.refl _ _⟩
  case round =>
    obtain ⟨k, acc, hk, rfl, rfl, rfl, HA, hbel⟩ := hrel
    by_cases hkn : k < n
    · obtain ⟨ad, g, hAd, hab, hgk, hcell0⟩ := HR.out.i64_at hkn
      subst hAd
      have hcell : _ = some (Value.int .i64 g) := (hbel.cell (p := ad.add k) (by rw [block_of_add]; exact hab)).trans hcell0
      have HS : Hid ((l.take (k + 1)).foldl S.emptyStep none = S.emptyStep acc g) := hide (by
        rw [List.take_add_one, hgk, HA.out, List.foldl_append]
        rfl)
      have hhs := HHS.out g
      have hsle := HLE.out g
      have HBg := hide (HB.out wr hbel g)
      have HSg := hide (fun w' hb => HSL.out w' hb g)
      obtain ⟨N, hN⟩ : ∃ N, S.slots g = N := ⟨_, rfl⟩
      have HNN := hide hN
      rw [hN] at hhs hsle
      obtain ⟨cn, hcn⟩ : ∃ cn, S.cnt g = cn := ⟨_, rfl⟩
      have HCg : Hid ((S.blocks g).length = cn) := hide ((HCN.out g).trans hcn)
      have HH : Hid (S.has g = decide (0 < N)) := hide hhs
      have hHcn : ((S.cnt g : Nat) : Int) = (cn : Int) := by rw [hcn]
      have HCNg := hide hHcn
      have HCE := hide hcn
      clear hcell0 hgk hhs hN hcn hHcn
      by_cases h0 : 0 < N
      · have hd0 : decide (0 < N) = true := by simpa using h0
        have HHT : Hid (S.has g = true) := hide (HH.out.trans hd0)
        cases acc with
        | none =>
          rw [show leastU S none = -1 from rfl]
          have HA2 : Hid (some g = (l.take (k + 1)).foldl S.emptyStep none) := hide (by rw [HS.out, step_first HHT.out])
          clear HS
          go_wp2_with (first
            | (go_at_call 38; refine HBg.out.mono ?_; rintro _ w2 ⟨v2, rfl, hown2, hl2⟩; rw [HCg.out] at hown2; obtain ⟨A2, c2, rfl, _, _⟩ := own_shape hown2; have hl3 : Below w.heap.size w w2 := hbel.trans (hl2.mono hbel.size); clear hown2)
            | (go_at_call 39; refine (HSg.out w2 hl3).mono ?_; rw [HNN.out]; rintro _ _ ⟨rfl, rfl⟩))
          go_roundw
          case rel => exact ⟨k + 1, some g, by omega, by go_num, rfl, (by rw [show leastU S (some g) = ((S.cnt g : Nat) : Int) from rfl, HCNg.out]), HA2, hl3⟩
          case measure => simp [intOf]; omega
        | some o =>
          obtain ⟨co, hco⟩ : ∃ co, S.cnt o = co := ⟨_, rfl⟩
          have hfr : leastU S (some o) = (co : Int) := by show ((S.cnt o : Nat) : Int) = _; rw [hco]
          rw [hfr]
          have HFR := hide hfr
          have HCO := hide hco
          clear hco hfr
          have hdn : decide ((co : Int) < 0) = false := by simp
          by_cases hlt : cn < co
          · have HA2 : Hid (some g = (l.take (k + 1)).foldl S.emptyStep none) := hide (by rw [HS.out, step_yes HHT.out (by rw [HCE.out, HCO.out]; exact .inl hlt)])
            have hd1 : decide ((cn : Int) < (co : Int)) = true := by simp; omega
            clear HS
            go_wp2_with (first
              | (go_at_call 38; refine HBg.out.mono ?_; rintro _ w2 ⟨v2, rfl, hown2, hl2⟩; rw [HCg.out] at hown2; obtain ⟨A2, c2, rfl, _, _⟩ := own_shape hown2; have hl3 : Below w.heap.size w w2 := hbel.trans (hl2.mono hbel.size); clear hown2)
              | (go_at_call 39; refine (HSg.out w2 hl3).mono ?_; rw [HNN.out]; rintro _ _ ⟨rfl, rfl⟩))
            go_roundw
            case rel => exact ⟨k + 1, some g, by omega, by go_num, rfl, (by rw [show leastU S (some g) = ((S.cnt g : Nat) : Int) from rfl, HCNg.out]), HA2, hl3⟩
            case measure => simp [intOf]; omega
          · have hd1 : decide ((cn : Int) < (co : Int)) = false := by simp; omega
            by_cases heq : cn = co
            · subst heq
              by_cases hgo : g < o
              · have HA2 : Hid (some g = (l.take (k + 1)).foldl S.emptyStep none) := hide (by rw [HS.out, step_yes HHT.out (by rw [HCE.out, HCO.out]; exact .inr ⟨rfl, hgo⟩)])
                have hd2 : decide (g < o) = true := by simpa using hgo
                clear HS
                go_wp2_with (first
                  | (go_at_call 38; refine HBg.out.mono ?_; rintro _ w2 ⟨v2, rfl, hown2, hl2⟩; rw [HCg.out] at hown2; obtain ⟨A2, c2, rfl, _, _⟩ := own_shape hown2; have hl3 : Below w.heap.size w w2 := hbel.trans (hl2.mono hbel.size); clear hown2)
                  | (go_at_call 39; refine (HSg.out w2 hl3).mono ?_; rw [HNN.out]; rintro _ _ ⟨rfl, rfl⟩))
                go_roundw
                case rel => exact ⟨k + 1, some g, by omega, by go_num, rfl, (by rw [show leastU S (some g) = ((S.cnt g : Nat) : Int) from rfl, HCNg.out]), HA2, hl3⟩
                case measure => simp [intOf]; omega
              · have HA2 : Hid (some o = (l.take (k + 1)).foldl S.emptyStep none) := hide (by rw [HS.out, step_old HHT.out (by rw [HCE.out, HCO.out]; omega)])
                have hd2 : decide (g < o) = false := by simpa using hgo
                clear HS
                go_wp2_with (first
                  | (go_at_call 38; refine HBg.out.mono ?_; rintro _ w2 ⟨v2, rfl, hown2, hl2⟩; rw [HCg.out] at hown2; obtain ⟨A2, c2, rfl, _, _⟩ := own_shape hown2; have hl3 : Below w.heap.size w w2 := hbel.trans (hl2.mono hbel.size); clear hown2)
                  | (go_at_call 39; refine (HSg.out w2 hl3).mono ?_; rw [HNN.out]; rintro _ _ ⟨rfl, rfl⟩))
                go_roundw
                case rel => exact ⟨k + 1, some o, by omega, by go_num, rfl, (by rw [HFR.out]), HA2, hl3⟩
                case measure => simp [intOf]; omega
            · have HA2 : Hid (some o = (l.take (k + 1)).foldl S.emptyStep none) := hide (by rw [HS.out, step_old HHT.out (by rw [HCE.out, HCO.out]; omega)])
              have hne : ((cn : Int) == (co : Int)) = false := by simp; omega
              have hne2 : (cn == co) = false := by simpa using heq
              clear HS
              go_wp2_with (first
                | (go_at_call 38; refine HBg.out.mono ?_; rintro _ w2 ⟨v2, rfl, hown2, hl2⟩; rw [HCg.out] at hown2; obtain ⟨A2, c2, rfl, _, _⟩ := own_shape hown2; have hl3 : Below w.heap.size w w2 := hbel.trans (hl2.mono hbel.size); clear hown2)
                | (go_at_call 39; refine (HSg.out w2 hl3).mono ?_; rw [HNN.out]; rintro _ _ ⟨rfl, rfl⟩))
              go_roundw
              case rel => exact ⟨k + 1, some o, by omega, by go_num, rfl, (by rw [HFR.out]), HA2, hl3⟩
              case measure => simp [intOf]; omega
      · have hN0 : N = 0 := by omega
        subst hN0
        have HA2 : Hid (acc = (l.take (k + 1)).foldl S.emptyStep none) := hide (by rw [HS.out, step_no (by rw [HH.out]; rfl)])
        obtain ⟨mm, hmm⟩ : ∃ mm : Int, leastU S acc = mm := ⟨_, rfl⟩
        have HMM := hide hmm
        rw [hmm]
        clear hmm HS
        go_wp2_with (first
          | (go_at_call 38; refine HBg.out.mono ?_; rintro _ w2 ⟨v2, rfl, hown2, hl2⟩; rw [HCg.out] at hown2; obtain ⟨A2, c2, rfl, _, _⟩ := own_shape hown2; have hl3 : Below w.heap.size w w2 := hbel.trans (hl2.mono hbel.size); clear hown2)
          | (go_at_call 39; refine (HSg.out w2 hl3).mono ?_; rw [HNN.out]; rintro _ _ ⟨rfl, rfl⟩))
        go_roundw
        case rel => exact ⟨k + 1, acc, by omega, by go_num, rfl, (by rw [HMM.out]), HA2, hl3⟩
        case measure => simp [intOf]; omega
    · obtain rfl : k = n := by omega
      have HF : Hid (acc = S.emptiest l) := hide (by rw [HA.out, List.take_of_length_le (by rw [HLEN.out]; exact Nat.le_refl _)]; rfl)
      cases acc with
      | none =>
        rw [show leastU S none = -1 from rfl]
        go_wp2
        go_ret2
        exact ⟨by rw [← HF.out]; rfl, hbel⟩
      | some o =>
        obtain ⟨co, hco⟩ : ∃ co : Nat, leastU S (some o) = (co : Int) := ⟨S.cnt o, rfl⟩
        rw [hco]
        go_wp2
        go_ret2
        exact ⟨by rw [← HF.out]; simp, hbel⟩
end
#print axioms remptiest_any
end Go.Proofs.Ytgoglgghnjgcdaa
