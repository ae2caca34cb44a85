/- What the calls of a table that look at more than one place answer. -/
import Derived.Test.YtgoglgghnjgcdaaUsgC
namespace Go.Proofs.Ytgoglgghnjgcdaa
open Go.RowKit Go.Maps

theorem usg_int_parts : (Try.prog.info? 3).map (fun i => (i.zero, i.size, i.bytes)) = some (some (.int .i64 0), 1, 8) := by kernel_rfl
section
variable {S : Us}
theorem hole_found {g : Int} {k : Nat} (h : ∀ j, j < k → S.live g j = true) (hk : S.live g k = false) (hn : k < (S.slots g).toNat) : S.hole g = some k := by
  unfold Us.hole
  rw [List.find?_eq_some_iff_append]
  refine ⟨by simp [hk], List.range k, (List.range ((S.slots g).toNat - k - 1)).map (fun i => i + (k + 1)), ?_, fun a ha => by simp [h a (List.mem_range.1 ha)]⟩
  have e : (S.slots g).toNat = k + 1 + ((S.slots g).toNat - k - 1) := by omega
  generalize (S.slots g).toNat - k - 1 = m at e
  rw [e, List.range_add, List.range_succ, List.append_assoc]
  simp [Nat.add_comm]
theorem hole_none {g : Int} (h : ∀ j, j < (S.slots g).toNat → S.live g j = true) : S.hole g = none := by
  unfold Us.hole
  rw [List.find?_eq_none]
  intro j hj
  simp [h j (List.mem_range.1 hj)]
/-- The blocks of the first k slots. -/
def blocksTo (S : Us) (g : Int) (k : Nat) : List Int := (List.range k).filterMap fun (s : Nat) => S.at_ g (s : Int)
theorem blocksTo_zero (g : Int) : blocksTo S g 0 = [] := rfl
theorem blocksTo_succ (g : Int) (k : Nat) : blocksTo S g (k + 1) = blocksTo S g k ++ (S.at_ g (k : Int)).toList := by
  unfold blocksTo
  rw [List.range_succ, List.filterMap_append]
  cases h : S.at_ g (k : Int) <;> simp [h]
theorem blocksTo_all (g : Int) : blocksTo S g (S.slots g).toNat = S.blocks g := rfl
theorem blocksTo_len (g : Int) (k : Nat) : (blocksTo S g k).length ≤ k := by
  have := List.length_filterMap_le (fun (s : Nat) => S.at_ g (s : Int)) (List.range k)
  rw [List.length_range] at this
  exact this
variable {w : World} {t x y z : Nat} {f : Int → Option Value} {h : Int × Int → Option Value} {k : Int → Option Value}
set_option maxRecDepth 100000 in
theorem missing_any (m : UsM w t x y z (gF S) h k) (hok : S.Ok) (g s : Int) (hg : okI64 g) :
    Calls Try.prog 44 #[.pointer (some ⟨t, 0, none⟩), .agg #[.int .i64 g, .int .i64 s]] w fun e w' => e = .returned (.int .i64 (S.inE g s)) ∧ Below w.heap.size w w' := by
  have HM := hide (fun (w' : World) (hb : Below w.heap.size w w') => has_any (m.later hb) hok g hg)
  have HS := hide (fun (w' : World) (hb : Below w.heap.size w w') => slots_any (m.later hb) hok g hg)
  clear m hok
  obtain ⟨n, hn⟩ : ∃ n, n = S.slots g := ⟨_, rfl⟩
  unfold Us.inE
  rw [← hn] at HS ⊢
  clear hn
  cases h0 : S.has g with
  | false =>
    rw [h0] at HM
    go_enter Try.func44, Try.ntmps44
    go_wp2_with (first
      | (refine wpList_box_blk rfl 66 (.tmp 1) rfl (.agg #[.int .i64 g, .int .i64 s]) rfl ?_; intro w1 hb1 hl1 hs1; clear hs1; have q0 : w1.cell? ⟨w.heap.size, 0, none⟩ = some (.int .i64 g) := hb1.cell 0)
      | (go_at_call 43; refine (HM.out w1 hl1).mono ?_; rintro _ w2 ⟨rfl, hl2⟩))
    go_ret
    exact ⟨rfl, hl1.trans (hl2.mono hl1.size)⟩
  | true =>
    rw [h0] at HM
    by_cases h1 : s < 0
    · have HI : Hid ((if true = true then (if s < 0 ∨ n ≤ s then (3 : Int) else 0) else 8) = 3) := hide (by rw [if_pos rfl, if_pos (.inl h1)])
      rw [HI.out]
      have hd : decide (s < 0) = true := by simp [h1]
      go_enter Try.func44, Try.ntmps44
      go_wp2_with (first
        | (refine wpList_box_blk rfl 66 (.tmp 1) rfl (.agg #[.int .i64 g, .int .i64 s]) rfl ?_; intro w1 hb1 hl1 hs1; clear hs1; have q0 : w1.cell? ⟨w.heap.size, 0, none⟩ = some (.int .i64 g) := hb1.cell 0)
        | (go_at_call 43; refine (HM.out w1 hl1).mono ?_; rintro _ w2 ⟨rfl, hl2⟩; have q1 : w2.cell? ⟨w.heap.size, 1, none⟩ = some (.int .i64 s) := (hb1.below hl2 hb1.lt).cell 1))
      go_quiet (fail)
      go_wp2
      go_ret
      exact ⟨rfl, (hl1.trans (hl2.mono hl1.size)).trans ⟨rfl, rfl, rfl, Nat.le_refl _, fun _ _ => rfl⟩⟩
    · have hd : decide (s < 0) = false := by simp; omega
      obtain ⟨r, hr⟩ : ∃ r, r = decide (n ≤ s) := ⟨_, rfl⟩
      have HI : Hid ((if true = true then (if s < 0 ∨ n ≤ s then (3 : Int) else 0) else 8) = if r then 3 else 0) := hide (by
        rw [if_pos rfl, hr]
        by_cases h2 : n ≤ s
        · rw [if_pos (.inr h2)]; simp [h2]
        · rw [if_neg (by omega)]; simp [h2])
      rw [HI.out]
      have hr2 : decide (n ≤ s) = r := hr.symm
      clear hr HI
      cases r
      all_goals
        go_enter Try.func44, Try.ntmps44
        go_wp2_with (first
          | (refine wpList_box_blk rfl 66 (.tmp 1) rfl (.agg #[.int .i64 g, .int .i64 s]) rfl ?_; intro w1 hb1 hl1 hs1; clear hs1; have q0 : w1.cell? ⟨w.heap.size, 0, none⟩ = some (.int .i64 g) := hb1.cell 0)
          | (go_at_call 43; refine (HM.out w1 hl1).mono ?_; rintro _ w2 ⟨rfl, hl2⟩; have q1 : w2.cell? ⟨w.heap.size, 1, none⟩ = some (.int .i64 s) := (hb1.below hl2 hb1.lt).cell 1; have q2 : w2.cell? ⟨w.heap.size, 0, none⟩ = some (.int .i64 g) := (hb1.below hl2 hb1.lt).cell 0; have hl3 := hl1.trans (hl2.mono hl1.size)))
        go_quiet (first | (go_at_call 19; exact quiet_as (HS.out _ (hl3.trans ⟨rfl, rfl, rfl, Nat.le_refl _, fun _ _ => rfl⟩))))
        go_wp2
        go_ret
        exact ⟨rfl, hl3.trans ⟨rfl, rfl, rfl, Nat.le_refl _, fun _ _ => rfl⟩⟩
set_option maxRecDepth 100000 in
theorem hole_any (m : UsM w t x y z (gF S) (bF S) k) (hok : S.Ok) (g : Int) (hg : okI64 g) :
    Calls Try.prog 22 #[.pointer (some ⟨t, 0, none⟩), .int .i64 g] w fun e w' => e = .returned (.tuple #[.int .i64 (((S.hole g).getD 0 : Nat) : Int), .bool (S.hole g).isSome]) ∧ w = w' := by
  have hle := Us.slots_le hok g
  obtain ⟨n, hn⟩ : ∃ n : Nat, (n : Int) = S.slots g := ⟨(S.slots g).toNat, by omega⟩
  have hn2 : (S.slots g).toNat = n := by omega
  have HS := hide (slots_any m hok g hg)
  rw [← hn] at HS
  have HB := hide (fun (s : Int) (hs : okI64 s) => block_any m g s hg hs)
  have HN := hide hn2
  have hn4 : n ≤ 4096 := by omega
  clear m hok hle hn hn2
  go_enter Try.func22, Try.ntmps22
  go_wp2_with (first
    | (go_at_call 19; refine HS.out.mono ?_; rintro _ _ ⟨rfl, rfl⟩))
  go_loopw [6, 7, 8, 12] (fun _ _ _ i wr => ∃ j : Nat, j ≤ n ∧ i = .int .i64 j ∧ Hid (w = wr) ∧ Hid (∀ l, l < j → S.live g l = true)) (fun _ _ _ i _ => n - (intOf i).toNat)
  case atStart => exact ⟨0, Nat.zero_le _, rfl, (by first | exact hide rfl | exact hide trivial), hide (fun l hl => by omega)⟩
  case round =>
    obtain ⟨j, hj, rfl, HW, HA⟩ := hrel
    obtain rfl := HW.out
    clear HW
    by_cases hjn : j < n
    · have HC := hide (HB.out (j : Int) (by unfold okI64; omega))
      cases hl : S.at_ g (j : Int) with
      | some b =>
        have hlv : S.live g j = true := by unfold Us.live; rw [hl]; rfl
        have HA2 : Hid (∀ l, l < j + 1 → S.live g l = true) := hide (fun l hl => by
          rcases Nat.lt_succ_iff_lt_or_eq.1 hl with h | rfl
          · exact HA.out l h
          · exact hlv)
        rw [hl] at HC
        clear hl hlv
        go_wp2_with (first
          | (go_at_call 20; refine HC.out.mono ?_; rintro _ _ ⟨rfl, rfl⟩))
        go_roundw
        case rel => exact ⟨j + 1, by omega, by go_num, (by first | exact hide rfl | exact hide trivial), HA2⟩
        case measure => simp [intOf]; omega
      | none =>
        have hlv : S.live g j = false := by unfold Us.live; rw [hl]; rfl
        have HF := hide (hole_found HA.out hlv (by rw [HN.out]; exact hjn))
        rw [hl] at HC
        clear hl hlv
        go_wp2_with (first
          | (go_at_call 20; refine HC.out.mono ?_; rintro _ _ ⟨rfl, rfl⟩))
        go_ret2
        exact ⟨by rw [HF.out]; rfl, rfl⟩
    · obtain rfl : j = n := by omega
      have HF := hide (hole_none (S := S) (g := g) (by rw [HN.out]; exact HA.out))
      go_wp2
      go_ret2
      exact ⟨by rw [HF.out]; rfl, rfl⟩
set_option maxRecDepth 100000 in
theorem blocks_any (m : UsM w t x y z (gF S) (bF S) k) (hok : S.Ok) (g : Int) (hg : okI64 g) :
    Calls Try.prog 24 #[.pointer (some ⟨t, 0, none⟩), .int .i64 g] w fun e w' => ∃ v, e = .returned v ∧ w'.ownsRow w.heap.size 3 1 v (S.blocks g).length (I64 (S.blocks g)) ∧ Below w.heap.size w w' := by
  obtain ⟨i0, hi0, hz0, hz1i, hz2i⟩ := info_parts usg_int_parts
  have hle := Us.slots_le hok g
  obtain ⟨n, hn⟩ : ∃ n : Nat, (n : Int) = S.slots g := ⟨(S.slots g).toNat, by omega⟩
  have hn2 : (S.slots g).toNat = n := by omega
  have HS := hide (slots_any m hok g hg)
  rw [← hn] at HS
  have HB := hide (fun (w' : World) (hb : Below w.heap.size w w') (s : Int) (hs : okI64 s) => block_any (m.later hb) g s hg hs)
  have hall := blocksTo_all (S := S) g
  rw [hn2] at hall
  rw [← hall]
  have hn4 : n ≤ 4096 := by omega
  clear m hok hle hn hn2 hall
  go_enter Try.func24, Try.ntmps24
  go_wp2_with (first
    | (go_at_call 19; refine HS.out.mono ?_; rintro _ _ ⟨rfl, rfl⟩))
  go_loopw [5, 6, 7, 8, 12] (fun v _ _ _ i wr => ∃ j : Nat, j ≤ n ∧ i = .int .i64 j ∧ Hid (wr.ownsRow w.heap.size 3 1 v (blocksTo S g j).length (I64 (blocksTo S g j))) ∧ Below w.heap.size w wr) (fun _ _ _ _ i _ => n - (intOf i).toNat)
  case atStart => exact ⟨0, Nat.zero_le _, rfl, hide (by rw [blocksTo_zero]; exact ⟨rfl, .inl ⟨rfl, rfl⟩⟩), Below.refl _ _⟩
  case round =>
    obtain ⟨j, hj, rfl, HR, hbel⟩ := hrel
    by_cases hjn : j < n
    · have HC := hide (HB.out wr hbel (j : Int) (by unfold okI64; omega))
      have hsz := hbel.size
      cases hl : S.at_ g (j : Int) with
      | some b =>
        have HQ := hide (show blocksTo S g (j + 1) = blocksTo S g j ++ [b] by rw [blocksTo_succ, hl]; rfl)
        have hln := blocksTo_len (S := S) g j
        obtain ⟨L, hL⟩ : ∃ L, L = blocksTo S g j := ⟨_, rfl⟩
        rw [← hL] at HR HQ hln
        have HM := hide (show L.length + 1 ≤ maxLen ∧ (L.length + 1) * 8 ≤ 140737488355328 by simp only [maxLen]; omega)
        rw [hl] at HC
        clear hl hL
        go_wp2_with (first
          | (go_at_call 20; refine HC.out.mono ?_; rintro _ _ ⟨rfl, rfl⟩)
          | ((with_reducible refine at_slot 26 ?_); refine wpList_append_any _ rfl (.tmp 23) (.tmp 25) _ rfl w.heap.size 3 i0 _ 1 8 Try.underlying32 hi0 hz0 hz1i hz2i rfl (by decide) _ L.length _ rfl (own_later HR.out ((Below.refl _ wr).alloc (Nat.le_refl _) _)) (wr.heap.size + 1) (some ⟨wr.heap.size, 0, none⟩) 1 1 [.int .i64 b] rfl (Reads.one _ _ _ _ (by omega)) (by intro x hx; simp at hx; subst hx; rfl) HM.out.1 HM.out.2 (by rw [World.size_alloc]; omega) ?_; intro v2 w2 hown2 hl2))
        have HR2 : Hid (w2.ownsRow w.heap.size 3 1 v2 (blocksTo S g (j + 1)).length (I64 (blocksTo S g (j + 1)))) := hide (by rw [HQ.out, List.length_append, I64_append]; exact hown2)
        have hl3 : Below w.heap.size w w2 := (hbel.alloc hsz _).trans hl2
        clear hown2 hl2
        go_roundw
        case rel => exact ⟨j + 1, by omega, by go_num, HR2, hl3⟩
        case measure => simp [intOf]; omega
      | none =>
        have HR2 : Hid (wr.ownsRow w.heap.size 3 1 u5 (blocksTo S g (j + 1)).length (I64 (blocksTo S g (j + 1)))) := hide (by rw [show blocksTo S g (j + 1) = blocksTo S g j by rw [blocksTo_succ, hl]; simp]; exact HR.out)
        rw [hl] at HC
        clear hl
        go_wp2_with (first
          | (go_at_call 20; refine HC.out.mono ?_; rintro _ _ ⟨rfl, rfl⟩))
        go_roundw
        case rel => exact ⟨j + 1, by omega, by go_num, HR2, hbel⟩
        case measure => simp [intOf]; omega
    · obtain rfl : j = n := by omega
      go_wp2
      go_ret
      exact ⟨_, rfl, HR.out, hbel⟩
set_option maxRecDepth 100000 in
theorem emptier_any (m : UsM w t x y z (gF S) h k) (hok : S.Ok) (g o : Int) (hg : okI64 g) (ho : okI64 o) :
    Calls Try.prog 49 #[.pointer (some ⟨t, 0, none⟩), .int .i64 g, .int .i64 o] w fun e w' => e = .returned (.bool (S.emptier g o)) ∧ w = w' := by
  have HG := hide (count_any m hok g hg)
  have HO := hide (count_any m hok o ho)
  unfold Us.emptier
  clear m hok hg ho
  generalize S.cnt g = a at HG ⊢
  generalize S.cnt o = b at HO ⊢
  by_cases hab : a = b
  · rw [if_pos hab]
    subst hab
    go_enter Try.func49, Try.ntmps49
    go_wp2_with (first
      | (go_at_call 25; with_reducible refine HG.out.mono ?_; rintro _ _ ⟨rfl, rfl⟩)
      | (go_at_call 25; with_reducible refine HO.out.mono ?_; rintro _ _ ⟨rfl, rfl⟩))
    go_ret
    exact ⟨rfl, rfl⟩
  · rw [if_neg hab]
    have hne : ((a : Int) != (b : Int)) = true := by simp; omega
    go_enter Try.func49, Try.ntmps49
    go_wp2_with (first
      | (go_at_call 25; with_reducible refine HG.out.mono ?_; rintro _ _ ⟨rfl, rfl⟩)
      | (go_at_call 25; with_reducible refine HO.out.mono ?_; rintro _ _ ⟨rfl, rfl⟩))
    go_ret
    exact ⟨ret_bool (by simp), rfl⟩
end
#print axioms emptier_any
end Go.Proofs.Ytgoglgghnjgcdaa
