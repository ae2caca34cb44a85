/- What the document's without, Hole, Blocks, Groups and Emptiest of a table answer. -/
import Derived.Test.YtgoglgghnjgcdaaUrA
namespace Go.Proofs.Ytgoglgghnjgcdaa
open Go.RowKit Go.Maps

theorem grp_parts : (Try.prog.info? 80).map (fun i => (i.zero, i.size, i.bytes)) = some (some (.agg #[.int .i64 0, .int .i64 0]), 2, 16) := by kernel_rfl
theorem liv_parts : (Try.prog.info? 83).map (fun i => (i.zero, i.size, i.bytes)) = some (some (.agg #[.int .i64 0, .int .i64 0, .int .i64 0]), 3, 24) := by kernel_rfl
theorem liv_info : (Try.prog.info? 83).map (·.size) = some 3 := by kernel_rfl
theorem lvC_one (x : Lv) : ∀ v ∈ lvC x, v.oneCell' = true := by
  intro v hv
  simp [lvC] at hv
  rcases hv with rfl | rfl | rfl <;> rfl
/-- Is a live slot left out? -/
def wo (g s b : Int) (x : Lv) : Bool := (decide (x.g = g) && (decide (s < 0) || decide (x.s = s))) || (decide (0 ≤ b) && decide (x.b = b))
theorem keep_no {l : List Lv} {k : Nat} {x : Lv} {p : Lv → Bool} (hx : l[k]? = some x) (hp : p x = false) : (l.take (k + 1)).filter p = (l.take k).filter p := by
  rw [List.take_add_one, hx, List.filter_append]
  simp [hp]
theorem keep_yes {l : List Lv} {k : Nat} {x : Lv} {p : Lv → Bool} (hx : l[k]? = some x) (hp : p x = true) : (l.take (k + 1)).filter p = (l.take k).filter p ++ [x] := by
  rw [List.take_add_one, hx, List.filter_append]
  simp [hp]
section
variable {w w' : World} {r cG cL : Nat} {AG AL : Option Addr} {S : Us}
set_option maxRecDepth 100000 in
set_option maxHeartbeats 2000000 in
theorem rwithout_any (h : RefRd w r AG cG AL cL S) (hf : S.L.length < 1000000) (g s b : Int) :
    Calls Try.prog 51 #[.pointer (some ⟨r, 0, none⟩), .int .i64 g, .int .i64 s, .int .i64 b] w fun e w' => ∃ v, e = .returned v ∧ w'.ownsRow w.heap.size 83 3 v (S.L.filter fun x => !wo g s b x).length (lvL (S.L.filter fun x => !wo g s b x)) ∧ Below w.heap.size w w' := by
  obtain ⟨i0, hi0, hz0, hz1, hz2⟩ := info_parts liv_parts
  have HII := hide (And.intro hi0 (And.intro hz0 (And.intro hz1 hz2)))
  have HI := hide (fun (w' : World) (hb : Below w.heap.size w w') => h.later hb)
  obtain ⟨n, hn⟩ : ∃ n, S.L.length = n := ⟨_, rfl⟩
  have HN := hide hn
  have hrl := h.head.lt
  have HC := hide (fun (w' : World) (hb : Below w.heap.size w w') => (show w'.cell? ⟨r, 1, none⟩ = some (.slice AL n cL) by rw [(h.later hb).c1, hn]))
  rw [hn] at hf
  clear h hn hi0 hz0 hz1 hz2
  go_enter Try.func51, Try.ntmps51
  go_wp2
  have hba : Below w.heap.size w (w.alloc (.cells #[] 83)) := (Below.refl _ w).alloc (Nat.le_refl _) _
  go_loopw [9, 10, 11] (fun v i _ wr => ∃ k : Nat, k ≤ n ∧ i = .int .i64 k ∧ Hid (wr.ownsRow w.heap.size 83 3 v ((S.L.take k).filter fun x => !wo g s b x).length (lvL ((S.L.take k).filter fun x => !wo g s b x))) ∧ Below w.heap.size w wr) (fun _ i _ _ => n - (intOf i).toNat)
  case atStart => exact ⟨0, Nat.zero_le _, rfl, hide (World.ownsRow_made w #[] 0 (Nat.le_refl _) (Nat.zero_le _) rfl), hba⟩
  case round =>
    obtain ⟨k, hk, rfl, HR, hbel⟩ := hrel
    have hc1 := HC.out wr hbel
    have hsz := hbel.size
    by_cases hkn : k < n
    · obtain ⟨ad, x, rfl, hx, _, _, _, hcs⟩ := lv_at (HI.out wr hbel).lr (k := k) (by rw [HN.out]; exact hkn)
      have HS := hide hcs
      have HXX := hide hx
      clear hcs hx
      by_cases hxg : x.g = g
      · by_cases hs : s < 0
        · have hds : decide (s < 0) = true := by simpa using hs
          have HQ := hide (keep_no (p := fun x => !wo g s b x) HXX.out (by simp [wo, hxg, hs]))
          go_wp2_with (first
            | (refine wpList_load_at rfl 83 (.tmp 27) rfl (ad.add (k * 3)) rfl (lvC x) _ HS.out Try.underlying83 rfl liv_info ?_)
            | (refine wpList_alloc_blk rfl 83 rfl _ (Try.zeroValue83 _) ?_; intro w1 hb1 hl1 hs1; clear hs1)
            | (refine wpList_store_all rfl 83 (.tmp 11) (.tmp 28) rfl wr.heap.size 83 _ hb1 rfl (lvC x) rfl liv_info rfl (lvC_one x) ?_; intro w2 hb2q hg2 hs2; clear hs2; have hb2 : Blk w2 wr.heap.size 83 (lvC x).toArray := hb2q; clear hb2q; have q0 : w2.cell? ⟨wr.heap.size, 0, none⟩ = some (.int .i64 g) := (by rw [← hxg]; exact hb2.cell 0); have q1 : w2.cell? ⟨wr.heap.size, 1, none⟩ = some (.int .i64 x.s) := hb2.cell 1; have q2 : w2.cell? ⟨wr.heap.size, 2, none⟩ = some (.int .i64 x.b) := hb2.cell 2; have hl2 : Below wr.heap.size wr w2 := hl1.grown hg2 hl1.size (fun g e => (by injection e with e; omega)); have hl3 : Below w.heap.size w w2 := hbel.trans (hl2.mono hsz)))
          have HR2 : Hid (w2.ownsRow w.heap.size 83 3 u9 ((S.L.take (k + 1)).filter fun x => !wo g s b x).length (lvL ((S.L.take (k + 1)).filter fun x => !wo g s b x))) := hide (by rw [HQ.out]; exact own_later HR.out hl2)
          go_roundw
          case rel => exact ⟨k + 1, by omega, by go_num, HR2, hl3⟩
          case measure => simp [intOf]; omega
        · have hds : decide (s < 0) = false := by simpa using hs
          by_cases hxs : x.s = s
          · have HQ := hide (keep_no (p := fun x => !wo g s b x) HXX.out (by simp [wo, hxg, hs, hxs]))
            go_wp2_with (first
              | (refine wpList_load_at rfl 83 (.tmp 27) rfl (ad.add (k * 3)) rfl (lvC x) _ HS.out Try.underlying83 rfl liv_info ?_)
              | (refine wpList_alloc_blk rfl 83 rfl _ (Try.zeroValue83 _) ?_; intro w1 hb1 hl1 hs1; clear hs1)
              | (refine wpList_store_all rfl 83 (.tmp 11) (.tmp 28) rfl wr.heap.size 83 _ hb1 rfl (lvC x) rfl liv_info rfl (lvC_one x) ?_; intro w2 hb2q hg2 hs2; clear hs2; have hb2 : Blk w2 wr.heap.size 83 (lvC x).toArray := hb2q; clear hb2q; have q0 : w2.cell? ⟨wr.heap.size, 0, none⟩ = some (.int .i64 g) := (by rw [← hxg]; exact hb2.cell 0); have q1 : w2.cell? ⟨wr.heap.size, 1, none⟩ = some (.int .i64 s) := (by rw [← hxs]; exact hb2.cell 1); have q2 : w2.cell? ⟨wr.heap.size, 2, none⟩ = some (.int .i64 x.b) := hb2.cell 2; have hl2 : Below wr.heap.size wr w2 := hl1.grown hg2 hl1.size (fun g e => (by injection e with e; omega)); have hl3 : Below w.heap.size w w2 := hbel.trans (hl2.mono hsz)))
            have HR2 : Hid (w2.ownsRow w.heap.size 83 3 u9 ((S.L.take (k + 1)).filter fun x => !wo g s b x).length (lvL ((S.L.take (k + 1)).filter fun x => !wo g s b x))) := hide (by rw [HQ.out]; exact own_later HR.out hl2)
            go_roundw
            case rel => exact ⟨k + 1, by omega, by go_num, HR2, hl3⟩
            case measure => simp [intOf]; omega
          · have hns : (x.s == s) = false := by simpa using hxs
            by_cases hb : 0 ≤ b
            · have hdb : decide (0 ≤ b) = true := by simpa using hb
              by_cases hxb : x.b = b
              · have HQ := hide (keep_no (p := fun x => !wo g s b x) HXX.out (by simp [wo, hxg, hs, hxs, hb, hxb]))
                go_wp2_with (first
                  | (refine wpList_load_at rfl 83 (.tmp 27) rfl (ad.add (k * 3)) rfl (lvC x) _ HS.out Try.underlying83 rfl liv_info ?_)
                  | (refine wpList_alloc_blk rfl 83 rfl _ (Try.zeroValue83 _) ?_; intro w1 hb1 hl1 hs1; clear hs1)
                  | (refine wpList_store_all rfl 83 (.tmp 11) (.tmp 28) rfl wr.heap.size 83 _ hb1 rfl (lvC x) rfl liv_info rfl (lvC_one x) ?_; intro w2 hb2q hg2 hs2; clear hs2; have hb2 : Blk w2 wr.heap.size 83 (lvC x).toArray := hb2q; clear hb2q; have q0 : w2.cell? ⟨wr.heap.size, 0, none⟩ = some (.int .i64 g) := (by rw [← hxg]; exact hb2.cell 0); have q1 : w2.cell? ⟨wr.heap.size, 1, none⟩ = some (.int .i64 x.s) := hb2.cell 1; have q2 : w2.cell? ⟨wr.heap.size, 2, none⟩ = some (.int .i64 b) := (by rw [← hxb]; exact hb2.cell 2); have hl2 : Below wr.heap.size wr w2 := hl1.grown hg2 hl1.size (fun g e => (by injection e with e; omega)); have hl3 : Below w.heap.size w w2 := hbel.trans (hl2.mono hsz)))
                have HR2 : Hid (w2.ownsRow w.heap.size 83 3 u9 ((S.L.take (k + 1)).filter fun x => !wo g s b x).length (lvL ((S.L.take (k + 1)).filter fun x => !wo g s b x))) := hide (by rw [HQ.out]; exact own_later HR.out hl2)
                go_roundw
                case rel => exact ⟨k + 1, by omega, by go_num, HR2, hl3⟩
                case measure => simp [intOf]; omega
              · have hnb : (x.b == b) = false := by simpa using hxb
                have HQ := hide (keep_yes (p := fun x => !wo g s b x) HXX.out (by simp [wo, hxg, hs, hxs, hxb]))
                have hlk : ((S.L.take k).filter fun x => !wo g s b x).length ≤ k := Nat.le_trans (List.length_filter_le _ _) (by rw [List.length_take]; omega)
                obtain ⟨Lk, hLk⟩ : ∃ Lk, Lk = (S.L.take k).filter fun x => !wo g s b x := ⟨_, rfl⟩
                rw [← hLk] at HR HQ hlk
                have HM := hide (show Lk.length + 1 ≤ maxLen ∧ (Lk.length + 1) * 24 ≤ 140737488355328 by simp only [maxLen]; omega)
                clear hLk hlk
                go_wp2_with (first
                  | (refine wpList_load_at rfl 83 (.tmp 27) rfl (ad.add (k * 3)) rfl (lvC x) _ HS.out Try.underlying83 rfl liv_info ?_)
                  | (refine wpList_alloc_blk rfl 83 rfl _ (Try.zeroValue83 _) ?_; intro w1 hb1 hl1 hs1; clear hs1)
                  | (refine wpList_store_all rfl 83 (.tmp 11) (.tmp 28) rfl wr.heap.size 83 _ hb1 rfl (lvC x) rfl liv_info rfl (lvC_one x) ?_; intro w2 hb2q hg2 hs2; clear hs2; have hb2 : Blk w2 wr.heap.size 83 (lvC x).toArray := hb2q; clear hb2q; have q0 : w2.cell? ⟨wr.heap.size, 0, none⟩ = some (.int .i64 g) := (by rw [← hxg]; exact hb2.cell 0); have q1 : w2.cell? ⟨wr.heap.size, 1, none⟩ = some (.int .i64 x.s) := hb2.cell 1; have q2 : w2.cell? ⟨wr.heap.size, 2, none⟩ = some (.int .i64 x.b) := hb2.cell 2; have hl2 : Below wr.heap.size wr w2 := hl1.grown hg2 hl1.size (fun g e => (by injection e with e; omega)); have hl3 : Below w.heap.size w w2 := hbel.trans (hl2.mono hsz))
                  | (refine wpList_load_blk rfl 83 (.tmp 11) rfl wr.heap.size 0 83 _ hb2 rfl (lvC x) _ (fun j v hv => (by rw [Nat.zero_add]; simpa using hv)) Try.underlying83 rfl liv_info ?_)
                  | (refine wpList_build_agg _ rfl (.tmp 54) 58 rfl 83 i0 _ 3 Try.underlying58 HII.out.1 (Try.zeroValue83 _) HII.out.2.2.1 (by decide) (by decide) (lvC x).toArray rfl rfl ?_)
                  | ((with_reducible refine at_slot 56 ?_); refine wpList_append_any _ rfl (.tmp 53) (.tmp 55) _ rfl w.heap.size 83 i0 _ 3 24 Try.underlying58 HII.out.1 HII.out.2.1 HII.out.2.2.1 HII.out.2.2.2 rfl (by decide) _ Lk.length _ rfl (own_later HR.out (hl2.trans (((Below.refl _ w2).alloc (Nat.le_refl _) _).mono hl2.size))) (w2.heap.size + 1) (some ⟨w2.heap.size, 0, none⟩) 1 1 (lvC x) rfl (Reads.lump _ (lvC x) _ _ 3 (by omega) rfl) (lvC_one x) HM.out.1 HM.out.2 (by rw [World.size_alloc]; have := hl3.size; omega) ?_; intro v5 w5 hown5 hl5))
                have HR2 : Hid (w5.ownsRow w.heap.size 83 3 v5 ((S.L.take (k + 1)).filter fun x => !wo g s b x).length (lvL ((S.L.take (k + 1)).filter fun x => !wo g s b x))) := hide (by rw [HQ.out, List.length_append, lvL_append]; exact hown5)
                have hl6 : Below w.heap.size w w5 := (hl3.alloc hl3.size _).trans hl5
                clear hown5 hl5
                go_roundw
                case rel => exact ⟨k + 1, by omega, by go_num, HR2, hl6⟩
                case measure => simp [intOf]; omega
            · have hdb : decide (0 ≤ b) = false := by simpa using hb
              have HQ := hide (keep_yes (p := fun x => !wo g s b x) HXX.out (by simp [wo, hxg, hs, hxs, hb]))
              have hlk : ((S.L.take k).filter fun x => !wo g s b x).length ≤ k := Nat.le_trans (List.length_filter_le _ _) (by rw [List.length_take]; omega)
              obtain ⟨Lk, hLk⟩ : ∃ Lk, Lk = (S.L.take k).filter fun x => !wo g s b x := ⟨_, rfl⟩
              rw [← hLk] at HR HQ hlk
              have HM := hide (show Lk.length + 1 ≤ maxLen ∧ (Lk.length + 1) * 24 ≤ 140737488355328 by simp only [maxLen]; omega)
              clear hLk hlk
              go_wp2_with (first
                | (refine wpList_load_at rfl 83 (.tmp 27) rfl (ad.add (k * 3)) rfl (lvC x) _ HS.out Try.underlying83 rfl liv_info ?_)
                | (refine wpList_alloc_blk rfl 83 rfl _ (Try.zeroValue83 _) ?_; intro w1 hb1 hl1 hs1; clear hs1)
                | (refine wpList_store_all rfl 83 (.tmp 11) (.tmp 28) rfl wr.heap.size 83 _ hb1 rfl (lvC x) rfl liv_info rfl (lvC_one x) ?_; intro w2 hb2q hg2 hs2; clear hs2; have hb2 : Blk w2 wr.heap.size 83 (lvC x).toArray := hb2q; clear hb2q; have q0 : w2.cell? ⟨wr.heap.size, 0, none⟩ = some (.int .i64 g) := (by rw [← hxg]; exact hb2.cell 0); have q1 : w2.cell? ⟨wr.heap.size, 1, none⟩ = some (.int .i64 x.s) := hb2.cell 1; have q2 : w2.cell? ⟨wr.heap.size, 2, none⟩ = some (.int .i64 x.b) := hb2.cell 2; have hl2 : Below wr.heap.size wr w2 := hl1.grown hg2 hl1.size (fun g e => (by injection e with e; omega)); have hl3 : Below w.heap.size w w2 := hbel.trans (hl2.mono hsz))
                | (refine wpList_load_blk rfl 83 (.tmp 11) rfl wr.heap.size 0 83 _ hb2 rfl (lvC x) _ (fun j v hv => (by rw [Nat.zero_add]; simpa using hv)) Try.underlying83 rfl liv_info ?_)
                | (refine wpList_build_agg _ rfl (.tmp 54) 58 rfl 83 i0 _ 3 Try.underlying58 HII.out.1 (Try.zeroValue83 _) HII.out.2.2.1 (by decide) (by decide) (lvC x).toArray rfl rfl ?_)
                | ((with_reducible refine at_slot 56 ?_); refine wpList_append_any _ rfl (.tmp 53) (.tmp 55) _ rfl w.heap.size 83 i0 _ 3 24 Try.underlying58 HII.out.1 HII.out.2.1 HII.out.2.2.1 HII.out.2.2.2 rfl (by decide) _ Lk.length _ rfl (own_later HR.out (hl2.trans (((Below.refl _ w2).alloc (Nat.le_refl _) _).mono hl2.size))) (w2.heap.size + 1) (some ⟨w2.heap.size, 0, none⟩) 1 1 (lvC x) rfl (Reads.lump _ (lvC x) _ _ 3 (by omega) rfl) (lvC_one x) HM.out.1 HM.out.2 (by rw [World.size_alloc]; have := hl3.size; omega) ?_; intro v5 w5 hown5 hl5))
              have HR2 : Hid (w5.ownsRow w.heap.size 83 3 v5 ((S.L.take (k + 1)).filter fun x => !wo g s b x).length (lvL ((S.L.take (k + 1)).filter fun x => !wo g s b x))) := hide (by rw [HQ.out, List.length_append, lvL_append]; exact hown5)
              have hl6 : Below w.heap.size w w5 := (hl3.alloc hl3.size _).trans hl5
              clear hown5 hl5
              go_roundw
              case rel => exact ⟨k + 1, by omega, by go_num, HR2, hl6⟩
              case measure => simp [intOf]; omega
      · have hng : (x.g == g) = false := by simpa using hxg
        by_cases hb : 0 ≤ b
        · have hdb : decide (0 ≤ b) = true := by simpa using hb
          by_cases hxb : x.b = b
          · have HQ := hide (keep_no (p := fun x => !wo g s b x) HXX.out (by simp [wo, hxg, hb, hxb]))
            go_wp2_with (first
              | (refine wpList_load_at rfl 83 (.tmp 27) rfl (ad.add (k * 3)) rfl (lvC x) _ HS.out Try.underlying83 rfl liv_info ?_)
              | (refine wpList_alloc_blk rfl 83 rfl _ (Try.zeroValue83 _) ?_; intro w1 hb1 hl1 hs1; clear hs1)
              | (refine wpList_store_all rfl 83 (.tmp 11) (.tmp 28) rfl wr.heap.size 83 _ hb1 rfl (lvC x) rfl liv_info rfl (lvC_one x) ?_; intro w2 hb2q hg2 hs2; clear hs2; have hb2 : Blk w2 wr.heap.size 83 (lvC x).toArray := hb2q; clear hb2q; have q0 : w2.cell? ⟨wr.heap.size, 0, none⟩ = some (.int .i64 x.g) := hb2.cell 0; have q1 : w2.cell? ⟨wr.heap.size, 1, none⟩ = some (.int .i64 x.s) := hb2.cell 1; have q2 : w2.cell? ⟨wr.heap.size, 2, none⟩ = some (.int .i64 b) := (by rw [← hxb]; exact hb2.cell 2); have hl2 : Below wr.heap.size wr w2 := hl1.grown hg2 hl1.size (fun g e => (by injection e with e; omega)); have hl3 : Below w.heap.size w w2 := hbel.trans (hl2.mono hsz)))
            have HR2 : Hid (w2.ownsRow w.heap.size 83 3 u9 ((S.L.take (k + 1)).filter fun x => !wo g s b x).length (lvL ((S.L.take (k + 1)).filter fun x => !wo g s b x))) := hide (by rw [HQ.out]; exact own_later HR.out hl2)
            go_roundw
            case rel => exact ⟨k + 1, by omega, by go_num, HR2, hl3⟩
            case measure => simp [intOf]; omega
          · have hnb : (x.b == b) = false := by simpa using hxb
            have HQ := hide (keep_yes (p := fun x => !wo g s b x) HXX.out (by simp [wo, hxg, hxb]))
            have hlk : ((S.L.take k).filter fun x => !wo g s b x).length ≤ k := Nat.le_trans (List.length_filter_le _ _) (by rw [List.length_take]; omega)
            obtain ⟨Lk, hLk⟩ : ∃ Lk, Lk = (S.L.take k).filter fun x => !wo g s b x := ⟨_, rfl⟩
            rw [← hLk] at HR HQ hlk
            have HM := hide (show Lk.length + 1 ≤ maxLen ∧ (Lk.length + 1) * 24 ≤ 140737488355328 by simp only [maxLen]; omega)
            clear hLk hlk
            go_wp2_with (first
              | (refine wpList_load_at rfl 83 (.tmp 27) rfl (ad.add (k * 3)) rfl (lvC x) _ HS.out Try.underlying83 rfl liv_info ?_)
              | (refine wpList_alloc_blk rfl 83 rfl _ (Try.zeroValue83 _) ?_; intro w1 hb1 hl1 hs1; clear hs1)
              | (refine wpList_store_all rfl 83 (.tmp 11) (.tmp 28) rfl wr.heap.size 83 _ hb1 rfl (lvC x) rfl liv_info rfl (lvC_one x) ?_; intro w2 hb2q hg2 hs2; clear hs2; have hb2 : Blk w2 wr.heap.size 83 (lvC x).toArray := hb2q; clear hb2q; have q0 : w2.cell? ⟨wr.heap.size, 0, none⟩ = some (.int .i64 x.g) := hb2.cell 0; have q1 : w2.cell? ⟨wr.heap.size, 1, none⟩ = some (.int .i64 x.s) := hb2.cell 1; have q2 : w2.cell? ⟨wr.heap.size, 2, none⟩ = some (.int .i64 x.b) := hb2.cell 2; have hl2 : Below wr.heap.size wr w2 := hl1.grown hg2 hl1.size (fun g e => (by injection e with e; omega)); have hl3 : Below w.heap.size w w2 := hbel.trans (hl2.mono hsz))
              | (refine wpList_load_blk rfl 83 (.tmp 11) rfl wr.heap.size 0 83 _ hb2 rfl (lvC x) _ (fun j v hv => (by rw [Nat.zero_add]; simpa using hv)) Try.underlying83 rfl liv_info ?_)
              | (refine wpList_build_agg _ rfl (.tmp 54) 58 rfl 83 i0 _ 3 Try.underlying58 HII.out.1 (Try.zeroValue83 _) HII.out.2.2.1 (by decide) (by decide) (lvC x).toArray rfl rfl ?_)
              | ((with_reducible refine at_slot 56 ?_); refine wpList_append_any _ rfl (.tmp 53) (.tmp 55) _ rfl w.heap.size 83 i0 _ 3 24 Try.underlying58 HII.out.1 HII.out.2.1 HII.out.2.2.1 HII.out.2.2.2 rfl (by decide) _ Lk.length _ rfl (own_later HR.out (hl2.trans (((Below.refl _ w2).alloc (Nat.le_refl _) _).mono hl2.size))) (w2.heap.size + 1) (some ⟨w2.heap.size, 0, none⟩) 1 1 (lvC x) rfl (Reads.lump _ (lvC x) _ _ 3 (by omega) rfl) (lvC_one x) HM.out.1 HM.out.2 (by rw [World.size_alloc]; have := hl3.size; omega) ?_; intro v5 w5 hown5 hl5))
            have HR2 : Hid (w5.ownsRow w.heap.size 83 3 v5 ((S.L.take (k + 1)).filter fun x => !wo g s b x).length (lvL ((S.L.take (k + 1)).filter fun x => !wo g s b x))) := hide (by rw [HQ.out, List.length_append, lvL_append]; exact hown5)
            have hl6 : Below w.heap.size w w5 := (hl3.alloc hl3.size _).trans hl5
            clear hown5 hl5
            go_roundw
            case rel => exact ⟨k + 1, by omega, by go_num, HR2, hl6⟩
            case measure => simp [intOf]; omega
        · have hdb : decide (0 ≤ b) = false := by simpa using hb
          have HQ := hide (keep_yes (p := fun x => !wo g s b x) HXX.out (by simp [wo, hxg, hb]))
          have hlk : ((S.L.take k).filter fun x => !wo g s b x).length ≤ k := Nat.le_trans (List.length_filter_le _ _) (by rw [List.length_take]; omega)
          obtain ⟨Lk, hLk⟩ : ∃ Lk, Lk = (S.L.take k).filter fun x => !wo g s b x := ⟨_, rfl⟩
          rw [← hLk] at HR HQ hlk
          have HM := hide (show Lk.length + 1 ≤ maxLen ∧ (Lk.length + 1) * 24 ≤ 140737488355328 by simp only [maxLen]; omega)
          clear hLk hlk
          go_wp2_with (first
            | (refine wpList_load_at rfl 83 (.tmp 27) rfl (ad.add (k * 3)) rfl (lvC x) _ HS.out Try.underlying83 rfl liv_info ?_)
            | (refine wpList_alloc_blk rfl 83 rfl _ (Try.zeroValue83 _) ?_; intro w1 hb1 hl1 hs1; clear hs1)
            | (refine wpList_store_all rfl 83 (.tmp 11) (.tmp 28) rfl wr.heap.size 83 _ hb1 rfl (lvC x) rfl liv_info rfl (lvC_one x) ?_; intro w2 hb2q hg2 hs2; clear hs2; have hb2 : Blk w2 wr.heap.size 83 (lvC x).toArray := hb2q; clear hb2q; have q0 : w2.cell? ⟨wr.heap.size, 0, none⟩ = some (.int .i64 x.g) := hb2.cell 0; have q1 : w2.cell? ⟨wr.heap.size, 1, none⟩ = some (.int .i64 x.s) := hb2.cell 1; have q2 : w2.cell? ⟨wr.heap.size, 2, none⟩ = some (.int .i64 x.b) := hb2.cell 2; have hl2 : Below wr.heap.size wr w2 := hl1.grown hg2 hl1.size (fun g e => (by injection e with e; omega)); have hl3 : Below w.heap.size w w2 := hbel.trans (hl2.mono hsz))
            | (refine wpList_load_blk rfl 83 (.tmp 11) rfl wr.heap.size 0 83 _ hb2 rfl (lvC x) _ (fun j v hv => (by rw [Nat.zero_add]; simpa using hv)) Try.underlying83 rfl liv_info ?_)
            | (refine wpList_build_agg _ rfl (.tmp 54) 58 rfl 83 i0 _ 3 Try.underlying58 HII.out.1 (Try.zeroValue83 _) HII.out.2.2.1 (by decide) (by decide) (lvC x).toArray rfl rfl ?_)
            | ((with_reducible refine at_slot 56 ?_); refine wpList_append_any _ rfl (.tmp 53) (.tmp 55) _ rfl w.heap.size 83 i0 _ 3 24 Try.underlying58 HII.out.1 HII.out.2.1 HII.out.2.2.1 HII.out.2.2.2 rfl (by decide) _ Lk.length _ rfl (own_later HR.out (hl2.trans (((Below.refl _ w2).alloc (Nat.le_refl _) _).mono hl2.size))) (w2.heap.size + 1) (some ⟨w2.heap.size, 0, none⟩) 1 1 (lvC x) rfl (Reads.lump _ (lvC x) _ _ 3 (by omega) rfl) (lvC_one x) HM.out.1 HM.out.2 (by rw [World.size_alloc]; have := hl3.size; omega) ?_; intro v5 w5 hown5 hl5))
          have HR2 : Hid (w5.ownsRow w.heap.size 83 3 v5 ((S.L.take (k + 1)).filter fun x => !wo g s b x).length (lvL ((S.L.take (k + 1)).filter fun x => !wo g s b x))) := hide (by rw [HQ.out, List.length_append, lvL_append]; exact hown5)
          have hl6 : Below w.heap.size w w5 := (hl3.alloc hl3.size _).trans hl5
          clear hown5 hl5
          go_roundw
          case rel => exact ⟨k + 1, by omega, by go_num, HR2, hl6⟩
          case measure => simp [intOf]; omega
    · obtain rfl : k = n := by omega
      have HRR := HR.out
      rw [List.take_of_length_le (by rw [HN.out]; omega)] at HRR
      have HR2 := hide HRR
      clear HRR
      go_wp2
      go_ret
      exact ⟨_, rfl, HR2.out, hbel⟩
set_option maxRecDepth 100000 in
theorem rhole_any (h : RefRd w r AG cG AL cL S) (hok : S.Ok) (hg : S.G.length < 1000000) (hf : S.L.length < 1000000) (g : Int) :
    Calls Try.prog 36 #[.pointer (some ⟨r, 0, none⟩), .int .i64 g] w fun e w' => e = .returned (.tuple #[.int .i64 (((S.hole g).getD 0 : Nat) : Int), .bool (S.hole g).isSome]) ∧ w = w' := by
  have hle := Us.slots_le hok g
  obtain ⟨n, hn⟩ : ∃ n : Nat, (n : Int) = S.slots g := ⟨(S.slots g).toNat, by omega⟩
  have hn2 : (S.slots g).toNat = n := by omega
  have HS := hide (rslots_any h hok hg g)
  rw [← hn] at HS
  have HB := hide (fun (s : Int) => rblock_any h hok hf g s)
  have HN := hide hn2
  have hn4 : n ≤ 4096 := by omega
  clear h hok hle hn hn2 hg hf
  go_enter Try.func36, Try.ntmps36
  go_wp2
  go_loopw [6, 7, 8] (fun i _ _ wr => ∃ j : Nat, j ≤ n ∧ i = .int .i64 j ∧ Hid (w = wr) ∧ Hid (∀ l, l < j → S.live g l = true)) (fun i _ _ _ => n - (intOf i).toNat)
  case atStart => exact ⟨0, Nat.zero_le _, rfl, (by first | exact hide rfl | exact hide trivial), hide (fun l hl => by omega)⟩
  case round =>
    obtain ⟨j, hj, rfl, HW, HA⟩ := hrel
    obtain rfl := HW.out
    clear HW
    by_cases hjn : j < n
    · have HC := hide (HB.out (j : Int))
      cases hl : S.at_ g (j : Int) with
      | some b =>
        have hlv : S.live g j = true := by unfold Us.live; rw [hl]; rfl
        have HA2 : Hid (∀ l, l < j + 1 → S.live g l = true) := hide (fun l hl => by
          rcases Nat.lt_succ_iff_lt_or_eq.1 hl with h | rfl
          · exact HA.out l h
          · exact hlv)
        rw [hl] at HC
        clear hl hlv
        go_wp2_with (first
          | (go_at_call 39; refine HS.out.mono ?_; rintro _ _ ⟨rfl, rfl⟩)
          | (go_at_call 41; refine HC.out.mono ?_; rintro _ _ ⟨rfl, rfl⟩))
        go_roundw
        case rel => exact ⟨j + 1, by omega, by go_num, (by first | exact hide rfl | exact hide trivial), HA2⟩
        case measure => simp [intOf]; omega
      | none =>
        have hlv : S.live g j = false := by unfold Us.live; rw [hl]; rfl
        have HF := hide (hole_found HA.out hlv (by rw [HN.out]; exact hjn))
        rw [hl] at HC
        clear hl hlv
        go_wp2_with (first
          | (go_at_call 39; refine HS.out.mono ?_; rintro _ _ ⟨rfl, rfl⟩)
          | (go_at_call 41; refine HC.out.mono ?_; rintro _ _ ⟨rfl, rfl⟩))
        go_ret2
        exact ⟨by rw [HF.out]; rfl, rfl⟩
    · obtain rfl : j = n := by omega
      have HF := hide (hole_none (S := S) (g := g) (by rw [HN.out]; exact HA.out))
      go_wp2_with (first
        | (go_at_call 39; refine HS.out.mono ?_; rintro _ _ ⟨rfl, rfl⟩))
      go_ret2
      exact ⟨by rw [HF.out]; rfl, rfl⟩
set_option maxRecDepth 100000 in
theorem rblocks_any (h : RefRd w r AG cG AL cL S) (hok : S.Ok) (hgl : S.G.length < 1000000) (hf : S.L.length < 1000000) (g : Int) :
    Calls Try.prog 38 #[.pointer (some ⟨r, 0, none⟩), .int .i64 g] w fun e w' => ∃ v, e = .returned v ∧ w'.ownsRow w.heap.size 3 1 v (S.blocks g).length (I64 (S.blocks g)) ∧ Below w.heap.size w w' := by
  obtain ⟨i0, hi0, hz0, hz1i, hz2i⟩ := info_parts usg_int_parts
  have hle := Us.slots_le hok g
  obtain ⟨n, hn⟩ : ∃ n : Nat, (n : Int) = S.slots g := ⟨(S.slots g).toNat, by omega⟩
  have hn2 : (S.slots g).toNat = n := by omega
  have HS := hide (fun (w' : World) (hb : Below w.heap.size w w') => rslots_any (h.later hb) hok hgl g)
  rw [← hn] at HS
  have HB := hide (fun (w' : World) (hb : Below w.heap.size w w') (s : Int) => rblock_any (h.later hb) hok hf g s)
  have hall := blocksTo_all (S := S) g
  rw [hn2] at hall
  rw [← hall]
  have hn4 : n ≤ 4096 := by omega
  clear h hok hle hn hn2 hall hgl hf
  go_enter Try.func38, Try.ntmps38
  go_wp2
  have hba : Below w.heap.size w (w.alloc (.cells #[] 3)) := (Below.refl _ w).alloc (Nat.le_refl _) _
  go_loopw [5, 6, 7, 8] (fun v i _ _ wr => ∃ j : Nat, j ≤ n ∧ i = .int .i64 j ∧ Hid (wr.ownsRow w.heap.size 3 1 v (blocksTo S g j).length (I64 (blocksTo S g j))) ∧ Below w.heap.size w wr) (fun _ i _ _ _ => n - (intOf i).toNat)
  case atStart => exact ⟨0, Nat.zero_le _, rfl, hide (by rw [blocksTo_zero]; exact World.ownsRow_made w #[] 0 (Nat.le_refl _) (Nat.zero_le _) rfl), hba⟩
  case round =>
    obtain ⟨j, hj, rfl, HR, hbel⟩ := hrel
    have hsz := hbel.size
    have HSr := hide (HS.out wr hbel)
    by_cases hjn : j < n
    · have HC := hide (HB.out wr hbel (j : Int))
      cases hl : S.at_ g (j : Int) with
      | some b =>
        have HQ := hide (show blocksTo S g (j + 1) = blocksTo S g j ++ [b] by rw [blocksTo_succ, hl]; rfl)
        have hln := blocksTo_len (S := S) g j
        obtain ⟨L, hL⟩ : ∃ L, L = blocksTo S g j := ⟨_, rfl⟩
        rw [← hL] at HR HQ hln
        have HM := hide (show L.length + 1 ≤ maxLen ∧ (L.length + 1) * 8 ≤ 140737488355328 by simp only [maxLen]; omega)
        rw [hl] at HC
        clear hl hL
        go_wp2_with (first
          | (go_at_call 39; refine HSr.out.mono ?_; rintro _ _ ⟨rfl, rfl⟩)
          | (go_at_call 41; refine HC.out.mono ?_; rintro _ _ ⟨rfl, rfl⟩)
          | ((with_reducible refine at_slot 28 ?_); refine wpList_append_any _ rfl (.tmp 25) (.tmp 27) _ rfl w.heap.size 3 i0 _ 1 8 Try.underlying32 hi0 hz0 hz1i hz2i rfl (by decide) _ L.length _ rfl (own_later HR.out ((Below.refl _ wr).alloc (Nat.le_refl _) _)) (wr.heap.size + 1) (some ⟨wr.heap.size, 0, none⟩) 1 1 [.int .i64 b] rfl (Reads.one _ _ _ _ (by omega)) (by intro x hx; simp at hx; subst hx; rfl) HM.out.1 HM.out.2 (by rw [World.size_alloc]; omega) ?_; intro v2 w2 hown2 hl2))
        have HR2 : Hid (w2.ownsRow w.heap.size 3 1 v2 (blocksTo S g (j + 1)).length (I64 (blocksTo S g (j + 1)))) := hide (by rw [HQ.out, List.length_append, I64_append]; exact hown2)
        have hl3 : Below w.heap.size w w2 := (hbel.alloc hsz _).trans hl2
        clear hown2 hl2
        go_roundw
        case rel => exact ⟨j + 1, by omega, by go_num, HR2, hl3⟩
        case measure => simp [intOf]; omega
      | none =>
        have HR2 : Hid (wr.ownsRow w.heap.size 3 1 u5 (blocksTo S g (j + 1)).length (I64 (blocksTo S g (j + 1)))) := hide (by rw [show blocksTo S g (j + 1) = blocksTo S g j by rw [blocksTo_succ, hl]; simp]; exact HR.out)
        rw [hl] at HC
        clear hl
        go_wp2_with (first
          | (go_at_call 39; refine HSr.out.mono ?_; rintro _ _ ⟨rfl, rfl⟩)
          | (go_at_call 41; refine HC.out.mono ?_; rintro _ _ ⟨rfl, rfl⟩))
        go_roundw
        case rel => exact ⟨j + 1, by omega, by go_num, HR2, hbel⟩
        case measure => simp [intOf]; omega
    · obtain rfl : j = n := by omega
      go_wp2_with (first
        | (go_at_call 39; refine HSr.out.mono ?_; rintro _ _ ⟨rfl, rfl⟩))
      go_ret
      exact ⟨_, rfl, HR.out, hbel⟩
end
#print axioms rblocks_any
end Go.Proofs.Ytgoglgghnjgcdaa
