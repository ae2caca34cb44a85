/- Those labels that are right, in a list of their own: rightOnes. -/
import Derived.Test.YtjdfeidakmkchaaLbs
import Derived.Test.YtjdfeidakmkchaaStill
namespace Go.Proofs.Ytjdfeidakmkchaa
open Go.RowKit

theorem filter_more {α : Type} {p : α → Bool} {L : List α} {k : Nat} {x : α} (hx : L[k]? = some x) (hp : p x = true) : (L.take (k + 1)).filter p = (L.take k).filter p ++ [x] := by
  rw [take_more hx, List.filter_append]
  simp [hp]
theorem filter_less {α : Type} {p : α → Bool} {L : List α} {k : Nat} {x : α} (hx : L[k]? = some x) (hp : p x = false) : (L.take (k + 1)).filter p = (L.take k).filter p := by
  rw [take_more hx, List.filter_append]
  simp [hp]
theorem own_count {w : World} {base : Nat} {e : TypeId} {v : Value} {m : Nat} {L : List LabV} (h : w.ownsRow base e 5 v m (lvL L)) : m = L.length := by
  have := h.1
  rw [lvL_length] at this
  omega
set_option maxRecDepth 100000 in
set_option maxHeartbeats 2000000 in
theorem rightOnes_any (A : Option Addr) (n c : Nat) (L : List LabV) (B0 : Nat) (w : World) (hr : LbIn w B0 A n c L) (hB0 : B0 ≤ w.heap.size) (h1000 : n ≤ 1000) :
    Calls Try.prog 23 #[.slice A n c] w fun e w' => (∃ A' n' c', e = .returned (.slice A' n' c') ∧ LbIn w' w'.heap.size A' n' c' (L.filter (fun x => rightB x.1))) ∧ Below w.heap.size w w' := by
  obtain ⟨i0, hi0, hz0, hz1i, hz2i⟩ := info_parts lab_parts
  have hn := hr.le
  have hn2 := hr.cap
  have HL := hide hr.len
  have HMem := hide hr.mem
  go_enter Try.func23, Try.ntmps23
  go_wp2
  go_loopw [3, 8] (fun s3 i wr => ∃ (k m : Nat), k ≤ n ∧ i = .int .i64 k ∧ Hid (wr.ownsRow w.heap.size 24 5 s3 m (lvL ((L.take k).filter (fun x => rightB x.1)))) ∧ m ≤ k ∧ Below w.heap.size w wr) (fun _ i _ => n - (intOf i).toNat)
  case atStart => exact ⟨0, 0, Nat.zero_le _, rfl, hide (World.ownsRow_nil _ _ _ _), Nat.le_refl _, Below.refl _ _⟩
  case round =>
    obtain ⟨k, m, hk, rfl, HO, hmk, hbel⟩ := hrel
    by_cases hkn : k < n
    · obtain ⟨ad, x, rfl, hab, hx, hlv, hcs⟩ := (hr.below (hbel.mono hB0)).at_ hkn
      have HS := hide hcs
      have HX := hide hx
      have HLV := hide hlv
      have hzr := hbel.size
      have HR := hide (fun (w1 : World) (hl : Below wr.heap.size wr w1) => right_any x.1 x.2.1 x.2.2.1 x.2.2.2 B0 w1 (hlv.below (hl.mono (by omega))) (by have := hl.size; omega))
      clear hcs hx hlv
      have hA : m + 1 ≤ maxLen := by simp only [maxLen]; omega
      have hB : (m + 1) * 56 ≤ 140737488355328 := by omega
      cases hq : rightB x.1 with
      | true =>
        rw [hq] at HR
        have HF := hide (filter_more (p := fun x : LabV => rightB x.1) HX.out hq)
        clear hq
        go_wp2_with (first
          | (refine wpList_load_at rfl 24 (.tmp 10) rfl (ad.add (k * 5)) rfl (lvC x) _ HS.out Try.underlying24 rfl lab_info ?_)
          | (refine wpList_alloc_blk rfl 24 rfl _ (lab_zero _) ?_; intro w2 hb2 hl2 hs2; clear hs2)
          | (refine wpList_store_all rfl 24 (.tmp 5) (.tmp 11) rfl wr.heap.size 24 _ hb2 rfl (lvC x) rfl lab_info rfl (lvC_cell _) ?_; intro w3 hb3 hg3 hs3; clear hs3)
          | (refine wpList_load_blk (o := ⟨some 12, _, _, _, _, _⟩) rfl 24 (.tmp 5) rfl wr.heap.size 0 24 _ hb3 rfl (lvC x) _ (fun j v hj => by rw [Nat.zero_add]; simpa using hj) Try.underlying24 rfl lab_info ?_))
        have hl3 : Below wr.heap.size wr w3 := hl2.grown hg3 hl2.size (fun g e => by injection e with e; omega)
        have hz3 := hl3.size
        have HB3 := hide hb3
        clear hb2 hl2 hb3 hg3
        refine (HR.out w3 hl3).mono ?_
        rintro _ w4 ⟨rfl, hl4⟩
        have hl04 := hl3.trans (hl4.mono hl3.size)
        have hz4 := hl04.size
        have HB4 := hide (HB3.out.below hl4 HB3.out.lt)
        have hC : w.heap.size ≤ w4.heap.size := by omega
        have HO4 := hide (own_later HO.out hl04)
        go_wp2_with (first
          | (refine wpList_load_blk (o := ⟨some 15, _, _, _, _, _⟩) rfl 24 (.tmp 5) rfl wr.heap.size 0 24 _ HB4.out rfl (lvC x) _ (fun j v hj => by rw [Nat.zero_add]; simpa using hj) Try.underlying24 rfl lab_info ?_)
          | (refine wpList_build_agg _ rfl (.tmp 15) 33 rfl 24 i0 _ 5 Try.underlying33 hi0 (lab_zero _) hz1i (by omega) (by omega) (lvC x).toArray rfl rfl ?_)
          | (at_builtin; refine wpList_append_any _ rfl (.tmp 14) (.tmp 16) _ rfl w.heap.size 24 i0 _ 5 56 Try.underlying33 hi0 hz0 hz1i hz2i rfl (by omega) _ m _ rfl (HO4.out.alloc _) (w4.heap.size + 1) (some ⟨w4.heap.size, 0, none⟩) 1 1 (lvC x) rfl (Reads.lump w4 (lvC x) 24 (w4.heap.size + 1) 5 (by omega) rfl) (lvC_cell x) hA hB (le_alloc hC _) ?_; intro v5 w5 hown5 hbel5))
        have hl5 : Below w.heap.size w w5 := ((hbel.trans (hl04.mono hbel.size)).alloc hC _).trans hbel5
        have HO5 : Hid (w5.ownsRow w.heap.size 24 5 v5 (m + 1) (lvL ((L.take (k + 1)).filter (fun x => rightB x.1)))) := hide (by rw [HF.out, lvL_append, lvL_one]; exact hown5)
        clear hown5
        go_roundw
        case rel => exact ⟨k + 1, m + 1, by omega, by go_num, HO5, by omega, hl5⟩
        case measure => simp [intOf]; omega
      | false =>
        rw [hq] at HR
        have HF := hide (filter_less (p := fun x : LabV => rightB x.1) HX.out hq)
        clear hq
        go_wp2_with (first
          | (refine wpList_load_at rfl 24 (.tmp 10) rfl (ad.add (k * 5)) rfl (lvC x) _ HS.out Try.underlying24 rfl lab_info ?_)
          | (refine wpList_alloc_blk rfl 24 rfl _ (lab_zero _) ?_; intro w2 hb2 hl2 hs2; clear hs2)
          | (refine wpList_store_all rfl 24 (.tmp 5) (.tmp 11) rfl wr.heap.size 24 _ hb2 rfl (lvC x) rfl lab_info rfl (lvC_cell _) ?_; intro w3 hb3 hg3 hs3; clear hs3)
          | (refine wpList_load_blk (o := ⟨some 12, _, _, _, _, _⟩) rfl 24 (.tmp 5) rfl wr.heap.size 0 24 _ hb3 rfl (lvC x) _ (fun j v hj => by rw [Nat.zero_add]; simpa using hj) Try.underlying24 rfl lab_info ?_))
        have hl3 : Below wr.heap.size wr w3 := hl2.grown hg3 hl2.size (fun g e => by injection e with e; omega)
        have hz3 := hl3.size
        clear hb2 hl2 hb3 hg3
        refine (HR.out w3 hl3).mono ?_
        rintro _ w4 ⟨rfl, hl4⟩
        have hl04 := hl3.trans (hl4.mono hl3.size)
        have HO4 : Hid (w4.ownsRow w.heap.size 24 5 u3 m (lvL ((L.take (k + 1)).filter (fun x => rightB x.1)))) := hide (by rw [HF.out]; exact own_later HO.out hl04)
        have hl5 := hbel.trans (hl04.mono hbel.size)
        go_wp2
        go_roundw
        case rel => exact ⟨k + 1, m, by omega, by go_num, HO4, by omega, hl5⟩
        case measure => simp [intOf]; omega
    · obtain rfl : k = n := by omega
      have hO := HO.out
      rw [List.take_of_length_le (by rw [HL.out]; exact Nat.le_refl _)] at hO
      obtain ⟨A', c', rfl, h1, h2⟩ := own_shape hO
      have hfin : LbIn wr wr.heap.size A' m c' (L.filter (fun x => rightB x.1)) := LbIn.of_own hO h1 h2 (fun x hx => ((HMem.out x (List.mem_filter.1 hx).1).below (hbel.mono hB0)).more (by have := hbel.size; omega))
      have HFin := hide hfin
      clear hO hfin
      go_wp2
      go_ret
      exact ⟨⟨_, _, _, rfl, HFin.out⟩, hbel⟩
#print axioms rightOnes_any
end Go.Proofs.Ytjdfeidakmkchaa
