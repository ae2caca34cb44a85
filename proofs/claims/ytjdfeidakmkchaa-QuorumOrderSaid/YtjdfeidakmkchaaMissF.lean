/- Who is missing: missingOf. -/
import Derived.Test.YtjdfeidakmkchaaFinds
import Derived.Test.YtjdfeidakmkchaaRightsF
namespace Go.Proofs.Ytjdfeidakmkchaa
open Go.RowKit

theorem int_parts : (Try.prog.info? 3).map (fun i => (i.zero, i.size, i.bytes)) = some (some (.int .i64 0), 1, 8) := by kernel_rfl
theorem own_base {w : World} {b b' : Nat} {e : TypeId} {size : Nat} {v : Value} {n : Nat} {xs : List Value} (h : w.ownsRow b e size v n xs) (hb : b' ≤ b) : w.ownsRow b' e size v n xs := by
  rcases h with ⟨h1, h2 | ⟨g, cap, cur, hv, hg, hrest⟩⟩
  · exact ⟨h1, .inl h2⟩
  · exact ⟨h1, .inr ⟨g, cap, cur, hv, Nat.le_trans hb hg, hrest⟩⟩
theorem miss_live {R : List LabV} {l : Lab} {m : Mb} (h : (m.2.2 == 0) = true) : missB (R.map (fun x => x.1)) l m = !R.any (fun y => ofItB l m.1 y.1) := by
  have h2 : m.2.2 = 0 := by simpa using h
  rw [missB, h2, List.any_map]
  rfl
theorem miss_dead {R : List LabV} {l : Lab} {m : Mb} (h : (m.2.2 == 0) = false) : missB (R.map (fun x => x.1)) l m = false := by
  have h2 : ¬ m.2.2 = 0 := by simpa using h
  rw [missB, decide_eq_false h2]
  rfl
set_option maxRecDepth 100000 in
set_option maxHeartbeats 4000000 in
theorem missingOf_any (l : Lab) (A : Option Addr) (n c : Nat) (C : Option Addr) (m d : Nat) (R : List LabV) (B0 : Nat) (w : World) (hm : MbIn w B0 A n c l.members) (hr : LbIn w B0 C m d R) (hB0 : B0 ≤ w.heap.size) (h1000 : n ≤ 1000) :
    Calls Try.prog 30 #[.agg (labC l A n c).toArray, .slice C m d] w (Made w.heap.size 3 1 (I64 (missL (R.map (fun x => x.1)) l)) w) := by
  obtain ⟨i0, hi0, hz0, hz1i, hz2i⟩ := info_parts int_parts
  have hmf : ∀ (fn : Fn) (first cap : Array Value) (w : World), (Instr.makeFunc fn first cap).run Try.prog w = .ok (.func fn first cap) w := fun _ _ _ _ => rfl
  have hn := hm.2
  have HL := hide hm.len
  obtain ⟨p, hp⟩ : ∃ p, p = missB (R.map (fun x => x.1)) l := ⟨_, rfl⟩
  have hlive : ∀ mb : Mb, (mb.2.2 == 0) = true → p mb = !R.any (fun y => ofItB l mb.1 y.1) := by rw [hp]; exact fun mb h => miss_live h
  have hdead : ∀ mb : Mb, (mb.2.2 == 0) = false → p mb = false := by rw [hp]; exact fun mb h => miss_dead h
  have HLive := hide hlive
  have HDead := hide hdead
  have hall : missL (R.map (fun x => x.1)) l = (l.members.filter p).map (fun x => x.1) := by rw [hp]; rfl
  rw [hall]
  clear hlive hdead hall hp
  go_enter Try.func30, Try.ntmps30
  go_wp2_with (refine wpList_box_blk rfl 24 (.tmp 0) rfl (.agg (labC l A n c).toArray) rfl ?_; intro w1 hb1q hl1 hs1; clear hs1; have hb1 : Blk w1 w.heap.size 24 (labC l A n c).toArray := hb1q; clear hb1q; have x4 := lab_c4 hb1)
  have hz1 := hb1.lt
  have HB1 := hide hb1
  have HL1 := hide hl1
  clear x4 hb1 hl1
  go_loopw [5, 12] (fun s5 i wr => ∃ (k q : Nat), k ≤ n ∧ i = .int .i64 k ∧ Hid (wr.ownsRow w1.heap.size 3 1 s5 q (I64 (((l.members.take k).filter p).map (fun x => x.1)))) ∧ q ≤ k ∧ Hid (Blk wr w.heap.size 24 (labC l A n c).toArray) ∧ w1.heap.size ≤ wr.heap.size ∧ Below w.heap.size w wr) (fun _ i _ => n - (intOf i).toNat)
  case atStart => exact ⟨0, 0, Nat.zero_le _, rfl, hide (World.ownsRow_nil _ _ _ _), Nat.le_refl _, HB1, Nat.le_refl _, HL1.out⟩
  case round =>
    obtain ⟨k, q, hk, rfl, HO, hqk, HB, hw1, hbel⟩ := hrel
    by_cases hkn : k < n
    · obtain ⟨ad, mb, rfl, hab, hx, hcs⟩ := (hm.below (hbel.mono hB0)).at_ hkn
      have HS := hide hcs
      have HX := hide hx
      have hzr := hbel.size
      have hgl := HB.out.lt
      have HRr := hide ((hr.below (hbel.mono hB0)).more (Nat.le_trans hB0 hzr))
      clear hcs hx
      have hA : q + 1 ≤ maxLen := by simp only [maxLen]; omega
      have hB : (q + 1) * 8 ≤ 140737488355328 := by omega
      cases h0 : (mb.2.2 == 0) with
      | false =>
        have HF := hide (filter_less HX.out (HDead.out mb h0))
        go_wp2_with (first
          | (refine wpList_load_at rfl 28 (.tmp 14) rfl (ad.add (k * 3)) rfl (mbC mb) _ HS.out Try.underlying28 rfl mb_info ?_)
          | (refine wpList_alloc_blk rfl 28 rfl _ (mb_zero _) ?_; intro w2 hb2 hl2 hs2; clear hs2)
          | (refine wpList_store_all rfl 28 (.tmp 7) (.tmp 15) rfl wr.heap.size 28 _ hb2 rfl (mbC mb) rfl mb_info rfl (mbC_one _) ?_; intro w3 hb3 hg3 hs3; clear hs3; have x2 : w3.cell? ⟨wr.heap.size, 2, none⟩ = some (.int .i64 mb.2.2) := hb3.cell 2))
        have hl3 : Below wr.heap.size wr w3 := hl2.grown hg3 hl2.size (fun g e => by injection e with e; omega)
        have HB3 := hide (HB.out.below hl3 hgl)
        have HO3 : Hid (w3.ownsRow w1.heap.size 3 1 u5 q (I64 (((l.members.take (k + 1)).filter p).map (fun x => x.1)))) := hide (by rw [HF.out]; exact own_later HO.out hl3)
        have hl5 := hbel.trans (hl3.mono hzr)
        clear x2 hb3 hg3 hb2 hl2
        go_roundw
        case rel => exact ⟨k + 1, q, by omega, by go_num, HO3, by omega, HB3, by have := hl3.size; omega, hl5⟩
        case measure => simp [intOf]; omega
      | true =>
        cases hany : R.any (fun y => ofItB l mb.1 y.1) with
        | true =>
          have HF := hide (filter_less (p := p) HX.out (by rw [HLive.out mb h0, hany]; rfl))
          have HAny := hide hany
          clear hany
          go_wp2_with (first
            | (refine wpList_load_at rfl 28 (.tmp 14) rfl (ad.add (k * 3)) rfl (mbC mb) _ HS.out Try.underlying28 rfl mb_info ?_)
            | (refine wpList_alloc_blk rfl 28 rfl _ (mb_zero _) ?_; intro w2 hb2 hl2 hs2; clear hs2)
            | (refine wpList_store_all rfl 28 (.tmp 7) (.tmp 15) rfl wr.heap.size 28 _ hb2 rfl (mbC mb) rfl mb_info rfl (mbC_one _) ?_; intro w3 hb3 hg3 hs3; clear hs3; have x0 : w3.cell? ⟨wr.heap.size, 0, none⟩ = some (.int .i64 mb.1) := hb3.cell 0; have x2 : w3.cell? ⟨wr.heap.size, 2, none⟩ = some (.int .i64 mb.2.2) := hb3.cell 2; have hl3 : Below wr.heap.size wr w3 := hl2.grown hg3 hl2.size (fun g e => by injection e with e; omega); have HB3 := hide (HB.out.below hl3 hgl); have hz3 := hl3.size; have hlt3 := hb3.lt)
            | (go_at_call 29; refine (contains_ofIt C m d R l mb.1 w.heap.size wr.heap.size wr.heap.size w3 (HRr.out.below hl3) (by omega) (by omega) hlt3 (lab_c0 HB3.out) x0).mono ?_; rw [HAny.out]; rintro _ w4 ⟨rfl, hl4⟩))
          have hl4' := hl3.trans (hl4.mono hl3.size)
          have HB4 := hide (HB3.out.below hl4 (by omega))
          have HO3 : Hid (w4.ownsRow w1.heap.size 3 1 u5 q (I64 (((l.members.take (k + 1)).filter p).map (fun x => x.1)))) := hide (by rw [HF.out]; exact own_later HO.out hl4')
          have hl5 := hbel.trans (hl4'.mono hzr)
          have hw4 : w1.heap.size ≤ w4.heap.size := by have := hl4'.size; omega
          clear x0 x2 hb3 hg3 hb2 hl2 hl3 hl4 hl4' hz3 hlt3
          go_roundw
          case rel => exact ⟨k + 1, q, by omega, by go_num, HO3, by omega, HB4, hw4, hl5⟩
          case measure => simp [intOf]; omega
        | false =>
          have HF := hide (filter_more (p := p) HX.out (by rw [HLive.out mb h0, hany]; rfl))
          have HAny := hide hany
          clear hany
          go_wp2_with (first
            | (refine wpList_load_at rfl 28 (.tmp 14) rfl (ad.add (k * 3)) rfl (mbC mb) _ HS.out Try.underlying28 rfl mb_info ?_)
            | (refine wpList_alloc_blk rfl 28 rfl _ (mb_zero _) ?_; intro w2 hb2 hl2 hs2; clear hs2)
            | (refine wpList_store_all rfl 28 (.tmp 7) (.tmp 15) rfl wr.heap.size 28 _ hb2 rfl (mbC mb) rfl mb_info rfl (mbC_one _) ?_; intro w3 hb3 hg3 hs3; clear hs3; have x0 : w3.cell? ⟨wr.heap.size, 0, none⟩ = some (.int .i64 mb.1) := hb3.cell 0; have x2 : w3.cell? ⟨wr.heap.size, 2, none⟩ = some (.int .i64 mb.2.2) := hb3.cell 2; have hl3 : Below wr.heap.size wr w3 := hl2.grown hg3 hl2.size (fun g e => by injection e with e; omega); have HB3 := hide (HB.out.below hl3 hgl); have hz3 := hl3.size; have hlt3 := hb3.lt)
            | (go_at_call 29; refine (contains_ofIt C m d R l mb.1 w.heap.size wr.heap.size wr.heap.size w3 (HRr.out.below hl3) (by omega) (by omega) hlt3 (lab_c0 HB3.out) x0).mono ?_; rw [HAny.out]; rintro _ w4 ⟨rfl, hl4⟩; have hl4' := hl3.trans (hl4.mono hl3.size); have HB4 := hide (HB3.out.below hl4 (by omega)); have HO4 := hide (own_later HO.out hl4'); have y0 := (hl4.cell (p := ⟨wr.heap.size, 0, none⟩) hlt3).trans x0; have hz4 := hl4'.size)
            | (at_builtin; refine wpList_append_any _ rfl (.tmp 26) (.tmp 29) _ rfl w1.heap.size 3 i0 _ 1 8 Try.underlying35 hi0 hz0 hz1i hz2i rfl (by omega) _ q _ rfl (HO4.out.alloc _) (w4.heap.size + 1) (some ⟨w4.heap.size, 0, none⟩) 1 1 [.int .i64 mb.1] rfl (Reads.one _ _ _ _ (by omega)) (one_i64 _) hA hB (le_alloc (by omega) _) ?_; intro v5 w5 hown5 hbel5))
          have hl5 : Below w.heap.size w w5 := ((hbel.trans (hl4'.mono hzr)).alloc (by omega) _).trans (hbel5.mono (by omega))
          have HB5 := hide ((HB4.out.alloc _).below hbel5 hz1)
          have hw5 : w1.heap.size ≤ w5.heap.size := by have := hbel5.size; rw [World.size_alloc] at this; omega
          have HO5 : Hid (w5.ownsRow w1.heap.size 3 1 v5 (q + 1) (I64 (((l.members.take (k + 1)).filter p).map (fun x => x.1)))) := hide (by rw [HF.out, List.map_append, I64_append]; exact hown5)
          clear x0 x2 y0 hb3 hg3 hb2 hl2 hl3 hl4 hl4' hz3 hlt3 hown5 hbel5 hz4
          go_roundw
          case rel => exact ⟨k + 1, q + 1, by omega, by go_num, HO5, by omega, HB5, hw5, hl5⟩
          case measure => simp [intOf]; omega
    · obtain rfl : k = n := by omega
      have hO := HO.out
      rw [List.take_of_length_le (by rw [HL.out]; exact Nat.le_refl _)] at hO
      have HFin := hide (made_of (own_base hO (by omega)) hbel)
      clear hO
      go_wp2
      go_ret
      exact HFin.out
#print axioms missingOf_any
end Go.Proofs.Ytjdfeidakmkchaa
