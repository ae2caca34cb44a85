/- The first two sectors of three members, those of the first place first. -/
import Derived.Test.YtbbfgcekjelmkaaBankG
namespace Go.Proofs.Ytbbfgcekjelmkaa
open Go.RowKit
set_option linter.unusedVariables false
theorem rowS_snoc (f : Nat → Sec) (i : Nat) : rowS f i ++ secL (f i) = rowS f (i + 1) := rfl
section
variable {w : World} {b : Nat} {F : Nat → Prop} {S : Bank}
set_option maxRecDepth 100000 in
set_option maxHeartbeats 2000000 in
theorem lawSectors_any (h : BankOn w b F S) (hq : Quiet 200 S) :
    Calls Try.prog 34 #[.pointer (some ⟨b, 0, none⟩)] w fun e w' => (∃ g c, e = .returned (.slice (some ⟨g, 0, none⟩) 6 c) ∧ w.heap.size ≤ g ∧ ∃ cs : Array Value, Blk w' g 26 cs ∧ ∀ i, i < 6 → ∀ (j : Nat) (v : Value), (secL (S.newest (i % 3) (i / 3)))[j]? = some v → cs[i * 64 + j]? = some v) ∧ Below w.heap.size w w' := by
  obtain ⟨i1, hi1, hz1, hs1, hy1⟩ := rsec_info
  have HI := hide (And.intro hi1 (And.intro hz1 (And.intro hs1 hy1)))
  obtain ⟨T, hT⟩ : ∃ T : Nat → Sec, T = fun i => S.newest (i % 3) (i / 3) := ⟨_, rfl⟩
  have HR := hide (fun i (hi : i < 6) w1 (h1 : BankOn w1 b F S) => (show Calls Try.prog 57 #[.pointer (some ⟨b, 0, none⟩), .agg #[.int .i64 ((i % 3 : Nat) : Int), .int .i64 ((i / 3 : Nat) : Int)]] w1 fun e w' => e = .returned (.tuple #[secV (T i), .int .i64 0]) ∧ Below w1.heap.size w1 w' from by
    have h2 := on_read h1 (i % 3) (i / 3)
    rw [hq.read (by omega) (by omega)] at h2
    rw [hT]
    exact h2))
  have HT := hide hT
  have HB := hide h
  clear h hq hi1 hz1 hs1 hy1 hT
  go_enter Try.func34, Try.ntmps34
  go_wp2_with fail
  go_loopw [3, 4, 5, 6] (fun s3 s4 _ _ wr => ∃ (i : Nat) (A : Option Addr) (c : Nat), s4 = .int .i64 (i : Int) ∧ i ≤ 6 ∧ s3 = .slice A i c ∧ Hid (wr.ownsRow w.heap.size 26 64 (.slice A i c) i (rowS T i)) ∧ Hid (Below w.heap.size w wr)) (fun _ s4 _ _ _ => 6 - (intOf s4).toNat)
  case atStart => exact ⟨0, none, 0, rfl, by decide, rfl, World.ownsRow_nil _ _ _ _, Below.refl _ _⟩
  case round =>
    obtain ⟨i, A, c, rfl, hi6, rfl, hrow, hl⟩ := hrel
    obtain ⟨wo, rfl⟩ : ∃ wo, wo = wr := ⟨_, rfl⟩
    have hsz := hl.out.size
    by_cases hi : i < 6
    · have hg1 : (i : Int) < 6 := by omega
      have hR := HR.out i hi wo (HB.out.later hl.out)
      rw [show (((i % 3 : Nat)) : Int) = (i : Int) % 3 by omega, show (((i / 3 : Nat)) : Int) = (i : Int) / 3 by omega] at hR
      obtain ⟨U, hU⟩ : ∃ U, U = secL (T i) := ⟨_, rfl⟩
      have hUl : U.length = 64 := by rw [hU, secL_length]
      have hUo : ∀ v ∈ U, v.oneCell' = true := by rw [hU]; exact secL_one _
      have hiU : (Try.prog.info? 26).map (·.size) = some U.length := by rw [hUl]; exact sec_info
      rw [show secV (T i) = .agg U.toArray by rw [hU]; rfl] at hR
      have HRd := hide hR
      have HIU := hide hiU
      have HUO := hide hUo
      have HUl := hide hUl
      have HU := hide hU
      have HQ := hide (show i + 1 ≤ maxLen ∧ (i + 1) * 64 ≤ 140737488355328 from ⟨by simp only [maxLen]; omega, by omega⟩)
      clear hR hUl hUo hiU hU
      go_wp2_with fail
      refine HRd.out.mono ?_
      rintro _ w1 ⟨rfl, hl1⟩
      have HL1 := hide (hl.out.trans (hl1.mono hsz))
      have HROW1 := hide (own_later hrow.out hl1)
      clear hl1
      go_wp2_with (first
        | (refine wpList_alloc_blk rfl 26 rfl _ (sec_zero w1) ?_; intro w2 hb2 hl2 hs2; clear hs2)
        | (refine wpList_store_all rfl 26 (.tmp 5) (.tmp 19) rfl w1.heap.size 26 _ hb2 rfl U rfl HIU.out (HUl.out.trans (secL_length zeroSec).symm) HUO.out ?_; intro w3 hb3 hg3 hs3; clear hs3; have hl13 : Below w1.heap.size w1 w3 := hl2.grown hg3 (by have := hl2.size; omega) (fun g e => by injection e with e; omega); have HROW3 := hide (own_later HROW1.out hl13); have HL3 := hide (HL1.out.trans (hl13.mono HL1.out.size)); have hsz3 := HL3.out.size; have HLUMP := hide (Reads.lump (w := w3) U 26 (w3.heap.size + 1) 64 (by omega) HUl.out))
        | (refine wpList_load_blk rfl 26 (.tmp 5) rfl w1.heap.size 0 26 _ hb3 rfl U _ (fun j v hj => by rw [Nat.zero_add]; simpa using hj) Try.underlying26 rfl HIU.out ?_)
        | (refine wpList_build_agg w3 rfl (.tmp 24) 38 rfl 26 i1 _ 64 Try.underlying38 HI.out.1 (sec_zero w3) HI.out.2.2.1 (by decide) (by decide) U.toArray rfl (by rw [List.size_toArray]; exact HUl.out) ?_)
        | (refine wpList_append_row rfl (.tmp 23) (.tmp 25) 38 rfl w.heap.size 26 i1 (secV zeroSec) 64 64 Try.underlying38 HI.out.1 HI.out.2.1 HI.out.2.2.1 HI.out.2.2.2 rfl (by decide) _ _ _ rfl (HROW3.out.alloc _) (w3.heap.size + 1) (some ⟨w3.heap.size, 0, none⟩) 1 1 U rfl HLUMP.out HUO.out HQ.out.1 HQ.out.2 (le_alloc hsz3 _) ?_; intro v5 w5 hown5 hg5))
      obtain ⟨A5, c5, rfl, _, _⟩ := own_shape hown5
      have HL5 := hide ((HL3.out.alloc hsz3 (.cells U.toArray 26)).grown hg5 (le_alloc hsz3 _) (fun g hg => (HROW3.out.lt g hg).1))
      have HROW5 : Hid (w5.ownsRow w.heap.size 26 64 (.slice A5 (i + 1) c5) (i + 1) (rowS T (i + 1))) := by
        have h := hown5
        rw [HU.out, rowS_snoc] at h
        exact h
      clear hown5 hg5 hb2 hl2 hb3 hg3 hl13
      go_roundw
      case rel => exact ⟨i + 1, A5, c5, by simp, by omega, rfl, HROW5, HL5⟩
      case measure => simp [intOf]; omega
    · obtain rfl : i = 6 := by omega
      rw [show ((6 : Nat) : Int) = 6 from rfl]
      go_wp2_with fail
      go_ret
      obtain ⟨g, cap, hv, hgb, hgl⟩ := hrow.out.form (by decide)
      injection hv with hvA _ hvc
      subst hvA
      subst hvc
      refine ⟨⟨g, c, rfl, hgb, ?_⟩, hl.out⟩
      rcases hrow.out.2 with ⟨hn, _⟩ | ⟨g', cap', cur, hv2, _, hbk, h1, h2, h3, h4⟩
      · cases hn
      · injection hv2 with hv3
        injection hv3 with hv3
        injection hv3 with hv3
        subst hv3
        refine ⟨cur, hbk, fun i hi j v hj => ?_⟩
        have hj64 : j < 64 := by
          have := (List.getElem?_eq_some_iff.1 hj).1
          rw [secL_length] at this
          exact this
        have h5 : (rowS T 6)[i * 64 + j]? = some v := by
          rw [rowS_at T 6 i j hi hj64, HT.out]
          exact hj
        rw [← h4, List.getElem?_take_of_lt (by omega), Array.getElem?_toList] at h5
        exact h5
end
#print axioms lawSectors_any
end Go.Proofs.Ytbbfgcekjelmkaa
