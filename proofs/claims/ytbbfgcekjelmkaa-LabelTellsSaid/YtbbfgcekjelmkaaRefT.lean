/- What the reference's text says of a right label: its bytes. -/
import Derived.Test.YtbbfgcekjelmkaaRefR
import Derived.Test.YtbbfgcekjelmkaaRefP
import Derived.Deep.RegionHeld3
namespace Go.Proofs.Ytbbfgcekjelmkaa
open Go.RowKit

theorem refPut_fits (xs ys : List UInt8) (v width : Int) (w w0 : World) (hb : Below w0.heap.size w0 w) (hn : xs.length ≤ 100) (h1 : 1 ≤ width) (h6 : width ≤ 6) (h0 : 0 ≤ v) (hv : v < 256 ^ width.toNat) (hy : xs ++ be width.toNat v.toNat = ys) :
    Calls Try.prog 70 #[.string (strOf xs), .int .i64 v, .int .i64 width] w fun e w' => e = .returned (.string (strOf ys)) ∧ Below w0.heap.size w0 w' := by
  have hf : fitsB v width = true := by simp [fitsB, h1, h6, h0, hv]
  have hlt : v ≤ 9223372036854775807 := by
    have := pow256_lt (k := width.toNat) (by omega)
    have h2 : (256 : Int) ^ width.toNat = ((256 ^ width.toNat : Nat) : Int) := by simp
    omega
  have h := refPut_any (strOf xs) v width w (by rw [strOf_size]; omega) hlt
  rw [putStr, putB, if_pos hf, chars_strOf, hy] at h
  exact h.mono fun e w' ⟨h1, h2⟩ => ⟨h1, hb.trans (h2.mono hb.size)⟩

set_option maxRecDepth 100000 in
set_option maxHeartbeats 8000000 in
theorem refText_any (l : Lab) (A : Option Addr) (n c : Nat) (B0 : Nat) (w : World) (hr : MbIn w B0 A n c l.members) (hB0 : B0 ≤ w.heap.size) (hright : rightB l = true) :
    Calls Try.prog 38 #[labV l A n c] w fun e w' => e = .returned (.string (strOf (labB l))) ∧ Below w.heap.size w w' := by
  obtain ⟨q1, q2, q3, q4, q5, q6⟩ := right_parts hright
  have q7 := right_member hright
  have QA := hide (rising_all (by omega) q5)
  have HR := hide hr
  have HLen := hide hr.len
  have hnc := hr.2
  have hn12 : n ≤ 12 := by have := HLen.out; omega
  clear q5 q6 hr hright
  obtain ⟨T1, hT1⟩ : ∃ T, T = [66, 87] ++ be 4 l.array.toNat := ⟨_, rfl⟩
  obtain ⟨T2, hT2⟩ : ∃ T, T = T1 ++ be 4 l.gen.toNat := ⟨_, rfl⟩
  obtain ⟨T3, hT3⟩ : ∃ T, T = T2 ++ be 1 l.member.toNat := ⟨_, rfl⟩
  obtain ⟨T4, hT4⟩ : ∃ T, T = T3 ++ be 2 l.blocks.toNat := ⟨_, rfl⟩
  have hT5 : T4 ++ be 1 n = headB l := by rw [hT4, hT3, hT2, hT1, headB, HLen.out]
  have g1 : T1.length = 6 := by rw [hT1]; simp [be_length]
  have g2 : T2.length = 10 := by rw [hT2]; simp [be_length, g1]
  have g3 : T3.length = 11 := by rw [hT3]; simp [be_length, g2]
  have g4 : T4.length = 13 := by rw [hT4]; simp [be_length, g3]
  have HP1 : Hid (∀ w0 w : World, Below w0.heap.size w0 w → Calls Try.prog 70 #[.string { data := #[66, 87] }, .int .i64 l.array, .int .i64 4] w fun e w' => e = .returned (.string (strOf T1)) ∧ Below w0.heap.size w0 w') :=
    fun w0 w hb => refPut_fits [66, 87] T1 l.array 4 w w0 hb (by decide) (by omega) (by omega) q1.1 (by rw [show (256 : Int) ^ (4 : Int).toNat = 4294967296 by decide]; omega) (by rw [hT1]; rfl)
  have HP2 := hide (fun w0 w (hb : Below w0.heap.size w0 w) => refPut_fits T1 T2 l.gen 4 w w0 hb (by omega) (by omega) (by omega) (by omega) (by rw [show (256 : Int) ^ (4 : Int).toNat = 4294967296 by decide]; omega) (by rw [hT2]; rfl))
  have HP3 := hide (fun w0 w (hb : Below w0.heap.size w0 w) => refPut_fits T2 T3 l.member 1 w w0 hb (by omega) (by omega) (by omega) (by omega) (by rw [show (256 : Int) ^ (1 : Int).toNat = 256 by decide]; omega) (by rw [hT3]; rfl))
  have HP4 := hide (fun w0 w (hb : Below w0.heap.size w0 w) => refPut_fits T3 T4 l.blocks 2 w w0 hb (by omega) (by omega) (by omega) (by omega) (by rw [show (256 : Int) ^ (2 : Int).toNat = 65536 by decide]; omega) (by rw [hT4]; rfl))
  have HP5 := hide (fun w0 w (hb : Below w0.heap.size w0 w) => refPut_fits T4 (headB l) (n : Int) 1 w w0 hb (by omega) (by omega) (by omega) (by omega) (by rw [show (256 : Int) ^ (1 : Int).toNat = 256 by decide]; omega) (by rw [← hT5]; rfl))
  clear hT1 hT2 hT3 hT4 hT5 g1 g2 g3 g4 q1 q2 q3 q4 q7
  go_enter Try.func38, Try.ntmps38
  go_wp2_with (first
    | (refine wpList_box_blk rfl 24 _ rfl (.agg (labC l A n c).toArray) rfl ?_; intro w1 hb1q hl1 hs1; clear hs1; have hb1 : Blk w1 w.heap.size 24 (labC l A n c).toArray := hb1q; clear hb1q))
  have HB1 := hide hb1
  have hz1 := hb1.lt
  have HF := hide (fun W' (h : Below w1.heap.size w1 W') => (⟨lab_c0 (HB1.out.below h hz1), lab_c1 (HB1.out.below h hz1), lab_c2 (HB1.out.below h hz1), lab_c3 (HB1.out.below h hz1), lab_c4 (HB1.out.below h hz1), h⟩ : W'.cell? ⟨w.heap.size, 0, none⟩ = some (.int .i64 l.array) ∧ W'.cell? ⟨w.heap.size, 1, none⟩ = some (.int .i64 l.gen) ∧ W'.cell? ⟨w.heap.size, 2, none⟩ = some (.int .i64 l.member) ∧ W'.cell? ⟨w.heap.size, 3, none⟩ = some (.int .i64 l.blocks) ∧ W'.cell? ⟨w.heap.size, 4, none⟩ = some (.slice A n c) ∧ Below w1.heap.size w1 W'))
  clear hb1
  go_region_held3 (fun W' => (W'.cell? ⟨w.heap.size, 0, none⟩ = some (.int .i64 l.array) ∧ W'.cell? ⟨w.heap.size, 1, none⟩ = some (.int .i64 l.gen) ∧ W'.cell? ⟨w.heap.size, 2, none⟩ = some (.int .i64 l.member) ∧ W'.cell? ⟨w.heap.size, 3, none⟩ = some (.int .i64 l.blocks) ∧ W'.cell? ⟨w.heap.size, 4, none⟩ = some (.slice A n c) ∧ Below w1.heap.size w1 W')) (first | assumption | exact HF.out _ (by assumption) | exact HF.out _ ((Below.refl _ _).drew) | exact HF.out _ (Below.refl _ _))
    ((first
      | (go_at_call 70; ((with_reducible refine (HP1.out w1 _ (‹_ ∧ _ ∧ _ ∧ _ ∧ _ ∧ Below w1.heap.size w1 _›.2.2.2.2.2)).mono ?_); rintro e w6 ⟨rfl, hg6⟩))
      | (go_at_call 70; ((with_reducible refine (HP2.out w1 _ (‹_ ∧ _ ∧ _ ∧ _ ∧ _ ∧ Below w1.heap.size w1 _›.2.2.2.2.2)).mono ?_); rintro e w7 ⟨rfl, hg7⟩))))
  clear HP1 HP2
  have hb7 : Below w1.heap.size w1 w7 := ‹_ ∧ _ ∧ _ ∧ _ ∧ _ ∧ Below w1.heap.size w1 w7›.2.2.2.2.2
  go_wp2
  go_region_held3 (fun W' => (W'.cell? ⟨w.heap.size, 0, none⟩ = some (.int .i64 l.array) ∧ W'.cell? ⟨w.heap.size, 1, none⟩ = some (.int .i64 l.gen) ∧ W'.cell? ⟨w.heap.size, 2, none⟩ = some (.int .i64 l.member) ∧ W'.cell? ⟨w.heap.size, 3, none⟩ = some (.int .i64 l.blocks) ∧ W'.cell? ⟨w.heap.size, 4, none⟩ = some (.slice A n c) ∧ Below w1.heap.size w1 W')) (first | assumption | exact HF.out _ (by assumption) | exact HF.out _ (Below.drew hb7) | exact HF.out _ hb7)
    ((first
      | (go_at_call 70; ((with_reducible refine (HP3.out w1 _ (‹_ ∧ _ ∧ _ ∧ _ ∧ _ ∧ Below w1.heap.size w1 _›.2.2.2.2.2)).mono ?_); rintro e w8 ⟨rfl, hg8⟩))
      | (go_at_call 70; ((with_reducible refine (HP4.out w1 _ (‹_ ∧ _ ∧ _ ∧ _ ∧ _ ∧ Below w1.heap.size w1 _›.2.2.2.2.2)).mono ?_); rintro e w9 ⟨rfl, hg9⟩))
      | (go_at_call 70; ((with_reducible refine (HP5.out w1 _ (‹_ ∧ _ ∧ _ ∧ _ ∧ _ ∧ Below w1.heap.size w1 _›.2.2.2.2.2)).mono ?_); rintro e w10 ⟨rfl, hg10⟩))))
  clear HP3 HP4 HP5
  have hb10 : Below w1.heap.size w1 w10 := ‹_ ∧ _ ∧ _ ∧ _ ∧ _ ∧ Below w1.heap.size w1 w10›.2.2.2.2.2
  have HB10 := hide hb10
  have x4 := lab_c4 (HB1.out.below hb10 hz1)
  have HM1 := hide (HR.out.below (hl1.mono hB0))
  clear hb7 hb10 hg6 hg7 hg8 hg9 hg10
  go_wp2
  go_loopw [3, 4, 5] (fun s3 s4 _ wr => ∃ k : Nat, k ≤ n ∧ s4 = .int .i64 (k : Int) ∧ s3 = .string (strOf (headB l ++ mbB (l.members.take k))) ∧ Hid (Below w1.heap.size w1 wr)) (fun _ s4 _ _ => n - (intOf s4).toNat)
  case atStart => exact ⟨0, Nat.zero_le _, rfl, by rw [List.take_zero, show mbB [] = [] from rfl, List.append_nil], HB10⟩
  case round =>
    obtain ⟨k, hk, rfl, rfl, hb3⟩ := hrel
    have hz3 := hb3.out.size
    have y4 := lab_c4 (HB1.out.below hb3.out hz1)
    by_cases hkn : k < n
    · obtain ⟨ad, mb, rfl, hab, hmk, hcs⟩ := (HM1.out.below (hb3.out.mono (by omega))).at_ hkn
      have HS := hide hcs
      obtain ⟨b1, b2, b3⟩ := QA.out mb (List.mem_of_getElem? hmk)
      obtain ⟨T6, hT6⟩ : ∃ T, T = headB l ++ mbB (l.members.take k) := ⟨_, rfl⟩
      obtain ⟨T7, hT7⟩ : ∃ T, T = T6 ++ be 1 mb.1.toNat := ⟨_, rfl⟩
      obtain ⟨T8, hT8⟩ : ∃ T, T = T7 ++ be 2 mb.2.1.toNat := ⟨_, rfl⟩
      have hT9 : T8 ++ be 1 mb.2.2.toNat = headB l ++ mbB (l.members.take (k + 1)) := by rw [hT8, hT7, hT6, mb_step hmk]; simp only [List.append_assoc]
      have g6 : T6.length ≤ 62 := by rw [hT6, List.length_append, headB_length, mbB_length, List.length_take]; omega
      have g7 : T7.length ≤ 63 := by rw [hT7, List.length_append, be_length]; omega
      have g8 : T8.length ≤ 65 := by rw [hT8, List.length_append, be_length]; omega
      have HP6 := hide (fun w0 w (hb : Below w0.heap.size w0 w) => refPut_fits T6 T7 mb.1 1 w w0 hb (by omega) (by omega) (by omega) (by omega) (by rw [show (256 : Int) ^ (1 : Int).toNat = 256 by decide]; omega) (by rw [hT7]; rfl))
      have HP7 := hide (fun w0 w (hb : Below w0.heap.size w0 w) => refPut_fits T7 T8 mb.2.1 2 w w0 hb (by omega) (by omega) (by omega) (by omega) (by rw [show (256 : Int) ^ (2 : Int).toNat = 65536 by decide]; omega) (by rw [hT8]; rfl))
      have HP8 := hide (fun w0 w (hb : Below w0.heap.size w0 w) => refPut_fits T8 (headB l ++ mbB (l.members.take (k + 1))) mb.2.2 1 w w0 hb (by omega) (by omega) (by omega) (by omega) (by rw [show (256 : Int) ^ (1 : Int).toNat = 256 by decide]; omega) (by rw [← hT9]; rfl))
      rw [← hT6]
      clear hT6 hT7 hT8 hT9 g6 g7 g8 b1 b2 b3 hmk hcs
      go_wp2_with (first
        | (refine wpList_load_at rfl 62 (.tmp 33) rfl (ad.add (k * 3)) rfl (mbC mb) _ HS.out Try.underlying62 rfl mb_info ?_)
        | (refine wpList_alloc_blk rfl 62 rfl _ (mb_zero _) ?_; intro w5 ha5 hl5 hs5; clear hs5)
        | (refine wpList_store_all rfl 62 (.tmp 5) (.tmp 34) rfl wr.heap.size 62 _ ha5 rfl (mbC mb) rfl mb_info rfl (mbC_one _) ?_; intro w6 hc6 hg6 hs6; clear hs6))
      have hl6 : Below wr.heap.size wr w6 := hl5.grown hg6 (by have := hl5.size; omega) (fun g e => by injection e with e; omega)
      have HC6 := hide hc6
      have hzc := hc6.lt
      have HE := hide (fun W' (h : Below w6.heap.size w6 W') => (⟨(HC6.out.below h hzc).cell 0, (HC6.out.below h hzc).cell 1, (HC6.out.below h hzc).cell 2, h⟩ : W'.cell? ⟨wr.heap.size, 0, none⟩ = some (.int .i64 mb.1) ∧ W'.cell? ⟨wr.heap.size, 1, none⟩ = some (.int .i64 mb.2.1) ∧ W'.cell? ⟨wr.heap.size, 2, none⟩ = some (.int .i64 mb.2.2) ∧ Below w6.heap.size w6 W'))
      have HL6 := hide (hb3.out.trans (hl6.mono hz3))
      clear hc6 hg6 ha5 hl5 y4 x4 hl6
      simp only [Act.put, List.setIfInBounds_toArray, List.set_cons_succ, List.set_cons_zero]
      go_region_held3 (fun W' => (W'.cell? ⟨wr.heap.size, 0, none⟩ = some (.int .i64 mb.1) ∧ W'.cell? ⟨wr.heap.size, 1, none⟩ = some (.int .i64 mb.2.1) ∧ W'.cell? ⟨wr.heap.size, 2, none⟩ = some (.int .i64 mb.2.2) ∧ Below w6.heap.size w6 W')) (first | assumption | exact HE.out _ (by assumption) | exact HE.out _ ((Below.refl _ _).drew) | exact HE.out _ (Below.refl _ _))
        ((first
          | (go_at_call 70; ((with_reducible refine (HP6.out w6 _ (‹_ ∧ _ ∧ _ ∧ Below w6.heap.size w6 _›.2.2.2)).mono ?_); rintro e w8' ⟨rfl, hg8⟩))
          | (go_at_call 70; ((with_reducible refine (HP7.out w6 _ (‹_ ∧ _ ∧ _ ∧ Below w6.heap.size w6 _›.2.2.2)).mono ?_); rintro e w9' ⟨rfl, hg9⟩))
          | (go_at_call 70; ((with_reducible refine (HP8.out w6 _ (‹_ ∧ _ ∧ _ ∧ Below w6.heap.size w6 _›.2.2.2)).mono ?_); rintro e w10' ⟨rfl, hg10⟩))))
      have HL10 := hide (HL6.out.trans ((‹_ ∧ _ ∧ _ ∧ Below w6.heap.size w6 w10'›.2.2.2).mono (by have := HL6.out.size; omega)))
      clear HP6 HP7 HP8
      go_wp2
      go_roundw
      case rel => exact ⟨k + 1, by omega, by go_num, rfl, HL10⟩
      case measure => simp [intOf]; omega
    · obtain rfl : k = n := by omega
      have HE := hide (show headB l ++ mbB (l.members.take k) = labB l by rw [List.take_of_length_le (by rw [HLen.out]; exact Nat.le_refl _)]; rfl)
      rw [HE.out]
      clear x4
      go_wp2
      go_ret
      exact ⟨rfl, hl1.trans (hb3.out.mono (by omega))⟩
#print axioms refText_any
end Go.Proofs.Ytbbfgcekjelmkaa
