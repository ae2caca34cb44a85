/- What record's sector, right, read do. -/
import Derived.Test.YtmjdndhpnckeeaaRecA
import Derived.Test.YtmjdndhpnckeeaaPutF
import Derived.Deep.RegionHeld3
namespace Go.Proofs.Ytmjdndhpnckeeaa
open Go.RowKit

theorem pad_one {bs : List UInt8} (h0 : 0 < bs.length) (h : bs.length ≤ 64) : pad bs = front bs := by
  rw [pad_step bs h0, List.drop_eq_nil_of_le h, pad_nil, List.append_nil]
theorem sec_nought8 (w : World) : (zeroValue 51).run Try.prog w = .ok (.agg Z64.toArray) w := by kernel_rfl
theorem tag_nought (w : World) : (zeroValue 105).run Try.prog w = .ok (tagV Tg.zero) w := by kernel_rfl
theorem secAt_one {s : List UInt8} (h : s.length = 64) : secAt s 0 = s := by
  rw [secAt, Nat.zero_mul, List.drop_zero, List.take_of_length_le (by omega)]

set_option maxRecDepth 100000 in
set_option maxHeartbeats 4000000 in
theorem recSector_any (t : Tg) (ht : t.Ok) (A : Option Addr) (n c : Nat) (held : List UInt8) (B0 : Nat) (w : World) (hr : Reads w B0 1 A n (B8 held)) (hB0 : B0 ≤ w.heap.size) (hh : n ≤ 53) :
    Calls Try.prog 53 #[tagV t, .slice A n c] w fun e w' => e = .returned (.agg (B8 (secT t held)).toArray) ∧ Below w.heap.size w w' := by
  have hlen : held.length = n := by have := hr.1; rw [B8_length] at this; omega
  have HR := hide hr
  have HT := hide ht
  have HP := hide (show pad (headT t ++ held) = secT t held from pad_one (by rw [List.length_append, headT_length]; omega) (by rw [List.length_append, headT_length, hlen]; omega))
  obtain ⟨S, hS⟩ : ∃ S, S = secT t held := ⟨_, rfl⟩
  have hSl : S.length = 64 := by rw [hS, secT_length]
  rw [← hS] at HP ⊢
  obtain ⟨U, hU⟩ : ∃ U, U = B8 S := ⟨_, rfl⟩
  have hUl : U.length = 64 := by rw [hU, B8_length, hSl]
  have HUO := hide (show ∀ v ∈ U, v.oneCell' = true by rw [hU]; exact B8_one _)
  have HIU := hide (show (Try.prog.info? 51).map (·.size) = some U.length by rw [hUl]; kernel_rfl)
  have HUL := hide (show U.length = Z64.toArray.size by rw [hUl, List.size_toArray, Z64_length])
  have HSA := hide (show B8 (secAt S 0) = U by rw [secAt_one hSl, hU])
  have HSL := hide hSl
  rw [← hU]
  have HL := hide hlen
  obtain ⟨i0, hi0, hz0, hz1, hz2⟩ := info_parts u8_parts
  clear hr ht hS hSl hU hUl hlen
  go_enter Try.func53, Try.ntmps53
  go_wp2_with (first
    | ((with_reducible refine at_slot 2 ?_); refine wpList_box_blk rfl 105 _ rfl (tagV t) rfl ?_; intro w1 hb1q hl1 hs1; have hzb := hb1q.lt; clear hs1; have hb1 : Blk w1 w.heap.size 105 (tagC t).toArray := hb1q; clear hb1q)
    | ((with_reducible refine at_slot 4 ?_); refine wpList_alloc_blk rfl 51 rfl _ (sec_nought8 _) ?_; intro w2 hb2q hl2 hs2; clear hs2; have hb2 : Blk w2 w1.heap.size 51 Z64.toArray := hb2q; clear hb2q; have HB2 := hide (hb1.below hl2 hzb); have y0 := tag_c0 HB2.out))
  have HS2 := hide hb2
  have HL2 := hide (hl1.trans (hl2.mono (by omega)))
  have hz2' := hb2.lt
  clear hb1 hb2 hl1 hl2

  refine (put4_ none 0 0 [] (be 4 t.gen.toNat) t.gen _ Reads.none_ (by omega) (by omega) (by omega) HT.out.g0 HT.out.g1 rfl).mono ?_
  rintro _ w3 ⟨A3, n3, c3, rfl, hn3, hc3, ho3, hl3⟩
  have he3 : n3 ≤ 11 := by have h := own_len8 ho3; simp only [be_length] at h; omega
  have HL3 := hide (HL2.out.trans (hl3.mono HL2.out.size))
  have HB3 := hide (HB2.out.below hl3 HB2.out.lt)
  have HS3 := hide (HS2.out.below hl3 HS2.out.lt)
  have HR3 := hide (Reads.of_own ho3)
  simp only [maxLen] at hc3
  have y1 := tag_c1 HB3.out
  clear y0 HL2 HB2 HS2 hl3 ho3
  go_wp2_with fail
  refine (put4_ A3 n3 c3 _ _ t.nr _ HR3.out hn3 (by omega) (by omega) HT.out.n0 HT.out.n1 rfl).mono ?_
  rintro _ w4 ⟨A4, n4, c4, rfl, hn4, hc4, ho4, hl4⟩
  have he4 : n4 ≤ 11 := by have h := own_len8 ho4; simp only [List.length_append, be_length] at h; omega
  have HL4 := hide (HL3.out.trans (hl4.mono HL3.out.size))
  have HB4 := hide (HB3.out.below hl4 HB3.out.lt)
  have HS4 := hide (HS3.out.below hl4 HS3.out.lt)
  have HR4 := hide (Reads.of_own ho4)
  simp only [maxLen] at hc4
  have y2 := tag_c2 HB4.out
  clear y1 HL3 HB3 HS3 hl4 ho4 HR3
  go_wp2_with fail
  refine (put1_ A4 n4 c4 _ _ t.part _ HR4.out hn4 (by omega) (by omega) HT.out.p0 HT.out.p1 rfl).mono ?_
  rintro _ w5 ⟨A5, n5, c5, rfl, hn5, hc5, ho5, hl5⟩
  have he5 : n5 ≤ 11 := by have h := own_len8 ho5; simp only [List.length_append, be_length] at h; omega
  have HL5 := hide (HL4.out.trans (hl5.mono HL4.out.size))
  have HB5 := hide (HB4.out.below hl5 HB4.out.lt)
  have HS5 := hide (HS4.out.below hl5 HS4.out.lt)
  have HR5 := hide (Reads.of_own ho5)
  simp only [maxLen] at hc5
  have y3 := tag_c3 HB5.out
  clear y2 HL4 HB4 HS4 hl5 ho5 HR4
  go_wp2_with fail
  refine (put1_ A5 n5 c5 _ _ t.parts _ HR5.out hn5 (by omega) (by omega) HT.out.q0 HT.out.q1 rfl).mono ?_
  rintro _ w6 ⟨A6, n6, c6, rfl, hn6, hc6, ho6, hl6⟩
  have he6 : n6 ≤ 11 := by have h := own_len8 ho6; simp only [List.length_append, be_length] at h; omega
  have HL6 := hide (HL5.out.trans (hl6.mono HL5.out.size))
  have HB6 := hide (HB5.out.below hl6 HB5.out.lt)
  have HS6 := hide (HS5.out.below hl6 HS5.out.lt)
  have HR6 := hide (Reads.of_own ho6)
  simp only [maxLen] at hc6
  have y4 := tag_c4 HB6.out
  clear y3 HL5 HB5 HS5 hl6 ho6 HR5
  go_wp2_with fail
  refine (put1_ A6 n6 c6 _ _ t.len _ HR6.out hn6 (by omega) (by omega) HT.out.l0 HT.out.l1 rfl).mono ?_
  rintro _ w7 ⟨A7, n7, c7, rfl, hn7, hc7, ho7, hl7⟩
  have he7 : n7 ≤ 11 := by have h := own_len8 ho7; simp only [List.length_append, be_length] at h; omega
  have HL7 := hide (HL6.out.trans (hl7.mono HL6.out.size))
  have HB7 := hide (HB6.out.below hl7 HB6.out.lt)
  have HS7 := hide (HS6.out.below hl7 HS6.out.lt)
  have HR7 := hide (Reads.of_own ho7)
  simp only [maxLen] at hc7
  have HLB := hide hl7.size
  have HW := hide HL6.out.size
  have HX := hide (show w1.heap.size < w6.heap.size from HS6.out.lt)
  have HO := hide ho7
  clear y4 HL6 HB6 HS6 hl7 HR6 ho7
  obtain rfl : n7 = 11 := by
    have h := own_len8 HO.out
    simp only [List.length_append, be_length] at h
    omega
  have hm1 : 11 + n ≤ maxLen := by simp only [maxLen]; omega
  have hm2 : (11 + n) * 1 ≤ 140737488355328 := by omega
  have HRH := hide (HR.out.below (HL7.out.mono hB0))
  go_wp2_with (at_builtin; refine wpList_append_any _ rfl (.tmp 25) (.tmp 26) _ rfl w6.heap.size 5 i0 _ 1 1 Try.underlying32 hi0 hz0 hz1 hz2 rfl (by omega) _ 11 _ rfl HO.out B0 A n c (B8 held) rfl HRH.out (B8_one _) hm1 hm2 HLB.out ?_; intro v8 w8 ho8 hl8)
  obtain ⟨A8, c8, hv8, hn8, hc8⟩ := own_shape ho8
  subst hv8
  have hl08 : Below w.heap.size w w8 := HL7.out.trans (hl8.mono HW.out)
  rw [← B8_append] at ho8
  simp only [maxLen] at hc8
  have HS8 := hide (HS7.out.below hl8 HX.out)
  have HR8 := hide (Reads.of_own ho8)
  have HL8 := hide hl08
  clear HO HR7 HL7 HS7 HB7 ho8 hl8 hl08 HRH HR
  refine (sectors_any A8 (11 + n) c8 (headT t ++ held) _ HR8.out hn8 (by omega) (by omega)).mono ?_
  rintro _ w9 ⟨A9, n9, c9, rfl, hn9, hc9, ho9, hl9⟩
  rw [HP.out] at ho9
  have hr9 := Reads.of_own ho9
  obtain rfl : n9 = 1 := by
    have h := hr9.1
    rw [B8_length, HSL.out] at h
    omega
  obtain ⟨ad, rfl, _, hcs⟩ := hr9.sec_at (k := 0) (by omega)
  rw [HSA.out, Nat.zero_mul] at hcs
  have HCS := hide hcs
  have HL9 := hide (HL8.out.trans (hl9.mono HL8.out.size))
  have HS9 := hide (HS8.out.below hl9 HS8.out.lt)
  clear hcs hr9 ho9 hl9 HS8 HL8 HR8
  go_wp2_with (first
    | (refine wpList_load_at rfl 51 (.tmp 29) rfl _ rfl U _ HCS.out Try.underlying51 rfl HIU.out ?_)
    | (refine wpList_store_all rfl 51 (.tmp 4) (.tmp 30) rfl w1.heap.size 51 _ HS9.out rfl U rfl HIU.out HUL.out HUO.out ?_; intro w10 hb10 hg10 hs10; clear hs10))
  exact ret_cell rfl w1.heap.size 51 U _ hb10 rfl Try.underlying51 rfl HIU.out rfl ⟨rfl, HL9.out.grown hg10 (by have := HL9.out.size; omega) (fun g e => by injection e with e; omega)⟩
#print axioms recSector_any
end Go.Proofs.Ytmjdndhpnckeeaa
