/- What label.Put answers, over whatever label comes in. -/
import Derived.Test.YtbbfgcekjelmkaaRightL
import Derived.Lib.SlBytesConst
namespace Go.Proofs.Ytbbfgcekjelmkaa
open Go.RowKit

/-- A new block that bears a mark reads as its cells. -/
theorem Reads.marked {w : World} (F : List Value) (t : TypeId) (m : Nat × Nat) (B size n : Nat) (hB : w.heap.size < B) (hF : F.length = n * size) : Reads (w.alloc (.cells F.toArray t m)) B size (some ⟨w.heap.size, 0, none⟩) n F := by
  refine ⟨hF, fun _ => ⟨_, rfl, hB, fun j u hu => ?_⟩⟩
  have hadd : (⟨w.heap.size, 0, none⟩ : Addr).add j = ⟨w.heap.size, j, none⟩ := by unfold Addr.add; split <;> simp_all
  rw [hadd, World.cell?_alloc_mark]
  simpa using hu
theorem put_fits (A : Option Addr) (n c : Nat) (xs ys : List UInt8) (v width : Int) (w : World) (hr : Reads w w.heap.size 1 A n (B8 xs)) (hc : n ≤ c) (hc2 : c ≤ 9223372036854775807) (hn : n ≤ 100) (h1 : 1 ≤ width) (h6 : width ≤ 6) (h0 : 0 ≤ v) (hv : v < 256 ^ width.toNat) (hy : xs ++ be width.toNat v.toNat = ys) :
    Calls Try.prog 36 #[.slice A n c, .int .i64 v, .int .i64 width] w (Made w.heap.size 5 1 (B8 ys) w) := by
  have hf : fitsB v width = true := by simp [fitsB, h1, h6, h0, hv]
  have hlt : v ≤ 9223372036854775807 := by
    have := pow256_lt (k := width.toNat) (by omega)
    have h2 : (256 : Int) ^ width.toNat = ((256 ^ width.toNat : Nat) : Int) := by simp
    omega
  have h := put_any A n c xs v width w hr hc hc2 (by omega) hlt
  rw [putB, if_pos hf, hy] at h
  exact h
theorem put1_ (A : Option Addr) (n c : Nat) (xs ys : List UInt8) (v : Int) (w : World) (hr : Reads w w.heap.size 1 A n (B8 xs)) (hc : n ≤ c) (hc2 : c ≤ 9223372036854775807) (hn : n ≤ 100) (h0 : 0 ≤ v) (hv : v ≤ 255) (hy : xs ++ be 1 v.toNat = ys) :
    Calls Try.prog 36 #[.slice A n c, .int .i64 v, .int .i64 1] w (Made w.heap.size 5 1 (B8 ys) w) :=
  put_fits A n c xs ys v 1 w hr hc hc2 hn (by omega) (by omega) h0 (by rw [show (256 : Int) ^ (1 : Int).toNat = 256 by decide]; omega) hy
theorem put2_ (A : Option Addr) (n c : Nat) (xs ys : List UInt8) (v : Int) (w : World) (hr : Reads w w.heap.size 1 A n (B8 xs)) (hc : n ≤ c) (hc2 : c ≤ 9223372036854775807) (hn : n ≤ 100) (h0 : 0 ≤ v) (hv : v ≤ 65535) (hy : xs ++ be 2 v.toNat = ys) :
    Calls Try.prog 36 #[.slice A n c, .int .i64 v, .int .i64 2] w (Made w.heap.size 5 1 (B8 ys) w) :=
  put_fits A n c xs ys v 2 w hr hc hc2 hn (by omega) (by omega) h0 (by rw [show (256 : Int) ^ (2 : Int).toNat = 65536 by decide]; omega) hy
theorem put4_ (A : Option Addr) (n c : Nat) (xs ys : List UInt8) (v : Int) (w : World) (hr : Reads w w.heap.size 1 A n (B8 xs)) (hc : n ≤ c) (hc2 : c ≤ 9223372036854775807) (hn : n ≤ 100) (h0 : 0 ≤ v) (hv : v ≤ 4294967295) (hy : xs ++ be 4 v.toNat = ys) :
    Calls Try.prog 36 #[.slice A n c, .int .i64 v, .int .i64 4] w (Made w.heap.size 5 1 (B8 ys) w) :=
  put_fits A n c xs ys v 4 w hr hc hc2 hn (by omega) (by omega) h0 (by rw [show (256 : Int) ^ (4 : Int).toNat = 4294967296 by decide]; omega) hy
theorem mb_step {l : List Mb} {k : Nat} {m : Mb} (h : l[k]? = some m) : mbB (l.take (k + 1)) = mbB (l.take k) ++ be 1 m.1.toNat ++ be 2 m.2.1.toNat ++ be 1 m.2.2.toNat := by
  rw [take_more h, mbB_append]
  show mbB (l.take k) ++ (be 1 m.1.toNat ++ be 2 m.2.1.toNat ++ be 1 m.2.2.toNat ++ mbB []) = _
  rw [show mbB [] = [] from rfl, List.append_nil]
  simp only [List.append_assoc]
/-- The label's own variable. -/
def labC (l : Lab) (A : Option Addr) (n c : Nat) : List Value := [.int .i64 l.array, .int .i64 l.gen, .int .i64 l.member, .int .i64 l.blocks, .slice A n c]
theorem lab_info : (Try.prog.info? 24).map (·.size) = some 5 := by kernel_rfl
theorem sec_none : Try.prog.built 26 [] = some (secL zeroSec).toArray := by kernel_rfl
section
variable {w : World} {g n c : Nat} {A : Option Addr} {l : Lab}
theorem lab_c0 (h : Blk w g 24 (labC l A n c).toArray) : w.cell? ⟨g, 0, none⟩ = some (.int .i64 l.array) := h.cell 0
theorem lab_c1 (h : Blk w g 24 (labC l A n c).toArray) : w.cell? ⟨g, 1, none⟩ = some (.int .i64 l.gen) := h.cell 1
theorem lab_c2 (h : Blk w g 24 (labC l A n c).toArray) : w.cell? ⟨g, 2, none⟩ = some (.int .i64 l.member) := h.cell 2
theorem lab_c3 (h : Blk w g 24 (labC l A n c).toArray) : w.cell? ⟨g, 3, none⟩ = some (.int .i64 l.blocks) := h.cell 3
theorem lab_c4 (h : Blk w g 24 (labC l A n c).toArray) : w.cell? ⟨g, 4, none⟩ = some (.slice A n c) := h.cell 4
end

set_option maxRecDepth 100000 in
set_option maxHeartbeats 4000000 in
theorem lput_any (l : Lab) (A : Option Addr) (n c : Nat) (B0 : Nat) (w : World) (hr : MbIn w B0 A n c l.members) (hB0 : B0 ≤ w.heap.size) :
    Calls Try.prog 12 #[labV l A n c] w fun e w' => e = .returned (.tuple #[secV (putS l), .int .i64 (putE l)]) ∧ Below w.heap.size w w' := by
  have HRR := hide hr
  have HLen := hide hr.len
  have hnc := hr.2
  have hR := fun w1 (hb : Below w.heap.size w w1) => right_any l A n c B0 w1 (hr.below (hb.mono hB0)) (Nat.le_trans hB0 hb.size)
  have HR := hide hR
  obtain ⟨U, hU⟩ : ∃ U, U = secL (putS l) := ⟨_, rfl⟩
  have hUl : U.length = 64 := by rw [hU, secL_length]
  have hUo : ∀ v ∈ U, v.oneCell' = true := by rw [hU]; exact secL_one _
  have hiU : (Try.prog.info? 26).map (·.size) = some U.length := by rw [hUl]; exact sec_info
  have hs : secV (putS l) = .agg U.toArray := by rw [hU]; rfl
  rw [hs]
  have HUl := hide hUl
  have HUO := hide hUo
  have HIU := hide hiU
  have HU := hide hU
  clear hr hR hs hUl hUo hiU hU
  cases hright : rightB l with
  | false =>
    rw [hright] at HR
    have hb0 := hide (show Try.prog.built 26 [] = some U.toArray by rw [HU.out, putS, hright]; exact sec_none)
    have hE := hide (show putE l = 1 by rw [putE, hright]; rfl)
    rw [hE.out]
    go_enter Try.func12, Try.ntmps12
    go_wp2_with (first
      | (refine wpList_box_blk rfl 24 _ rfl (.agg (labC l A n c).toArray) rfl ?_; intro w1 hb1q hl1 hs1; clear hs1; have hb1 : Blk w1 w.heap.size 24 (labC l A n c).toArray := hb1q; clear hb1q)
      | (refine wpList_alloc_blk rfl 26 rfl _ (sec_zero _) ?_; intro w2 hb2 hl2 hs2; clear hs2)
      | (refine wpList_load_blk rfl 24 (.tmp 1) rfl w.heap.size 0 24 _ (hb1.below hl2 hb1.lt) rfl (labC l A n c) _ (fun j v hj => by rw [Nat.zero_add]; simpa using hj) Try.underlying24 rfl lab_info ?_)
      | (go_at_call 17; refine (HR.out _ (hl1.trans (hl2.mono hl1.size))).mono ?_; rintro _ w3 ⟨rfl, hl3⟩)
      | (refine wpList_build_is rfl 26 #[] rfl [] (by simp) U.toArray hb0.out ?_)
      | (refine wpList_store_all rfl 26 (.tmp 2) (.tmp 10) rfl w1.heap.size 26 _ (hb2.below hl3 hb2.lt) rfl U rfl HIU.out (HUl.out.trans (secL_length zeroSec).symm) HUO.out ?_; intro w4 hb4 hg4 hs4; clear hs4))
    have hl03 : Below w.heap.size w w3 := (hl1.trans (hl2.mono hl1.size)).trans (hl3.mono (by have := hl1.size; have := hl2.size; omega))
    exact ret_cell_tmp rfl w1.heap.size 26 U _ hb4 rfl Try.underlying26 rfl HIU.out (.int .i64 1) rfl rfl ⟨rfl, hl03.grown hg4 (by have := hl03.size; omega) (fun g e => by injection e with e; have := hl1.size; omega)⟩
  | true =>
    rw [hright] at HR
    obtain ⟨q1, q2, q3, q4, q5, q6⟩ := right_parts hright
    have q7 := right_member hright
    have QA := hide (rising_all (by omega) q5)
    have hE := hide (show putE l = 0 by rw [putE, hright]; rfl)
    have HPS := hide (show putS l = labS l by rw [putS, hright]; rfl)
    rw [hE.out]
    have kc := fun (w : World) (C : Array Value) (n c : Nat) => Lib.run_convert_bytes_const (P := Try.prog) w 64 5 C n c Try.underlying64 Try.underlying5
    have hn12 := HLen.out ▸ q4
    have hnl : (l.members.length : Int) = (n : Int) := by rw [HLen.out]
    have HNL := hide hnl
    have Q1 := hide q1
    have Q2 := hide q2
    have Q3 := hide q3
    have Q7 := hide q7
    clear q5 q6 hright q4 q1 q2 q3 q7 hnl
    go_enter Try.func12, Try.ntmps12
    go_wp2_with (first
      | (refine wpList_box_blk rfl 24 _ rfl (.agg (labC l A n c).toArray) rfl ?_; intro w1 hb1q hl1 hs1; clear hs1; have hb1 : Blk w1 w.heap.size 24 (labC l A n c).toArray := hb1q; clear hb1q)
      | (refine wpList_alloc_blk rfl 26 rfl _ (sec_zero _) ?_; intro w2 hb2 hl2 hs2; clear hs2)
      | (refine wpList_load_blk rfl 24 (.tmp 1) rfl w.heap.size 0 24 _ (hb1.below hl2 hb1.lt) rfl (labC l A n c) _ (fun j v hj => by rw [Nat.zero_add]; simpa using hj) Try.underlying24 rfl lab_info ?_)
      | (go_at_call 17; refine (HR.out _ (hl1.trans (hl2.mono hl1.size))).mono ?_; rintro _ w3 ⟨rfl, hl3⟩; have hl03 : Below w.heap.size w w3 := (hl1.trans (hl2.mono hl1.size)).trans (hl3.mono (by have := hl1.size; have := hl2.size; omega)); have hb03 := (hb1.below hl2 hb1.lt).below hl3 (by have := hb1.lt; have := hl2.size; omega); have c0 := lab_c0 (hb03.alloc (.cells #[.int .u8 66, .int .u8 87] 5 (2, 3)))))
    have hz1 := hb1.lt
    have hz2 := hb2.lt
    have hz3 := hl3.size
    have hr3 := Reads.marked (w := w3) (B8 [66, 87]) 5 (2, 3) (w3.heap.size + 1) 1 2 (by omega) rfl
    have HB := hide (hb03.alloc (.cells #[.int .u8 66, .int .u8 87] 5 (2, 3)))
    have HL := hide (hl03.alloc hl03.size (.cells #[.int .u8 66, .int .u8 87] 5 (2, 3)))
    have HS2 := hide ((hb2.below hl3 hz2).alloc (.cells #[.int .u8 66, .int .u8 87] 5 (2, 3)))
    clear hb1 hb2 hb03 hl03 hl1 hl2 hl3
    refine (put4_ (some ⟨w3.heap.size, 0, none⟩) 2 2 [66, 87] ([66, 87] ++ be 4 l.array.toNat) l.array _ (hr3.more (by rw [World.size_alloc]; omega)) (by omega) (by omega) (by omega) Q1.out.1 Q1.out.2 rfl).mono ?_
    rintro _ w4 ⟨A4, n4, d4, rfl, hn4, hd4, ho4, hl4⟩
    have hr4 := Reads.of_own ho4
    have he4 : n4 ≤ 20 := by have h := own_len8 ho4; simp only [List.length_append, be_length, List.length_cons, List.length_nil] at h; omega
    have HL4 := hide (HL.out.trans (hl4.mono HL.out.size))
    have HB4 := hide (HB.out.below hl4 HB.out.lt)
    have HS4 := hide (HS2.out.below hl4 HS2.out.lt)
    have c1 := lab_c1 HB4.out
    have HR4 := hide hr4
    clear c0 HL HB HS2 hr3 hr4 ho4 hl4
    simp only [maxLen] at hd4
    go_wp2_with fail
    refine (put4_ A4 n4 d4 _ _ l.gen _ HR4.out hn4 (by omega) (by omega) (by have := Q2.out.1; omega) Q2.out.2 rfl).mono ?_
    rintro _ w5 ⟨A5, n5, d5, rfl, hn5, hd5, ho5, hl5⟩
    have hr5 := Reads.of_own ho5
    have he5 : n5 ≤ 20 := by have h := own_len8 ho5; simp only [List.length_append, be_length, List.length_cons, List.length_nil] at h; omega
    have HL5 := hide (HL4.out.trans (hl5.mono HL4.out.size))
    have HB5 := hide (HB4.out.below hl5 HB4.out.lt)
    have HS5 := hide (HS4.out.below hl5 HS4.out.lt)
    have c2 := lab_c2 HB5.out
    have HR5 := hide hr5
    clear c1 HL4 HB4 HS4 hr5 ho5 hl5 HR4
    simp only [maxLen] at hd5
    go_wp2_with fail
    refine (put1_ A5 n5 d5 _ _ l.member _ HR5.out hn5 (by omega) (by omega) Q7.out.1 (by have := Q7.out.2; omega) rfl).mono ?_
    rintro _ w6 ⟨A6, n6, d6, rfl, hn6, hd6, ho6, hl6⟩
    have hr6 := Reads.of_own ho6
    have he6 : n6 ≤ 20 := by have h := own_len8 ho6; simp only [List.length_append, be_length, List.length_cons, List.length_nil] at h; omega
    have HL6 := hide (HL5.out.trans (hl6.mono HL5.out.size))
    have HB6 := hide (HB5.out.below hl6 HB5.out.lt)
    have HS6 := hide (HS5.out.below hl6 HS5.out.lt)
    have c3 := lab_c3 HB6.out
    have HR6 := hide hr6
    clear c2 HL5 HB5 HS5 hr6 ho6 hl6 HR5
    simp only [maxLen] at hd6
    go_wp2_with fail
    refine (put2_ A6 n6 d6 _ _ l.blocks _ HR6.out hn6 (by omega) (by omega) (by have := Q3.out.1; omega) (by have := Q3.out.2; omega) rfl).mono ?_
    rintro _ w7 ⟨A7, n7, d7, rfl, hn7, hd7, ho7, hl7⟩
    have hr7 := Reads.of_own ho7
    have he7 : n7 ≤ 20 := by have h := own_len8 ho7; simp only [List.length_append, be_length, List.length_cons, List.length_nil] at h; omega
    have HL7 := hide (HL6.out.trans (hl7.mono HL6.out.size))
    have HB7 := hide (HB6.out.below hl7 HB6.out.lt)
    have HS7 := hide (HS6.out.below hl7 HS6.out.lt)
    have c4 := lab_c4 HB7.out
    have HR7 := hide hr7
    clear c3 HL6 HB6 HS6 hr7 ho7 hl7 HR6
    simp only [maxLen] at hd7
    go_wp2_with fail
    refine (put1_ A7 n7 d7 _ (headB l) (n : Int) _ HR7.out hn7 (by omega) (by omega) (by omega) (by omega) (by rw [headB, HLen.out, Int.toNat_natCast])).mono ?_
    rintro _ w8 ⟨A8, n8, d8, rfl, hn8, hd8, ho8, hl8⟩
    have hr8 := Reads.of_own ho8
    have he8 : n8 ≤ 20 := by have h := own_len8 ho8; rw [headB_length] at h; omega
    have HL8 := hide (HL7.out.trans (hl8.mono HL7.out.size))
    have HB8 := hide (HB7.out.below hl8 HB7.out.lt)
    have HS8 := hide (HS7.out.below hl8 HS7.out.lt)
    have c4' := lab_c4 HB8.out
    have HR8 := hide hr8
    clear c4 HL7 HB7 HS7 hr8 ho8 hl8 HR7
    simp only [maxLen] at hd8
    go_wp2_with fail
    have hz8 := HL8.out.size
    have HBm := hide (fun wr (h : Below w8.heap.size w8 wr) => HRR.out.below ((HL8.out.trans (h.mono HL8.out.size)).mono hB0))
    go_loopw [4, 6, 37] (fun s4 _ i wr => ∃ (k : Nat) (A1 : Option Addr) (n1 d1 : Nat), k ≤ n ∧ i = .int .i64 k ∧ s4 = .slice A1 n1 d1 ∧ n1 ≤ d1 ∧ d1 ≤ 9223372036854775807 ∧ Hid (Reads wr wr.heap.size 1 A1 n1 (B8 (headB l ++ mbB (l.members.take k)))) ∧ Below w8.heap.size w8 wr) (fun _ _ i _ => n - (intOf i).toNat)
    case atStart => exact ⟨0, A8, n8, d8, Nat.zero_le _, rfl, rfl, hn8, hd8, hide (by rw [List.take_zero, show mbB [] = [] from rfl, List.append_nil]; exact HR8.out), Below.refl _ _⟩
    case round =>
      obtain ⟨k, A1, n1, d1, hk, rfl, rfl, hn1, hd1, HR1, hbel⟩ := hrel
      have hz := hbel.size
      have hle1 : n1 ≤ 62 := by
        have h := HR1.out.1
        rw [B8_length, List.length_append, headB_length, mbB_length, List.length_take] at h
        omega
      by_cases hkn : k < n
      · obtain ⟨ad, m, rfl, hab, hm, hcs⟩ := (HBm.out wr hbel).at_ hkn
        have HS := hide hcs
        obtain ⟨b1, b2, b3⟩ := QA.out m (List.mem_of_getElem? hm)
        have B1 := hide b1
        have B2 := hide b2
        have B3 := hide b3
        have HM := hide (mb_step hm)
        clear hm hcs b1 b2 b3
        have HN := hide (Blk.new wr 62 (mbC m).toArray)
        go_wp2_with (first | (refine wpList_load_at rfl 62 (.tmp 39) rfl (ad.add (k * 3)) rfl (mbC m) _ HS.out Try.underlying62 rfl mb_info ?_; unfold mbC))
        refine (put1_ A1 n1 d1 _ _ m.1 _ ((HR1.out.alloc (Nat.le_refl _) _).more (by rw [World.size_alloc]; omega)) hn1 hd1 (by omega) B1.out.1 (by have := B1.out.2; omega) rfl).mono ?_
        rintro _ w9 ⟨A9, n9, d9, rfl, hn9, hd9, ho9, hl9⟩
        have he9 : n9 ≤ 70 := by
          have h := own_len8 ho9
          have h1 := HR1.out.1
          rw [B8_length] at h1
          rw [List.length_append, be_length] at h
          omega
        have hr9 := Reads.of_own ho9
        have hl9' : Below wr.heap.size wr w9 := ((Below.refl _ _).alloc (Nat.le_refl _) _).trans (hl9.mono (by rw [World.size_alloc]; omega))
        have HN9 := hide (HN.out.below hl9 (by rw [World.size_alloc]; exact Nat.lt_succ_self _))
        have x1 : w9.cell? ⟨wr.heap.size, 1, none⟩ = some (.int .i64 m.2.1) := HN9.out.cell 1
        have HR9 := hide hr9
        have HL9 := hide (hbel.trans (hl9'.mono hz))
        clear hr9 ho9 hl9 hl9' HR1
        simp only [maxLen] at hd9
        go_wp2_with fail
        refine (put2_ A9 n9 d9 _ _ m.2.1 _ HR9.out hn9 (by omega) (by omega) (by have := B2.out.1; omega) (by have := B2.out.2; omega) rfl).mono ?_
        rintro _ w10 ⟨A10, n10, d10, rfl, hn10, hd10, ho10, hl10⟩
        have he10 : n10 ≤ 80 := by
          have h := own_len8 ho10
          have h1 := HR9.out.1
          rw [B8_length] at h1
          rw [List.length_append, be_length] at h
          omega
        have hr10 := Reads.of_own ho10
        have HN10 := hide (HN9.out.below hl10 HN9.out.lt)
        have x2 : w10.cell? ⟨wr.heap.size, 2, none⟩ = some (.int .i64 m.2.2) := HN10.out.cell 2
        have HR10 := hide hr10
        have HL10 := hide (HL9.out.trans (hl10.mono HL9.out.size))
        clear x1 hr10 ho10 hl10 HR9 HN9 HL9
        simp only [maxLen] at hd10
        go_wp2_with fail
        refine (put1_ A10 n10 d10 _ _ m.2.2 _ HR10.out hn10 (by omega) (by omega) B3.out.1 (by have := B3.out.2; omega) rfl).mono ?_
        rintro _ w11 ⟨A11, n11, d11, rfl, hn11, hd11, ho11, hl11⟩
        have hr11 := Reads.of_own ho11
        rw [List.append_assoc, List.append_assoc, List.append_assoc, ← List.append_assoc (mbB (l.members.take k)), ← List.append_assoc (mbB (l.members.take k) ++ _), ← HM.out] at hr11
        have HR11 := hide hr11
        have HL11 := hide (HL10.out.trans (hl11.mono HL10.out.size))
        clear x2 hr11 ho11 hl11 HR10 HN10 HL10
        simp only [maxLen] at hd11
        go_wp2_with fail
        go_roundw
        case rel => exact ⟨k + 1, A11, n11, d11, by omega, by go_num, rfl, hn11, by omega, HR11, HL11.out⟩
        case measure => simp [intOf]; omega
      · obtain rfl : k = n := by omega
        have hall : l.members.take k = l.members := List.take_of_length_le (by rw [HLen.out]; exact Nat.le_refl _)
        have hr1 : Reads wr wr.heap.size 1 A1 n1 (B8 (labB l)) := by have h := HR1.out; rw [hall] at h; exact h
        have HR := hide hr1
        have hl14 := labB_length l
        rw [HLen.out] at hl14
        have hpad : pad (labB l) = front (labB l) := pad_short (by omega) (by omega)
        have HPAD := hide hpad
        have HLW := hide (HL8.out.trans (hbel.mono hz8))
        have HSW := hide (HS8.out.below hbel HS8.out.lt)
        clear hr1 hl14 hpad hall
        go_wp2_with fail
        refine (sectors_any A1 n1 d1 (labB l) _ HR.out hn1 hd1 (by omega)).mono ?_
        rintro _ w12 ⟨A12, n12, d12, rfl, hn12', hd12, ho12, hl12⟩
        rw [HPAD.out] at ho12
        have hr12 := Reads.of_own ho12
        obtain rfl : n12 = 1 := by
          have h := hr12.1
          rw [B8_length, front_length] at h
          omega
        obtain ⟨ad, rfl, _, hcs⟩ := hr12.sec_at (k := 0) (by omega)
        have hse : B8 (secAt (front (labB l)) 0) = U := by
          have h : secAt (front (labB l)) 0 = front (labB l) := by
            unfold secAt
            rw [Nat.zero_mul, List.drop_zero, List.take_of_length_le (by rw [front_length]; exact Nat.le_refl _)]
          rw [h, HU.out, HPS.out]
          rfl
        rw [hse, Nat.zero_mul] at hcs
        have HCS := hide hcs
        have HL12 := hide (HLW.out.trans (hl12.mono HLW.out.size))
        have HS12 := hide (HSW.out.below hl12 HSW.out.lt)
        clear hcs ho12 hr12 hl12 hse
        go_wp2_with (first
          | (refine wpList_load_at rfl 26 (.tmp 56) rfl _ rfl U _ HCS.out Try.underlying26 rfl HIU.out ?_)
          | (refine wpList_store_all rfl 26 (.tmp 2) (.tmp 57) rfl w1.heap.size 26 _ HS12.out rfl U rfl HIU.out (HUl.out.trans (secL_length zeroSec).symm) HUO.out ?_; intro w13 hb13 hg13 hs13; clear hs13))
        exact ret_cell_tmp rfl w1.heap.size 26 U _ hb13 rfl Try.underlying26 rfl HIU.out (.int .i64 0) rfl rfl ⟨rfl, HL12.out.grown hg13 (by have := HL12.out.size; omega) (fun g e => by injection e with e; omega)⟩
#print axioms lput_any
end Go.Proofs.Ytbbfgcekjelmkaa
