/- What label.Save does to a bank, whatever label comes in. -/
import Derived.Test.YtbbfgcekjelmkaaCalls
import Derived.Test.YtbbfgcekjelmkaaLof
namespace Go.Proofs.Ytbbfgcekjelmkaa
open Go.RowKit

/-- Where a label is laid; what Save answers and what the bank is then. -/
def Bank.laysL (S : Bank) (l : Lab) : Nat × Bank := S.write l.member.toNat (l.gen.toNat % 2) (labS l)
def Bank.saveL (S : Bank) (l : Lab) : Nat × Bank :=
  if rightB l then
    if (S.laysL l).1 = 0 then ((S.laysL l).2.may l.member.toNat, if (S.laysL l).2.may l.member.toNat = 0 then (S.laysL l).2.flush l.member.toNat else (S.laysL l).2) else S.laysL l
  else (1, S)
section
variable {w : World} {b : Nat} {S : Bank} {F : Nat → Prop}
set_option maxRecDepth 100000 in
set_option maxHeartbeats 2000000 in
theorem lsave_on (h : BankOn w b F S) (hw : S.writes < 4611686018427387904) (l : Lab) (A : Option Addr) (n c : Nat) (hm : MbIn w w.heap.size A n c l.members) :
    Calls Try.prog 24 #[.pointer (some ⟨b, 0, none⟩), labV l A n c] w fun e w' => e = .returned (.int .i64 ((S.saveL l).1 : Int)) ∧ BankOn w' b F (S.saveL l).2 ∧ Turn F w w' := by
  have hlt := h.1
  have HPut := hide (fun B0 w => lput_any l A n c B0 w)
  obtain ⟨U, hU⟩ : ∃ U, U = secL (putS l) := ⟨_, rfl⟩
  have hUl : U.length = 64 := by rw [hU, secL_length]
  have hUo : ∀ v ∈ U, v.oneCell' = true := by rw [hU]; exact secL_one _
  have hiU : (Try.prog.info? 26).map (·.size) = some U.length := by rw [hUl]; exact sec_info
  have hs : secV (putS l) = .agg U.toArray := by rw [hU]; rfl
  rw [hs] at HPut
  have HUl := hide hUl
  have HUO := hide hUo
  have HIU := hide hiU
  have HU := hide hs
  have HM := hide hm
  have HB := hide h
  clear hUl hUo hiU hs hU hm h
  cases hr : rightB l with
  | false =>
    have hE : putE l = 1 := by rw [putE, hr]; rfl
    have HS := hide (show S.saveL l = (1, S) by unfold Bank.saveL; rw [hr]; rfl)
    rw [HS.out]
    rw [hE] at HPut
    clear hE hr
    unfold labV
    unfold labV at HPut
    go_enter Try.func24, Try.ntmps24
    go_wp2_with (first
      | (refine wpList_box_blk rfl 24 _ rfl (.agg (labC l A n c).toArray) rfl ?_; intro w1 hb1q hl1 hs1; clear hs1; have hb1 : Blk w1 w.heap.size 24 (labC l A n c).toArray := hb1q; clear hb1q)
      | (refine wpList_load_blk rfl 24 (.tmp 3) rfl w.heap.size 0 24 _ hb1 rfl (labC l A n c) _ (fun j v hj => by rw [Nat.zero_add]; simpa using hj) Try.underlying24 rfl lab_info ?_)
      | (go_at_call 12; refine (HPut.out w.heap.size w1 (HM.out.below hl1) hl1.size).mono ?_; rintro _ w2 ⟨rfl, hl2⟩)
      | (refine wpList_alloc_blk rfl 26 rfl _ (sec_zero _) ?_; intro w3 hb3 hl3 hs3; clear hs3)
      | (refine wpList_store_all rfl 26 (.tmp 5) (.tmp 11) rfl w2.heap.size 26 _ hb3 rfl U rfl HIU.out (HUl.out.trans (secL_length zeroSec).symm) HUO.out ?_; intro w4 hb4 hg4 hs4; clear hs4))
    go_ret
    have hz1 := hl1.size
    have hz2 := hl2.size
    have hl02 : Below w.heap.size w w2 := hl1.trans (hl2.mono hz1)
    have hl03 : Below w.heap.size w w3 := hl02.trans (hl3.mono (by omega))
    have hl04 : Below w.heap.size w w4 := hl03.grown hg4 hl03.size (fun g e => by injection e with e; omega)
    exact ⟨rfl, HB.out.later hl04, Turn.of_below hl04⟩
  | true =>
    have hE : putE l = 0 := by rw [putE, hr]; rfl
    have hPS : putS l = labS l := by rw [putS, hr]; rfl
    obtain ⟨_, q2, _⟩ := right_parts hr
    have q7 := right_member hr
    obtain ⟨m, hmem⟩ : ∃ m : Nat, m = l.member.toNat := ⟨_, rfl⟩
    obtain ⟨g, hgen⟩ : ∃ g : Nat, g = l.gen.toNat := ⟨_, rfl⟩
    have hmI : l.member = (m : Int) := by omega
    have hgI : l.gen = (g : Int) := by omega
    obtain ⟨C, hC⟩ : ∃ C, C = S.laysL l := ⟨_, rfl⟩
    have hSv : S.saveL l = if C.1 = 0 then (C.2.may m, if C.2.may m = 0 then C.2.flush m else C.2) else C := by
      rw [hC, hmem]
      unfold Bank.saveL
      rw [hr]
      rfl
    obtain ⟨C1, C2⟩ := C
    have HS := hide hSv
    have HWr := hide (fun w1 (h1 : BankOn w1 b F S) => on_write h1 hw m (g % 2) (putS l))
    rw [show S.write m (g % 2) (putS l) = (C1, C2) by rw [hC, hPS, hmem, hgen]; rfl, HU.out, show (((g % 2 : Nat)) : Int) = (g : Int) % 2 by omega] at HWr
    have HFl := hide (fun w1 (h1 : BankOn w1 b F C2) => on_flush h1 m)
    rw [hE] at HPut
    have HCM := hide (And.intro hmI hgI)
    have hg31 : (g : Int) < 4294967296 := by omega
    clear hE hr q2 q7 hmem hgen hmI hgI hSv hC hPS
    unfold labV
    unfold labV at HPut
    go_enter Try.func24, Try.ntmps24
    go_wp2_with (first
      | (refine wpList_box_blk rfl 24 _ rfl (.agg (labC l A n c).toArray) rfl ?_; intro w1 hb1q hl1 hs1; clear hs1; have hb1 : Blk w1 w.heap.size 24 (labC l A n c).toArray := hb1q; clear hb1q)
      | (refine wpList_load_blk rfl 24 (.tmp 3) rfl w.heap.size 0 24 _ hb1 rfl (labC l A n c) _ (fun j v hj => by rw [Nat.zero_add]; simpa using hj) Try.underlying24 rfl lab_info ?_)
      | (go_at_call 12; refine (HPut.out w.heap.size w1 (HM.out.below hl1) hl1.size).mono ?_; rintro _ w2 ⟨rfl, hl2⟩)
      | (refine wpList_alloc_blk rfl 26 rfl _ (sec_zero _) ?_; intro w3 hb3 hl3 hs3; clear hs3)
      | (refine wpList_store_all rfl 26 (.tmp 5) (.tmp 11) rfl w2.heap.size 26 _ hb3 rfl U rfl HIU.out (HUl.out.trans (secL_length zeroSec).symm) HUO.out ?_; intro w4 hb4 hg4 hs4; clear hs4
         have hz1 := hb1.lt
         have hz2 := hl2.size
         have hz3 := hl3.size
         have hl02 : Below w.heap.size w w2 := hl1.trans (hl2.mono (by omega))
         have hl03 : Below w.heap.size w w3 := hl02.trans (hl3.mono (by omega))
         have hl04 : Below w.heap.size w w4 := hl03.grown hg4 hl03.size (fun g e => by injection e with e; omega)
         have HL4 := hide hl04
         have hx4 : Blk w4 w.heap.size 24 (labC l A n c).toArray := ((hb1.below hl2 hz1).below hl3 (by omega)).grown hg4 (fun e => by injection e with e; omega)
         have HX4 := hide hx4
         have c1 := lab_c1 hx4
         have c2 := lab_c2 hx4
         rw [HCM.out.1] at c2
         rw [HCM.out.2] at c1
         clear hx4 hl02 hl03 hl04 hg4 hl3 hl2 hl1 hb3 hb1)
      | (refine wpList_load_blk rfl 26 (.tmp 5) rfl w2.heap.size 0 26 _ hb4 rfl U _ (fun j v hj => by rw [Nat.zero_add]; simpa using hj) Try.underlying26 rfl HIU.out ?_))
    refine (HWr.out w4 (HB.out.later HL4.out)).mono ?_
    rintro _ w5 ⟨rfl, hB5, hT5⟩
    have hnF : ¬ F w.heap.size := fun hf => Nat.lt_irrefl _ (hlt _ hf)
    have hx5 := HX4.out.turned hT5 hnF
    have c25 := lab_c2 hx5
    rw [HCM.out.1] at c25
    have HT5 := hide ((Turn.of_below HL4.out).trans hT5)
    have HB5 := hide hB5
    clear hB5 hT5 c1 c2 hb4 hx5 HX4
    by_cases h0 : C1 = 0
    · have HS2 := hide (show (if C1 = 0 then (C2.may m, if C2.may m = 0 then C2.flush m else C2) else (C1, C2)) = (C2.may m, if C2.may m = 0 then C2.flush m else C2) by rw [if_pos h0])
      have hz0 : (C1 : Int) = 0 := by omega
      clear h0
      go_wp2_with fail
      refine (HFl.out w5 HB5.out).mono ?_
      rintro _ w6 ⟨rfl, hB6, hT6⟩
      have HB6 := hide hB6
      clear hB6
      clear hz0
      go_wp2_with fail
      go_ret
      rw [HS.out, HS2.out]
      exact ⟨rfl, HB6.out, HT5.out.trans hT6⟩
    · have HS2 := hide (show (if C1 = 0 then (C2.may m, if C2.may m = 0 then C2.flush m else C2) else (C1, C2)) = (C1, C2) by rw [if_neg h0])
      have hne : ((C1 : Int) != 0) = true := by simp; omega
      clear h0
      go_wp2_with fail
      go_ret
      rw [HS.out, HS2.out]
      exact ⟨rfl, HB5.out, HT5.out⟩
end
#print axioms lsave_on
end Go.Proofs.Ytbbfgcekjelmkaa
