/- The small case that each law of disk begins with: it works. -/
import Derived.Test.YtdpfjehodnlojaaCalls
import Derived.Test.YtdpfjehodnlojaaWhen
namespace Go.Proofs.Ytdpfjehodnlojaa
open Go.RowKit

def oneSec (c : UInt8) : Sec := ⟨c :: List.replicate 63 0, by simp⟩
theorem built_one (x : Int) : Try.prog.built 28 [(0, .int .u8 x)] = some (Value.int .u8 x :: List.replicate 63 (Value.int .u8 0)).toArray := by kernel_rfl
def b1 : Bank := Bank.new.add 4
def b2 : Bank := (b1.write 0 0 (oneSec 97)).2
def b3 : Bank := (b2.write 0 1 (oneSec 98)).2
def b4 : Bank := b3.flush 0
def b5 : Bank := (b4.write 0 1 (oneSec 99)).2
def b6 : Bank := (b5.write 0 0 (oneSec 100)).2
def b7 : Bank := b6.crash 2
def b8 : Bank := b7.start
def b9 : Bank := b8.fail 0
theorem q1 : b1.n = 1 ∧ b1.writes = 0 ∧ (b1.write 0 0 (oneSec 97)).1 = 0 := by decide +kernel
theorem q2 : b2.writes = 1 ∧ (b2.write 0 1 (oneSec 98)).1 = 0 := by decide +kernel
theorem q3 : b3.may 0 = 0 := by decide +kernel
theorem q4 : b4.writes = 2 ∧ (b4.write 0 1 (oneSec 99)).1 = 0 := by decide +kernel
theorem q5 : b5.writes = 3 ∧ (b5.write 0 0 (oneSec 100)).1 = 0 := by decide +kernel
theorem q6 : b6.order.length = 2 := by decide +kernel
theorem q7 : b7.place 0 0 = 6 := by decide +kernel
theorem q8 : b8.place 0 0 = 0 ∧ b8.newest 0 0 = oneSec 100 ∧ b8.place 0 1 = 0 ∧ b8.newest 0 1 = oneSec 98 ∧ b8.place 0 4 = 3 ∧ b8.place 1 0 = 8 ∧ b8.writes = 4 ∧ b8.n = 1 := by decide +kernel
theorem q9 : b9.may 0 = 7 := by decide +kernel
set_option maxRecDepth 100000 in
set_option maxHeartbeats 2000000 in
theorem shown_any (w : World) : Calls Try.prog 9 #[] w fun e w' => e = .returned (.bool true) ∧ Below w.heap.size w w' := by
  obtain ⟨Ua, hUa⟩ : ∃ U, U = secL (oneSec 97) := ⟨_, rfl⟩
  have hba : Try.prog.built 28 [(0, .int .u8 97)] = some Ua.toArray := by rw [hUa, built_one]; rfl
  have hsa : secV (oneSec 97) = .agg Ua.toArray := by rw [hUa]; rfl
  have hea : Value.agg Ua.toArray = .agg (B8 (oneSec 97).1).toArray := by rw [hUa]; rfl
  have hia : (Try.prog.info? 28).map (·.size) = some Ua.length := by rw [hUa, secL_length]; exact sec_info
  have hla : Ua.length = 64 := by rw [hUa, secL_length]
  have hoa : ∀ v ∈ Ua, v.oneCell' = true := by rw [hUa]; exact secL_one _
  have HBa := hide hba
  have HSa := hide hsa
  have HEa := hide hea
  have HIa := hide hia
  have HLa := hide hla
  have HOa := hide hoa
  clear hUa hba hsa hea hia hla hoa
  obtain ⟨Ub, hUb⟩ : ∃ U, U = secL (oneSec 98) := ⟨_, rfl⟩
  have hbb : Try.prog.built 28 [(0, .int .u8 98)] = some Ub.toArray := by rw [hUb, built_one]; rfl
  have hsb : secV (oneSec 98) = .agg Ub.toArray := by rw [hUb]; rfl
  have heb : Value.agg Ub.toArray = .agg (B8 (oneSec 98).1).toArray := by rw [hUb]; rfl
  have hib : (Try.prog.info? 28).map (·.size) = some Ub.length := by rw [hUb, secL_length]; exact sec_info
  have hlb : Ub.length = 64 := by rw [hUb, secL_length]
  have hob : ∀ v ∈ Ub, v.oneCell' = true := by rw [hUb]; exact secL_one _
  have HBb := hide hbb
  have HSb := hide hsb
  have HEb := hide heb
  have HIb := hide hib
  have HLb := hide hlb
  have HOb := hide hob
  clear hUb hbb hsb heb hib hlb hob
  obtain ⟨Uc, hUc⟩ : ∃ U, U = secL (oneSec 99) := ⟨_, rfl⟩
  have hbc : Try.prog.built 28 [(0, .int .u8 99)] = some Uc.toArray := by rw [hUc, built_one]; rfl
  have hsc : secV (oneSec 99) = .agg Uc.toArray := by rw [hUc]; rfl
  have hec : Value.agg Uc.toArray = .agg (B8 (oneSec 99).1).toArray := by rw [hUc]; rfl
  have hic : (Try.prog.info? 28).map (·.size) = some Uc.length := by rw [hUc, secL_length]; exact sec_info
  have hlc : Uc.length = 64 := by rw [hUc, secL_length]
  have hoc : ∀ v ∈ Uc, v.oneCell' = true := by rw [hUc]; exact secL_one _
  have HBc := hide hbc
  have HSc := hide hsc
  have HEc := hide hec
  have HIc := hide hic
  have HLc := hide hlc
  have HOc := hide hoc
  clear hUc hbc hsc hec hic hlc hoc
  obtain ⟨Ud, hUd⟩ : ∃ U, U = secL (oneSec 100) := ⟨_, rfl⟩
  have hbd : Try.prog.built 28 [(0, .int .u8 100)] = some Ud.toArray := by rw [hUd, built_one]; rfl
  have hsd : secV (oneSec 100) = .agg Ud.toArray := by rw [hUd]; rfl
  have hed : Value.agg Ud.toArray = .agg (B8 (oneSec 100).1).toArray := by rw [hUd]; rfl
  have hid : (Try.prog.info? 28).map (·.size) = some Ud.length := by rw [hUd, secL_length]; exact sec_info
  have hld : Ud.length = 64 := by rw [hUd, secL_length]
  have hod : ∀ v ∈ Ud, v.oneCell' = true := by rw [hUd]; exact secL_one _
  have HBd := hide hbd
  have HSd := hide hsd
  have HEd := hide hed
  have HId := hide hid
  have HLd := hide hld
  have HOd := hide hod
  clear hUd hbd hsd hed hid hld hod
  obtain ⟨Uz, hUz⟩ : ∃ U, U = secL zeroSec := ⟨_, rfl⟩
  have hsz : secV zeroSec = .agg Uz.toArray := by rw [hUz]; rfl
  have hiz : (Try.prog.info? 28).map (·.size) = some Uz.length := by rw [hUz, secL_length]; exact sec_info
  have hlz : Uz.length = 64 := by rw [hUz, secL_length]
  have hoz : ∀ v ∈ Uz, v.oneCell' = true := by rw [hUz]; exact secL_one _
  have HSz := hide hsz
  have HIz := hide hiz
  have HLz := hide hlz
  have HOz := hide hoz
  clear hUz hsz hiz hlz hoz
  go_enter Try.func9, Try.ntmps9
  go_wp2_with fail
  refine (newBank_any w).mono ?_
  rintro e w1 ⟨rfl, hB1, hl1⟩
  have hsz1 := hl1.size
  obtain ⟨b, hb⟩ : ∃ b, b = w.heap.size := ⟨_, rfl⟩
  rw [← hb]
  have HBE := hide hb
  have hB1' : BankAt w1 b w.heap.size w1.heap.size Bank.new := by rw [hb]; exact hB1
  clear hb hB1
  go_wp2_with fail
  refine (bank_add hB1' 4 (by decide) (by decide) (by decide)).mono ?_
  rintro e w2 ⟨rfl, hB2, hu2⟩
  have hl2 : Below w.heap.size w w2 := hl1.trans (hu2.low (Nat.le_refl _) hsz1)
  generalize hhi : w2.heap.size = hi at hB2
  have HHI := hide hhi
  clear hhi
  go_wp2_with (first | (refine when_build rfl 28 #[(0, .const (.int .u8 97))] rfl [(0, .int .u8 97)] (by simp only [List.map_toArray, List.map_cons, List.map_nil]; rfl) Ua.toArray HBa.out ?_))
  have hc2 := bank_write hB2 (S := b1) (by rw [(q1).2.1]; decide) 0 0 (oneSec 97)
  rw [HSa.out, (q1).2.2] at hc2
  refine hc2.mono ?_
  rintro e w3 ⟨rfl, hB3, hu3⟩
  have hl3 := hl2.trans (hu3.low (Nat.le_refl _) hl2.size)
  clear hc2 hu3
  go_wp2_with (first | (refine when_build rfl 28 #[(0, .const (.int .u8 98))] rfl [(0, .int .u8 98)] (by simp only [List.map_toArray, List.map_cons, List.map_nil]; rfl) Ub.toArray HBb.out ?_))
  have hc3 := bank_write hB3 (S := b2) (by rw [(q2).1]; decide) 0 1 (oneSec 98)
  rw [HSb.out, (q2).2] at hc3
  refine hc3.mono ?_
  rintro e w4 ⟨rfl, hB4, hu4⟩
  have hl4 := hl3.trans (hu4.low (Nat.le_refl _) hl3.size)
  clear hc3 hu4
  go_wp2_with fail
  have hc4 := bank_flush (S := b3) hB4 0
  rw [q3, if_pos rfl] at hc4
  refine hc4.mono ?_
  rintro e w5 ⟨rfl, hB5, hu5⟩
  have hl5 := hl4.trans (hu5.low (Nat.le_refl _) hl4.size)
  clear hc4 hu5
  go_wp2_with (first | (refine when_build rfl 28 #[(0, .const (.int .u8 99))] rfl [(0, .int .u8 99)] (by simp only [List.map_toArray, List.map_cons, List.map_nil]; rfl) Uc.toArray HBc.out ?_))
  have hc5 := bank_write hB5 (S := b4) (by rw [(q4).1]; decide) 0 1 (oneSec 99)
  rw [HSc.out, (q4).2] at hc5
  refine hc5.mono ?_
  rintro e w6 ⟨rfl, hB6, hu6⟩
  have hl6 := hl5.trans (hu6.low (Nat.le_refl _) hl5.size)
  clear hc5 hu6
  go_wp2_with (first | (refine when_build rfl 28 #[(0, .const (.int .u8 100))] rfl [(0, .int .u8 100)] (by simp only [List.map_toArray, List.map_cons, List.map_nil]; rfl) Ud.toArray HBd.out ?_))
  have hc6 := bank_write hB6 (S := b5) (by rw [(q5).1]; decide) 0 0 (oneSec 100)
  rw [HSd.out, (q5).2] at hc6
  refine hc6.mono ?_
  rintro e w7 ⟨rfl, hB7, hu7⟩
  have hl7 := hl6.trans (hu7.low (Nat.le_refl _) hl6.size)
  clear hc6 hu7
  go_wp2_with fail
  have hc7 := bank_loose (S := b6) hB7
  rw [q6] at hc7
  refine hc7.mono ?_
  rintro e _ ⟨rfl, rfl⟩
  clear hc7
  go_wp2_with fail
  refine (bank_crash (S := b6) hB7 2 (by decide)).mono ?_
  rintro e w8 ⟨rfl, hB8, hu8⟩
  have hl8 := hl7.trans (hu8.low (Nat.le_refl _) hl7.size)
  clear hu8
  go_wp2_with fail
  have hc8 := bank_read (S := b7) hB8 0 0
  rw [show readV b7 0 0 = .tuple #[.agg Uz.toArray, .int .i64 6] by unfold readV; rw [q7, if_neg (by decide), HSz.out]; rfl] at hc8
  refine hc8.mono ?_
  rintro e w9 ⟨rfl, hl9⟩
  have hB9 := BankAt.later hB8 hl9
  have hl9' := hl8.trans (hl9.mono hl8.size)
  clear hc8
  have hl9 := hl9'
  clear hl9'
  go_wp2_with (first
    | (refine wpList_alloc_blk rfl 28 rfl _ (sec_zero _) ?_; intro w10 hb10 hl10' hs10; clear hs10)
    | (refine wpList_store_all rfl 28 (.tmp 5) (.tmp 70) rfl w9.heap.size 28 _ hb10 rfl Uz rfl HIz.out (HLz.out.trans (secL_length zeroSec).symm) HOz.out ?_; intro w11 hb11 hg11 hs11; clear hs11; have hl11 := (hl9.trans (hl10'.mono hl9.size)).grown hg11 (by have := hl10'.size; have := hl9.size; omega) (fun g e => by have := hl9.size; injection e with e; omega); have hB11 := (BankAt.later hB9 hl10').grown hg11 (fun g e => .inr (by injection e with e; have := hB9.1; omega))))
  refine (bank_start (S := b7) hB11).mono ?_
  rintro e w12 ⟨rfl, hB12, hu12⟩
  have hl12 := hl11.trans (hu12.low (Nat.le_refl _) hl11.size)
  clear hu12
  go_wp2_with fail
  have hc12 := bank_read (S := b8) hB12 0 0
  rw [show readV b8 0 0 = .tuple #[.agg Ud.toArray, .int .i64 0] by unfold readV; rw [q8.1, if_pos rfl, q8.2.1, HSd.out]; rfl] at hc12
  refine hc12.mono ?_
  rintro e w13 ⟨rfl, hl13'⟩
  have hB13 := BankAt.later hB12 hl13'
  have hl13 := hl12.trans (hl13'.mono hl12.size)
  clear hc12
  go_wp2_with (first
    | (refine wpList_alloc_blk rfl 28 rfl _ (sec_zero _) ?_; intro w14 hb14 hl14' hs14; clear hs14)
    | (refine wpList_store_all rfl 28 (.tmp 7) (.tmp 78) rfl w13.heap.size 28 _ hb14 rfl Ud rfl HId.out (HLd.out.trans (secL_length zeroSec).symm) HOd.out ?_; intro w15 hb15 hg15 hs15; clear hs15; have hl15 := (hl13.trans (hl14'.mono hl13.size)).grown hg15 (by have := hl14'.size; have := hl13.size; omega) (fun g e => by have := hl13.size; injection e with e; omega); have hB15 := (BankAt.later hB13 hl14').grown hg15 (fun g e => .inr (by injection e with e; have := hB13.1; omega))))
  have hc15 := bank_read (S := b8) hB15 0 1
  rw [show readV b8 0 1 = .tuple #[.agg Ub.toArray, .int .i64 0] by unfold readV; rw [q8.2.2.1, if_pos rfl, q8.2.2.2.1, HSb.out]; rfl] at hc15
  refine hc15.mono ?_
  rintro e w16 ⟨rfl, hl16'⟩
  have hB16 := BankAt.later hB15 hl16'
  have hl16 := hl15.trans (hl16'.mono hl15.size)
  clear hc15
  have hx16 := hb15.below hl16' hb15.lt
  go_wp2_with (first
    | (refine wpList_alloc_blk rfl 28 rfl _ (sec_zero _) ?_; intro w17 hb17 hl17' hs17; clear hs17)
    | (refine wpList_store_all rfl 28 (.tmp 9) (.tmp 84) rfl w16.heap.size 28 _ hb17 rfl Ub rfl HIb.out (HLb.out.trans (secL_length zeroSec).symm) HOb.out ?_; intro w18 hb18 hg18 hs18; clear hs18; have hkx_18 := ((hx16.below hl17' hx16.lt)).grown hg18 (fun e => by have := hx16.lt; injection e with e; omega); have hl18 := (hl16.trans (hl17'.mono hl16.size)).grown hg18 (by have := hl17'.size; have := hl16.size; omega) (fun g e => by have := hl16.size; injection e with e; omega); have hB18 := (BankAt.later hB16 hl17').grown hg18 (fun g e => .inr (by injection e with e; have := hB16.1; omega))))
  have hc18 := bank_read (S := b8) hB18 0 4
  rw [show readV b8 0 4 = .tuple #[.agg Uz.toArray, .int .i64 3] by unfold readV; rw [q8.2.2.2.2.1, if_neg (by decide), HSz.out]; rfl] at hc18
  refine hc18.mono ?_
  rintro e w19 ⟨rfl, hl19'⟩
  have hB19 := BankAt.later hB18 hl19'
  have hl19 := hl18.trans (hl19'.mono hl18.size)
  clear hc18
  have hx19 := hkx_18.below hl19' hkx_18.lt
  have hy19 := hb18.below hl19' hb18.lt
  go_wp2_with (first
    | (refine wpList_alloc_blk rfl 28 rfl _ (sec_zero _) ?_; intro w20 hb20 hl20' hs20; clear hs20)
    | (refine wpList_store_all rfl 28 (.tmp 11) (.tmp 90) rfl w19.heap.size 28 _ hb20 rfl Uz rfl HIz.out (HLz.out.trans (secL_length zeroSec).symm) HOz.out ?_; intro w21 hb21 hg21 hs21; clear hs21; have hkx_21 := ((hx19.below hl20' hx19.lt)).grown hg21 (fun e => by have := hx19.lt; injection e with e; omega); have hky_21 := ((hy19.below hl20' hy19.lt)).grown hg21 (fun e => by have := hy19.lt; injection e with e; omega); have hl21 := (hl19.trans (hl20'.mono hl19.size)).grown hg21 (by have := hl20'.size; have := hl19.size; omega) (fun g e => by have := hl19.size; injection e with e; omega); have hB21 := (BankAt.later hB19 hl20').grown hg21 (fun g e => .inr (by injection e with e; have := hB19.1; omega))))
  have hc21 := bank_read (S := b8) hB21 1 0
  rw [show readV b8 1 0 = .tuple #[.agg Uz.toArray, .int .i64 8] by unfold readV; rw [q8.2.2.2.2.2.1, if_neg (by decide), HSz.out]; rfl] at hc21
  refine hc21.mono ?_
  rintro e w22 ⟨rfl, hl22'⟩
  have hB22 := BankAt.later hB21 hl22'
  have hl22 := hl21.trans (hl22'.mono hl21.size)
  clear hc21
  have hx22 := hkx_21.below hl22' hkx_21.lt
  have hy22 := hky_21.below hl22' hky_21.lt
  go_wp2_with (first
    | (refine wpList_alloc_blk rfl 28 rfl _ (sec_zero _) ?_; intro w23 hb23 hl23' hs23; clear hs23)
    | (refine wpList_store_all rfl 28 (.tmp 13) (.tmp 96) rfl w22.heap.size 28 _ hb23 rfl Uz rfl HIz.out (HLz.out.trans (secL_length zeroSec).symm) HOz.out ?_; intro w24 hb24 hg24 hs24; clear hs24; have hkx_24 := ((hx22.below hl23' hx22.lt)).grown hg24 (fun e => by have := hx22.lt; injection e with e; omega); have hky_24 := ((hy22.below hl23' hy22.lt)).grown hg24 (fun e => by have := hy22.lt; injection e with e; omega); have hl24 := (hl22.trans (hl23'.mono hl22.size)).grown hg24 (by have := hl23'.size; have := hl22.size; omega) (fun g e => by have := hl22.size; injection e with e; omega); have hB24 := (BankAt.later hB22 hl23').grown hg24 (fun g e => .inr (by injection e with e; have := hB22.1; omega)))
    | (refine when_load rfl 28 (.tmp 7) rfl w13.heap.size 0 28 _ hkx_24 rfl Ud _ (fun j v hj => by rw [Nat.zero_add]; simpa using hj) Try.underlying28 rfl HId.out ?_)
    | (refine when_build rfl 28 #[(0, .const (.int .u8 100))] rfl [(0, .int .u8 100)] (by simp only [List.map_toArray, List.map_cons, List.map_nil]; rfl) Ud.toArray HBd.out ?_)
    | (refine when_eql rfl 28 5 _ (.tmp 105) (.tmp 106) rfl 64 _ Try.underlying28 Try.underlying5 u8_info (by kernel_rfl) (by kernel_rfl) (oneSec 100).1 (oneSec 100).1 (oneSec 100).2 (oneSec 100).2 HEd.out HEd.out true (by simp) ?_)
    | (refine when_load rfl 28 (.tmp 9) rfl w16.heap.size 0 28 _ hky_24 rfl Ub _ (fun j v hj => by rw [Nat.zero_add]; simpa using hj) Try.underlying28 rfl HIb.out ?_)
    | (refine when_build rfl 28 #[(0, .const (.int .u8 98))] rfl [(0, .int .u8 98)] (by simp only [List.map_toArray, List.map_cons, List.map_nil]; rfl) Ub.toArray HBb.out ?_)
    | (refine when_eql rfl 28 5 _ (.tmp 110) (.tmp 111) rfl 64 _ Try.underlying28 Try.underlying5 u8_info (by kernel_rfl) (by kernel_rfl) (oneSec 98).1 (oneSec 98).1 (oneSec 98).2 (oneSec 98).2 HEb.out HEb.out true (by simp) ?_)
    | (go_at_call 22; refine (bank_writes (S := b8) hB24).mono ?_; rw [q8.2.2.2.2.2.2.1]; rintro _ _ ⟨rfl, rfl⟩)
    | (go_at_call 23; refine (bank_fail (S := b8) hB24 0 (by rw [q8.2.2.2.2.2.2.2]; decide)).mono ?_; rintro _ w25 ⟨rfl, hB25, hu25⟩; have hl25 := hl24.trans (hu25.low (Nat.le_refl _) hl24.size))
    | (go_at_call 11; refine (bank_flush (S := b9) hB25 0).mono ?_; rw [q9, if_neg (by decide)]; rintro _ w26 ⟨rfl, hB26, hu26⟩; have hl26 := hl25.trans (hu26.low (Nat.le_refl _) hl25.size)))
  go_ret
  exact ⟨rfl, hl26⟩
end Go.Proofs.Ytdpfjehodnlojaa
