/- ParityBack's walk over the contracts. -/
import Derived.Test.YtdebdkagmnccjaaPbLaw
namespace Go.Proofs.Ytdebdkagmnccjaa
open Go.RowKit
theorem mask24 (v : Int) : ∃ N : Nat, bits .and .i64 v 16777215 = (N : Int) ∧ N < 16777216 := by
  have h := i64_mask v 24 (by decide)
  refine ⟨(v % 16777216).toNat, ?_, by omega⟩
  rw [show (16777215 : Int) = 2 ^ 24 - 1 by decide, h]
  show v % 16777216 = _
  omega
theorem reb_back {M : List (List UInt8)} {k : Nat} {s : List UInt8} (f : List UInt8) (hS : Secs M) (h0 : parOf M = zeroL) (hk : M[k]? = some s) : rebS (M.set k f) (k : Int) = s := by
  have hkl := (List.getElem?_eq_some_iff.1 hk).1
  unfold rebS
  rw [if_pos (by rw [List.length_set]; omega), Int.toNat_natCast, reb_set, reb_is hS hk, h0, zero_xorL (hS s (List.mem_of_getElem? hk))]
theorem rebE_in {n k : Nat} (h : k < n) : ((rebE n (k : Int) : Nat) : Int) = 0 := by
  unfold rebE
  rw [if_pos (by omega)]
  rfl
theorem one_bit {t : Nat} (h : t < 8) : ∃ z : UInt8, IntKind.u8.wrap (2 ^ min (IntKind.u64.wrap (t : Int)).toNat 8) = ((z.toNat : Nat) : Int) ∧ z ≠ 0 := by
  have h8 : t = 0 ∨ t = 1 ∨ t = 2 ∨ t = 3 ∨ t = 4 ∨ t = 5 ∨ t = 6 ∨ t = 7 := by omega
  rcases h8 with rfl | rfl | rfl | rfl | rfl | rfl | rfl | rfl
  · exact ⟨1, by decide, by decide⟩
  · exact ⟨2, by decide, by decide⟩
  · exact ⟨4, by decide, by decide⟩
  · exact ⟨8, by decide, by decide⟩
  · exact ⟨16, by decide, by decide⟩
  · exact ⟨32, by decide, by decide⟩
  · exact ⟨64, by decide, by decide⟩
  · exact ⟨128, by decide, by decide⟩
section
variable {P : Program} {ops : Array Oper} {o : Oper} {a : Act} {w : World} {K : Act → World → Prop} {Q : Exit → Act → World → Prop} {E : Prop}
theorem step_pokeP (hg : o.guard = none) (ty : TypeId) (x y : Operand) (ho : o.op = .store ty x y)
    (g off : Nat) (t : TypeId) (cur : Array Value) (h : Blk w g t cur) (hx : a.eval x = .pointer (some ⟨g, off, none⟩)) (v : Value) (hy : a.eval y = v) (h1 : v.oneCell' = true) (hi : (P.info? ty).map (·.size) = some 1) (hl : off < cur.size)
    (hK : ∀ w', Blk w' g t (cur.setIfInBounds off v) → w.grownBy w' (some g) → w'.heap.size = w.heap.size → K (a.put o.dst undef) w') : if Region.wanted o (yielded ops a.tmps) = true then Oper.wp P o a w K Q else E := by
  have hw : Region.wanted o (yielded ops a.tmps) = true := by simp [Region.wanted, hg]
  rw [if_pos hw]
  obtain ⟨w', hrun, h2, h3, h4⟩ := run_storeVar_poke (P := P) w g off t ty cur h v h1 hi hl
  unfold Oper.wp execOp
  simp only [ho, hx, hy, Instr.storeAt, Instr.sureAddr, Sem.run_bind, Sem.run_pure, Result.andThen_ok, hrun]
  exact hK w' h2 h3 h4
end
theorem xor_other {y z : UInt8} (hz : z ≠ 0) : y ≠ y ^^^ z := fun h => by
  have h1 : y ^^^ y = y ^^^ (y ^^^ z) := congrArg (y ^^^ ·) h
  rw [← UInt8.xor_assoc, UInt8.xor_self, UInt8.zero_xor] at h1
  exact hz h1.symm
theorem turned_bit {M : List (List UInt8)} {j b : Nat} {s : List UInt8} {y z : UInt8} (hS : Secs M) (h0 : parOf M = zeroL) (hs : M[j]? = some s) (hy : s[b]? = some y) (hz : z ≠ 0) : (decide (parOf (M.set j (s.set b (y ^^^ z))) = zeroL)) = false := by
  have hls : s.length = 64 := hS s (List.mem_of_getElem? hs)
  have hl2 : (s.set b (y ^^^ z)).length = 64 := by rw [List.length_set]; exact hls
  refine decide_eq_false fun h => ?_
  rw [par_set hS hs hl2, h0, xorL_zero hls] at h
  have h1 := xorL_eq hls hl2 h
  have hb : b < s.length := (List.getElem?_eq_some_iff.1 hy).1
  have h2 : (s.set b (y ^^^ z))[b]? = some (y ^^^ z) := by rw [List.getElem?_set_self hb]
  rw [← h1, hy] at h2
  exact xor_other hz (Option.some.inj h2)
theorem poke_sec {cur : Array Value} {s : List UInt8} {j b : Nat} {x : UInt8} (hls : s.length = 64) (hsz : j * 64 + 64 ≤ cur.size) (hb : b < 64) (hcl : ∀ (i : Nat) (v : Value), (B8 s)[i]? = some v → cur[j * 64 + i]? = some v) :
    cur.setIfInBounds (j * 64 + b) (.int .u8 (x.toNat : Int)) = (cur.toList.take (j * 64) ++ B8 (s.set b x) ++ cur.toList.drop (j * 64 + (B8 (s.set b x)).length)).toArray := by
  apply Array.toList_inj.1
  rw [Array.toList_setIfInBounds]
  apply List.ext_getElem?
  intro i
  have hl : (B8 (s.set b x)).length = 64 := by rw [B8_length, List.length_set, hls]
  have hl1 : (cur.toList.take (j * 64)).length = j * 64 := by rw [List.length_take, Array.length_toList]; omega
  rw [List.getElem?_set]
  dsimp only
  by_cases h1 : i < j * 64
  · rw [if_neg (by omega), List.append_assoc, List.getElem?_append_left (by omega), List.getElem?_take_of_lt h1]
  · rw [List.append_assoc, List.getElem?_append_right (by omega), hl1]
    by_cases h2 : i < j * 64 + 64
    · rw [List.getElem?_append_left (by omega)]
      obtain ⟨q, hq⟩ : ∃ q, i = j * 64 + q := ⟨i - j * 64, by omega⟩
      subst hq
      rw [show j * 64 + q - j * 64 = q by omega]
      have hq64 : q < s.length := by omega
      have hcq := hcl q (.int .u8 ((s[q]'hq64).toNat : Int)) (by simp [B8, hq64])
      by_cases h3 : b = q
      · subst h3
        rw [if_pos rfl, if_pos (by rw [Array.length_toList]; omega)]
        simp [B8, hls, hb]
      · rw [if_neg (by omega), Array.getElem?_toList, hcq]
        simp [B8, h3, hq64]
    · rw [List.getElem?_append_right (by omega), hl, List.getElem?_drop, if_neg (by omega), show j * 64 + 64 + (i - j * 64 - 64) = i by omega]
set_option maxRecDepth 100000 in
set_option maxHeartbeats 8000000 in
theorem parityBack_walk (K : ParK) (A : Option Addr) (n cp : Nat) (l : List UInt8) (f : List UInt8) (v : Int) (w : World) (hr : Reads w w.heap.size 64 A n (B8 l)) (hc : n ≤ cp) (hc2 : cp ≤ 9223372036854775807) (hf : f.length = 64) :
    Calls Try.prog 4 #[.slice A n cp, .agg (B8 f).toArray, .int .i64 v] w fun e w' => e = .returned (.bool true) ∧ Below w.heap.size w w' := by
  obtain ⟨ui, UI0⟩ : ∃ ui, Try.prog.info? 5 = some ui := ⟨_, pu8_info⟩
  have UI := hide UI0
  obtain ⟨i0, hi0, hz0, hz1, hz2⟩ := psec_parts0
  have HI := hide (And.intro hi0 (And.intro hz0 (And.intro hz1 hz2)))
  have LF := hide hf
  have HVF := hide (show (Value.agg (B8 f).toArray).cells = (B8 f).toArray from rfl)
  have HSH := hide (fun w => shown11_any K w)
  have HUN : Hid (Try.prog.underlying 24 = some (.array 64 5)) := Try.underlying24
  have IF := hide (show (Try.prog.info? 24).map (·.size) = some (B8 f).length by rw [B8_length, hf]; exact psec_info)
  obtain ⟨m, hm⟩ : ∃ m, m = min n 40 := ⟨_, rfl⟩
  have hmn : m ≤ n := by omega
  have hm40 : m ≤ 40 := by omega
  obtain ⟨hS0, hL0, hR0⟩ := cut_all hr (m := m) hmn
  obtain ⟨L, hL⟩ : ∃ L, L = cutS l m := ⟨_, rfl⟩
  rw [← hL] at hS0 hL0 hR0
  obtain ⟨p, hp⟩ : ∃ p, p = parOf L := ⟨_, rfl⟩
  have hlp : p.length = 64 := by rw [hp]; exact par_length hS0
  obtain ⟨M, hM⟩ : ∃ M, L ++ [p] = M := ⟨_, rfl⟩
  obtain ⟨N, hN⟩ : ∃ N, m + 1 = N := ⟨_, rfl⟩
  have HS := hide hS0
  have HL := hide hL0
  have HRL := hide hR0
  have HP := hide hp
  have LP := hide hlp
  have HM := hide hM
  have HN := hide hN
  have HSM := hide (show Secs M by rw [← hM]; exact hS0.append (Secs.one hlp))
  have HLM := hide (show M.length = N by rw [← hM, List.length_append, hL0, ← hN]; rfl)
  have HPM := hide (show parOf M = zeroL by rw [← hM, hp]; exact par_closed hS0)
  have HPT := hide (show (decide (parOf M = zeroL)) = true from decide_eq_true HPM.out)
  have H2 := hide (And.intro (show m + 1 ≤ maxLen by simp only [maxLen]; omega) (show (m + 1) * 64 ≤ 140737488355328 by omega))
  have H3 := hide (And.intro (show 0 + N ≤ maxLen by simp only [maxLen]; omega) (show (0 + N) * 64 ≤ 140737488355328 by omega))
  obtain ⟨T, hT, hT2⟩ := mask24 v
  have hN41 : N ≤ 41 := by omega
  have hN1 : 0 < N := by omega
  have HMI := hide hm
  clear hi0 hz0 hz1 hz2 UI0 hr hf hL hS0 hL0 hR0 hp hlp hM hN hm
  go_enter Try.func4, Try.ntmps4
  go_upto_region 2 with (first
    | ((with_reducible refine at_slot 4 ?_); refine wpList_box_blk rfl 24 _ rfl (.agg (B8 f).toArray) rfl ?_; intro y1 hbq hl hs; rw [HVF.out] at hbq; have Hf_y1 : Hid (Blk y1 w.heap.size 24 (B8 f).toArray) := hide hbq; have HL_y1 := hide hl; clear hbq hl hs)
    | (go_at_call 8; (with_reducible refine (HSH.out _).mono ?_); rintro _ y2 ⟨rfl, hl⟩; have HL_y2 := hide (HL_y1.out.trans (hl.mono HL_y1.out.size)); have Hf_y2 := hide (Hf_y1.out.below hl Hf_y1.out.lt); clear hl))
  go_cut [8] (fun v8 wx => ∃ (AO : Option Addr) (cO : Nat), v8 = .slice AO m cO ∧ Hid (RowS wx y2.heap.size AO cO L) ∧ Hid (Below y2.heap.size y2 wx))
  case first =>
    by_cases hmn1 : (n : Int) ≤ 40
    · have hmM : m = n := by have := HMI.out; omega
      have HRM := hide (show Reads w w.heap.size 64 A n (B8 L.flatten) by rw [← hmM]; exact HRL.out)
      have H1 := hide (And.intro (show 0 + n ≤ maxLen by simp only [maxLen]; omega) (show (0 + n) * 64 ≤ 140737488355328 by omega))
      go_wp2_with (first
        | ((with_reducible refine at_slot 15 ?_); refine wpList_none64 rfl rfl ?_)
        | ((with_reducible refine at_slot 21 ?_); refine wpList_append_any _ rfl (.tmp 15) (.tmp 20) _ rfl y2.heap.size 24 i0 _ 64 64 Try.underlying22 HI.out.1 HI.out.2.1 HI.out.2.2.1 HI.out.2.2.2 rfl (by decide) _ 0 [] rfl (World.ownsRow_made y2 #[] 0 (Nat.le_refl _) (Nat.zero_le _) rfl) y2.heap.size _ n cp (B8 L.flatten) rfl ((HRM.out.later HL_y2.out).alloc (Nat.le_refl _) _) (B8_one _) H1.out.1 H1.out.2 (le_alloc (Nat.le_refl _) _) ?_; intro v3 x1 hown1 hbel1; have hl : Below y2.heap.size y2 x1 := ((Below.refl _ _).alloc (Nat.le_refl _) _).trans hbel1; rw [Nat.zero_add, List.nil_append] at hown1; obtain ⟨AO, cO, rfl, _, _⟩ := own_shape hown1))
      go_meet
      case rel => exact ⟨AO, cO, by rw [hmM], hide ⟨by rw [HL.out, hmM]; exact hown1, HS.out⟩, hide hl⟩
    · have hmM : m = 40 := by have := HMI.out; omega
      have HRM := hide (show Reads w w.heap.size 64 A 40 (B8 L.flatten) by rw [← hmM]; exact HRL.out)
      have H1 := hide (And.intro (show 0 + 40 ≤ maxLen by simp only [maxLen]; omega) (show (0 + 40) * 64 ≤ 140737488355328 by omega))
      go_wp2_with (first
        | ((with_reducible refine at_slot 15 ?_); refine wpList_none64 rfl rfl ?_)
        | ((with_reducible refine at_slot 21 ?_); refine wpList_append_any _ rfl (.tmp 15) (.tmp 20) _ rfl y2.heap.size 24 i0 _ 64 64 Try.underlying22 HI.out.1 HI.out.2.1 HI.out.2.2.1 HI.out.2.2.2 rfl (by decide) _ 0 [] rfl (World.ownsRow_made y2 #[] 0 (Nat.le_refl _) (Nat.zero_le _) rfl) y2.heap.size _ 40 cp (B8 L.flatten) rfl ((HRM.out.later HL_y2.out).alloc (Nat.le_refl _) _) (B8_one _) H1.out.1 H1.out.2 (le_alloc (Nat.le_refl _) _) ?_; intro v3 x1 hown1 hbel1; have hl : Below y2.heap.size y2 x1 := ((Below.refl _ _).alloc (Nat.le_refl _) _).trans hbel1; rw [Nat.zero_add, List.nil_append] at hown1; obtain ⟨AO, cO, rfl, _, _⟩ := own_shape hown1))
      go_meet
      case rel => exact ⟨AO, cO, by rw [hmM], hide ⟨by rw [HL.out, hmM]; exact hown1, HS.out⟩, hide hl⟩
  case rest =>
    obtain ⟨AO, cO, rfl, hB, hl⟩ := hcut
    obtain ⟨x0, rfl⟩ : ∃ x0, x0 = wc := ⟨_, rfl⟩
    have RO_x0 := hide hB.out
    have HL_x0 := hide (HL_y2.out.trans (hl.out.mono HL_y2.out.size))
    have Hf_x0 := hide (Hf_y2.out.below hl.out Hf_y2.out.lt)
    have HBS := hide hl.out
    clear hB hl
    go_wp2_with (first
      | (go_at_call 11; (with_reducible refine (RowS.build K RO_x0.out HL.out (by omega)).mono ?_); rintro _ y31 ⟨rfl, hl⟩; rw [← HP.out]; have HZ1 := hide hl.size; have HL_y31 := hide (HL_x0.out.trans (hl.mono HL_x0.out.size)); have Hf_y31 := hide (Hf_x0.out.below hl Hf_x0.out.lt); have RO_y31 := hide (RO_x0.out.later hl); clear hl)
      | ((with_reducible refine at_slot 25 ?_); refine when_secs1 rfl (.tmp 24) rfl p LP.out rfl ?_; have hb : Blk (y31.alloc (.cells (B8 p).toArray 24)) y31.heap.size 24 (B8 p).toArray := Blk.new _ _ _; have hl : Below y31.heap.size y31 (y31.alloc (.cells (B8 p).toArray 24)) := (Below.refl _ _).alloc (Nat.le_refl _) _; generalize y31.alloc (.cells (B8 p).toArray 24) = y32 at hb hl ⊢; have HR_y32 := hide hb; have HL_y32 := hide (HL_y31.out.trans (hl.mono HL_y31.out.size)); have Hf_y32 := hide (Hf_y31.out.below hl Hf_y31.out.lt); have RO_y32 := hide (RO_y31.out.later hl); have hl_s := hl.size; clear hb hl; have HBSN := hide (show y2.heap.size ≤ y32.heap.size by have h1 := HBS.out.size; have h2 := hl_s; have h3 := HZ1.out; omega))
      | ((with_reducible refine at_slot 26 ?_); refine wpList_append_any _ rfl (.tmp 22) (.tmp 25) _ rfl y2.heap.size 24 i0 _ 64 64 Try.underlying22 HI.out.1 HI.out.2.1 HI.out.2.2.1 HI.out.2.2.2 rfl (by decide) _ m _ rfl (by have h := RO_y32.out.own; rw [HL.out] at h; exact h) y32.heap.size _ 1 1 (B8 p) rfl (by have h := reads64 (L := [p]) (by rw [flat1]; exact HR_y32.out) (Secs.one LP.out) rfl; rw [flat1] at h; exact h) (B8_one _) H2.out.1 H2.out.2 HBSN.out ?_; intro v4 y33 hown2 hbel2; rw [HN.out] at hown2; obtain ⟨A1, c1, rfl, _, _⟩ := own_shape hown2; have RA_y33 : Hid (RowS y33 y2.heap.size A1 c1 M) := hide ⟨(by rw [HLM.out, ← HM.out, flat_append, flat1, B8_append]; exact hown2), HSM.out⟩; have HL_y33 := hide (HL_y32.out.trans (hbel2.mono HL_y2.out.size)); have Hf_y33 := hide (Hf_y32.out.below hbel2 Hf_y2.out.lt); clear hown2 hbel2)
      | (go_at_call 17; (with_reducible refine (RowS.check K RA_y33.out HLM.out (by omega)).mono ?_); rintro _ y34 ⟨rfl, hl⟩; rw [HPT.out]; have HL_y34 := hide (HL_y33.out.trans (hl.mono HL_y33.out.size)); have Hf_y34 := hide (Hf_y33.out.below hl Hf_y33.out.lt); have RA_y34 := hide (RA_y33.out.later hl); clear hl))
    go_loopw [9] (fun s9 wr => ∃ k : Nat, s9 = .int .i64 (k : Int) ∧ k ≤ N ∧ Hid (RowS wr y2.heap.size A1 c1 M) ∧ Hid (Blk wr w.heap.size 24 (B8 f).toArray) ∧ Hid (Below w.heap.size w wr)) (fun s9 _ => N - (intOf s9).toNat)
    case atStart => exact ⟨0, rfl, Nat.zero_le _, hide RA_y34.out, hide Hf_y34.out, hide HL_y34.out⟩
    case round =>
      obtain ⟨k, rfl, hk, hA, hf, hl⟩ := hrel
      obtain ⟨wo, rfl⟩ : ∃ wo, wo = wr := ⟨_, rfl⟩
      have RA_wo := hide hA.out
      have Hf_wo := hide hf.out
      have HL_wo := hide hl.out
      clear hA hf hl
      by_cases hkm : (k : Int) < (N : Int)
      · have hkw : (0 : Int) ≤ (k : Int) := by omega
        have hkl : k < M.length := by rw [HLM.out]; omega
        obtain ⟨s, hs⟩ : ∃ s, M[k]? = some s := ⟨M[k]'hkl, List.getElem?_eq_getElem _⟩
        have hls : s.length = 64 := HSM.out s (List.mem_of_getElem? hs)
        have HKL := hide hkl
        have HSS := hide hs
        have LS := hide hls
        have IS := hide (show (Try.prog.info? 24).map (·.size) = some (B8 s).length by rw [B8_length, hls]; exact psec_info)
        have HRB := hide (reb_back f HSM.out HPM.out hs)
        have HRE := hide (rebE_in (n := N) (k := k) (by omega))
        clear hkl hs hls
        go_wp2_with (first
          | ((with_reducible refine at_slot 36 ?_); refine wpList_none64 rfl rfl ?_)
          | ((with_reducible refine at_slot 38 ?_); refine wpList_append_any _ rfl (.tmp 36) (.tmp 37) _ rfl wo.heap.size 24 i0 _ 64 64 Try.underlying22 HI.out.1 HI.out.2.1 HI.out.2.2.1 HI.out.2.2.2 rfl (by decide) _ 0 [] rfl (World.ownsRow_made wo #[] 0 (Nat.le_refl _) (Nat.zero_le _) rfl) wo.heap.size _ N c1 (B8 M.flatten) rfl (by have h := RA_wo.out.reads; rw [HLM.out] at h; exact h.alloc (Nat.le_refl _) _) (B8_one _) H3.out.1 H3.out.2 (le_alloc (Nat.le_refl _) _) ?_; intro v3 y61 hown1 hbel1; have hl : Below wo.heap.size wo y61 := ((Below.refl _ _).alloc (Nat.le_refl _) _).trans hbel1; rw [Nat.zero_add, List.nil_append] at hown1; obtain ⟨AQ, cq, rfl, _, _⟩ := own_shape hown1; have hrow : RowS y61 wo.heap.size AQ cq M := ⟨(by rw [HLM.out]; exact hown1), HSM.out⟩; obtain ⟨g, cur, rfl, hbg, hblk, hsz, hput⟩ := hrow.put (q := k) HKL.out LF.out; have KR := hide hblk; have HBG := hide hbg; have HSZ := hide hsz; have HPUT := hide hput; have HLQ := hide hl; have HL_y61 := hide (HL_wo.out.trans (hl.mono HL_wo.out.size)); have Hf_y61 := hide (Hf_wo.out.below hl Hf_wo.out.lt); have RA_y61 := hide (RA_wo.out.later hl); clear hl hown1 hbel1 hrow hblk hbg hsz hput)
          | ((with_reducible refine at_slot 41 ?_); refine when_load rfl 24 (.tmp 4) rfl w.heap.size 0 24 _ Hf_y61.out rfl (B8 f) _ (fun j v hj => by rw [Nat.zero_add]; simpa using hj) Try.underlying24 rfl IF.out ?_)
          | ((with_reducible refine at_store 42 ?_); refine wpList_store_blk rfl 24 (.tmp 42) (.tmp 41) rfl g (k * 64) 24 _ KR.out rfl (B8 f) rfl IF.out HSZ.out (B8_one _) ?_; intro y62 hb hg hs; have hlw : Below wo.heap.size wo y62 := HLQ.out.grown hg HLQ.out.size (fun g0 e => (by injection e with e; have h1 := HBG.out; omega)); have RD_y62 := hide (HPUT.out _ hb); have HL_y62 := hide (HL_wo.out.trans (hlw.mono HL_wo.out.size)); have Hf_y62 := hide (Hf_wo.out.below hlw Hf_wo.out.lt); have RA_y62 := hide (RA_wo.out.later hlw); clear hb hg hs hlw)
          | (go_at_call 9; (with_reducible refine (RowS.rebuild K RD_y62.out (by rw [List.length_set]; exact HLM.out) (by omega) (k : Int) (by omega) (by omega)).mono ?_); rintro _ y63 ⟨rfl, hl⟩; rw [HRB.out, HRE.out]; have HL_y63 := hide (HL_y62.out.trans (hl.mono HL_y62.out.size)); have Hf_y63 := hide (Hf_y62.out.below hl Hf_y62.out.lt); have RA_y63 := hide (RA_y62.out.later hl); have RD_y63 := hide (RD_y62.out.later hl); clear hl)
          | ((with_reducible refine at_slot 11 ?_); refine wpList_alloc_blk rfl 24 rfl _ (psec_nought _) ?_; intro y64 hbq hl1 hs1; have hb1 : Blk y64 y63.heap.size 24 (B8 zeroL).toArray := hbq; clear hbq hs1)
          | ((with_reducible refine at_store 11 ?_); refine wpList_store_all rfl 24 (.tmp 11) (.tmp 47) rfl y63.heap.size 24 _ hb1 rfl (B8 s) rfl IS.out (by rw [List.size_toArray, B8_length, B8_length, LS.out, zeroL_length]) (B8_one _) ?_; intro y65 hbz hg hs; have hz := hb1.lt; have hl : Below y63.heap.size y63 y65 := hl1.grown hg (by omega) (fun g e => by injection e with e; omega); have Hx_y65 := hide hbz; have HL_y65 := hide (HL_y63.out.trans (hl.mono HL_y63.out.size)); have Hf_y65 := hide (Hf_y63.out.below hl Hf_y63.out.lt); have RA_y65 := hide (RA_y63.out.later hl); have RD_y65 := hide (RD_y63.out.later hl); clear hz hl hs hg hbz hb1 hl1))
        have hdr : Below y65.heap.size y65 y65.drew := (Below.refl _ _).drew
        have HDR := hide hdr
        have HXR := hide (range_of64 (Hx_y65.out.below hdr Hx_y65.out.lt))
        obtain ⟨ad, hA, _, _, hcs⟩ := (RA_y65.out.later hdr).at HSS.out
        subst hA
        have HCS := hide hcs
        clear hcs hdr
        refine wp_region_held_drew (S := (fun W => W.rangeAt y63.heap.size 0 (B8 s) ∧ W = y65.drew)) (by kernel_rfl) ?_ (fun hHeld => ?_)
        · exact ⟨HXR.out, rfl⟩
        refine heldTake (i := 0) (v := .agg (B8 s).toArray) rfl (by kernel_rfl) (by kernel_rfl) (by kernel_rfl) (fun _ _ _ h => h) (yieldsIf_load_mid (by rfl) _ _ rfl _ _ rfl (B8 s) _ (fun W hW => hW.1) HUN.out rfl IS.out) (by assumption) ?_
        try simp only [Act.put, List.setIfInBounds_toArray, List.set_cons_zero, List.set_cons_succ]
        refine heldTake (i := 1) (v := ?_) rfl (by kernel_rfl) (by kernel_rfl) (by kernel_rfl) (fun _ _ _ h => h) (Or.inl ⟨by rfl, ?_⟩) (by assumption) ?_
        rotate_left
        · intro w hSw; (try dsimp only at hSw); go_simp <;> (with_reducible rfl)
        try simp only [Act.put, List.setIfInBounds_toArray, List.set_cons_zero, List.set_cons_succ]
        refine heldTake (i := 2) (v := ?_) rfl (by kernel_rfl) (by kernel_rfl) (by kernel_rfl) (fun _ _ _ h => h) (Or.inl ⟨by rfl, ?_⟩) (by assumption) ?_
        rotate_left
        · intro w hSw; (try dsimp only at hSw); go_simp <;> (with_reducible rfl)
        try simp only [Act.put, List.setIfInBounds_toArray, List.set_cons_zero, List.set_cons_succ]
        refine heldTake (i := 3) (v := ?_) rfl (by kernel_rfl) (by kernel_rfl) (by kernel_rfl) (fun _ _ _ h => h) (Or.inl ⟨by rfl, ?_⟩) (by assumption) ?_
        rotate_left
        · intro w hSw; (try dsimp only at hSw); go_simp <;> (with_reducible rfl)
        try simp only [Act.put, List.setIfInBounds_toArray, List.set_cons_zero, List.set_cons_succ]
        refine heldTake (i := 4) (v := .agg (B8 s).toArray) rfl (by kernel_rfl) (by kernel_rfl) (by kernel_rfl) (fun _ _ _ h => h) (Or.inl ⟨by rfl, fun W hW => by obtain ⟨_, hW⟩ := hW; subst hW; exact run_load_sec _ _ (.tmp 52) rfl (ad.add (k * 64)) rfl s IS.out HCS.out⟩) (by assumption) ?_
        try simp only [Act.put, List.setIfInBounds_toArray, List.set_cons_zero, List.set_cons_succ]
        refine heldTake (i := 5) (v := .bool false) rfl (by kernel_rfl) (by kernel_rfl) (by kernel_rfl) (fun _ _ _ h => h) (Or.inl ⟨by rfl, fun W hW => run_neq_secs UI.out W _ (.tmp 49) (.tmp 53) _ rfl s s LS.out LS.out rfl rfl false (by simp)⟩) (by assumption) ?_
        try simp only [Act.put, List.setIfInBounds_toArray, List.set_cons_zero, List.set_cons_succ]
        refine heldTake (i := 6) (v := ?_) rfl (by kernel_rfl) (by kernel_rfl) (by kernel_rfl) (fun _ _ _ h => h) (Or.inl ⟨by rfl, ?_⟩) (by assumption) ?_
        rotate_left
        · intro w hSw; (try dsimp only at hSw); go_simp <;> (with_reducible rfl)
        try simp only [Act.put, List.setIfInBounds_toArray, List.set_cons_zero, List.set_cons_succ]
        refine heldTake (i := 7) (v := ?_) rfl (by kernel_rfl) (by kernel_rfl) (by kernel_rfl) (fun _ _ _ h => h) (Or.inl ⟨by rfl, ?_⟩) (by assumption) ?_
        rotate_left
        · intro w hSw; (try dsimp only at hSw); go_simp <;> (with_reducible rfl)
        try simp only [Act.put, List.setIfInBounds_toArray, List.set_cons_zero, List.set_cons_succ]
        refine heldTake (i := 8) (v := ?_) rfl (by kernel_rfl) (by kernel_rfl) (by kernel_rfl) (fun _ _ _ h => h) (Or.inl ⟨by rfl, ?_⟩) (by assumption) ?_
        rotate_left
        · intro w hSw; (try dsimp only at hSw); go_simp <;> (with_reducible rfl)
        try simp only [Act.put, List.setIfInBounds_toArray, List.set_cons_zero, List.set_cons_succ]
        refine heldTake (i := 9) (v := ?_) rfl (by kernel_rfl) (by kernel_rfl) (by kernel_rfl) (fun _ _ _ h => h) (Or.inl ⟨by rfl, ?_⟩) (by assumption) ?_
        rotate_left
        · intro w hSw; (try dsimp only at hSw); go_simp <;> (with_reducible rfl)
        try simp only [Act.put, List.setIfInBounds_toArray, List.set_cons_zero, List.set_cons_succ]
        refine wpAnyH_done (by kernel_rfl) ?_ _
        go_wp2_with fail
        go_roundw
        case rel => exact ⟨k + 1, by simp, by omega, hide (RA_y65.out.later HDR.out), hide (Hf_y65.out.below HDR.out Hf_y65.out.lt), hide (HL_y65.out.trans (HDR.out.mono HL_y65.out.size))⟩
        case measure => simp [intOf]; omega
      · obtain ⟨u, hu⟩ : ∃ u, u = T / 512 := ⟨_, rfl⟩
        have hu1 : (T : Int) / 512 = (u : Int) := by omega
        have hu2 : u < 32768 := by omega
        obtain ⟨j, hj⟩ : ∃ j, j = u % N := ⟨_, rfl⟩
        have hjN0 : j < N := by rw [hj]; exact Nat.mod_lt _ hN1
        have hj1 : (u : Int) % (N : Int) = (j : Int) := by omega
        obtain ⟨e8, he8⟩ : ∃ e8, e8 = T / 8 := ⟨_, rfl⟩
        have he1 : (T : Int) / 8 = (e8 : Int) := by omega
        have he2 : e8 < 2097152 := by omega
        obtain ⟨b, hb⟩ : ∃ b, b = e8 % 64 := ⟨_, rfl⟩
        have hb1 : (e8 : Int) % 64 = (b : Int) := by omega
        have hb64 : b < 64 := by omega
        obtain ⟨t, ht⟩ : ∃ t, t = T % 8 := ⟨_, rfl⟩
        have ht1 : (T : Int) % 8 = (t : Int) := by omega
        have ht8 : t < 8 := by omega
        have hw1 : IntKind.i64.wrap (e8 : Int) = (e8 : Int) := IntWalk.i64_in _ (by omega)
        have hw2 : ((e8 : Int)).tmod 64 = (b : Int) := by rw [Int.tmod_eq_emod_of_nonneg (by omega)]; exact hb1
        have hw3 : ((T : Int)).tmod 8 = (t : Int) := by rw [Int.tmod_eq_emod_of_nonneg (by omega)]; exact ht1
        have hjw : (0 : Int) ≤ (j : Int) := by omega
        have hjn : (j : Int) < (N : Int) := by omega
        have hbw : (0 : Int) ≤ (b : Int) := by omega
        have hbn : (b : Int) < 64 := by omega
        have htw : (0 : Int) ≤ (t : Int) := by omega
        have htn : (t : Int) < 8 := by omega
        have hjl : j < M.length := by rw [HLM.out]; exact hjN0
        clear hu hj he8 hb ht
        obtain ⟨s, hs⟩ : ∃ s, M[j]? = some s := ⟨M[j]'hjl, List.getElem?_eq_getElem _⟩
        have hls : s.length = 64 := HSM.out s (List.mem_of_getElem? hs)
        obtain ⟨y, hy⟩ : ∃ y, s[b]? = some y := ⟨s[b]'(by omega), List.getElem?_eq_getElem _⟩
        obtain ⟨z, hz, hz0⟩ : ∃ z : UInt8, IntKind.u8.wrap (2 ^ min (IntKind.u64.wrap (t : Int)).toNat 8) = ((z.toNat : Nat) : Int) ∧ z ≠ 0 := one_bit ht8
        obtain ⟨g, cur, hA, hbg, hblk, hsz, hput⟩ := RA_wo.out.put (q := j) (f := s.set b (y ^^^ z)) hjl (by rw [List.length_set]; exact hls)
        subst hA
        have hcl := RA_wo.out.cells hblk hs
        have hdr : Below wo.heap.size wo wo.drew := (Below.refl _ _).drew
        have hbd := hblk.below hdr hblk.lt
        have hyc : (B8 s)[b]? = some (.int .u8 (y.toNat : Int)) := by simp [B8, hy]
        have hcy : wo.drew.cell? ⟨g, j * 64 + b, none⟩ = some (.int .u8 (y.toNat : Int)) := by rw [hbd.cell]; exact hcl b _ hyc
        have hcs : (cur.setIfInBounds (j * 64 + b) (.int .u8 ((y ^^^ z).toNat : Int))) = (cur.toList.take (j * 64) ++ B8 (s.set b (y ^^^ z)) ++ cur.toList.drop (j * 64 + (B8 (s.set b (y ^^^ z))).length)).toArray := poke_sec hls (by rw [B8_length, List.length_set, hls] at hsz; exact hsz) hb64 hcl
        have hlt : j * 64 + b < cur.size := by rw [B8_length, List.length_set, hls] at hsz; omega
        have hbit := turned_bit HSM.out HPM.out hs hy hz0
        rw [← hcs] at hput
        have HBD := hide hbd
        have HPUT := hide hput
        have HBG := hide hbg
        have HBIT := hide hbit
        have HDR := hide hdr
        have HLT := hide hlt
        have HZ := hide hz
        clear hs hls hy hz hz0 hbg hblk hsz hput hcl hdr hbd hyc hcs hlt hbit
        go_wp2_with fail
        refine wp_region_held_drew (S := (fun _ => True)) (by kernel_rfl) ?_ (fun hHeld => ?_)
        · exact trivial
        refine heldTake (i := 0) (v := ?_) rfl (by kernel_rfl) (by kernel_rfl) (by kernel_rfl) (fun _ _ _ h => h) (Or.inl ⟨by rfl, ?_⟩) (by assumption) ?_
        rotate_left
        · intro w hSw; (try dsimp only at hSw); go_simp <;> (with_reducible rfl)
        try simp only [Act.put, List.setIfInBounds_toArray, List.set_cons_zero, List.set_cons_succ]
        refine heldTake (i := 1) (v := ?_) rfl (by kernel_rfl) (by kernel_rfl) (by kernel_rfl) (fun _ _ _ h => h) (Or.inl ⟨by rfl, ?_⟩) (by assumption) ?_
        rotate_left
        · intro w hSw; (try dsimp only at hSw); go_simp <;> (with_reducible rfl)
        try simp only [Act.put, List.setIfInBounds_toArray, List.set_cons_zero, List.set_cons_succ]
        refine heldTake (i := 2) (v := ?_) rfl (by kernel_rfl) (by kernel_rfl) (by kernel_rfl) (fun _ _ _ h => h) (Or.inl ⟨by rfl, ?_⟩) (by assumption) ?_
        rotate_left
        · intro w hSw; (try dsimp only at hSw); go_simp <;> (with_reducible rfl)
        try simp only [Act.put, List.setIfInBounds_toArray, List.set_cons_zero, List.set_cons_succ]
        refine heldTake (i := 3) (v := ?_) rfl (by kernel_rfl) (by kernel_rfl) (by kernel_rfl) (fun _ _ _ h => h) (Or.inl ⟨by rfl, ?_⟩) (by assumption) ?_
        rotate_left
        · intro w hSw; (try dsimp only at hSw); go_simp <;> (with_reducible rfl)
        try simp only [Act.put, List.setIfInBounds_toArray, List.set_cons_zero, List.set_cons_succ]
        refine heldTake (i := 4) (v := ?_) rfl (by kernel_rfl) (by kernel_rfl) (by kernel_rfl) (fun _ _ _ h => h) (Or.inl ⟨by rfl, ?_⟩) (by assumption) ?_
        rotate_left
        · intro w hSw; (try dsimp only at hSw); go_simp <;> (with_reducible rfl)
        try simp only [Act.put, List.setIfInBounds_toArray, List.set_cons_zero, List.set_cons_succ]
        refine heldTake (i := 5) (v := ?_) rfl (by kernel_rfl) (by kernel_rfl) (by kernel_rfl) (fun _ _ _ h => h) (Or.inl ⟨by rfl, ?_⟩) (by assumption) ?_
        rotate_left
        · intro w hSw; (try dsimp only at hSw); go_simp <;> (with_reducible rfl)
        try simp only [Act.put, List.setIfInBounds_toArray, List.set_cons_zero, List.set_cons_succ]
        refine heldTake (i := 6) (v := ?_) rfl (by kernel_rfl) (by kernel_rfl) (by kernel_rfl) (fun _ _ _ h => h) (Or.inl ⟨by rfl, ?_⟩) (by assumption) ?_
        rotate_left
        · intro w hSw; (try dsimp only at hSw); go_simp <;> (with_reducible rfl)
        try simp only [Act.put, List.setIfInBounds_toArray, List.set_cons_zero, List.set_cons_succ]
        refine heldTake (i := 7) (v := ?_) rfl (by kernel_rfl) (by kernel_rfl) (by kernel_rfl) (fun _ _ _ h => h) (Or.inl ⟨by rfl, ?_⟩) (by assumption) ?_
        rotate_left
        · intro w hSw; (try dsimp only at hSw); go_simp <;> (with_reducible rfl)
        try simp only [Act.put, List.setIfInBounds_toArray, List.set_cons_zero, List.set_cons_succ]
        refine heldTake (i := 8) (v := ?_) rfl (by kernel_rfl) (by kernel_rfl) (by kernel_rfl) (fun _ _ _ h => h) (Or.inl ⟨by rfl, ?_⟩) (by assumption) ?_
        rotate_left
        · intro w hSw; (try dsimp only at hSw); go_simp <;> (with_reducible rfl)
        try simp only [Act.put, List.setIfInBounds_toArray, List.set_cons_zero, List.set_cons_succ]
        refine heldTake (i := 9) (v := ?_) rfl (by kernel_rfl) (by kernel_rfl) (by kernel_rfl) (fun _ _ _ h => h) (Or.inl ⟨by rfl, ?_⟩) (by assumption) ?_
        rotate_left
        · intro w hSw; (try dsimp only at hSw); go_simp <;> (with_reducible rfl)
        try simp only [Act.put, List.setIfInBounds_toArray, List.set_cons_zero, List.set_cons_succ]
        refine heldTake (i := 10) (v := ?_) rfl (by kernel_rfl) (by kernel_rfl) (by kernel_rfl) (fun _ _ _ h => h) (Or.inl ⟨by rfl, ?_⟩) (by assumption) ?_
        rotate_left
        · intro w hSw; (try dsimp only at hSw); go_simp <;> (with_reducible rfl)
        try simp only [Act.put, List.setIfInBounds_toArray, List.set_cons_zero, List.set_cons_succ]
        refine heldTake (i := 11) (v := ?_) rfl (by kernel_rfl) (by kernel_rfl) (by kernel_rfl) (fun _ _ _ h => h) (Or.inl ⟨by rfl, ?_⟩) (by assumption) ?_
        rotate_left
        · intro w hSw; (try dsimp only at hSw); go_simp <;> (with_reducible rfl)
        try simp only [Act.put, List.setIfInBounds_toArray, List.set_cons_zero, List.set_cons_succ]
        refine heldTake (i := 13) (v := ?_) rfl (by kernel_rfl) (by kernel_rfl) (by kernel_rfl) (fun _ _ _ h => h) (Or.inl ⟨by rfl, ?_⟩) (by assumption) ?_
        rotate_left
        · intro w hSw; (try dsimp only at hSw); go_simp <;> (with_reducible rfl)
        try simp only [Act.put, List.setIfInBounds_toArray, List.set_cons_zero, List.set_cons_succ]
        refine heldTake (i := 14) (v := ?_) rfl (by kernel_rfl) (by kernel_rfl) (by kernel_rfl) (fun _ _ _ h => h) (Or.inl ⟨by rfl, ?_⟩) (by assumption) ?_
        rotate_left
        · intro w hSw; (try dsimp only at hSw); go_simp <;> (with_reducible rfl)
        try simp only [Act.put, List.setIfInBounds_toArray, List.set_cons_zero, List.set_cons_succ]
        refine heldTake (i := 15) (v := ?_) rfl (by kernel_rfl) (by kernel_rfl) (by kernel_rfl) (fun _ _ _ h => h) (Or.inl ⟨by rfl, ?_⟩) (by assumption) ?_
        rotate_left
        · intro w hSw; (try dsimp only at hSw); go_simp <;> (with_reducible rfl)
        try simp only [Act.put, List.setIfInBounds_toArray, List.set_cons_zero, List.set_cons_succ]
        refine heldTake (i := 16) (v := ?_) rfl (by kernel_rfl) (by kernel_rfl) (by kernel_rfl) (fun _ _ _ h => h) (Or.inl ⟨by rfl, ?_⟩) (by assumption) ?_
        rotate_left
        · intro w hSw; (try dsimp only at hSw); go_simp <;> (with_reducible rfl)
        try simp only [Act.put, List.setIfInBounds_toArray, List.set_cons_zero, List.set_cons_succ]
        refine heldTake (i := 18) (v := ?_) rfl (by kernel_rfl) (by kernel_rfl) (by kernel_rfl) (fun _ _ _ h => h) (Or.inl ⟨by rfl, ?_⟩) (by assumption) ?_
        rotate_left
        · intro w hSw; (try dsimp only at hSw); go_simp <;> (with_reducible rfl)
        try simp only [Act.put, List.setIfInBounds_toArray, List.set_cons_zero, List.set_cons_succ]
        rw [HZ.out]
        refine wpAnyH_ready (rs := [12]) (by kernel_rfl) (by simp) ?_
        refine heldCons (i := 12) rfl (fun Kq hKq => ?_) AllReadyH.nil
        go_simp
        refine hKq.out _ _ trivial (fun hHeld => ?_)
        clear hKq Kq
        try simp only [Act.put, List.setIfInBounds_toArray, List.set_cons_zero, List.set_cons_succ]
        refine heldTake (i := 17) (v := ?_) rfl (by kernel_rfl) (by kernel_rfl) (by kernel_rfl) (fun _ _ _ h => h) (Or.inl ⟨by rfl, ?_⟩) (by assumption) ?_
        rotate_left
        · intro w hSw; (try dsimp only at hSw); go_simp <;> (with_reducible rfl)
        try simp only [Act.put, List.setIfInBounds_toArray, List.set_cons_zero, List.set_cons_succ]
        rw [bits_xor8]
        refine heldTake (i := 19) (v := ?_) rfl (by kernel_rfl) (by kernel_rfl) (by kernel_rfl) (fun _ _ _ h => h) (Or.inl ⟨by rfl, ?_⟩) (by assumption) ?_
        rotate_left
        · intro w hSw; (try dsimp only at hSw); go_simp <;> (with_reducible rfl)
        try simp only [Act.put, List.setIfInBounds_toArray, List.set_cons_zero, List.set_cons_succ]
        refine wpAnyH_ready (rs := [20]) (by kernel_rfl) (by simp) ?_
        refine heldCons (i := 20) rfl (fun Kq hKq => ?_) AllReadyH.nil
        refine step_pokeP rfl 5 (.tmp 85) (.tmp 83) rfl g (j * 64 + b) 24 cur HBD.out rfl (.int .u8 ((y ^^^ z).toNat : Int)) rfl rfl (by kernel_rfl) HLT.out ?_
        intro w5 hb5 hg5 hs5
        have RA5 := HPUT.out _ hb5
        have hl5 : Below w.heap.size w w5 := (HL_wo.out.trans (HDR.out.mono HL_wo.out.size)).grown hg5 (HL_wo.out.trans (HDR.out.mono HL_wo.out.size)).size (fun g0 e => (by injection e with e; have h1 := HBG.out; have h2 := HL_y2.out.size; omega))
        refine hKq.out _ _ trivial (fun hHeld => ?_)
        clear hKq Kq
        try simp only [Act.put]
        refine wpAnyH_done (by kernel_rfl) ?_ _
        go_wp2_with (first
          | (go_at_call 17; (with_reducible refine (RowS.check K RA5 (by rw [List.length_set]; exact HLM.out) (by omega)).mono ?_); rintro _ w6 ⟨rfl, hl6⟩; rw [HBIT.out]))
        go_ret
        exact ⟨rfl, hl5.trans (hl6.mono hl5.size)⟩
#print axioms parityBack_walk
end Go.Proofs.Ytdebdkagmnccjaa
