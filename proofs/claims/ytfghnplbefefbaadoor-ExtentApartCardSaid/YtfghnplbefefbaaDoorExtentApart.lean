/- ExtentApart holds: for every row of numbers that members' sizes are made of and every row of steps: what is taken lies in its member behind the base, is in the map, is not taken once more, and has no sector together with what is held; what is given back is free; in the end all that is used is held, and used and free are all. No condition besides the card's own: math/bits.deBruijn64tab is as its initialiser lays it. -/
import Derived.Test.YtfghnplbefefbaaDoorLaidT
import Derived.Test.YtfghnplbefefbaaDoorCards
import Derived.Test.YtfghnplbefefbaaDoorTie
import Derived.Test.YtfghnplbefefbaaDoorApartP
import Derived.Deep.DeepCutAuto
import Derived.Deep.CutBlock
import Derived.Deep.CutRange
import Derived.Deep.RegionHeld3
namespace Go.Proofs.YtfghnplbefefbaaDoor.ExtentApart
open Go.ChangeShapes Go.WideShapes Go.ChangeAt Go.RowKit
set_option linter.unusedVariables false
theorem int_parts : (Tryd.prog.info? 3).map (fun i => (i.zero, i.size, i.bytes)) = some (some (.int .i64 0), 1, 8) := by kernel_rfl
/-- The state while the members are added; .. while extents are taken and given back. -/
def A1 (wr w : World) (b : Nat) (vs : Value) (L : List Nat) : Prop :=
  ∃ F S, ExtOn wr b F S ∧ (∀ y, F y → w.heap.size ≤ y) ∧ InvA S L [] ∧ wr.ownsRow w.heap.size 3 1 vs L.length (I64 (L.map fun (N : Nat) => (N : Int))) ∧ (∀ g, vs.ownBlock = some g → ¬ F g) ∧ Below w.heap.size w wr ∧ Tab wr ∧ ∀ N ∈ L, N ≤ 4096
def A2 (wr w : World) (b : Nat) (F : Nat → Prop) (vs : Value) (L : List Nat) (h : Value) (l : List (Nat × Nat)) : Prop :=
  ∃ S, ExtOn wr b F S ∧ InvA S L l ∧ Held wr w.heap.size h l ∧ (∀ g, h.ownBlock = some g → ¬ F g ∧ vs.ownBlock ≠ some g) ∧ wr.ownsRow w.heap.size 3 1 vs L.length (I64 (L.map fun (N : Nat) => (N : Int))) ∧ Below w.heap.size w wr ∧ Tab wr
theorem size_row (L : List Nat) (N : Nat) : I64 ((L ++ [N]).map fun (N : Nat) => (N : Int)) = I64 (L.map fun (N : Nat) => (N : Int)) ++ [.int .i64 (N : Int)] := by simp [I64]
theorem size_at {L : List Nat} {d N : Nat} (h : L[d]? = some N) : (I64 (L.map fun (N : Nat) => (N : Int)))[d]? = some (.int .i64 (N : Int)) := by simp [I64, h]
set_option maxRecDepth 100000 in
set_option maxHeartbeats 16000000 in
theorem walk (A1_ : Option Addr) (n1 c1 : Nat) (l1 : List Int) (A2_ : Option Addr) (n2 c2 : Nat) (l2 : List Int) (w : World) (hT : Tab w)
    (hr1 : Reads w w.heap.size 1 A1_ n1 (I64 l1)) (_ : ∀ z ∈ l1, -9223372036854775808 ≤ z ∧ z ≤ 9223372036854775807) (hc1 : n1 ≤ c1) (hcc1 : c1 ≤ 9223372036854775807)
    (hr2 : Reads w w.heap.size 1 A2_ n2 (I64 l2)) (_ : ∀ z ∈ l2, -9223372036854775808 ≤ z ∧ z ≤ 9223372036854775807) (hc2 : n2 ≤ c2) (hcc2 : c2 ≤ 9223372036854775807) :
    Calls Tryd.prog 5 #[.slice A1_ n1 c1, .slice A2_ n2 c2] w fun e w' => e = .returned (.bool true) ∧ Below w.heap.size w w' := by
  obtain ⟨i0, hi0, hz0, hz1, hz2⟩ := info_parts ext_parts
  obtain ⟨i1, hj0, hj1, hj2, hj3⟩ := info_parts int_parts
  have HI0 := hide hi0
  have HZ0 := hide hz0
  have HZ1 := hide hz1
  have HZ2 := hide hz2
  have HJ0 := hide hj0
  have HJ1 := hide hj1
  have HJ2 := hide hj2
  have HJ3 := hide hj3
  have hpos := hT.pos
  clear hi0 hz0 hz1 hz2 hj0 hj1 hj2 hj3
  go_enter Tryd.func5, Tryd.ntmps5
  go_wp2_with fail
  refine (shown6_any w hT).mono ?_
  rintro _ w1 ⟨rfl, hb1⟩
  have hT1 := hT.later hb1
  clear hT
  have hz1' := hb1.size
  go_wp2_with fail
  refine (on_new w1 (by omega)).mono ?_
  rintro _ w2 ⟨rfl, ho2, hl2, hs2⟩
  obtain ⟨b, hb⟩ : ∃ b, b = w1.heap.size + 1 := ⟨_, rfl⟩
  rw [← hb] at ho2 ⊢
  have HP : Hid (A1 w2 w b (.slice none 0 0) []) := hide ⟨_, _, ho2, fun y hy => by omega, InvA.none_, World.ownsRow_nil _ _ _ _, fun g e => by simp [Value.ownBlock] at e, hb1.trans (hl2.mono hb1.size), hT1.later hl2, fun N h => by cases h⟩
  clear hb ho2 hb1 hT1 hl2 hs2 hz1'
  go_upto_block 0 with fail
  go_cut [7, 8, 9] (fun vs _ _ wx => ∃ L : List Nat, L.length ≤ 6 ∧ Hid (A1 wx w b vs L))
  case first =>
    go_wp2_with fail
    go_loopw [7, 8] (fun vs a wr => ∃ L : List Nat, L.length ≤ 6 ∧ a = .int .i64 (L.length : Int) ∧ Hid (A1 wr w b vs L)) (fun _ a _ => 6 - (intOf a).toNat)
    case atStart => exact ⟨[], by simp, rfl, HP⟩
    case round =>
      clear HP
      obtain ⟨L, hL6, rfl, HP⟩ := hrel
      obtain ⟨i, hi⟩ : ∃ i, i = L.length := ⟨_, rfl⟩
      have HI := hide hi
      rw [← hi] at hL6 ⊢
      clear hi
      by_cases hk : i < n1
      · have hd1 : decide (i < n1) = true := by simpa using hk
        by_cases h6 : i < 6
        · have hd2 : decide ((i : Int) < 6) = true := by simp; omega
          obtain ⟨F, S, hho, hhf, hinv, hrow, hvf, hhw, hht, hhn⟩ := HP.out
          obtain ⟨ad, x, rfl, hab, hx, hc⟩ := (hr1.below hhw).i64_at hk
          clear hx
          obtain ⟨M, N, hmask, hrem, hrem2, hN, hM⟩ := mask6 x
          rw [← HI.out] at hrow
          have HO := hide hho
          have HF := hide hhf
          have HINV := hide hinv
          have HR := hide hrow
          have HVF := hide hvf
          have HW := hide hhw
          have HT := hide hht
          have HHN := hide hhn
          have hzw := hhw.size
          clear hho hhf hinv hrow hvf hhw hht hhn HP
          go_wp2_with (first
            | (at_builtin; refine wpList_append_two _ rfl (.tmp 41) (.tmp 43) _ rfl w.heap.size 3 i1 _ 1 8 Tryd.underlying37 HJ0.out HJ1.out HJ2.out HJ3.out rfl (by decide) _ i _ rfl (HR.out.alloc _) (wr.heap.size + 1) (some ⟨wr.heap.size, 0, none⟩) 1 1 [.int .i64 (N : Int)] rfl (Reads.lump wr [.int .i64 (N : Int)] 3 (wr.heap.size + 1) 1 (by omega) rfl) (by intro u hu; simp at hu; subst hu; rfl) (by unfold maxLen; omega) (by omega) (le_alloc hzw _) ?_; intro h7 w7 hown7 hg7 hb7))
          have hla : Below wr.heap.size wr (wr.alloc (.cells #[.int .i64 (N : Int)] 3)) := (Below.refl _ wr).alloc (Nat.le_refl _) _
          have hza : (wr.alloc (.cells #[.int .i64 (N : Int)] 3)).heap.size = wr.heap.size + 1 := World.size_alloc _ _
          have ho7 := (HO.out.later hla).grown hg7 (fun g e => HVF.out g e)
          have hw7 : Below w.heap.size w w7 := (HW.out.trans (hla.mono HW.out.size)).grown hg7 (by omega) (fun g e => (World.ownsRow.lt HR.out g e).1)
          have ht7 := (HT.out.later hla).grown hg7 (fun e => by have := (World.ownsRow.lt HR.out 0 e.symm).1; omega)
          have hv7 : ∀ g, h7.ownBlock = some g → ¬ F g := by
            intro g e hf
            rcases hb7 with hb7 | hb7
            · exact HVF.out g (hb7 ▸ e) hf
            · rw [hb7] at e
              injection e with e
              have := (HO.out.1 g hf).2
              omega
          have hsz7 := hg7.size
          have hvl7 : ∀ g, h7.ownBlock = some g → g < w7.heap.size := fun g e => (World.ownsRow.lt hown7 g e).2
          have HO7 := hide ho7
          have HW7 := hide hw7
          have HT7 := hide ht7
          have HV7 := hide hv7
          have HVL7 := hide hvl7
          have HOWN7 := hide hown7
          clear hla hza ho7 hw7 ht7 hv7 hvl7 hg7 hb7 hown7 hmask hrem hrem2
          have hnot : i ∉ S.ks := by rw [HI.out]; exact HINV.out.out_ (Nat.le_refl _)
          have hlen : S.ks.length = i := by rw [HINV.out.ks, List.length_range, HI.out]
          obtain ⟨ha1, ha2⟩ := add_more (S := S) (d := i) (s := (N : Int)) (by omega) (by omega) hnot
          have HA1 := hide ha1
          have HA2 := hide ha2
          have HLEN := hide hlen
          clear ha1 ha2 hnot hlen
          go_wp2_with fail
          refine (on_add HO7.out (by rw [HLEN.out]; omega) (i : Int) (N : Int) (by omega) (by omega)).mono ?_
          rw [HA1.out, HA2.out]
          rintro _ w8 ⟨rfl, ho8, ht8⟩
          have hw8 := HW7.out.trans (ht8.below_ HW7.out.size HF.out)
          have hT8 := HT7.out.turned ht8 (fun h => by have := HF.out _ h; omega)
          have hr8 := own_turned HOWN7.out ht8 HV7.out
          have hF8 : ∀ y, Grew F w7 w8 y → w.heap.size ≤ y := fun y hy => by
            have := HW7.out.size
            rcases hy with hy | hy
            · exact HF.out y hy
            · omega
          have hV8 : ∀ g, h7.ownBlock = some g → ¬ Grew F w7 w8 g := fun g e hg => by
            rcases hg with hg | hg
            · exact HV7.out g e hg
            · have := HVL7.out g e; omega
          have hinv8 := HINV.out.add N
          rw [← HI.out] at hinv8
          have hsz8 := ht8.size
          obtain ⟨S8, hS8⟩ : ∃ S8, S8 = S.add i (countZ (N : Int)) := ⟨_, rfl⟩
          rw [← hS8] at hinv8 ho8
          have hin8 : i ∈ S8.ks := by rw [hS8]; exact add_ks _ _ _
          have hlen8 : S8.ks.length = i + 1 := by rw [hS8]; show (S.ks ++ [i]).length = _; rw [List.length_append, HLEN.out]; rfl
          have ha9 : addE S8 (i : Int) (N : Int) = 9 := by unfold addE; rw [if_neg (by omega), inE_of hin8]; rfl
          have hm9 : S8.more (i : Int) (N : Int) = S8 := by unfold Ext.more; rw [ha9]; rfl
          have HO8 := hide ho8
          have HW8 := hide hw8
          have HT8 := hide hT8
          have HR8 := hide hr8
          have HF8 := hide hF8
          have HV8 := hide hV8
          have HINV8 := hide hinv8
          have HA9 := hide ha9
          have HM9 := hide hm9
          have HLEN8 := hide hlen8
          clear ho8 hw8 hT8 hr8 hF8 hV8 hinv8 ht8 hS8 hin8 ha9 hm9 hlen8
          go_wp2_with fail
          refine (on_add HO8.out (by rw [HLEN8.out]; omega) (i : Int) (N : Int) (by omega) (by omega)).mono ?_
          rw [HA9.out, HM9.out]
          rintro _ w9 ⟨rfl, ho9, ht9⟩
          have HPN : Hid (A1 w9 w b h7 (L ++ [N])) := by
            refine hide ⟨_, S8, ho9, fun y hy => ?_, HINV8.out, ?_, fun g e hg => ?_, HW8.out.trans (ht9.below_ HW8.out.size HF8.out), HT8.out.turned ht9 (fun h => by have := HF8.out _ h; omega), fun Q hQ => ?_⟩
            · have := HW8.out.size
              rcases hy with hy | hy
              · exact HF8.out y hy
              · omega
            · rw [List.length_append, size_row, ← HI.out]
              exact own_turned HR8.out ht9 HV8.out
            · have := HVL7.out g e
              rcases hg with hg | hg
              · exact HV8.out g e hg
              · omega
            · rcases List.mem_append.1 hQ with h | h
              · exact HHN.out Q h
              · simp at h; omega
          have HLL : Hid ((L ++ [N]).length = i + 1) := hide (by rw [List.length_append, HI.out]; rfl)
          clear ho9 ht9
          go_wp2
          go_roundw
          case rel => exact ⟨L ++ [N], by rw [HLL.out]; omega, by rw [HLL.out]; go_num, HPN⟩
          case measure => simp [intOf]; omega
        · have hd2 : decide ((i : Int) < 6) = false := by simp; omega
          go_wp2_with fail
          go_meet
          exact ⟨L, by rw [← HI.out]; exact hL6, HP⟩
      · have hd1 : decide (i < n1) = false := by simpa using hk
        go_wp2_with fail
        go_meet
        exact ⟨L, by rw [← HI.out]; exact hL6, HP⟩
  case rest =>
    clear HP
    obtain ⟨L, hL6, HP⟩ := hcut
    obtain ⟨F, S, hho, hhf, hinv, hrow, hvf, hhw, hht, hhn⟩ := HP.out
    obtain ⟨A0, c0, rfl, hlc0, hcm0⟩ := own_shape hrow
    have HF := hide hhf
    have HVF := hide hvf
    have HHN := hide hhn
    by_cases hL : L.length = 0
    · have hnil : L = [] := List.eq_nil_of_length_eq_zero hL
      have HO := hide hho
      have HW := hide hhw
      have HD := hide (on_disks hho)
      have hks : S.ks.length = 0 := by rw [hinv.ks, List.length_range]; exact hL
      rw [hks] at HD
      have hLI : ((L.length : Int) == 0) = true := by rw [hL]; rfl
      have hLE : (L.length : Int) = 0 := by omega
      clear hho hhf hinv hrow hvf hhw hht hhn HP hnil hks
      go_wp2_with fail
      refine HD.out.mono ?_
      rintro _ w3 ⟨v3, rfl, hr3, hl3⟩
      obtain ⟨A3, c3, rfl, _, _⟩ := own_shape hr3
      go_wp2_with fail
      go_ret
      exact ⟨rfl, HW.out.trans (hl3.mono HW.out.size)⟩
    · have hLI : ((L.length : Int) == 0) = false := by rw [beq_eq_false_iff_ne]; omega
      have hLp : 0 < L.length := by omega
      obtain ⟨g0, c0', hv0, _, _⟩ := World.ownsRow.form hrow hLp
      injection hv0 with hA0 _ hcc0
      subst hA0
      subst hcc0
      have HP2 : Hid (A2 wc w b F (.slice (some ⟨g0, 0, none⟩) L.length c0) L (.slice none 0 0) []) := hide ⟨S, hho, hinv, World.ownsRow_nil _ _ _ _, fun g e => by simp [Value.ownBlock] at e, hrow, hhw, hht⟩
      clear hho hhf hinv hrow hvf hhw hht hhn HP hL
      go_upto_block 2 with fail
      clear hLI
      go_cut [10, 11, 12, 13, 14, 15, 16, 17, 18] (fun h _ _ _ _ _ _ _ _ wx => ∃ l : List (Nat × Nat), l.length ≤ 200 ∧ Hid (A2 wx w b F (.slice (some ⟨g0, 0, none⟩) L.length c0) L h l))
      case first =>
        go_wp2_with fail
        go_loopw [10, 11] (fun h a wr => ∃ (i : Nat) (l : List (Nat × Nat)), i ≤ 200 ∧ l.length ≤ i ∧ a = .int .i64 (i : Int) ∧ Hid (A2 wr w b F (.slice (some ⟨g0, 0, none⟩) L.length c0) L h l)) (fun _ a _ => 200 - (intOf a).toNat)
        case atStart => exact ⟨0, [], by omega, by simp, rfl, HP2⟩
        case round =>
          clear HP2
          obtain ⟨i, l, hi2, hli, rfl, HP⟩ := hrel
          by_cases hk : i < n2
          · have hd1 : decide (i < n2) = true := by simpa using hk
            by_cases h200 : i < 200
            · have hd2 : decide ((i : Int) < 200) = true := by simp; omega
              obtain ⟨S, hho, hinv, hhe, hbl, hrow, hhw, hht⟩ := HP.out
              have HO := hide hho
              have HINV := hide hinv
              have HHE := hide hhe
              have HBL := hide hbl
              have HR := hide hrow
              have HW := hide hhw
              have HT := hide hht
              clear hho hinv hhe hbl hrow hhw hht HP
              obtain ⟨A, c, rfl, hlc, hcm⟩ := HHE.out.shape
              obtain ⟨ad, x, rfl, hab, hx, hc⟩ := (hr2.below HW.out).i64_at hk
              clear hx
              obtain ⟨M, hmask, hM⟩ := mask24 x
              obtain ⟨z, hz⟩ : ∃ z, z = M % 4 := ⟨_, rfl⟩
              have hand := mask2 M
              rw [← hz] at hand
              clear hz
              obtain ⟨M4, hM4⟩ : ∃ M4, M4 = M / 4 := ⟨_, rfl⟩
              have hsh : (M : Int) / 4 = (M4 : Int) := by omega
              have hM4b : M4 ≤ 16777215 := by omega
              clear hM4
              by_cases hzz : z = 0 ∧ 0 < l.length
              · obtain ⟨hz0, hlp⟩ := hzz
                have hand0 : bits .and .i64 (M : Int) 3 = 0 := by rw [hand, hz0]; rfl
                clear hand
                have hlp2 : (0 : Int) < (l.length : Int) := by omega
                obtain ⟨k, hk⟩ : ∃ k, k = M4 % l.length := ⟨_, rfl⟩
                have hkl : k < l.length := by rw [hk]; exact Nat.mod_lt _ hlp
                have hrem : (M4 : Int) % (l.length : Int) = (k : Int) := by rw [hk]; exact (Int.natCast_emod _ _).symm
                have hrem2 : (M4 : Int).tmod (l.length : Int) = (k : Int) := by rw [Int.tmod_eq_emod_of_nonneg (by omega)]; exact hrem
                have hlne : ¬ ((l.length : Int) = 0) := by omega
                clear hk
                obtain ⟨x, hx⟩ : ∃ x, l[k]? = some x := ⟨l[k], List.getElem?_eq_getElem hkl⟩
                obtain ⟨ad2, c', hv, _, _, hcx, _, _⟩ := HHE.out.cell hx
                injection hv with hA _ hcc
                subst hA
                subst hcc
                obtain ⟨hdL, hjn, hfe, hpk, hfe9, hpk9⟩ := HINV.out.free hx
                have hinv := HINV.out.less hx
                have hnd : S.n x.1 ≤ 497 := HO.out.ok.small x.1 (HINV.out.in_ hdL)
                have HX := hide hx
                obtain ⟨d, j⟩ := x
                obtain ⟨S2, hS2⟩ : ∃ S2, S2 = S.setT d (put (S.t d) j false) := ⟨_, rfl⟩
                simp only at hcx hdL hjn hfe hpk hfe9 hpk9 hinv hnd
                rw [← hS2] at hinv hpk hfe9 hpk9
                have HCX := hide hcx
                have HFE := hide hfe
                have HPK := hide hpk
                have HFE9 := hide hfe9
                have HPK9 := hide hpk9
                have HINV2 := hide hinv
                clear hcx hfe hpk hfe9 hpk9 hinv hx hS2
                go_wp2_with (first
                  | ((with_reducible refine at_slot 99 ?_); refine when_load_at rfl 45 (.tmp 98) rfl (ad2.add (k * 2)) rfl (exC (d, j)) _ HCX.out Tryd.underlying45 rfl ext2_info ?_))
                refine (on_free HO.out (d : Int) (114 + 8 * (j : Int)) (by omega) (by omega) (by omega) (by omega)).mono ?_
                rw [HFE.out, HPK.out]
                rintro _ v5 ⟨rfl, ho5, ht5⟩
                have hh5 := HHE.out.turned ht5 (fun g hg => (HBL.out g hg).1)
                have hr5 := own_turned HR.out ht5 HVF.out
                have hw5 := HW.out.trans (ht5.below_ HW.out.size HF.out)
                have htb5 := HT.out.turned ht5 (fun h => by have := HF.out _ h; omega)
                have HO5 := hide ho5
                have HHE5 := hide hh5
                have HR5 := hide hr5
                have HW5 := hide hw5
                have HT5 := hide htb5
                clear hh5 hr5 hw5 htb5 ho5 ht5
                have hcx5 : ∀ (j_ : Nat) u, (exC (d, j))[j_]? = some u → v5.cell? ((ad2.add (k * 2)).add j_) = some u := by
                  obtain ⟨ad3, c3, hv3, _, _, h3, _, _⟩ := HHE5.out.cell HX.out
                  injection hv3 with hA3
                  injection hA3 with hA3
                  subst hA3
                  exact h3
                have HCX5 := hide hcx5
                clear hcx5
                go_wp2_with (first
                  | ((with_reducible refine at_slot 107 ?_); refine when_load_at rfl 45 (.tmp 106) rfl (ad2.add (k * 2)) rfl (exC (d, j)) _ HCX5.out Tryd.underlying45 rfl ext2_info ?_))
                refine (on_free HO5.out (d : Int) (114 + 8 * (j : Int)) (by omega) (by omega) (by omega) (by omega)).mono ?_
                rw [HFE9.out, HPK9.out]
                rintro _ v6 ⟨rfl, ho6, ht6⟩
                have hh6 := HHE5.out.turned ht6 (fun g hg => (HBL.out g hg).1)
                have hr6 := own_turned HR5.out ht6 HVF.out
                have hw6 := HW5.out.trans (ht6.below_ HW5.out.size HF.out)
                have htb6 := HT5.out.turned ht6 (fun h => by have := HF.out _ h; omega)
                have HO6 := hide ho6
                have HHE6 := hide hh6
                have HR6 := hide hr6
                have HW6 := hide hw6
                have HT6 := hide htb6
                clear hh6 hr6 hw6 htb6 ho6 ht6
                have hkc : k ≤ c := by omega
                have hkw : IntKind.i64.wrap ((k : Int) + 1) = (k : Int) + 1 := IntWalk.i64_in _ (by omega)
                have hkl0 : (0 : Int) ≤ (k : Int) + 1 := by omega
                have hkl1 : (k : Int) + 1 ≤ (l.length : Int) := by omega
                have hkt : ((k : Int) + 1).toNat = k + 1 := by omega
                go_wp2_with fail
                obtain ⟨x1, y1, x2, y2, hrun1, hrun2, hh6, hl6, hbl6⟩ := Held.less (HHE6.out.drew) HW6.out.drew.size (by omega) hkl rfl hlc 41 41
                have HH7 := hide hh6
                have HL7 := hide (show Below v6.heap.size v6 y2 from ((Below.refl _ v6).drew).trans hl6)
                have HBL7 := hide hbl6
                have hq1 : (Builtin.append_ #[41, 41] 41 #[.slice (some ⟨v6.heap.size, 0, none⟩) 0 0, .slice (some ad2) k c]).run Tryd.prog (v6.alloc (.cells #[] 45)).drew = .ok x1 y1 := hrun1
                have hq2 : (Builtin.append_ #[41, 41] 41 #[x1, .slice (if c = k + 1 then some ad2 else some (ad2.add ((k + 1) * 2))) (l.length - (k + 1)) (c - (k + 1))]).run Tryd.prog y1 = .ok x2 y2 := hrun2
                clear hh6 hl6 hbl6 hrun1 hrun2
                go_region_law (first
                  | (refine step_known rfl (.tmp 111) (.tmp 114) 41 rfl _ _ rfl rfl x1 y1 hq1 ?_)
                  | (refine step_known rfl (.tmp 115) (.tmp 119) 41 rfl _ _ rfl rfl x2 y2 hq2 ?_))
                clear hq1 hq2 hkw hkl0 hkl1 hkt hkc
                have HPN : Hid (A2 y2 w b F (.slice (some ⟨g0, 0, none⟩) L.length c0) L x2 (l.eraseIdx k)) := by
                  refine hide ⟨S2, HO6.out.later HL7.out, HINV2.out, HH7.out, fun g e => ?_, own_later HR6.out HL7.out, HW6.out.trans (HL7.out.mono HW6.out.size), HT6.out.later HL7.out⟩
                  have h1 := HBL7.out g e
                  have h2 : v6.drew.heap.size = v6.heap.size := rfl
                  refine ⟨fun hf => ?_, fun h3 => ?_⟩
                  · have := (HO6.out.1 g hf).2
                    omega
                  · have := (World.ownsRow.lt HR6.out g h3).2
                    omega
                have HEL : Hid ((l.eraseIdx k).length + 1 = l.length) := hide (by rw [List.length_eraseIdx, if_pos hkl]; omega)
                go_wp2
                go_roundw
                case rel => exact ⟨i + 1, l.eraseIdx k, by omega, by have := HEL.out; omega, by go_num, HPN⟩
                case measure => simp [intOf]; omega

              · by_cases hzn : z = 0
                · have hlz : ¬ ((0 : Int) < (l.length : Int)) := by omega
                  have hlz2 : decide (0 < l.length) = false := by simp only [decide_eq_false_iff_not]; omega
                  have hand0 : bits .and .i64 (M : Int) 3 = 0 := by rw [hand, hzn]; rfl
                  clear hand hzz hzn
                  as_aux_lemma =>
                    obtain ⟨d, hd⟩ : ∃ d, d = M4 % L.length := ⟨_, rfl⟩
                    have hdL : d < L.length := by rw [hd]; exact Nat.mod_lt _ hLp
                    have hrem : (M4 : Int) % (L.length : Int) = (d : Int) := by rw [hd]; exact (Int.natCast_emod _ _).symm
                    have hrem2 : (M4 : Int).tmod (L.length : Int) = (d : Int) := by rw [Int.tmod_eq_emod_of_nonneg (by omega)]; exact hrem
                    have hLne : ¬ ((L.length : Int) = 0) := by omega
                    clear hd
                    obtain ⟨N, hNd⟩ : ∃ N, L[d]? = some N := ⟨L[d], List.getElem?_eq_getElem hdL⟩
                    have hN4 : N ≤ 4096 := HHN.out N (List.mem_iff_getElem?.2 ⟨d, hNd⟩)
                    have hin := HINV.out.in_ hdL
                    have hSn := HINV.out.n d N hNd
                    have hsm : S.n d ≤ 497 := HO.out.ok.small d hin
                    have hcl := cnt_le (S.t d) (S.n d)
                    have hroom : roomE S (d : Int) = S.n d - cnt (S.t d) (S.n d) := roomE_in hin
                    have HIN := hide hin
                    have HSN := hide hSn
                    have HND := hide hNd
                    have HRO := hide hroom
                    clear hin hSn hNd hroom
                    by_cases hfull : cnt (S.t d) (S.n d) = S.n d
                    · have HR0 : Hid (roomE S (d : Int) = 0) := hide (by rw [HRO.out]; omega)
                      have HALL := hide (fun i hi => cnt_full hfull i hi)
                      clear hfull hcl
                      go_wp2_with fail
                      refine (on_room HO.out (d : Int) (by omega) (by omega)).mono ?_
                      rw [HR0.out]
                      rintro _ _ ⟨rfl, rfl⟩
                      clear hlz hlz2 hand0
                      go_wp2_with fail
                      refine (on_take_full HO.out HT.out d HIN.out HALL.out).mono ?_
                      rintro _ v5 ⟨rfl, ho5, ht5⟩
                      have hh5 := HHE.out.turned ht5 (fun g hg => (HBL.out g hg).1)
                      have hr5 := own_turned HR.out ht5 HVF.out
                      have hw5 := HW.out.trans (ht5.below_ HW.out.size HF.out)
                      have htb5 := HT.out.turned ht5 (fun h => by have := HF.out _ h; omega)
                      have HO5 := hide ho5
                      have HHE5 := hide hh5
                      have HR5 := hide hr5
                      have HW5 := hide hw5
                      have HT5 := hide htb5
                      clear hh5 hr5 hw5 htb5 ho5 ht5
                      go_wp2_with (first
                        | ((with_reducible refine at_slot 16 ?_); refine wpList_alloc_blk rfl 45 rfl _ (Tryd.zeroValue45 _) ?_; intro u hba hla hsa; clear hsa)
                        | ((with_reducible refine at_store 16 ?_); refine wpList_store_all rfl 45 (.tmp 16) (.tmp 133) rfl v5.heap.size 45 _ hba rfl [.int .i64 0, .int .i64 0] rfl ext2_info rfl (ext2_one _ _) ?_; intro w6 hbq hg hs; clear hs))
                      have hl6 : Below v5.heap.size v5 w6 := hla.grown hg hla.size (fun g e => by injection e with e; omega)
                      have HPN : Hid (A2 w6 w b F (.slice (some ⟨g0, 0, none⟩) L.length c0) L (.slice A l.length c) l) := hide ⟨S, HO5.out.later hl6, HINV.out, HHE5.out.later hl6, HBL.out, own_later HR5.out hl6, HW5.out.trans (hl6.mono HW5.out.size), HT5.out.later hl6⟩
                      clear hba hla hbq hg hl6
                      go_wp2
                      go_roundw
                      case rel => exact ⟨i + 1, l, by omega, by omega, by go_num, HPN⟩
                      case measure => simp [intOf]; omega
                    · obtain ⟨R, hR⟩ : ∃ R, R = roomE S (d : Int) := ⟨_, rfl⟩
                      have hRp : (0 : Int) < (R : Int) := by rw [hR, HRO.out]; omega
                      have HRR := hide hR.symm
                      have hRn : decide (0 < R) = true := by simp; omega
                      obtain ⟨k, hk, htk, hlow⟩ := least_free (S.t d) (S.n d) (by omega)
                      obtain ⟨hinv7, hno⟩ := HINV.out.more hdL hk htk
                      obtain ⟨hf0, hf9, hpk⟩ := HINV.out.took hdL hk
                      have hfit : 114 + 8 * ((k : Int) + 1) ≤ (N : Int) := countZ_lt.1 (by rw [← HSN.out]; exact hk)
                      have hfit2 : decide ((N : Int) < 114 + 8 * (k : Int) + 8) = false := by rw [decide_eq_false_iff_not]; omega
                      have hlow2 : decide ((114 : Int) + 8 * (k : Int) < 114) = false := by rw [decide_eq_false_iff_not]; omega
                      have HTK := hide htk
                      have HLOW := hide hlow
                      have HKN := hide hk
                      have hk497 : k < 497 := by omega
                      obtain ⟨S2, hS2⟩ : ∃ S2, S2 = S.setT d (put (S.t d) k true) := ⟨_, rfl⟩
                      rw [← hS2] at hinv7 hf0 hf9 hpk
                      have HS2 := hide hS2.symm
                      have HINV7 := hide hinv7
                      have HNO := hide hno
                      have HF0 := hide hf0
                      have HF9 := hide hf9
                      have HPK := hide hpk
                      clear hR hk htk hlow hinv7 hno hf0 hf9 hpk hS2 hfull hcl hfit
                      go_wp2_with fail
                      refine (on_room HO.out (d : Int) (by omega) (by omega)).mono ?_
                      rw [HRR.out]
                      rintro _ _ ⟨rfl, rfl⟩
                      clear hlz hlz2 hand0
                      go_wp2_with fail
                      refine (on_take_yes HO.out HT.out d k HIN.out HKN.out HTK.out HLOW.out).mono ?_
                      rw [HS2.out]
                      rintro _ v5 ⟨rfl, ho5, ht5⟩
                      have hh5 := HHE.out.turned ht5 (fun g hg => (HBL.out g hg).1)
                      have hr5 := own_turned HR.out ht5 HVF.out
                      have hw5 := HW.out.trans (ht5.below_ HW.out.size HF.out)
                      have htb5 := HT.out.turned ht5 (fun h => by have := HF.out _ h; omega)
                      have HO5 := hide ho5
                      have HHE5 := hide hh5
                      have HR5 := hide hr5
                      have HW5 := hide hw5
                      have HT5 := hide htb5
                      clear hh5 hr5 hw5 htb5 ho5 ht5
                      go_wp2_with (first
                        | ((with_reducible refine at_slot 16 ?_); refine wpList_alloc_blk rfl 45 rfl _ (Tryd.zeroValue45 _) ?_; intro u hba hla hsa; clear hsa)
                        | ((with_reducible refine at_store 16 ?_); refine wpList_store_all rfl 45 (.tmp 16) (.tmp 133) rfl v5.heap.size 45 _ hba rfl (exC (d, k)) rfl ext2_info rfl (exC_one _) ?_; intro w6 hbq hg hs; clear hs))
                      have hl6 : Below v5.heap.size v5 w6 := hla.grown hg hla.size (fun g e => by injection e with e; omega)
                      have hgx : v5.heap.size < w6.heap.size := hbq.lt
                      have HO6 := hide (HO5.out.later hl6)
                      have HHE6 := hide (HHE5.out.later hl6)
                      have HR6 := hide (own_later HR5.out hl6)
                      have HW6 := hide (HW5.out.trans (hl6.mono HW5.out.size))
                      have HT6 := hide (HT5.out.later hl6)
                      have HBX := hide hbq
                      have HFX : Hid (¬ F v5.heap.size) := hide (fun hf => by have := (HO5.out.1 _ hf).2; omega)
                      clear hba hla hbq hg hl6
                      have x0 : w6.cell? ⟨v5.heap.size, 0, none⟩ = some (.int .i64 (d : Int)) := HBX.out.cell 0
                      have x1 : w6.cell? ⟨v5.heap.size, 1, none⟩ = some (.int .i64 (114 + 8 * (k : Int))) := HBX.out.cell 1
                      have x0d : w6.drew.cell? ⟨v5.heap.size, 0, none⟩ = some (.int .i64 (d : Int)) := x0
                      have x1d : w6.drew.cell? ⟨v5.heap.size, 1, none⟩ = some (.int .i64 (114 + 8 * (k : Int))) := x1
                      have s0 : w6.cell? ⟨g0, d, none⟩ = some (.int .i64 (N : Int)) := (HR6.out.cellAt d (by omega)).trans (size_at HND.out)
                      have s0d : w6.drew.cell? ⟨g0, d, none⟩ = some (.int .i64 (N : Int)) := s0
                      have hdLi : (d : Int) < (L.length : Int) := by omega
                      have hx8 : IntKind.i64.wrap (114 + 8 * (k : Int) + 8) = 114 + 8 * (k : Int) + 8 := IntWalk.i64_in _ (by omega)
                      have HKP : Hid (∀ W', Turn F w6 W' → (W'.cell? ⟨v5.heap.size, 0, none⟩ = some (.int .i64 (d : Int)) ∧ W'.cell? ⟨v5.heap.size, 1, none⟩ = some (.int .i64 (114 + 8 * (k : Int))) ∧ W'.cell? ⟨g0, d, none⟩ = some (.int .i64 (N : Int)))) := by
                        refine hide (fun W' h => ⟨(h.cell (p := ⟨v5.heap.size, 0, none⟩) hgx HFX.out).trans x0, (h.cell (p := ⟨v5.heap.size, 1, none⟩) hgx HFX.out).trans x1, ?_⟩)
                        exact ((own_turned HR6.out h HVF.out).cellAt d (by omega)).trans (size_at HND.out)
                      have HHAS : Hid (Calls Tryd.prog 27 #[.pointer (some ⟨b, 0, none⟩), .agg #[.int .i64 (d : Int), .int .i64 (114 + 8 * (k : Int))]] w6.drew fun e w' => e = .returned (.bool true) ∧ ExtOn w' b F S2 ∧ Turn F w6 w') := hide ((on_has HO6.out.drew (d : Int) (114 + 8 * (k : Int)) (by omega) (by omega) (by omega) (by omega)).mono (fun e w' ⟨m1, m2, m3⟩ => ⟨by rw [m1, HF0.out]; rfl, m2, (Turn.refl F w6).drew.trans m3⟩))
                      clear x0 x1 x0d x1d s0 s0d
                      go_wp2_with fail
                      go_region_held3 (fun W' => (W'.cell? ⟨v5.heap.size, 0, none⟩ = some (.int .i64 (d : Int)) ∧ W'.cell? ⟨v5.heap.size, 1, none⟩ = some (.int .i64 (114 + 8 * (k : Int))) ∧ W'.cell? ⟨g0, d, none⟩ = some (.int .i64 (N : Int)))) (first | assumption | exact HKP.out _ htt8 | exact HKP.out _ htt7 | exact HKP.out _ ((Turn.refl F w6).drew) | exact HKP.out _ (Turn.refl F w6)) (first
                        | (go_at_call 27; refine HHAS.out.mono ?_; rintro _ v7 ⟨rfl, ho7, htt7⟩)
                        | (go_at_call 28; refine (on_takeAt ho7 (d : Int) (114 + 8 * (k : Int)) (by omega) (by omega) (by omega) (by omega)).mono ?_; rw [HF9.out, HPK.out]; rintro _ v8 ⟨rfl, ho8, ht8⟩; have htt8 : Turn F w6 v8 := htt7.trans ht8))
                      all_goals
                        have htt : Turn F w6 v8 := htt8
                        have hh8 := HHE6.out.turned htt (fun g hg => (HBL.out g hg).1)
                        have hr8 := own_turned HR6.out htt HVF.out
                        have hw8 := HW6.out.trans (htt.below_ HW6.out.size HF.out)
                        have hT8 := HT6.out.turned htt (fun h => by have := HF.out _ h; omega)
                        have hb8 := HBX.out.turned htt HFX.out
                        have HO8 := hide ho8
                        have HHE8 := hide hh8
                        have HR8 := hide hr8
                        have HW8 := hide hw8
                        have HT8 := hide hT8
                        have HB8 := hide hb8
                        clear hx8 htt hh8 hr8 hw8 hT8 hb8 ho7 ho8 htt7 htt8 ht8 hfit2 hlow2
                        go_wp2_with fail
                        go_loopw [18] (fun a wx => ∃ n : Nat, n ≤ l.length ∧ a = .int .i64 (n : Int) ∧ Below v8.heap.size v8 wx) (fun a _ => l.length - (intOf a).toNat)
                        case atStart => exact ⟨0, Nat.zero_le _, rfl, Below.refl _ _⟩
                        case round =>
                          obtain ⟨n, hn, rfl, hbx⟩ := hrel
                          by_cases hnl : n < l.length
                          · have hnn : (n : Int) < (l.length : Int) := by omega
                            obtain ⟨y, hy⟩ : ∃ y, l[n]? = some y := ⟨l[n], List.getElem?_eq_getElem hnl⟩
                            obtain ⟨ad2, c', hv, _, _, _, hy0, hy1⟩ := (HHE8.out.later hbx).cell hy
                            injection hv with hA _ hcc
                            subst hA
                            subst hcc
                            have hym : y ∈ l := List.mem_iff_getElem?.2 ⟨n, hy⟩
                            have hyb := (HINV.out.mem y.1 y.2).1 hym
                            have hyn : S.n y.1 ≤ 497 := HO.out.ok.small y.1 (HINV.out.in_ hyb.1)
                            have hy2 : y.2 < 497 := by omega
                            obtain ⟨e, j⟩ := y
                            simp only at hy0 hy1 hy2
                            have x0 : wr.cell? ⟨v5.heap.size, 0, none⟩ = some (.int .i64 (d : Int)) := (HB8.out.below hbx HB8.out.lt).cell 0
                            have x1 : wr.cell? ⟨v5.heap.size, 1, none⟩ = some (.int .i64 (114 + 8 * (k : Int))) := (HB8.out.below hbx HB8.out.lt).cell 1
                            have HYM := hide hym
                            clear hy hym hyb hyn
                            by_cases hed : e = d
                            · have hde : ((e : Int) == (d : Int)) = true := by rw [hed]; exact beq_self_eq_true _
                              have hjk : j ≠ k := fun h => HNO.out (by rw [← hed, ← h]; exact HYM.out)
                              by_cases hlt : j < k
                              · have hc1' : decide ((114 : Int) + 8 * (j : Int) < 114 + 8 * (k : Int) + 8) = true := by simp; omega
                                have hc2' : decide ((114 : Int) + 8 * (k : Int) < 114 + 8 * (j : Int) + 8) = false := by simp; omega
                                clear hed hjk
                                go_wp2_with fail
                                go_quiet (first | fail)
                                go_wp2
                                go_roundw
                                case rel => exact ⟨n + 1, by omega, by go_num, below_drewN hbx _⟩
                                case measure => simp [intOf]; omega
                              · have hc1' : decide ((114 : Int) + 8 * (j : Int) < 114 + 8 * (k : Int) + 8) = false := by simp; omega
                                clear hed hjk
                                go_wp2_with fail
                                go_quiet (first | fail)
                                go_wp2
                                go_roundw
                                case rel => exact ⟨n + 1, by omega, by go_num, below_drewN hbx _⟩
                                case measure => simp [intOf]; omega
                            · have hde : ((e : Int) == (d : Int)) = false := by rw [beq_eq_false_iff_ne]; omega
                              clear hed
                              go_wp2_with fail
                              go_quiet (first | fail)
                              go_wp2
                              go_roundw
                              case rel => exact ⟨n + 1, by omega, by go_num, below_drewN hbx _⟩
                              case measure => simp [intOf]; omega
                          · have hnn : ¬ ((n : Int) < (l.length : Int)) := by omega
                            have HBq := hide (HB8.out.below hbx HB8.out.lt)
                            have HOWN0 := hide (HHE8.out.later hbx)
                            have HOq := hide (HO8.out.later hbx)
                            have HRq := hide (own_later HR8.out hbx)
                            have HWq := hide (HW8.out.trans (hbx.mono HW8.out.size))
                            have HTq := hide (HT8.out.later hbx)
                            have hzw : w.heap.size ≤ wr.heap.size := HWq.out.size
                            clear hbx
                            go_wp2_with (first
                              | ((with_reducible refine at_slot 209 ?_); refine when_load rfl 45 (.tmp 16) rfl v5.heap.size 0 45 _ HBq.out rfl (exC (d, k)) _ (fun j v hj => by rw [Nat.zero_add]; simpa using hj) Tryd.underlying45 rfl ext2_info ?_)
                              | ((with_reducible refine at_slot 210 ?_); refine wpList_build_agg _ rfl (.tmp 209) 41 rfl 45 i0 _ 2 Tryd.underlying41 HI0.out (Tryd.zeroValue45 _) HZ1.out (by decide) (by decide) (exC (d, k)).toArray rfl rfl ?_)
                              | (at_builtin; refine wpList_append_two _ rfl (.tmp 208) (.tmp 210) _ rfl w.heap.size 45 i0 _ 2 16 Tryd.underlying41 HI0.out HZ0.out HZ1.out HZ2.out rfl (by decide) _ l.length _ rfl (HOWN0.out.alloc _) (wr.heap.size + 1) (some ⟨wr.heap.size, 0, none⟩) 1 1 (exC (d, k)) rfl (Reads.lump wr (exC (d, k)) 45 (wr.heap.size + 1) 2 (by omega) rfl) (exC_one _) (by unfold maxLen; omega) (by omega) (le_alloc hzw _) ?_; intro h7 w7 hown7 hg7 hb7))
                            have hla : Below wr.heap.size wr (wr.alloc (.cells (exC (d, k)).toArray 45)) := (Below.refl _ wr).alloc (Nat.le_refl _) _
                            have hza : (wr.alloc (.cells (exC (d, k)).toArray 45)).heap.size = wr.heap.size + 1 := World.size_alloc _ _
                            have HPN : Hid (A2 w7 w b F (.slice (some ⟨g0, 0, none⟩) L.length c0) L h7 (l ++ [(d, k)])) := by
                              refine hide ⟨S2, (HOq.out.later hla).grown hg7 (fun g e => (HBL.out g e).1), HINV7.out, ?_, fun g e => ?_, ?_, (HWq.out.trans (hla.mono HWq.out.size)).grown hg7 (by omega) (fun g e => (World.ownsRow.lt HOWN0.out g e).1), (HTq.out.later hla).grown hg7 (fun e => by have := (World.ownsRow.lt HOWN0.out 0 e.symm).1; omega)⟩
                              · unfold Held
                                rw [exL_append, exL_one, List.length_append]
                                exact hown7
                              · rcases hb7 with hb7 | hb7
                                · exact HBL.out g (hb7 ▸ e)
                                · rw [hb7] at e
                                  injection e with e
                                  refine ⟨fun hf => ?_, fun h3 => ?_⟩
                                  · have := (HOq.out.1 g hf).2
                                    omega
                                  · have := (World.ownsRow.lt HRq.out g h3).2
                                    omega
                              · have hq := own_later HRq.out hla
                                exact hq.kept hg7 (.inr (fun e => (HBL.out g0 e.symm).2 rfl))
                            clear hla hza hown7 hg7 hb7
                            go_wp2
                            go_roundw
                            case rel => exact ⟨i + 1, l ++ [(d, k)], by omega, by rw [List.length_append]; show l.length + 1 ≤ i + 1; omega, by go_num, HPN⟩
                            case measure => simp [intOf]; omega
                · have hzi : ((z : Int) == 0) = false := by rw [beq_eq_false_iff_ne]; omega
                  clear hzz hzn
                  as_aux_lemma =>
                    obtain ⟨d, hd⟩ : ∃ d, d = M4 % L.length := ⟨_, rfl⟩
                    have hdL : d < L.length := by rw [hd]; exact Nat.mod_lt _ hLp
                    have hrem : (M4 : Int) % (L.length : Int) = (d : Int) := by rw [hd]; exact (Int.natCast_emod _ _).symm
                    have hrem2 : (M4 : Int).tmod (L.length : Int) = (d : Int) := by rw [Int.tmod_eq_emod_of_nonneg (by omega)]; exact hrem
                    have hLne : ¬ ((L.length : Int) = 0) := by omega
                    clear hd
                    obtain ⟨N, hNd⟩ : ∃ N, L[d]? = some N := ⟨L[d], List.getElem?_eq_getElem hdL⟩
                    have hN4 : N ≤ 4096 := HHN.out N (List.mem_iff_getElem?.2 ⟨d, hNd⟩)
                    have hin := HINV.out.in_ hdL
                    have hSn := HINV.out.n d N hNd
                    have hsm : S.n d ≤ 497 := HO.out.ok.small d hin
                    have hcl := cnt_le (S.t d) (S.n d)
                    have hroom : roomE S (d : Int) = S.n d - cnt (S.t d) (S.n d) := roomE_in hin
                    have HIN := hide hin
                    have HSN := hide hSn
                    have HND := hide hNd
                    have HRO := hide hroom
                    clear hin hSn hNd hroom
                    by_cases hfull : cnt (S.t d) (S.n d) = S.n d
                    · have HR0 : Hid (roomE S (d : Int) = 0) := hide (by rw [HRO.out]; omega)
                      have HALL := hide (fun i hi => cnt_full hfull i hi)
                      clear hfull hcl
                      go_wp2_with fail
                      refine (on_room HO.out (d : Int) (by omega) (by omega)).mono ?_
                      rw [HR0.out]
                      rintro _ _ ⟨rfl, rfl⟩
                      clear hzi
                      go_wp2_with fail
                      refine (on_take_full HO.out HT.out d HIN.out HALL.out).mono ?_
                      rintro _ v5 ⟨rfl, ho5, ht5⟩
                      have hh5 := HHE.out.turned ht5 (fun g hg => (HBL.out g hg).1)
                      have hr5 := own_turned HR.out ht5 HVF.out
                      have hw5 := HW.out.trans (ht5.below_ HW.out.size HF.out)
                      have htb5 := HT.out.turned ht5 (fun h => by have := HF.out _ h; omega)
                      have HO5 := hide ho5
                      have HHE5 := hide hh5
                      have HR5 := hide hr5
                      have HW5 := hide hw5
                      have HT5 := hide htb5
                      clear hh5 hr5 hw5 htb5 ho5 ht5
                      go_wp2_with (first
                        | ((with_reducible refine at_slot 16 ?_); refine wpList_alloc_blk rfl 45 rfl _ (Tryd.zeroValue45 _) ?_; intro u hba hla hsa; clear hsa)
                        | ((with_reducible refine at_store 16 ?_); refine wpList_store_all rfl 45 (.tmp 16) (.tmp 133) rfl v5.heap.size 45 _ hba rfl [.int .i64 0, .int .i64 0] rfl ext2_info rfl (ext2_one _ _) ?_; intro w6 hbq hg hs; clear hs))
                      have hl6 : Below v5.heap.size v5 w6 := hla.grown hg hla.size (fun g e => by injection e with e; omega)
                      have HPN : Hid (A2 w6 w b F (.slice (some ⟨g0, 0, none⟩) L.length c0) L (.slice A l.length c) l) := hide ⟨S, HO5.out.later hl6, HINV.out, HHE5.out.later hl6, HBL.out, own_later HR5.out hl6, HW5.out.trans (hl6.mono HW5.out.size), HT5.out.later hl6⟩
                      clear hba hla hbq hg hl6
                      go_wp2
                      go_roundw
                      case rel => exact ⟨i + 1, l, by omega, by omega, by go_num, HPN⟩
                      case measure => simp [intOf]; omega
                    · obtain ⟨R, hR⟩ : ∃ R, R = roomE S (d : Int) := ⟨_, rfl⟩
                      have hRp : (0 : Int) < (R : Int) := by rw [hR, HRO.out]; omega
                      have HRR := hide hR.symm
                      have hRn : decide (0 < R) = true := by simp; omega
                      obtain ⟨k, hk, htk, hlow⟩ := least_free (S.t d) (S.n d) (by omega)
                      obtain ⟨hinv7, hno⟩ := HINV.out.more hdL hk htk
                      obtain ⟨hf0, hf9, hpk⟩ := HINV.out.took hdL hk
                      have hfit : 114 + 8 * ((k : Int) + 1) ≤ (N : Int) := countZ_lt.1 (by rw [← HSN.out]; exact hk)
                      have hfit2 : decide ((N : Int) < 114 + 8 * (k : Int) + 8) = false := by rw [decide_eq_false_iff_not]; omega
                      have hlow2 : decide ((114 : Int) + 8 * (k : Int) < 114) = false := by rw [decide_eq_false_iff_not]; omega
                      have HTK := hide htk
                      have HLOW := hide hlow
                      have HKN := hide hk
                      have hk497 : k < 497 := by omega
                      obtain ⟨S2, hS2⟩ : ∃ S2, S2 = S.setT d (put (S.t d) k true) := ⟨_, rfl⟩
                      rw [← hS2] at hinv7 hf0 hf9 hpk
                      have HS2 := hide hS2.symm
                      have HINV7 := hide hinv7
                      have HNO := hide hno
                      have HF0 := hide hf0
                      have HF9 := hide hf9
                      have HPK := hide hpk
                      clear hR hk htk hlow hinv7 hno hf0 hf9 hpk hS2 hfull hcl hfit
                      go_wp2_with fail
                      refine (on_room HO.out (d : Int) (by omega) (by omega)).mono ?_
                      rw [HRR.out]
                      rintro _ _ ⟨rfl, rfl⟩
                      clear hzi
                      go_wp2_with fail
                      refine (on_take_yes HO.out HT.out d k HIN.out HKN.out HTK.out HLOW.out).mono ?_
                      rw [HS2.out]
                      rintro _ v5 ⟨rfl, ho5, ht5⟩
                      have hh5 := HHE.out.turned ht5 (fun g hg => (HBL.out g hg).1)
                      have hr5 := own_turned HR.out ht5 HVF.out
                      have hw5 := HW.out.trans (ht5.below_ HW.out.size HF.out)
                      have htb5 := HT.out.turned ht5 (fun h => by have := HF.out _ h; omega)
                      have HO5 := hide ho5
                      have HHE5 := hide hh5
                      have HR5 := hide hr5
                      have HW5 := hide hw5
                      have HT5 := hide htb5
                      clear hh5 hr5 hw5 htb5 ho5 ht5
                      go_wp2_with (first
                        | ((with_reducible refine at_slot 16 ?_); refine wpList_alloc_blk rfl 45 rfl _ (Tryd.zeroValue45 _) ?_; intro u hba hla hsa; clear hsa)
                        | ((with_reducible refine at_store 16 ?_); refine wpList_store_all rfl 45 (.tmp 16) (.tmp 133) rfl v5.heap.size 45 _ hba rfl (exC (d, k)) rfl ext2_info rfl (exC_one _) ?_; intro w6 hbq hg hs; clear hs))
                      have hl6 : Below v5.heap.size v5 w6 := hla.grown hg hla.size (fun g e => by injection e with e; omega)
                      have hgx : v5.heap.size < w6.heap.size := hbq.lt
                      have HO6 := hide (HO5.out.later hl6)
                      have HHE6 := hide (HHE5.out.later hl6)
                      have HR6 := hide (own_later HR5.out hl6)
                      have HW6 := hide (HW5.out.trans (hl6.mono HW5.out.size))
                      have HT6 := hide (HT5.out.later hl6)
                      have HBX := hide hbq
                      have HFX : Hid (¬ F v5.heap.size) := hide (fun hf => by have := (HO5.out.1 _ hf).2; omega)
                      clear hba hla hbq hg hl6
                      have x0 : w6.cell? ⟨v5.heap.size, 0, none⟩ = some (.int .i64 (d : Int)) := HBX.out.cell 0
                      have x1 : w6.cell? ⟨v5.heap.size, 1, none⟩ = some (.int .i64 (114 + 8 * (k : Int))) := HBX.out.cell 1
                      have x0d : w6.drew.cell? ⟨v5.heap.size, 0, none⟩ = some (.int .i64 (d : Int)) := x0
                      have x1d : w6.drew.cell? ⟨v5.heap.size, 1, none⟩ = some (.int .i64 (114 + 8 * (k : Int))) := x1
                      have s0 : w6.cell? ⟨g0, d, none⟩ = some (.int .i64 (N : Int)) := (HR6.out.cellAt d (by omega)).trans (size_at HND.out)
                      have s0d : w6.drew.cell? ⟨g0, d, none⟩ = some (.int .i64 (N : Int)) := s0
                      have hdLi : (d : Int) < (L.length : Int) := by omega
                      have hx8 : IntKind.i64.wrap (114 + 8 * (k : Int) + 8) = 114 + 8 * (k : Int) + 8 := IntWalk.i64_in _ (by omega)
                      have HKP : Hid (∀ W', Turn F w6 W' → (W'.cell? ⟨v5.heap.size, 0, none⟩ = some (.int .i64 (d : Int)) ∧ W'.cell? ⟨v5.heap.size, 1, none⟩ = some (.int .i64 (114 + 8 * (k : Int))) ∧ W'.cell? ⟨g0, d, none⟩ = some (.int .i64 (N : Int)))) := by
                        refine hide (fun W' h => ⟨(h.cell (p := ⟨v5.heap.size, 0, none⟩) hgx HFX.out).trans x0, (h.cell (p := ⟨v5.heap.size, 1, none⟩) hgx HFX.out).trans x1, ?_⟩)
                        exact ((own_turned HR6.out h HVF.out).cellAt d (by omega)).trans (size_at HND.out)
                      have HHAS : Hid (Calls Tryd.prog 27 #[.pointer (some ⟨b, 0, none⟩), .agg #[.int .i64 (d : Int), .int .i64 (114 + 8 * (k : Int))]] w6.drew fun e w' => e = .returned (.bool true) ∧ ExtOn w' b F S2 ∧ Turn F w6 w') := hide ((on_has HO6.out.drew (d : Int) (114 + 8 * (k : Int)) (by omega) (by omega) (by omega) (by omega)).mono (fun e w' ⟨m1, m2, m3⟩ => ⟨by rw [m1, HF0.out]; rfl, m2, (Turn.refl F w6).drew.trans m3⟩))
                      clear x0 x1 x0d x1d s0 s0d
                      go_wp2_with fail
                      go_region_held3 (fun W' => (W'.cell? ⟨v5.heap.size, 0, none⟩ = some (.int .i64 (d : Int)) ∧ W'.cell? ⟨v5.heap.size, 1, none⟩ = some (.int .i64 (114 + 8 * (k : Int))) ∧ W'.cell? ⟨g0, d, none⟩ = some (.int .i64 (N : Int)))) (first | assumption | exact HKP.out _ htt8 | exact HKP.out _ htt7 | exact HKP.out _ ((Turn.refl F w6).drew) | exact HKP.out _ (Turn.refl F w6)) (first
                        | (go_at_call 27; refine HHAS.out.mono ?_; rintro _ v7 ⟨rfl, ho7, htt7⟩)
                        | (go_at_call 28; refine (on_takeAt ho7 (d : Int) (114 + 8 * (k : Int)) (by omega) (by omega) (by omega) (by omega)).mono ?_; rw [HF9.out, HPK.out]; rintro _ v8 ⟨rfl, ho8, ht8⟩; have htt8 : Turn F w6 v8 := htt7.trans ht8))
                      all_goals
                        have htt : Turn F w6 v8 := htt8
                        have hh8 := HHE6.out.turned htt (fun g hg => (HBL.out g hg).1)
                        have hr8 := own_turned HR6.out htt HVF.out
                        have hw8 := HW6.out.trans (htt.below_ HW6.out.size HF.out)
                        have hT8 := HT6.out.turned htt (fun h => by have := HF.out _ h; omega)
                        have hb8 := HBX.out.turned htt HFX.out
                        have HO8 := hide ho8
                        have HHE8 := hide hh8
                        have HR8 := hide hr8
                        have HW8 := hide hw8
                        have HT8 := hide hT8
                        have HB8 := hide hb8
                        clear hx8 htt hh8 hr8 hw8 hT8 hb8 ho7 ho8 htt7 htt8 ht8 hfit2 hlow2
                        go_wp2_with fail
                        go_loopw [18] (fun a wx => ∃ n : Nat, n ≤ l.length ∧ a = .int .i64 (n : Int) ∧ Below v8.heap.size v8 wx) (fun a _ => l.length - (intOf a).toNat)
                        case atStart => exact ⟨0, Nat.zero_le _, rfl, Below.refl _ _⟩
                        case round =>
                          obtain ⟨n, hn, rfl, hbx⟩ := hrel
                          by_cases hnl : n < l.length
                          · have hnn : (n : Int) < (l.length : Int) := by omega
                            obtain ⟨y, hy⟩ : ∃ y, l[n]? = some y := ⟨l[n], List.getElem?_eq_getElem hnl⟩
                            obtain ⟨ad2, c', hv, _, _, _, hy0, hy1⟩ := (HHE8.out.later hbx).cell hy
                            injection hv with hA _ hcc
                            subst hA
                            subst hcc
                            have hym : y ∈ l := List.mem_iff_getElem?.2 ⟨n, hy⟩
                            have hyb := (HINV.out.mem y.1 y.2).1 hym
                            have hyn : S.n y.1 ≤ 497 := HO.out.ok.small y.1 (HINV.out.in_ hyb.1)
                            have hy2 : y.2 < 497 := by omega
                            obtain ⟨e, j⟩ := y
                            simp only at hy0 hy1 hy2
                            have x0 : wr.cell? ⟨v5.heap.size, 0, none⟩ = some (.int .i64 (d : Int)) := (HB8.out.below hbx HB8.out.lt).cell 0
                            have x1 : wr.cell? ⟨v5.heap.size, 1, none⟩ = some (.int .i64 (114 + 8 * (k : Int))) := (HB8.out.below hbx HB8.out.lt).cell 1
                            have HYM := hide hym
                            clear hy hym hyb hyn
                            by_cases hed : e = d
                            · have hde : ((e : Int) == (d : Int)) = true := by rw [hed]; exact beq_self_eq_true _
                              have hjk : j ≠ k := fun h => HNO.out (by rw [← hed, ← h]; exact HYM.out)
                              by_cases hlt : j < k
                              · have hc1' : decide ((114 : Int) + 8 * (j : Int) < 114 + 8 * (k : Int) + 8) = true := by simp; omega
                                have hc2' : decide ((114 : Int) + 8 * (k : Int) < 114 + 8 * (j : Int) + 8) = false := by simp; omega
                                clear hed hjk
                                go_wp2_with fail
                                go_quiet (first | fail)
                                go_wp2
                                go_roundw
                                case rel => exact ⟨n + 1, by omega, by go_num, below_drewN hbx _⟩
                                case measure => simp [intOf]; omega
                              · have hc1' : decide ((114 : Int) + 8 * (j : Int) < 114 + 8 * (k : Int) + 8) = false := by simp; omega
                                clear hed hjk
                                go_wp2_with fail
                                go_quiet (first | fail)
                                go_wp2
                                go_roundw
                                case rel => exact ⟨n + 1, by omega, by go_num, below_drewN hbx _⟩
                                case measure => simp [intOf]; omega
                            · have hde : ((e : Int) == (d : Int)) = false := by rw [beq_eq_false_iff_ne]; omega
                              clear hed
                              go_wp2_with fail
                              go_quiet (first | fail)
                              go_wp2
                              go_roundw
                              case rel => exact ⟨n + 1, by omega, by go_num, below_drewN hbx _⟩
                              case measure => simp [intOf]; omega
                          · have hnn : ¬ ((n : Int) < (l.length : Int)) := by omega
                            have HBq := hide (HB8.out.below hbx HB8.out.lt)
                            have HOWN0 := hide (HHE8.out.later hbx)
                            have HOq := hide (HO8.out.later hbx)
                            have HRq := hide (own_later HR8.out hbx)
                            have HWq := hide (HW8.out.trans (hbx.mono HW8.out.size))
                            have HTq := hide (HT8.out.later hbx)
                            have hzw : w.heap.size ≤ wr.heap.size := HWq.out.size
                            clear hbx
                            go_wp2_with (first
                              | ((with_reducible refine at_slot 209 ?_); refine when_load rfl 45 (.tmp 16) rfl v5.heap.size 0 45 _ HBq.out rfl (exC (d, k)) _ (fun j v hj => by rw [Nat.zero_add]; simpa using hj) Tryd.underlying45 rfl ext2_info ?_)
                              | ((with_reducible refine at_slot 210 ?_); refine wpList_build_agg _ rfl (.tmp 209) 41 rfl 45 i0 _ 2 Tryd.underlying41 HI0.out (Tryd.zeroValue45 _) HZ1.out (by decide) (by decide) (exC (d, k)).toArray rfl rfl ?_)
                              | (at_builtin; refine wpList_append_two _ rfl (.tmp 208) (.tmp 210) _ rfl w.heap.size 45 i0 _ 2 16 Tryd.underlying41 HI0.out HZ0.out HZ1.out HZ2.out rfl (by decide) _ l.length _ rfl (HOWN0.out.alloc _) (wr.heap.size + 1) (some ⟨wr.heap.size, 0, none⟩) 1 1 (exC (d, k)) rfl (Reads.lump wr (exC (d, k)) 45 (wr.heap.size + 1) 2 (by omega) rfl) (exC_one _) (by unfold maxLen; omega) (by omega) (le_alloc hzw _) ?_; intro h7 w7 hown7 hg7 hb7))
                            have hla : Below wr.heap.size wr (wr.alloc (.cells (exC (d, k)).toArray 45)) := (Below.refl _ wr).alloc (Nat.le_refl _) _
                            have hza : (wr.alloc (.cells (exC (d, k)).toArray 45)).heap.size = wr.heap.size + 1 := World.size_alloc _ _
                            have HPN : Hid (A2 w7 w b F (.slice (some ⟨g0, 0, none⟩) L.length c0) L h7 (l ++ [(d, k)])) := by
                              refine hide ⟨S2, (HOq.out.later hla).grown hg7 (fun g e => (HBL.out g e).1), HINV7.out, ?_, fun g e => ?_, ?_, (HWq.out.trans (hla.mono HWq.out.size)).grown hg7 (by omega) (fun g e => (World.ownsRow.lt HOWN0.out g e).1), (HTq.out.later hla).grown hg7 (fun e => by have := (World.ownsRow.lt HOWN0.out 0 e.symm).1; omega)⟩
                              · unfold Held
                                rw [exL_append, exL_one, List.length_append]
                                exact hown7
                              · rcases hb7 with hb7 | hb7
                                · exact HBL.out g (hb7 ▸ e)
                                · rw [hb7] at e
                                  injection e with e
                                  refine ⟨fun hf => ?_, fun h3 => ?_⟩
                                  · have := (HOq.out.1 g hf).2
                                    omega
                                  · have := (World.ownsRow.lt HRq.out g h3).2
                                    omega
                              · have hq := own_later HRq.out hla
                                exact hq.kept hg7 (.inr (fun e => (HBL.out g0 e.symm).2 rfl))
                            clear hla hza hown7 hg7 hb7
                            go_wp2
                            go_roundw
                            case rel => exact ⟨i + 1, l ++ [(d, k)], by omega, by rw [List.length_append]; show l.length + 1 ≤ i + 1; omega, by go_num, HPN⟩
                            case measure => simp [intOf]; omega

            · have hd2 : decide ((i : Int) < 200) = false := by simp; omega
              go_wp2_with fail
              go_meet
              exact ⟨l, by omega, HP⟩
          · have hd1 : decide (i < n2) = false := by simpa using hk
            go_wp2_with fail
            go_meet
            exact ⟨l, by omega, HP⟩
      case rest =>
        clear HP2
        obtain ⟨l, hl2, HP⟩ := hcut
        obtain ⟨S, hho, hinv, hhe, hbl, hrow, hhw, hht⟩ := HP.out
        have HO := hide hho
        have HINV := hide hinv
        have HHE := hide hhe
        have HBL := hide hbl
        have HR := hide hrow
        have HW := hide hhw
        have HT := hide hht
        clear hho hinv hhe hbl hrow hhw hht HP
        obtain ⟨A, c, rfl, hlc, hcm⟩ := HHE.out.shape
        have hsm : ∀ d, d < L.length → cnt (S.t d) (S.n d) ≤ S.n d ∧ S.n d ≤ 497 := fun d hd => ⟨cnt_le _ _, HO.out.ok.small d (HINV.out.in_ hd)⟩
        have HSM := hide hsm
        clear hsm
        go_wp2_with fail
        go_loopw [19, 20] (fun u a wx => ∃ (d U : Nat), d ≤ L.length ∧ a = .int .i64 (d : Int) ∧ u = .int .i64 (U : Int) ∧ U ≤ 497 * d ∧ Hid (U = sumT S d) ∧ Below wc.heap.size wc wx) (fun _ a _ => L.length - (intOf a).toNat)
        case atStart => exact ⟨0, 0, Nat.zero_le _, rfl, rfl, by omega, hide rfl, Below.refl _ _⟩
        case round =>
          obtain ⟨d, U, hd, rfl, rfl, hU, HU, hbx⟩ := hrel
          by_cases hdL : d < L.length
          · have hdd : (d : Int) < (L.length : Int) := by omega
            obtain ⟨N, hNd⟩ : ∃ N, L[d]? = some N := ⟨L[d], List.getElem?_eq_getElem hdL⟩
            have hN4 : N ≤ 4096 := HHN.out N (List.mem_iff_getElem?.2 ⟨d, hNd⟩)
            have hin := HINV.out.in_ hdL
            obtain ⟨hc1', hc2'⟩ := HSM.out d hdL
            have hSn := HINV.out.n d N hNd
            obtain ⟨V, hV⟩ : ∃ V, V = cnt (S.t d) (S.n d) := ⟨_, rfl⟩
            obtain ⟨Q, hQ⟩ : ∃ Q, Q = S.n d := ⟨_, rfl⟩
            have hus : usedE S (d : Int) = V := by rw [usedE_in hin, hV]
            have hro : roomE S (d : Int) = Q - V := by rw [roomE_in hin, hV, hQ]
            have hct : countZ (N : Int) = Q := by rw [hQ, hSn]
            rw [← hV, ← hQ] at hc1'
            rw [← hQ] at hc2'
            have HUN : Hid (U + V = sumT S (d + 1)) := by
              show U + V = _
              rw [sumT, ← HU.out, hV]
            obtain ⟨R, hR⟩ : ∃ R, R = Q - V := ⟨_, rfl⟩
            rw [← hR] at hro
            have hVR : (V : Int) + (R : Int) = (Q : Int) := by omega
            have hVRn : V + R = Q := by omega
            have HOx := hide (HO.out.later hbx)
            have hs0 : wr.cell? ⟨g0, d, none⟩ = some (.int .i64 (N : Int)) := ((own_later HR.out hbx).cellAt d (by omega)).trans (size_at hNd)
            have HCU : Hid (∀ k, Calls Tryd.prog 29 #[.pointer (some ⟨b, 0, none⟩), .int .i64 (d : Int)] (wr.drewN k) fun e w' => e = .returned (.int .i64 (V : Int)) ∧ wr.drewN k = w') := hide (fun k => by have h := on_used (HOx.out.drewN k) (d : Int) (by omega) (by omega); rw [hus] at h; exact h)
            have HCU0 : Hid (Calls Tryd.prog 29 #[.pointer (some ⟨b, 0, none⟩), .int .i64 (d : Int)] wr fun e w' => e = .returned (.int .i64 (V : Int)) ∧ wr = w') := hide (by have h := on_used HOx.out (d : Int) (by omega) (by omega); rw [hus] at h; exact h)
            have HCR : Hid (∀ k, Calls Tryd.prog 25 #[.pointer (some ⟨b, 0, none⟩), .int .i64 (d : Int)] (wr.drewN k) fun e w' => e = .returned (.int .i64 (R : Int)) ∧ wr.drewN k = w') := hide (fun k => by have h := on_room (HOx.out.drewN k) (d : Int) (by omega) (by omega); rw [hro] at h; exact h)
            have HCC : Hid (∀ k, Calls Tryd.prog 10 #[.int .i64 (N : Int)] (wr.drewN k) fun e w' => e = .returned (.int .i64 (Q : Int)) ∧ wr.drewN k = w') := hide (fun k => by have h := extCount_any (w := wr.drewN k) (N : Int) (by omega) (by omega); rw [hct] at h; exact h)
            clear hus hro hct hV hQ hR hSn hin hNd
            have hwrap : IntKind.i64.wrap ((V : Int) + (R : Int)) = (Q : Int) := by rw [hVR]; exact IntWalk.i64_in _ (by omega)
            have hL6i : U + V ≤ 497 * (d + 1) := by omega
            have hUb : (U : Int) + (V : Int) ≤ 100000 := by omega
            clear hVR
            go_wp2_with fail
            refine HCU0.out.mono ?_
            rintro _ _ ⟨rfl, rfl⟩
            go_wp2_with fail
            go_quiet (first
              | (go_at_call 29; exact quiet_as (HCU.out _))
              | (go_at_call 25; exact quiet_as (HCR.out _))
              | (go_at_call 10; exact quiet_as (HCC.out _)))
            go_wp2
            go_roundw
            case rel => exact ⟨d + 1, U + V, by omega, by go_num, by go_num, hL6i, HUN, below_drewN hbx _⟩
            case measure => simp [intOf]; omega
          · have hdd : ¬ ((d : Int) < (L.length : Int)) := by omega
            obtain rfl : d = L.length := by omega
            have hUl : U = l.length := by rw [HU.out]; exact HINV.out.tot
            subst hUl
            go_wp2_with fail
            go_ret
            exact ⟨rfl, HW.out.trans (hbx.mono HW.out.size)⟩

/-! The row's frame, by program: how the walk above proves the statement. -/
set_option maxRecDepth 100000 in
theorem lifted (os : Os) (started : os.Started) (H : Type) (enc : TypeId × Value → H) :
    ReturnsInHanded {} Tryd.checked os 5 .any (fun w args => (Rows.extentApartSpec.pre enc Tryd.prog Tryd.f5 Rows.extentApartRow.domain false w args ∧ laidMetH Tryd.prog tabL w) ∧ sizedMet enc Tryd.prog Tryd.f5 (OpenSpec.ofChange Rows.extentApartSpec) false w args) (Rows.extentApartSpec.post enc Tryd.prog Tryd.f5 false true false false) := by
  refine returnsInHanded_of_change_and (C := Tryd.checked) (X := fun w _ => laidMetH Tryd.prog tabL w) (fun _ _ _ hh h => h.of_heap hh) own started (by kernel_rfl) Tryd.func5
    (ChangeSpec.witness_shaped (enc := enc) (C := Tryd.checked) (os := os) (X := fun w _ => laidMetH Tryd.prog tabL w) false (World.doorLaid Tryd.prog 400 os) #[.slice none 0 0, .slice none 0 0] 8 rfl (World.shaped_of_RefB (by kernel_rfl) (by kernel_rfl)) (by kernel_rfl) (by kernel_rfl) (by kernel_rfl) (door_met os _)) ?_
  intro W base args ds gs before hval0 hW _ _ hL _
  have hval : ∀ (j : Nat) t v, Tryd.f5.params[j]? = some t → args[j]? = some v → Value.okWide Tryd.prog W .any base t v := hval0
  have hW' := hW
  obtain ⟨p, q, hA0, hV, rfl, hfz, hnd⟩ := hW
  have hA : DataW.TrodAll enc Tryd.prog W 0 (fun _ => true) true Tryd.f5.params.toList args.toList ds p := hA0
  rw [Tryd.params5] at hA hval
  obtain ⟨v0, vs0, d0, ds0, p0, q0, hargs, rfl, rfl, h0, r0⟩ := trodAll_cons hA
  obtain ⟨v1, vs1, d1, ds1, p1, q1, rfl, rfl, rfl, h1, r1⟩ := trodAll_cons r0
  obtain ⟨rfl, rfl, rfl⟩ := trodAll_nil r1
  obtain rfl : args = #[v0, v1] := by cases args; simp_all
  obtain ⟨rfl, rfl⟩ := trodVars_none hV
  obtain ⟨A0, n0, c0, rfl⟩ := okWide_slice Tryd.underlying37 (hval 0 37 v0 rfl rfl)
  have k0 := h0
  have lt0 : ∀ x ∈ p0, x.block < W.heap.size := by obtain ⟨m, hm⟩ := k0; exact DataW.trod_lt m _ _ _ hm
  obtain ⟨l0, x0, y0, g0, z0⟩ := arg_ints h0
  obtain ⟨A1, n1, c1, rfl⟩ := okWide_slice Tryd.underlying37 (hval 1 37 v1 rfl rfl)
  have k1 := h1
  have lt1 : ∀ x ∈ p1, x.block < W.heap.size := by obtain ⟨m, hm⟩ := k1; exact DataW.trod_lt m _ _ _ hm
  obtain ⟨l1, x1, y1, g1, z1⟩ := arg_ints h1
  clear hA0 hval0
  refine (walk A0 n0 c0 l0 A1 n1 c1 l1 W (of_laid hL) x0 y0 g0 z0 x1 y1 g1 z1).mono fun e W' ⟨he, bel⟩ => ?_
  subst he
  exact ⟨_, rfl, _, _, _, [], _, [], hW', trodAll_mk1 (shut_bool Tryd.underlying4 _), (trodAll_cons_mk (Below.trod laidOut (by kernel_rfl) (of_decide_eq_true (by kernel_rfl)) k0 bel lt0) (trodAll_cons_mk (Below.trod laidOut (by kernel_rfl) (of_decide_eq_true (by kernel_rfl)) k1 bel lt1) trodAll_mk0)), rfl, bel.frame _, fun h => by cases h⟩

theorem over : Rows.extentApartRow.holds Tryd.pinned (OpenSpec.ofChange Rows.extentApartSpec) :=
  OpenClaim.holds_of_wide 5 Tryd.f5 rfl rfl rfl rfl rfl rfl rfl ⟨rfl, rfl, rfl, rfl, rfl⟩ rfl rfl rfl rfl rfl (by kernel_rfl) Tryd.func5 (by kernel_rfl)
    (of_decide_eq_true (by kernel_rfl)) (by unfold Func.isWrapper; first | (rw [if_pos (by decide +kernel)]; kernel_rfl) | (rw [if_neg (by decide +kernel)]; exact ⟨rfl, rfl⟩))
    (fun os started H enc _ => lifted os started H enc)

/-- The statement: the tied card. -/
theorem proved : Rows.ExtentApartCardSaid :=
  Claim7.holds_tied_plain_at .later [] [.data] true Rows.extentApartCard.stood.harness Rows.extentApartCard.stood.looks
    over (fun _ h => by cases h) (by kernel_rfl) (fun _ h => by cases h) extentApart_row_tie rfl ⟨rfl, rfl⟩ (by kernel_rfl) rfl
    (fun f fn hf hfn => by
      obtain rfl : f = 5 := Option.some.inj ((show Tryd.prog.funcNamed "braidwork/braidworklaw06.ExtentApart" = some 5 by kernel_rfl).symm.trans hf) |>.symm
      obtain rfl : fn = Tryd.f5 := (Option.some.inj (Tryd.func5.symm.trans hfn)).symm
      exact ⟨by kernel_rfl, fun j t ht => by
        rw [Tryd.params5] at ht
        have hm : t ∈ [37, 37] := by simpa using Array.mem_of_getElem? ht
        have hall : ([37, 37].all fun u => !Tryd.prog.wantsStandIn u) = true := by kernel_rfl
        exact (show Tryd.prog.wantsStandIn t = false by simpa using List.all_eq_true.1 hall t hm)⟩)
    (by kernel_rfl)
#print axioms proved
end Go.Proofs.YtfghnplbefefbaaDoor.ExtentApart
