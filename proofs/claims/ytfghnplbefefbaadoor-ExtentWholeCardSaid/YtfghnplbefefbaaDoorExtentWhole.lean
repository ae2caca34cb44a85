/- ExtentWhole holds: for every two numbers that two members' sizes are made of and every order: all extents of both are taken, then there is no room; given back one by one each leaves one less in its own member and the other member as it was; in the end both are empty. No condition besides the card's own: math/bits.deBruijn64tab is as its initialiser lays it. -/
import Derived.Test.YtfghnplbefefbaaDoorLaidT
import Derived.Test.YtfghnplbefefbaaDoorCards
import Derived.Test.YtfghnplbefefbaaDoorTie
import Derived.Test.YtfghnplbefefbaaDoorHeld
import Derived.Deep.DeepCutAuto
import Derived.Deep.CutBlock
import Derived.Deep.CutRange
namespace Go.Proofs.YtfghnplbefefbaaDoor.ExtentWhole
open Go.ChangeShapes Go.WideShapes Go.ChangeAt Go.RowKit
set_option linter.unusedVariables false
/-- The places below c. -/
def lt (c : Nat) : Nat → Bool := fun j => decide (j < c)
theorem lt_put (c : Nat) : put (lt c) c true = lt (c + 1) := by
  funext j
  by_cases e : j = c
  · subst e; rw [put_self]; simp [lt]
  · rw [put_ne _ _ e]
    unfold lt
    rw [Bool.eq_iff_iff]
    simp
    omega
structure Full (S : Ext) (q0 q1 c0 c1 : Nat) : Prop where
  ks : S.ks = [0, 1]
  n0 : S.n 0 = q0
  n1 : S.n 1 = q1
  t0 : S.t 0 = lt c0
  t1 : S.t 1 = lt c1
theorem Full.in0 {S : Ext} {q0 q1 c0 c1 : Nat} (h : Full S q0 q1 c0 c1) : 0 ∈ S.ks := by rw [h.ks]; simp
theorem Full.in1 {S : Ext} {q0 q1 c0 c1 : Nat} (h : Full S q0 q1 c0 c1) : 1 ∈ S.ks := by rw [h.ks]; simp
theorem Full.take0 {S : Ext} {q0 q1 c0 c1 : Nat} (h : Full S q0 q1 c0 c1) : Full (S.setT 0 (put (S.t 0) c0 true)) q0 q1 (c0 + 1) c1 :=
  ⟨h.ks, h.n0, h.n1, by rw [setT_t, h.t0, lt_put], by rw [setT_ne _ _ (by decide), h.t1]⟩
theorem Full.take1 {S : Ext} {q0 q1 c0 c1 : Nat} (h : Full S q0 q1 c0 c1) : Full (S.setT 1 (put (S.t 1) c1 true)) q0 q1 c0 (c1 + 1) :=
  ⟨h.ks, h.n0, h.n1, by rw [setT_ne _ _ (by decide), h.t0], by rw [setT_t, h.t1, lt_put]⟩
def up (c0 c1 : Nat) : List (Nat × Nat) := (List.range c0).map (fun k => (0, k)) ++ (List.range c1).map (fun k => (1, k))
theorem up_0 (c : Nat) : up (c + 1) 0 = up c 0 ++ [(0, c)] := by simp [up, List.range_succ]
theorem up_1 (c0 c : Nat) : up c0 (c + 1) = up c0 c ++ [(1, c)] := by simp [up, List.range_succ]
theorem up_length (c0 c1 : Nat) : (up c0 c1).length = c0 + c1 := by simp [up]
/-- What is held is what is taken. -/
structure Inv (S : Ext) (q0 q1 : Nat) (l : List (Nat × Nat)) : Prop where
  ks : S.ks = [0, 1]
  n0 : S.n 0 = q0
  n1 : S.n 1 = q1
  nodup : l.Nodup
  mem : ∀ d k, (d, k) ∈ l ↔ d < 2 ∧ k < S.n d ∧ S.t d k = true
theorem Full.inv {S : Ext} {q0 q1 : Nat} (h : Full S q0 q1 q0 q1) : Inv S q0 q1 (up q0 q1) := by
  refine ⟨h.ks, h.n0, h.n1, ?_, fun d k => ?_⟩
  · unfold up
    refine List.nodup_append.2 ⟨?_, ?_, ?_⟩
    · rw [List.Nodup, List.pairwise_map]
      exact List.nodup_range.imp fun {a b} hab e => hab (by injection e)
    · rw [List.Nodup, List.pairwise_map]
      exact List.nodup_range.imp fun {a b} hab e => hab (by injection e)
    · intro a ha b hb e
      obtain ⟨x, _, rfl⟩ := List.mem_map.1 ha
      obtain ⟨y, _, rfl⟩ := List.mem_map.1 hb
      injection e with e
      cases e
  · unfold up
    simp only [List.mem_append, List.mem_map, List.mem_range, Prod.mk.injEq]
    constructor
    · rintro (⟨a, ha, rfl, rfl⟩ | ⟨a, ha, rfl, rfl⟩)
      · exact ⟨by decide, by rw [h.n0]; exact ha, by rw [h.t0]; simpa [lt] using ha⟩
      · exact ⟨by decide, by rw [h.n1]; exact ha, by rw [h.t1]; simpa [lt] using ha⟩
    · rintro ⟨h2, h3, h4⟩
      match d, h2 with
      | 0, _ => exact .inl ⟨k, by rw [h.n0] at h3; exact h3, rfl, rfl⟩
      | 1, _ => exact .inr ⟨k, by rw [h.n1] at h3; exact h3, rfl, rfl⟩
section
variable {S : Ext} {q0 q1 : Nat} {l : List (Nat × Nat)}
theorem Inv.in_ (h : Inv S q0 q1 l) {d : Nat} (hd : d < 2) : d ∈ S.ks := by
  rw [h.ks]
  simp
  omega
theorem Inv.less (h : Inv S q0 q1 l) {k : Nat} {x : Nat × Nat} (hx : l[k]? = some x) : Inv (S.setT x.1 (put (S.t x.1) x.2 false)) q0 q1 (l.eraseIdx k) := by
  obtain ⟨h1, h2⟩ := less_mem h.nodup hx
  refine ⟨h.ks, h.n0, h.n1, h1, fun d j => ?_⟩
  rw [h2, h.mem]
  show _ ↔ d < 2 ∧ j < S.n d ∧ upd S.t x.1 (put (S.t x.1) x.2 false) d j = true
  by_cases e : d = x.1
  · subst e
    rw [upd_self]
    by_cases e2 : j = x.2
    · subst e2
      rw [put_self]
      constructor
      · rintro ⟨_, hne⟩; exact absurd rfl hne
      · rintro ⟨_, _, h3⟩; cases h3
    · rw [put_ne _ _ e2]
      constructor
      · rintro ⟨h3, _⟩; exact h3
      · intro h3
        exact ⟨h3, fun e => e2 (by rw [← e])⟩
  · rw [upd_ne _ _ e]
    constructor
    · rintro ⟨h3, _⟩; exact h3
    · intro h3
      exact ⟨h3, fun e3 => e (by rw [← e3])⟩
theorem Inv.free (h : Inv S q0 q1 l) {k : Nat} {x : Nat × Nat} (hx : l[k]? = some x) : x.1 < 2 ∧ findE S (x.1 : Int) (114 + 8 * (x.2 : Int)) true = 0 ∧ S.poke (x.1 : Int) (114 + 8 * (x.2 : Int)) false = S.setT x.1 (put (S.t x.1) x.2 false) ∧
    ∃ U, usedE S (x.1 : Int) = U + 1 ∧ usedE (S.setT x.1 (put (S.t x.1) x.2 false)) (x.1 : Int) = U ∧ usedE (S.setT x.1 (put (S.t x.1) x.2 false)) (1 - (x.1 : Int)) = usedE S (1 - (x.1 : Int)) ∧ U ≤ S.n x.1 := by
  obtain ⟨h1, h2, h3⟩ := (h.mem x.1 x.2).1 (List.mem_iff_getElem?.2 ⟨k, hx⟩)
  have hi := h.in_ h1
  have ho : oneB (S.n x.1) (114 + 8 * (x.2 : Int)) = true := by rw [oneB_place]; simpa using h2
  have hless := cnt_less h2 h3
  have hle := cnt_le (S.t x.1) (S.n x.1)
  refine ⟨h1, findE_ok hi ho (by rw [idxI_place]; exact h3), ?_, cnt (put (S.t x.1) x.2 false) (S.n x.1), ?_, ?_, ?_, by omega⟩
  · rw [poke_yes hi ho (by rw [idxI_place]; exact h3), idxI_place]
  · rw [usedE_in hi]; omega
  · rw [usedE_in (S := S.setT x.1 (put (S.t x.1) x.2 false)) hi, setT_t]; rfl
  · obtain ⟨e, he⟩ : ∃ e : Nat, (1 : Int) - (x.1 : Int) = (e : Int) := ⟨1 - x.1, by omega⟩
    rw [he]
    have hei := h.in_ (d := e) (by omega)
    rw [usedE_in (S := S.setT x.1 (put (S.t x.1) x.2 false)) hei, usedE_in hei, setT_ne _ _ (by omega)]
    rfl
end
/-- The state while all are being taken. -/
def Ph (wr w : World) (b gs : Nat) (F : Nat → Prop) (q0 q1 N0 N1 : Nat) (h : Value) (c0 c1 : Nat) : Prop :=
  ∃ S, ExtOn wr b F S ∧ Full S q0 q1 c0 c1 ∧ Held wr w.heap.size h (up c0 c1) ∧ (∀ g, h.ownBlock = some g → ¬ F g ∧ gs < g) ∧ Below w.heap.size w wr ∧ Tab wr ∧ Blk wr gs 3 #[.int .i64 (N0 : Int), .int .i64 (N1 : Int)]
def Ph3 (wr w : World) (b gs : Nat) (F : Nat → Prop) (q0 q1 N0 N1 : Nat) (h : Value) (l : List (Nat × Nat)) : Prop :=
  ∃ S, ExtOn wr b F S ∧ Inv S q0 q1 l ∧ Held wr w.heap.size h l ∧ (∀ g, h.ownBlock = some g → ¬ F g ∧ gs < g) ∧ Below w.heap.size w wr ∧ Tab wr ∧ Blk wr gs 3 #[.int .i64 (N0 : Int), .int .i64 (N1 : Int)]
theorem mask400 (n : Int) : ∃ M N : Nat, bits .and .i64 n 65535 = (M : Int) ∧ (M : Int) % 400 = (N : Int) ∧ (M : Int).tmod 400 = (N : Int) ∧ N < 400 := by
  obtain ⟨M, h1, h2⟩ := mask16 n
  exact ⟨M, M % 400, h1, by omega, by rw [Int.tmod_eq_emod_of_nonneg (by omega)]; omega, by omega⟩
set_option maxRecDepth 100000 in
set_option maxHeartbeats 16000000 in
theorem walk (n : Int) (n2 : Int) (A3 : Option Addr) (n3 c3 : Nat) (l3 : List Int) (w : World) (hT : Tab w) (_ : -9223372036854775808 ≤ n) (_ : n ≤ 9223372036854775807) (_ : -9223372036854775808 ≤ n2) (_ : n2 ≤ 9223372036854775807)
    (hr3 : Reads w w.heap.size 1 A3 n3 (I64 l3)) (_ : ∀ z ∈ l3, -9223372036854775808 ≤ z ∧ z ≤ 9223372036854775807) (hc3 : n3 ≤ c3) (hcc3 : c3 ≤ 9223372036854775807) :
    Calls Tryd.prog 8 #[.int .i64 n, .int .i64 n2, .slice A3 n3 c3] w fun e w' => e = .returned (.bool true) ∧ Below w.heap.size w w' := by
  obtain ⟨i0, hi0, hz0, hz1, hz2⟩ := info_parts ext_parts
  obtain ⟨M0, N0, hmask, hrem, hrem2, hN0⟩ := mask400 n
  obtain ⟨M1, N1, hmaskb, hremb, hremb2, hN1⟩ := mask400 n2
  have hpos := hT.pos
  have HI0 := hide hi0
  have HZ0 := hide hz0
  have HZ1 := hide hz1
  have HZ2 := hide hz2
  clear hi0 hz0 hz1 hz2
  go_enter Tryd.func8, Tryd.ntmps8
  go_wp2_with fail
  refine (shown6_any w hT).mono ?_
  rintro _ w1 ⟨rfl, hb1⟩
  have hT1 := hT.later hb1
  clear hT
  have hz1' := hb1.size
  go_wp2_with fail
  obtain ⟨gs, hgs⟩ : ∃ gs, gs = w1.heap.size := ⟨_, rfl⟩
  obtain ⟨wa, hwa⟩ : ∃ wa, wa = w1.alloc (.cells #[.int .i64 (N0 : Int), .int .i64 (N1 : Int)] 3) := ⟨_, rfl⟩
  have hblk : Blk wa gs 3 #[.int .i64 (N0 : Int), .int .i64 (N1 : Int)] := by rw [hwa, hgs]; exact Blk.new _ _ _
  have hla : Below w1.heap.size w1 wa := by rw [hwa]; exact (Below.refl _ w1).alloc (Nat.le_refl _) _
  have hsa : wa.heap.size = gs + 1 := by rw [hwa, hgs]; exact World.size_alloc _ _
  rw [← hwa, ← hgs]
  have hgw : w.heap.size ≤ gs := by omega
  have hT2 := hT1.later hla
  have hb2 : Below w.heap.size w wa := hb1.trans (hla.mono hb1.size)
  have HB2 := hide hblk
  have HWA := hide hsa
  clear hwa hblk hb1 hT1 hla hz1' hsa hgs
  refine (on_new wa (by have := HWA.out; omega)).mono ?_
  rintro _ w2 ⟨rfl, ho2, hl2, hs2⟩
  have hk2 := HB2.out.below hl2 HB2.out.lt
  clear hmask hrem hrem2 hmaskb hremb hremb2
  obtain ⟨b, hb⟩ : ∃ b, b = wa.heap.size + 1 := ⟨_, rfl⟩
  rw [← hb] at ho2 ⊢
  have hc20 : w2.cell? ⟨gs, 0, none⟩ = some (.int .i64 (N0 : Int)) := hk2.cell 0
  obtain ⟨ha1, ha2⟩ := add_more (S := Ext.none_) (d := 0) (s := (N0 : Int)) (by omega) (by omega) (by simp [Ext.none_])
  have HA1 := hide ha1
  have HA2 := hide ha2
  have HO2 := hide ho2
  clear ha1 ha2 ho2 hb
  go_wp2_with fail
  refine (on_add HO2.out (by decide) 0 (N0 : Int) (by decide) (by decide)).mono ?_
  rw [show addE Ext.none_ 0 (N0 : Int) = 0 from HA1.out, show Ext.none_.more 0 (N0 : Int) = Ext.none_.add 0 (countZ (N0 : Int)) from HA2.out]
  rintro _ w3 ⟨rfl, ho3, ht3⟩
  obtain ⟨hb1x, hb2x⟩ := add_more (S := Ext.none_.add 0 (countZ (N0 : Int))) (d := 1) (s := (N1 : Int)) (by omega) (by omega) (by simp [Ext.add, Ext.none_])
  have HA3 := hide hb1x
  have HA4 := hide hb2x
  have HO3 := hide ho3
  have hsw := hs2
  have hk3 := hk2.turned ht3 (fun h => by have := HWA.out; omega)
  have hc31 : w3.cell? ⟨gs, 1, none⟩ = some (.int .i64 (N1 : Int)) := hk3.cell 1
  have HT3 := hide ht3
  have HK3 := hide hk3
  clear hb1x hb2x ho3 hc20 hk2 ht3 hk3 hs2
  go_wp2_with fail
  refine (on_add HO3.out (by simp [Ext.add, Ext.none_]) 1 (N1 : Int) (by decide) (by decide)).mono ?_
  rw [show addE (Ext.none_.add 0 (countZ (N0 : Int))) 1 (N1 : Int) = 0 from HA3.out, show (Ext.none_.add 0 (countZ (N0 : Int))).more 1 (N1 : Int) = (Ext.none_.add 0 (countZ (N0 : Int))).add 1 (countZ (N1 : Int)) from HA4.out]
  rintro _ w4 ⟨rfl, ho4, ht4⟩
  have hsz3 := HT3.out.size
  have hsz4 := ht4.size
  have hF1 : ∀ y, Grew (fun y => wa.heap.size ≤ y ∧ y < wa.heap.size + 2) w2 w3 y → gs < y ∧ y < w3.heap.size := fun y hy => by have := HWA.out; rcases hy with hy | hy <;> omega
  have hF2 : ∀ y, Grew (Grew (fun y => wa.heap.size ≤ y ∧ y < wa.heap.size + 2) w2 w3) w3 w4 y → gs < y ∧ y < w4.heap.size := fun y hy => by
    rcases hy with hy | hy
    · have := hF1 y hy; omega
    · have := HK3.out.lt; omega
  have hwb : Below w.heap.size w w4 := ((hb2.trans (hl2.mono hb2.size)).trans (HT3.out.below_ (by have := HWA.out; omega) (fun y hy => by have := HWA.out; omega))).trans (ht4.below_ (by have := HWA.out; omega) (fun y hy => by have := hF1 y hy; omega))
  have htb : Tab w4 := ((hT2.later hl2).turned HT3.out (fun h => by have := HWA.out; omega)).turned ht4 (fun h => by have := hF1 _ h; omega)
  have hkb := HK3.out.turned ht4 (fun h => by have := hF1 _ h; omega)
  have hfull : Full ((Ext.none_.add 0 (countZ (N0 : Int))).add 1 (countZ (N1 : Int))) (countZ (N0 : Int)) (countZ (N1 : Int)) 0 0 := ⟨rfl, rfl, rfl, by funext j; rfl, by funext j; rfl⟩
  generalize Grew (Grew (fun y => wa.heap.size ≤ y ∧ y < wa.heap.size + 2) w2 w3) w3 w4 = F at ho4 hF2
  have hc0 := countZ_le (s := (N0 : Int)) (by omega)
  have hc1 := countZ_le (s := (N1 : Int)) (by omega)
  obtain ⟨q0, hq0⟩ : ∃ q, q = countZ (N0 : Int) := ⟨_, rfl⟩
  obtain ⟨q1, hq1⟩ : ∃ q, q = countZ (N1 : Int) := ⟨_, rfl⟩
  rw [← hq0] at hfull ho4 hc0
  rw [← hq1] at hfull ho4 hc1
  have HQ0 := hide hq0.symm
  have HQ1 := hide hq1.symm
  have HF := hide hF2
  have HP : Hid (Ph w4 w b gs F q0 q1 N0 N1 (.slice none 0 0) 0 0) := hide ⟨_, ho4, hfull, World.ownsRow_nil _ _ _ _, fun g e => by simp [Value.ownBlock] at e, hwb, htb, hkb⟩
  have HGW := hide hgw
  clear hq0 hq1 hF2 hF1 ho4 ht4 hwb htb hkb hfull hsz3 hsz4 hc31 HT3 HK3 HO3 HA3 HA4 HO2 HA1 HA2 hb2 hl2 hT2 hsw HB2 HWA
  go_upto_block 0 with fail
  go_cut [10, 11, 12, 13, 14, 15, 16] (fun h _ _ _ _ _ _ wx => Hid (Ph wx w b gs F q0 q1 N0 N1 h q0 q1))
  case first =>
    go_wp2_with fail
    go_loopw [10, 11] (fun h a wr => (a = .int .i64 0 ∧ Hid (Ph wr w b gs F q0 q1 N0 N1 h 0 0)) ∨ (a = .int .i64 1 ∧ Hid (Ph wr w b gs F q0 q1 N0 N1 h q0 0)) ∨ (a = .int .i64 2 ∧ Hid (Ph wr w b gs F q0 q1 N0 N1 h q0 q1))) (fun _ a _ => 2 - (intOf a).toNat)
    case atStart => exact .inl ⟨rfl, HP⟩
    case round =>
      clear HP
      rcases hrel with ⟨rfl, HP⟩ | ⟨rfl, HP⟩ | ⟨rfl, HP⟩
      · go_wp2_with fail
        go_loopw [10, 12] (fun h a wr => ∃ i : Nat, i ≤ q0 ∧ a = .int .i64 (i : Int) ∧ Hid (Ph wr w b gs F q0 q1 N0 N1 h i 0)) (fun _ a _ => q0 - (intOf a).toNat)
        case atStart => exact ⟨0, Nat.zero_le _, rfl, HP⟩
        case round =>
          clear HP
          obtain ⟨i, hi, rfl, HP⟩ := hrel
          obtain ⟨S, hho, hfu, hhe, hbl, hhw, hht, hkk⟩ := HP.out
          have HO := hide hho
          have HFU := hide hfu
          have HHE := hide hhe
          have HBL := hide hbl
          have HW := hide hhw
          have HT := hide hht
          have HKK := hide hkk
          clear hho hfu hhe hbl hhw hht hkk HP
          have hcs : wr.cell? ⟨gs, 0, none⟩ = some (.int .i64 (N0 : Int)) := HKK.out.cell 0
          by_cases hiq : i < q0
          · have hii : (i : Int) < (q0 : Int) := by omega
            go_wp2_with (first
              | (go_at_call 10; refine (extCount_any (N0 : Int) (by omega) (by omega)).mono ?_; rw [HQ0.out]; rintro _ _ ⟨rfl, rfl⟩))
            clear hcs
            refine (on_take_yes HO.out HT.out 0 i HFU.out.in0 (by rw [HFU.out.n0]; exact hiq) (by rw [HFU.out.t0]; simp [lt]) (fun j hj => by rw [HFU.out.t0]; simpa [lt] using hj)).mono ?_
            rintro _ v5 ⟨rfl, ho5, ht5⟩
            have hfu5 := HFU.out.take0
            have hw5 := HW.out.trans (ht5.below_ HW.out.size (fun y hy => by have := HF.out y hy; have := HGW.out; omega))
            have htb5 := HT.out.turned ht5 (fun h => by have := HF.out _ h; omega)
            have hk5 := HKK.out.turned ht5 (fun h => by have := HF.out _ h; omega)
            have hh5 := HHE.out.turned ht5 (fun g hg => (HBL.out g hg).1)
            have HO5 := hide ho5
            have HFU5 := hide hfu5
            have HW5 := hide hw5
            have HT5 := hide htb5
            have HK5 := hide hk5
            have HH5 := hide hh5
            clear hfu5 hw5 htb5 hk5 hh5 ho5 ht5
            go_wp2_with (first
              | ((with_reducible refine at_slot 13 ?_); refine wpList_alloc_blk rfl 45 rfl _ (Tryd.zeroValue45 _) ?_; intro u hba hla hsa; clear hsa)
              | ((with_reducible refine at_store 13 ?_); refine wpList_store_all rfl 45 (.tmp 13) (.tmp 66) rfl v5.heap.size 45 _ hba rfl (exC (0, i)) rfl ext2_info rfl (exC_one _) ?_; intro w6 hbq hg hs; clear hs)
              | ((with_reducible refine at_slot 71 ?_); refine when_load rfl 45 (.tmp 13) rfl v5.heap.size 0 45 _ hbq rfl (exC (0, i)) _ (fun j v hj => by rw [Nat.zero_add]; simpa using hj) Tryd.underlying45 rfl ext2_info ?_)
              | ((with_reducible refine at_slot 72 ?_); refine wpList_build_agg _ rfl (.tmp 71) 41 rfl 45 i0 _ 2 Tryd.underlying41 HI0.out (Tryd.zeroValue45 _) HZ1.out (by decide) (by decide) (exC (0, i)).toArray rfl rfl ?_; have hl6 : Below v5.heap.size v5 w6 := hla.grown hg hla.size (fun g e => by injection e with e; omega); have hz6 := hl6.size; have hzw : w.heap.size ≤ w6.heap.size := by have := HW5.out.size; omega)
              | (at_builtin; refine wpList_append_two _ rfl (.tmp 70) (.tmp 72) _ rfl w.heap.size 45 i0 _ 2 16 Tryd.underlying41 HI0.out HZ0.out HZ1.out HZ2.out rfl (by decide) _ (up i 0).length _ rfl ((HH5.out.later hl6).alloc _) (w6.heap.size + 1) (some ⟨w6.heap.size, 0, none⟩) 1 1 (exC (0, i)) rfl (Reads.lump w6 (exC (0, i)) 45 (w6.heap.size + 1) 2 (by omega) rfl) (exC_one _) (by rw [up_length]; unfold maxLen; omega) (by rw [up_length]; omega) (le_alloc hzw _) ?_; intro h7 w7 hown7 hg7 hb7))
            have hla6 : Below v5.heap.size v5 (w6.alloc (.cells (exC (0, i)).toArray 45)) := hl6.alloc hz6 _
            have hza6 : (w6.alloc (.cells (exC (0, i)).toArray 45)).heap.size = w6.heap.size + 1 := World.size_alloc _ _
            have HPN : Hid (Ph w7 w b gs F q0 q1 N0 N1 h7 (i + 1) 0) := by
              refine hide ⟨_, (HO5.out.later hla6).grown hg7 (fun g e => (HBL.out g e).1), HFU5.out, ?_, ?_, ?_, ?_, ?_⟩
              · unfold Held
                rw [up_0, exL_append, exL_one, List.length_append]
                exact hown7
              · intro g e
                rcases hb7 with hb7 | hb7
                · exact HBL.out g (hb7 ▸ e)
                · rw [hb7] at e
                  injection e with e
                  have := HO5.out.1
                  have := HK5.out.lt
                  refine ⟨fun hf => ?_, by omega⟩
                  have := (HO5.out.1 g hf).2
                  omega
              · exact (HW5.out.trans (hla6.mono HW5.out.size)).grown hg7 (by omega) (fun g e => by have := (HBL.out g e).2; have := HGW.out; omega)
              · exact (HT5.out.later hla6).grown hg7 (fun e => by have := (HBL.out 0 e.symm).2; omega)
              · exact (HK5.out.below hla6 HK5.out.lt).grown hg7 (fun e => by have := (HBL.out gs e.symm).2; omega)
            clear hla6 hza6 hown7 hg7 hb7 hl6 hz6 hzw hba hla hbq hg
            go_roundw
            case rel => exact ⟨i + 1, by omega, by go_num, HPN⟩
            case measure => simp [intOf]; omega
          · have hii : ¬ ((i : Int) < (q0 : Int)) := by omega
            obtain rfl : i = q0 := by omega
            go_wp2_with (first
              | (go_at_call 10; refine (extCount_any (N0 : Int) (by omega) (by omega)).mono ?_; rw [HQ0.out]; rintro _ _ ⟨rfl, rfl⟩))
            clear hcs
            refine (on_take_full HO.out HT.out 0 HFU.out.in0 (fun j hj => by rw [HFU.out.t0]; rw [HFU.out.n0] at hj; simpa [lt] using hj)).mono ?_
            rintro _ v5 ⟨rfl, ho5, ht5⟩
            have hw5 := HW.out.trans (ht5.below_ HW.out.size (fun y hy => by have := HF.out y hy; have := HGW.out; omega))
            have htb5 := HT.out.turned ht5 (fun h => by have := HF.out _ h; omega)
            have hk5 := HKK.out.turned ht5 (fun h => by have := HF.out _ h; omega)
            have hh5 := HHE.out.turned ht5 (fun g hg => (HBL.out g hg).1)
            have HO5 := hide ho5
            have HW5 := hide hw5
            have HT5 := hide htb5
            have HK5 := hide hk5
            have HH5 := hide hh5
            have HU : Hid (usedE S 0 = i) := hide (by rw [show usedE S 0 = _ from usedE_in (m := 0) HFU.out.in0, HFU.out.t0, HFU.out.n0]; exact cnt_all fun j hj => by simpa [lt] using hj)
            have HR : Hid (roomE S 0 = 0) := hide (by rw [show roomE S 0 = _ from roomE_in (m := 0) HFU.out.in0, HFU.out.t0, HFU.out.n0, cnt_all fun j hj => by simpa [lt] using hj]; omega)
            clear hw5 htb5 hk5 hh5 ho5 ht5
            go_wp2_with (first
              | ((with_reducible refine at_slot 15 ?_); refine wpList_alloc_blk rfl 45 rfl _ (Tryd.zeroValue45 _) ?_; intro u hba hla hsa; clear hsa)
              | ((with_reducible refine at_store 15 ?_); refine wpList_store_all rfl 45 (.tmp 15) (.tmp 78) rfl v5.heap.size 45 _ hba rfl [.int .i64 0, .int .i64 0] rfl ext2_info rfl (ext2_one _ _) ?_; intro w6 hbq hg hs; clear hs))
            have hl6 : Below v5.heap.size v5 w6 := hla.grown hg hla.size (fun g e => by injection e with e; omega)
            have HO6 := hide (HO5.out.later hl6)
            have HW6 := hide (HW5.out.trans (hl6.mono HW5.out.size))
            have HT6 := hide (HT5.out.later hl6)
            have HK6 := hide (HK5.out.below hl6 HK5.out.lt)
            have HH6 := hide (HH5.out.later hl6)
            have hcs : w6.cell? ⟨gs, 0, none⟩ = some (.int .i64 (N0 : Int)) := HK6.out.cell 0
            clear hba hla hbq hg hl6
            have HCU : Hid (∀ k, Calls Tryd.prog 29 #[.pointer (some ⟨b, 0, none⟩), .int .i64 0] (w6.drewN k) fun e w' => e = .returned (.int .i64 (i : Int)) ∧ w6.drewN k = w') := hide (fun k => by have h := on_used (HO6.out.drewN k) 0 (by decide) (by decide); rw [HU.out] at h; exact h)
            have HCR : Hid (∀ k, Calls Tryd.prog 25 #[.pointer (some ⟨b, 0, none⟩), .int .i64 0] (w6.drewN k) fun e w' => e = .returned (.int .i64 0) ∧ w6.drewN k = w') := hide (fun k => by have h := on_room (HO6.out.drewN k) 0 (by decide) (by decide); rw [HR.out] at h; exact h)
            have HCC : Hid (∀ k, Calls Tryd.prog 10 #[.int .i64 (N0 : Int)] (w6.drewN k) fun e w' => e = .returned (.int .i64 (i : Int)) ∧ w6.drewN k = w') := hide (fun k => by have h := extCount_any (w := w6.drewN k) (N0 : Int) (by omega) (by omega); rw [HQ0.out] at h; exact h)
            go_quiet (first
              | (go_at_call 29; exact quiet_as (HCU.out _))
              | (go_at_call 25; exact quiet_as (HCR.out _))
              | (go_at_call 10; exact quiet_as (HCC.out _)))
            clear hcs
            have HPN : Hid (Ph (w6.drewN nq) w b gs F i q1 N0 N1 u10 i 0) := hide ⟨S, HO6.out.drewN _, HFU.out, HH6.out.drewN _, HBL.out, below_drewN HW6.out _, HT6.out, HK6.out.drewN _⟩
            go_wp2
            go_roundw
            case rel => exact .inr (.inl ⟨by go_num, HPN⟩)
            case measure => simp [intOf]
      · go_wp2_with fail
        go_loopw [10, 12] (fun h a wr => ∃ i : Nat, i ≤ q1 ∧ a = .int .i64 (i : Int) ∧ Hid (Ph wr w b gs F q0 q1 N0 N1 h q0 i)) (fun _ a _ => q1 - (intOf a).toNat)
        case atStart => exact ⟨0, Nat.zero_le _, rfl, HP⟩
        case round =>
          clear HP
          obtain ⟨i, hi, rfl, HP⟩ := hrel
          obtain ⟨S, hho, hfu, hhe, hbl, hhw, hht, hkk⟩ := HP.out
          have HO := hide hho
          have HFU := hide hfu
          have HHE := hide hhe
          have HBL := hide hbl
          have HW := hide hhw
          have HT := hide hht
          have HKK := hide hkk
          clear hho hfu hhe hbl hhw hht hkk HP
          have hcs : wr.cell? ⟨gs, 1, none⟩ = some (.int .i64 (N1 : Int)) := HKK.out.cell 1
          by_cases hiq : i < q1
          · have hii : (i : Int) < (q1 : Int) := by omega
            go_wp2_with (first
              | (go_at_call 10; refine (extCount_any (N1 : Int) (by omega) (by omega)).mono ?_; rw [HQ1.out]; rintro _ _ ⟨rfl, rfl⟩))
            clear hcs
            refine (on_take_yes HO.out HT.out 1 i HFU.out.in1 (by rw [HFU.out.n1]; exact hiq) (by rw [HFU.out.t1]; simp [lt]) (fun j hj => by rw [HFU.out.t1]; simpa [lt] using hj)).mono ?_
            rintro _ v5 ⟨rfl, ho5, ht5⟩
            have hfu5 := HFU.out.take1
            have hw5 := HW.out.trans (ht5.below_ HW.out.size (fun y hy => by have := HF.out y hy; have := HGW.out; omega))
            have htb5 := HT.out.turned ht5 (fun h => by have := HF.out _ h; omega)
            have hk5 := HKK.out.turned ht5 (fun h => by have := HF.out _ h; omega)
            have hh5 := HHE.out.turned ht5 (fun g hg => (HBL.out g hg).1)
            have HO5 := hide ho5
            have HFU5 := hide hfu5
            have HW5 := hide hw5
            have HT5 := hide htb5
            have HK5 := hide hk5
            have HH5 := hide hh5
            clear hfu5 hw5 htb5 hk5 hh5 ho5 ht5
            go_wp2_with (first
              | ((with_reducible refine at_slot 13 ?_); refine wpList_alloc_blk rfl 45 rfl _ (Tryd.zeroValue45 _) ?_; intro u hba hla hsa; clear hsa)
              | ((with_reducible refine at_store 13 ?_); refine wpList_store_all rfl 45 (.tmp 13) (.tmp 66) rfl v5.heap.size 45 _ hba rfl (exC (1, i)) rfl ext2_info rfl (exC_one _) ?_; intro w6 hbq hg hs; clear hs)
              | ((with_reducible refine at_slot 71 ?_); refine when_load rfl 45 (.tmp 13) rfl v5.heap.size 0 45 _ hbq rfl (exC (1, i)) _ (fun j v hj => by rw [Nat.zero_add]; simpa using hj) Tryd.underlying45 rfl ext2_info ?_)
              | ((with_reducible refine at_slot 72 ?_); refine wpList_build_agg _ rfl (.tmp 71) 41 rfl 45 i0 _ 2 Tryd.underlying41 HI0.out (Tryd.zeroValue45 _) HZ1.out (by decide) (by decide) (exC (1, i)).toArray rfl rfl ?_; have hl6 : Below v5.heap.size v5 w6 := hla.grown hg hla.size (fun g e => by injection e with e; omega); have hz6 := hl6.size; have hzw : w.heap.size ≤ w6.heap.size := by have := HW5.out.size; omega)
              | (at_builtin; refine wpList_append_two _ rfl (.tmp 70) (.tmp 72) _ rfl w.heap.size 45 i0 _ 2 16 Tryd.underlying41 HI0.out HZ0.out HZ1.out HZ2.out rfl (by decide) _ (up q0 i).length _ rfl ((HH5.out.later hl6).alloc _) (w6.heap.size + 1) (some ⟨w6.heap.size, 0, none⟩) 1 1 (exC (1, i)) rfl (Reads.lump w6 (exC (1, i)) 45 (w6.heap.size + 1) 2 (by omega) rfl) (exC_one _) (by rw [up_length]; unfold maxLen; omega) (by rw [up_length]; omega) (le_alloc hzw _) ?_; intro h7 w7 hown7 hg7 hb7))
            have hla6 : Below v5.heap.size v5 (w6.alloc (.cells (exC (1, i)).toArray 45)) := hl6.alloc hz6 _
            have hza6 : (w6.alloc (.cells (exC (1, i)).toArray 45)).heap.size = w6.heap.size + 1 := World.size_alloc _ _
            have HPN : Hid (Ph w7 w b gs F q0 q1 N0 N1 h7 q0 (i + 1)) := by
              refine hide ⟨_, (HO5.out.later hla6).grown hg7 (fun g e => (HBL.out g e).1), HFU5.out, ?_, ?_, ?_, ?_, ?_⟩
              · unfold Held
                rw [up_1, exL_append, exL_one, List.length_append]
                exact hown7
              · intro g e
                rcases hb7 with hb7 | hb7
                · exact HBL.out g (hb7 ▸ e)
                · rw [hb7] at e
                  injection e with e
                  have := HO5.out.1
                  have := HK5.out.lt
                  refine ⟨fun hf => ?_, by omega⟩
                  have := (HO5.out.1 g hf).2
                  omega
              · exact (HW5.out.trans (hla6.mono HW5.out.size)).grown hg7 (by omega) (fun g e => by have := (HBL.out g e).2; have := HGW.out; omega)
              · exact (HT5.out.later hla6).grown hg7 (fun e => by have := (HBL.out 0 e.symm).2; omega)
              · exact (HK5.out.below hla6 HK5.out.lt).grown hg7 (fun e => by have := (HBL.out gs e.symm).2; omega)
            clear hla6 hza6 hown7 hg7 hb7 hl6 hz6 hzw hba hla hbq hg
            go_roundw
            case rel => exact ⟨i + 1, by omega, by go_num, HPN⟩
            case measure => simp [intOf]; omega
          · have hii : ¬ ((i : Int) < (q1 : Int)) := by omega
            obtain rfl : i = q1 := by omega
            go_wp2_with (first
              | (go_at_call 10; refine (extCount_any (N1 : Int) (by omega) (by omega)).mono ?_; rw [HQ1.out]; rintro _ _ ⟨rfl, rfl⟩))
            clear hcs
            refine (on_take_full HO.out HT.out 1 HFU.out.in1 (fun j hj => by rw [HFU.out.t1]; rw [HFU.out.n1] at hj; simpa [lt] using hj)).mono ?_
            rintro _ v5 ⟨rfl, ho5, ht5⟩
            have hw5 := HW.out.trans (ht5.below_ HW.out.size (fun y hy => by have := HF.out y hy; have := HGW.out; omega))
            have htb5 := HT.out.turned ht5 (fun h => by have := HF.out _ h; omega)
            have hk5 := HKK.out.turned ht5 (fun h => by have := HF.out _ h; omega)
            have hh5 := HHE.out.turned ht5 (fun g hg => (HBL.out g hg).1)
            have HO5 := hide ho5
            have HW5 := hide hw5
            have HT5 := hide htb5
            have HK5 := hide hk5
            have HH5 := hide hh5
            have HU : Hid (usedE S 1 = i) := hide (by rw [show usedE S 1 = _ from usedE_in (m := 1) HFU.out.in1, HFU.out.t1, HFU.out.n1]; exact cnt_all fun j hj => by simpa [lt] using hj)
            have HR : Hid (roomE S 1 = 0) := hide (by rw [show roomE S 1 = _ from roomE_in (m := 1) HFU.out.in1, HFU.out.t1, HFU.out.n1, cnt_all fun j hj => by simpa [lt] using hj]; omega)
            clear hw5 htb5 hk5 hh5 ho5 ht5
            go_wp2_with (first
              | ((with_reducible refine at_slot 15 ?_); refine wpList_alloc_blk rfl 45 rfl _ (Tryd.zeroValue45 _) ?_; intro u hba hla hsa; clear hsa)
              | ((with_reducible refine at_store 15 ?_); refine wpList_store_all rfl 45 (.tmp 15) (.tmp 78) rfl v5.heap.size 45 _ hba rfl [.int .i64 0, .int .i64 0] rfl ext2_info rfl (ext2_one _ _) ?_; intro w6 hbq hg hs; clear hs))
            have hl6 : Below v5.heap.size v5 w6 := hla.grown hg hla.size (fun g e => by injection e with e; omega)
            have HO6 := hide (HO5.out.later hl6)
            have HW6 := hide (HW5.out.trans (hl6.mono HW5.out.size))
            have HT6 := hide (HT5.out.later hl6)
            have HK6 := hide (HK5.out.below hl6 HK5.out.lt)
            have HH6 := hide (HH5.out.later hl6)
            have hcs : w6.cell? ⟨gs, 1, none⟩ = some (.int .i64 (N1 : Int)) := HK6.out.cell 1
            clear hba hla hbq hg hl6
            have HCU : Hid (∀ k, Calls Tryd.prog 29 #[.pointer (some ⟨b, 0, none⟩), .int .i64 1] (w6.drewN k) fun e w' => e = .returned (.int .i64 (i : Int)) ∧ w6.drewN k = w') := hide (fun k => by have h := on_used (HO6.out.drewN k) 1 (by decide) (by decide); rw [HU.out] at h; exact h)
            have HCR : Hid (∀ k, Calls Tryd.prog 25 #[.pointer (some ⟨b, 0, none⟩), .int .i64 1] (w6.drewN k) fun e w' => e = .returned (.int .i64 0) ∧ w6.drewN k = w') := hide (fun k => by have h := on_room (HO6.out.drewN k) 1 (by decide) (by decide); rw [HR.out] at h; exact h)
            have HCC : Hid (∀ k, Calls Tryd.prog 10 #[.int .i64 (N1 : Int)] (w6.drewN k) fun e w' => e = .returned (.int .i64 (i : Int)) ∧ w6.drewN k = w') := hide (fun k => by have h := extCount_any (w := w6.drewN k) (N1 : Int) (by omega) (by omega); rw [HQ1.out] at h; exact h)
            go_quiet (first
              | (go_at_call 29; exact quiet_as (HCU.out _))
              | (go_at_call 25; exact quiet_as (HCR.out _))
              | (go_at_call 10; exact quiet_as (HCC.out _)))
            clear hcs
            have HPN : Hid (Ph (w6.drewN nq) w b gs F q0 i N0 N1 u10 q0 i) := hide ⟨S, HO6.out.drewN _, HFU.out, HH6.out.drewN _, HBL.out, below_drewN HW6.out _, HT6.out, HK6.out.drewN _⟩
            go_wp2
            go_roundw
            case rel => exact .inr (.inr ⟨by go_num, HPN⟩)
            case measure => simp [intOf]
      · go_wp2_with fail
        go_meet
        exact HP
  case rest =>
    clear HP
    obtain ⟨S, hho, hfu, hrest⟩ := hcut.out
    have hlen := up_length q0 q1
    have HP : Hid (∃ l, l.length = q0 + q1 ∧ Ph3 wc w b gs F q0 q1 N0 N1 u10 l) := hide ⟨_, hlen, S, hho, hfu.inv, hrest⟩
    clear hcut hho hfu hrest hlen
    obtain ⟨T, hTT⟩ : ∃ T, T = q0 + q1 := ⟨_, rfl⟩
    have hTb : T ≤ 1000 := by omega
    rw [← hTT] at HP
    have HTT := hide hTT
    clear hTT
    go_wp2_with fail
    go_loopw [10, 17] (fun h a wr => ∃ (i : Nat) (l : List (Nat × Nat)), i + l.length = T ∧ a = .int .i64 (i : Int) ∧ Hid (Ph3 wr w b gs F q0 q1 N0 N1 h l)) (fun _ a _ => T - (intOf a).toNat)
    case atStart =>
      obtain ⟨l, h1, h2⟩ := HP.out
      exact ⟨0, l, by omega, rfl, hide h2⟩
    case round =>
      clear HP
      obtain ⟨i, l, hil, rfl, HP⟩ := hrel
      obtain ⟨S, hho, hfu, hhe, hbl, hhw, hht, hkk⟩ := HP.out
      obtain ⟨A, c, rfl, hlc, hcm⟩ := hhe.shape
      have HO := hide hho
      have HFU := hide hfu
      have HHE := hide hhe
      have HBL := hide hbl
      have HW := hide hhw
      have HT := hide hht
      have HKK := hide hkk
      clear hho hfu hhe hbl hhw hht hkk HP
      by_cases hl : 0 < l.length
      · have hll : (0 : Int) < (l.length : Int) := by omega
        go_upto_if 107 with fail
        go_cut [18] from 99 to 160 (fun s wx => wr = wx ∧ ∃ k : Nat, k < l.length ∧ s = .int .i64 (k : Int))
        case first =>
          by_cases hi3 : i < n3
          · have hd1 : decide (i < n3) = true := by simpa using hi3
            obtain ⟨ad, x, rfl, hab, hx, hc⟩ := (hr3.below HW.out).i64_at hi3
            clear hx
            obtain ⟨M, hmask, hM⟩ := mask16 x
            obtain ⟨k, hk⟩ : ∃ k, k = M % l.length := ⟨_, rfl⟩
            have hkl : k < l.length := by rw [hk]; exact Nat.mod_lt _ hl
            have hrem : (M : Int) % (l.length : Int) = (k : Int) := by rw [hk]; exact (Int.natCast_emod _ _).symm
            have hrem2 : (M : Int).tmod (l.length : Int) = (k : Int) := by rw [Int.tmod_eq_emod_of_nonneg (by omega)]; exact hrem
            have hlne : ¬ ((l.length : Int) = 0) := by omega
            clear hk
            go_wp2_with fail
            go_meet
            exact ⟨rfl, k, hkl, by first | rfl | go_num⟩
          · have hd1 : decide (i < n3) = false := by simpa using hi3
            go_wp2_with fail
            go_meet
            exact ⟨rfl, 0, hl, rfl⟩
        case rest =>
          obtain ⟨rfl, k, hk, rfl⟩ := hcut
          obtain ⟨x, hx⟩ : ∃ x, l[k]? = some x := ⟨l[k], List.getElem?_eq_getElem hk⟩
          obtain ⟨ad, c', hv, _, _, hcx, hc0, _⟩ := HHE.out.cell hx
          injection hv with hA _ hcc
          subst hA
          subst hcc
          obtain ⟨hd2, hfe, hpk, U, hu1, hu2, hu3, hU⟩ := HFU.out.free hx
          have hinv := HFU.out.less hx
          have hnd : S.n x.1 ≤ 497 := HO.out.ok.small x.1 (HFU.out.in_ hd2)
          have HX := hide hx
          obtain ⟨d, j⟩ := x
          obtain ⟨S2, hS2⟩ : ∃ S2, S2 = S.setT d (put (S.t d) j false) := ⟨_, rfl⟩
          simp only at hcx hc0 hd2 hfe hpk hu1 hu2 hu3 hU hinv hnd
          rw [← hS2] at hinv hpk hu2 hu3
          have hjb : (j : Int) ≤ 1000 := by
            have := ((HFU.out.mem d j).1 (List.mem_iff_getElem?.2 ⟨k, HX.out⟩)).2.1
            omega
          obtain ⟨R, hR⟩ : ∃ R, R = usedE S (1 - (d : Int)) := ⟨_, rfl⟩
          rw [← hR] at hu3
          have HCX := hide hcx
          have HFE := hide hfe
          have HPK := hide hpk
          have HU1 := hide hu1
          have HU2 := hide hu2
          have HU3 := hide hu3
          have HR := hide hR
          have HINV := hide hinv
          clear hcx hfe hpk hu1 hu2 hu3 hR hinv hx hS2
          go_wp2_with fail
          clear hc0
          refine (on_used HO.out (d : Int) (by omega) (by omega)).mono ?_
          rw [HU1.out]
          rintro _ _ ⟨rfl, rfl⟩
          go_wp2_with fail
          refine (on_used HO.out (1 - (d : Int)) (by omega) (by omega)).mono ?_
          rw [← HR.out]
          rintro _ _ ⟨rfl, rfl⟩
          go_wp2_with (first
            | ((with_reducible refine at_slot 132 ?_); refine when_load_at rfl 45 (.tmp 131) rfl (ad.add (k * 2)) rfl (exC (d, j)) _ HCX.out Tryd.underlying45 rfl ext2_info ?_))
          refine (on_free HO.out (d : Int) (114 + 8 * (j : Int)) (by omega) (by omega) (by omega) (by omega)).mono ?_
          rw [HFE.out, HPK.out]
          rintro _ v5 ⟨rfl, ho5, ht5⟩
          have hw5 := HW.out.trans (ht5.below_ HW.out.size (fun y hy => by have := HF.out y hy; have := HGW.out; omega))
          have htb5 := HT.out.turned ht5 (fun h => by have := HF.out _ h; omega)
          have hk5 := HKK.out.turned ht5 (fun h => by have := HF.out _ h; omega)
          have hh5 := HHE.out.turned ht5 (fun g hg => (HBL.out g hg).1)
          have HO5 := hide ho5
          have HW5 := hide hw5
          have HT5 := hide htb5
          have HK5 := hide hk5
          have HH5 := hide hh5
          clear hw5 htb5 hk5 hh5 ho5 ht5
          go_wp2_with fail
          refine (on_used HO5.out (d : Int) (by omega) (by omega)).mono ?_
          rw [HU2.out]
          rintro _ _ ⟨rfl, rfl⟩
          go_wp2_with fail
          refine (on_used HO5.out (1 - (d : Int)) (by omega) (by omega)).mono ?_
          rw [HU3.out]
          rintro _ _ ⟨rfl, rfl⟩
          go_wp2_with fail
          have hkc : k ≤ c := by omega
          have hkw : IntKind.i64.wrap ((k : Int) + 1) = (k : Int) + 1 := IntWalk.i64_in _ (by omega)
          have hkl0 : (0 : Int) ≤ (k : Int) + 1 := by omega
          have hkl1 : (k : Int) + 1 ≤ (l.length : Int) := by omega
          have hkt : ((k : Int) + 1).toNat = k + 1 := by omega
          obtain ⟨x1, y1, x2, y2, hrun1, hrun2, hh6, hl6, hbl6⟩ := Held.less (HH5.out.drew) HW5.out.drew.size (by omega) hk rfl hlc 41 41
          have HH6 := hide hh6
          have HL6 := hide (show Below v5.heap.size v5 y2 from ((Below.refl _ v5).drew).trans hl6)
          have HBL6 := hide hbl6
          have hr1 : (Builtin.append_ #[41, 41] 41 #[.slice (some ⟨v5.heap.size, 0, none⟩) 0 0, .slice (some ad) k c]).run Tryd.prog (v5.alloc (.cells #[] 45)).drew = .ok x1 y1 := hrun1
          have hr2 : (Builtin.append_ #[41, 41] 41 #[x1, .slice (if c = k + 1 then some ad else some (ad.add ((k + 1) * 2))) (l.length - (k + 1)) (c - (k + 1))]).run Tryd.prog y1 = .ok x2 y2 := hrun2
          clear hh6 hl6 hbl6 hrun1 hrun2
          go_region_law (first
            | (refine step_known rfl (.tmp 151) (.tmp 154) 41 rfl _ _ rfl rfl x1 y1 hr1 ?_)
            | (refine step_known rfl (.tmp 155) (.tmp 159) 41 rfl _ _ rfl rfl x2 y2 hr2 ?_))
          clear hr1 hr2 hkw hkl0 hkl1 hkt hkc
          have HPN : Hid (Ph3 y2 w b gs F q0 q1 N0 N1 x2 (l.eraseIdx k)) := by
            refine hide ⟨S2, HO5.out.later HL6.out, HINV.out, HH6.out, fun g e => ?_, HW5.out.trans (HL6.out.mono HW5.out.size), HT5.out.later HL6.out, HK5.out.below HL6.out HK5.out.lt⟩
            have h1 := HBL6.out g e
            have h2 : v5.drew.heap.size = v5.heap.size := rfl
            have h3 := HK5.out.lt
            refine ⟨fun hf => ?_, by omega⟩
            have := (HO5.out.1 g hf).2
            omega
          have hel : (l.eraseIdx k).length + 1 = l.length := by rw [List.length_eraseIdx, if_pos hk]; omega
          have HEL := hide hel
          clear hel
          go_wp2
          go_roundw
          case rel => exact ⟨i + 1, l.eraseIdx k, by have := HEL.out; omega, by go_num, HPN⟩
          case measure => simp [intOf]; omega
      · have hnil : l = [] := List.eq_nil_of_length_eq_zero (by omega)
        have hll : ¬ ((0 : Int) < (l.length : Int)) := by omega
        have hz : ∀ d, d < 2 → cnt (S.t d) (S.n d) = 0 := fun d hd => cnt_zero fun k hk => by
          cases hb : S.t d k with
          | false => rfl
          | true =>
            have := (HFU.out.mem d k).2 ⟨hd, hk, hb⟩
            rw [hnil] at this
            cases this
        have hcs : wr.cell? ⟨gs, 0, none⟩ = some (.int .i64 (N0 : Int)) := HKK.out.cell 0
        have HCU0 : Hid (∀ k, Calls Tryd.prog 29 #[.pointer (some ⟨b, 0, none⟩), .int .i64 0] (wr.drewN k) fun e w' => e = .returned (.int .i64 0) ∧ wr.drewN k = w') := hide (fun k => by have h := on_used (HO.out.drewN k) 0 (by decide) (by decide); rw [show usedE S 0 = 0 from (usedE_in (m := 0) (HFU.out.in_ (by decide))).trans (hz 0 (by decide))] at h; exact h)
        have HCU1 : Hid (∀ k, Calls Tryd.prog 29 #[.pointer (some ⟨b, 0, none⟩), .int .i64 1] (wr.drewN k) fun e w' => e = .returned (.int .i64 0) ∧ wr.drewN k = w') := hide (fun k => by have h := on_used (HO.out.drewN k) 1 (by decide) (by decide); rw [show usedE S 1 = 0 from (usedE_in (m := 1) (HFU.out.in_ (by decide))).trans (hz 1 (by decide))] at h; exact h)
        have HCR : Hid (∀ k, Calls Tryd.prog 25 #[.pointer (some ⟨b, 0, none⟩), .int .i64 0] (wr.drewN k) fun e w' => e = .returned (.int .i64 (q0 : Int)) ∧ wr.drewN k = w') := hide (fun k => by have h := on_room (HO.out.drewN k) 0 (by decide) (by decide); rw [show roomE S 0 = q0 from (roomE_in (m := 0) (HFU.out.in_ (by decide))).trans (by rw [hz 0 (by decide), HFU.out.n0]; omega)] at h; exact h)
        have HCC : Hid (∀ k, Calls Tryd.prog 10 #[.int .i64 (N0 : Int)] (wr.drewN k) fun e w' => e = .returned (.int .i64 (q0 : Int)) ∧ wr.drewN k = w') := hide (fun k => by have h := extCount_any (w := wr.drewN k) (N0 : Int) (by omega) (by omega); rw [HQ0.out] at h; exact h)
        clear hz hnil
        go_wp2
        go_quiet (first
          | (go_at_call 29; first | (with_reducible exact quiet_as (HCU0.out _)) | (with_reducible exact quiet_as (HCU1.out _)))
          | (go_at_call 25; exact quiet_as (HCR.out _))
          | (go_at_call 10; exact quiet_as (HCC.out _)))
        go_wp2
        go_ret
        exact ⟨rfl, below_drewN HW.out _⟩

/-! The row's frame, by program: how the walk above proves the statement. -/
set_option maxRecDepth 100000 in
theorem lifted (os : Os) (started : os.Started) (H : Type) (enc : TypeId × Value → H) :
    ReturnsInHanded {} Tryd.checked os 8 .any (fun w args => (Rows.extentWholeSpec.pre enc Tryd.prog Tryd.f8 Rows.extentWholeRow.domain false w args ∧ laidMetH Tryd.prog tabL w) ∧ sizedMet enc Tryd.prog Tryd.f8 (OpenSpec.ofChange Rows.extentWholeSpec) false w args) (Rows.extentWholeSpec.post enc Tryd.prog Tryd.f8 false true false false) := by
  refine returnsInHanded_of_change_and (C := Tryd.checked) (X := fun w _ => laidMetH Tryd.prog tabL w) (fun _ _ _ hh h => h.of_heap hh) own started (by kernel_rfl) Tryd.func8
    (ChangeSpec.witness_shaped (enc := enc) (C := Tryd.checked) (os := os) (X := fun w _ => laidMetH Tryd.prog tabL w) false (World.doorLaid Tryd.prog 400 os) #[.int .i64 0, .int .i64 0, .slice none 0 0] 8 rfl (World.shaped_of_RefB (by kernel_rfl) (by kernel_rfl)) (by kernel_rfl) (by kernel_rfl) (by kernel_rfl) (door_met os _)) ?_
  intro W base args ds gs before hval0 hW _ _ hL _
  have hval : ∀ (j : Nat) t v, Tryd.f8.params[j]? = some t → args[j]? = some v → Value.okWide Tryd.prog W .any base t v := hval0
  have hW' := hW
  obtain ⟨p, q, hA0, hV, rfl, hfz, hnd⟩ := hW
  have hA : DataW.TrodAll enc Tryd.prog W 0 (fun _ => true) true Tryd.f8.params.toList args.toList ds p := hA0
  rw [Tryd.params8] at hA hval
  obtain ⟨v0, vs0, d0, ds0, p0, q0, hargs, rfl, rfl, h0, r0⟩ := trodAll_cons hA
  obtain ⟨v1, vs1, d1, ds1, p1, q1, rfl, rfl, rfl, h1, r1⟩ := trodAll_cons r0
  obtain ⟨v2, vs2, d2, ds2, p2, q2, rfl, rfl, rfl, h2, r2⟩ := trodAll_cons r1
  obtain ⟨rfl, rfl, rfl⟩ := trodAll_nil r2
  obtain rfl : args = #[v0, v1, v2] := by cases args; simp_all
  obtain ⟨rfl, rfl⟩ := trodVars_none hV
  obtain ⟨a0, rfl, rfl, rfl, w0⟩ := open_int Tryd.underlying3 (hval 0 3 v0 rfl rfl) h0
  have b0 := bounds_i64 w0
  obtain ⟨a1, rfl, rfl, rfl, w1⟩ := open_int Tryd.underlying3 (hval 1 3 v1 rfl rfl) h1
  have b1 := bounds_i64 w1
  obtain ⟨A2, n2, c2, rfl⟩ := okWide_slice Tryd.underlying37 (hval 2 37 v2 rfl rfl)
  have k2 := h2
  have lt2 : ∀ x ∈ p2, x.block < W.heap.size := by obtain ⟨m, hm⟩ := k2; exact DataW.trod_lt m _ _ _ hm
  obtain ⟨l2, x2, y2, g2, z2⟩ := arg_ints h2
  clear hA0 hval0
  refine (walk a0 a1 A2 n2 c2 l2 W (of_laid hL) b0.1 b0.2 b1.1 b1.2 x2 y2 g2 z2).mono fun e W' ⟨he, bel⟩ => ?_
  subst he
  exact ⟨_, rfl, _, _, _, [], _, [], hW', trodAll_mk1 (shut_bool Tryd.underlying4 _), (trodAll_cons_mk (shut_int Tryd.underlying3 w0) (trodAll_cons_mk (shut_int Tryd.underlying3 w1) (trodAll_cons_mk (Below.trod laidOut (by kernel_rfl) (of_decide_eq_true (by kernel_rfl)) k2 bel lt2) trodAll_mk0))), rfl, bel.frame _, fun h => by cases h⟩

theorem over : Rows.extentWholeRow.holds Tryd.pinned (OpenSpec.ofChange Rows.extentWholeSpec) :=
  OpenClaim.holds_of_wide 8 Tryd.f8 rfl rfl rfl rfl rfl rfl rfl ⟨rfl, rfl, rfl, rfl, rfl⟩ rfl rfl rfl rfl rfl (by kernel_rfl) Tryd.func8 (by kernel_rfl)
    (of_decide_eq_true (by kernel_rfl)) (by unfold Func.isWrapper; first | (rw [if_pos (by decide +kernel)]; kernel_rfl) | (rw [if_neg (by decide +kernel)]; exact ⟨rfl, rfl⟩))
    (fun os started H enc _ => lifted os started H enc)

/-- The statement: the tied card. -/
theorem proved : Rows.ExtentWholeCardSaid :=
  Claim7.holds_tied_plain_at .later [] [.data] true Rows.extentWholeCard.stood.harness Rows.extentWholeCard.stood.looks
    over (fun _ h => by cases h) (by kernel_rfl) (fun _ h => by cases h) extentWhole_row_tie rfl ⟨rfl, rfl⟩ (by kernel_rfl) rfl
    (fun f fn hf hfn => by
      obtain rfl : f = 8 := Option.some.inj ((show Tryd.prog.funcNamed "braidwork/braidworklaw06.ExtentWhole" = some 8 by kernel_rfl).symm.trans hf) |>.symm
      obtain rfl : fn = Tryd.f8 := (Option.some.inj (Tryd.func8.symm.trans hfn)).symm
      exact ⟨by kernel_rfl, fun j t ht => by
        rw [Tryd.params8] at ht
        have hm : t ∈ [3, 3, 37] := by simpa using Array.mem_of_getElem? ht
        have hall : ([3, 3, 37].all fun u => !Tryd.prog.wantsStandIn u) = true := by kernel_rfl
        exact (show Tryd.prog.wantsStandIn t = false by simpa using List.all_eq_true.1 hall t hm)⟩)
    (by kernel_rfl)
#print axioms proved
end Go.Proofs.YtfghnplbefefbaaDoor.ExtentWhole
