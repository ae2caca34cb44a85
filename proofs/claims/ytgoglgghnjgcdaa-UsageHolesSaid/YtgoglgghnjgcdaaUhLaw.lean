/- UsageHoles' walk: a group is filled hole by hole. -/
import Derived.Test.YtgoglgghnjgcdaaUsgB
namespace Go.Proofs.Ytgoglgghnjgcdaa
open Go.RowKit Go.Maps

/-- One group of n slots: which are live; blocks are numbers below k, or say their slot. -/
structure Fl (n k : Nat) (v : Nat → Bool) (S : Us) : Prop where
  ok : S.Ok
  g : S.G = [⟨4, (n : Int)⟩]
  v : ∀ i, v i = S.live 4 i
  b : ∀ x ∈ S.L, x.b < k ∨ x.b = 1000 + x.s
section
variable {n k : Nat} {v : Nat → Bool} {S : Us}
theorem Fl.has (h : Fl n k v S) : S.has 4 = true := by
  unfold Us.has
  rw [h.g]
  rfl
theorem Fl.slots (h : Fl n k v S) : S.slots 4 = (n : Int) := by
  unfold Us.slots
  rw [h.g]
  rfl
theorem Fl.at_ (h : Fl n k v S) {i : Nat} (hi : v i = true) : ∃ b, S.at_ 4 (i : Int) = some b := by
  rw [h.v] at hi
  exact Option.isSome_iff_exists.1 hi
theorem Fl.dead (h : Fl n k v S) {i : Nat} (hi : v i = false) : S.at_ 4 (i : Int) = none := by
  rw [h.v] at hi
  unfold Us.live at hi
  cases ha : S.at_ 4 (i : Int) with
  | none => rfl
  | some b => rw [ha] at hi; cases hi
theorem Fl.put (h : Fl n k v S) {s k' : Nat} {b : Int} (hs : s < n) (hv : v s = false) (hb : b = (k : Int) ∧ k' = k + 1 ∧ k ≤ 100 ∨ b = 1000 + (s : Int) ∧ k' = k ∧ k ≤ 100) : S.putE 4 (s : Int) b = 0 ∧ Fl n k' (upd v s true) (S.put' 4 (s : Int) b) := by
  have hd := h.dead hv
  have hb0 : 0 ≤ b := by omega
  have hb1 : b < 9223372036854775808 := by
    have := (Us.slots_pos h.ok h.has).2.1
    rw [h.slots] at this
    omega
  have e : S.putE 4 (s : Int) b = 0 := by
    rw [putE_in h.has (by omega) (by rw [h.slots]; omega) hb0, hd]
    rfl
  have hno : ∀ x ∈ S.L, x.b ≠ b := by
    intro x hx he
    have h1 := h.b x hx
    have h2 := h.ok.ls x hx
    have hxg : x.g = 4 := by
      have h3 := Us.has_iff.1 h2.1
      rw [h.g] at h3
      obtain ⟨y, hy, hyx⟩ := h3
      simp at hy
      subst hy
      exact hyx.symm
    rcases hb with hb | hb
    · omega
    · rcases h1 with h1 | h1
      · omega
      · have h4 := Us.at_of h.ok hx
        rw [hxg, show x.s = (s : Int) by omega, hd] at h4
        cases h4
  have hfree : S.L.filter (fun x => x.b != b) = S.L := List.filter_eq_self.2 fun x hx => by simpa using hno x hx
  refine ⟨e, ?_⟩
  rw [put_good e]
  have hok := h.ok.put e hb1
  refine ⟨hok, h.g, fun i => ?_, fun x hx => ?_⟩
  · unfold Us.live
    rw [Us.put_at h.ok hd]
    by_cases hi : i = s
    · subst hi
      rw [upd_self, if_pos ⟨rfl, rfl⟩]
      rfl
    · rw [upd_ne _ _ hi, if_neg (by omega), h.v]
      unfold Us.live
      by_cases ha : S.at_ 4 (i : Int) = some b
      · exact absurd rfl (hno _ (Us.at_some ha))
      · rw [if_neg ha]
  · unfold Us.put at hx
    dsimp only at hx
    rw [hfree] at hx
    rcases List.mem_append.1 hx with hx | hx
    · have := h.b x hx
      omega
    · simp at hx
      subst hx
      show b < (k' : Int) ∨ b = 1000 + (s : Int)
      omega
theorem Fl.bad (h : Fl n k v S) {s : Nat} {b : Int} (hs : s < n) (hv : v s = true) (hb : 0 ≤ b) : S.putE 4 (s : Int) b = 9 ∧ S.put' 4 (s : Int) b = S := by
  obtain ⟨c, hc⟩ := h.at_ hv
  have e : S.putE 4 (s : Int) b = 9 := by
    rw [putE_in h.has (by omega) (by rw [h.slots]; omega) hb, hc]
    rfl
  exact ⟨e, put_bad (by rw [e]; decide)⟩
theorem Fl.more (h : Fl n k v S) {k' : Nat} (hk : k ≤ k') : Fl n k' v S := ⟨h.ok, h.g, h.v, fun x hx => by have := h.b x hx; omega⟩
theorem Fl.hole (h : Fl n k v S) {j : Nat} (hj : S.hole 4 = some j) : j < n ∧ v j = false ∧ ∀ i, i < j → v i = true := by
  unfold Us.hole at hj
  rw [h.slots, Int.toNat_natCast, List.find?_range_eq_some] at hj
  obtain ⟨h1, h2, h3⟩ := hj
  refine ⟨List.mem_range.1 h2, ?_, fun i hi => ?_⟩
  · rw [h.v]
    simpa using h1
  · rw [h.v]
    simpa using h3 i hi
theorem Fl.none_ (h : Fl n k v S) (hj : S.hole 4 = none) : ∀ i, i < n → v i = true := by
  unfold Us.hole at hj
  rw [h.slots, Int.toNat_natCast, List.find?_eq_none] at hj
  intro i hi
  rw [h.v]
  simpa using hj i (List.mem_range.2 hi)
theorem Fl.all (h : Fl n k v S) (hv : ∀ i, i < n → v i = true) : S.blocks 4 = (List.range n).map fun (i : Nat) => (S.at_ 4 (i : Int)).getD 0 := by
  have hk : ∀ j, j ≤ n → blocksTo S 4 j = (List.range j).map fun (i : Nat) => (S.at_ 4 (i : Int)).getD 0 := by
    intro j
    induction j with
    | zero => intro _; rfl
    | succ j ih =>
      intro hj
      obtain ⟨b, hb⟩ := h.at_ (hv j (by omega))
      rw [blocksTo_succ, ih (by omega), hb, List.range_succ, List.map_append, List.map_cons, List.map_nil, hb]
      rfl
  rw [← blocksTo_all, h.slots, Int.toNat_natCast]
  exact hk n (Nat.le_refl _)
theorem Fl.full (h : Fl n k v S) (hv : ∀ i, i < n → v i = true) : (S.blocks 4).length = n ∧ S.cnt 4 = n ∧ ∀ i, i < n → ∃ b, S.at_ 4 (i : Int) = some b ∧ S.fnd b = some (4, (i : Int)) ∧ (S.blocks 4)[i]? = some b ∧ okI64 b := by
  have ha := h.all hv
  have hl : (S.blocks 4).length = n := by rw [ha]; simp
  refine ⟨hl, by rw [← Us.blocks_len h.ok, hl], fun i hi => ?_⟩
  obtain ⟨b, hb⟩ := h.at_ (hv i hi)
  have := Us.at_has h.ok hb
  refine ⟨b, hb, (Us.at_fnd h.ok).1 hb, ?_, by unfold okI64; omega⟩
  rw [ha, List.getElem?_map, List.getElem?_range hi, Option.map_some, hb]
  rfl
end
/-- How many slots may still be holes, for the loop's measure. -/
def holeM (n : Nat) : Value → Nat
  | .int _ k => n - k.toNat
  | _ => n + 1
set_option maxRecDepth 100000 in
set_option maxHeartbeats 8000000 in
theorem usageHoles_walk (size : Int) (A : Option Addr) (nl cl : Nat) (l : List Int) (w : World) (hr : Reads w w.heap.size 1 A nl (I64 l)) :
    Calls Try.prog 7 #[.int .i64 size, .slice A nl cl] w fun e w' => e = .returned (.bool true) ∧ Below w.heap.size w w' := by
  have HSH := hide shown14_any
  have HR := hide hr
  have hnl := run_eql_tab
  have H4 : Hid (okI64 4) := hide (by unfold okI64; omega)
  obtain ⟨N, hN, hN2⟩ := mask_127 size
  obtain ⟨n, hn⟩ : ∃ n : Nat, 1 + (N : Int) = (n : Int) := ⟨1 + N, by omega⟩
  have hn1 : 1 ≤ n := by omega
  have hn128 : n ≤ 128 := by omega
  have hOE : (Us.none_).openE 4 (n : Int) = 0 := by unfold Us.openE; rw [if_neg (by omega)]; rfl
  have hOO : (Us.none_).open' 4 (n : Int) = ⟨[⟨4, (n : Int)⟩], []⟩ := by unfold Us.open'; rw [if_pos hOE]; rfl
  have HO := hide (And.intro hOE hOO)
  clear hr hOE hOO
  go_enter Try.func7, Try.ntmps7
  go_upto_block 0 with (first
    | (go_at_call 9; refine (HSH.out w).mono ?_; rintro _ w1 ⟨rfl, hl1⟩)
    | (go_at_call 10; refine (Tbl.make w w1 hl1).mono ?_; rintro _ w2 ⟨t, lo, rfl, ht2, _, _⟩; have HT2 := hide ht2; clear ht2 hl1)
    | (go_at_call 16; refine (HT2.out.open_ 4 (n : Int) H4.out (by omega)).mono ?_; rw [HO.out.1, HO.out.2]; rintro _ w3 ⟨rfl, ht3, _⟩; have HT3 := hide ht3; clear ht3)
    | (refine wpList_alloc_blk rfl 50 rfl _ (arr128_zero _) ?_; intro w4 hb4 hl4 hs4; clear hs4; have HB4 : Hid (Blk w4 w3.heap.size 50 (bl (fun _ => false) 128).toArray) := hide hb4; have HT4 := hide (HT3.out.later hl4); have HB9 := hide HT3.out.room; clear hb4 hl4))
  obtain ⟨b9, hb9⟩ : ∃ b, b = w3.heap.size := ⟨_, rfl⟩
  rw [← hb9] at HB4 HB9 ⊢
  clear hb9
  have HF0 : Hid (Fl n 0 (fun _ => false) ⟨[⟨4, (n : Int)⟩], []⟩) := hide ⟨HT4.out.ok, rfl, fun _ => rfl, fun x hx => by cases hx⟩
  have hwb : w.heap.size ≤ b9 ∧ (b9 < lo ∨ lo + 4 ≤ b9) := by have := HT4.out.above; have := HB9.out; omega
  have HWB := hide hwb
  clear hwb
  go_cut [8, 10, 11, 12] (fun _ _ _ _ wx => ∃ (S : Us) (v : Nat → Bool), Hid (Tbl w wx t lo 101 S) ∧ Hid (Fl n 100 v S) ∧ Hid (Blk wx b9 50 (bl v 128).toArray))
  case first =>
    go_wp2_with fail
    go_loopw [8, 10, 11, 12] (fun s8 s10 _ _ wr => ∃ (k : Nat) (S : Us) (v : Nat → Bool), s8 = .int .i64 (k : Int) ∧ s10 = .int .i64 (k : Int) ∧ k ≤ nl ∧ k ≤ 100 ∧ Hid (Tbl w wr t lo (1 + k) S) ∧ Hid (Fl n k v S) ∧ Hid (Blk wr b9 50 (bl v 128).toArray)) (fun _ s10 _ _ _ => 100 - (intOf s10).toNat)
    case atStart => exact ⟨0, _, _, rfl, rfl, Nat.zero_le _, Nat.zero_le _, HT4, HF0, HB4⟩
    case round =>
      obtain ⟨k, S, v, rfl, rfl, hkn, hk100, HTr, HFr, HBr⟩ := hrel
      obtain ⟨z4, rfl⟩ : ∃ z4, z4 = wr := ⟨_, rfl⟩
      by_cases hn' : (k : Int) < (nl : Int)
      · by_cases h100 : (k : Int) < 100
        · obtain ⟨ad, x, hA, hab, hx, hcell0⟩ := (HR.out.below HTr.out.low).i64_at (k := k) (by omega)
          subst hA
          obtain ⟨M, hM, hM2⟩ := mask_65535 x
          have hn0 : ¬ (n : Int) = 0 := by omega
          obtain ⟨s, hs⟩ : ∃ s : Nat, (M : Int) % (n : Int) = (s : Int) := ⟨M % n, by omega⟩
          have hst : (M : Int).tmod (n : Int) = (s : Int) := by rw [Int.tmod_eq_emod_of_nonneg (by omega)]; exact hs
          have hsn : s < n := by have := Int.emod_lt_of_pos (M : Int) (show (0 : Int) < (n : Int) by omega); omega
          have hs128 : (s : Int) < 128 := by omega
          have HSN := hide hsn
          have hok4 := H4.out
          have HKS : Hid (okI64 (s : Int)) := hide (by unfold okI64; omega)
          have HKK : Hid (okI64 (k : Int)) := hide (by unfold okI64; omega)
          clear hx hab hM2 hN2
          cases hv : v s with
          | true =>
            have HP := hide (HFr.out.bad (b := (k : Int)) hsn hv (by omega))
            have HBS : Hid (∀ z, Blk z b9 50 (bl v 128).toArray → z.cell? ⟨b9, s, none⟩ = some (.bool true)) := hide (fun z hz => by rw [hz.bit (by omega), hv])
            have HV : Hid (upd v s true = v) := hide (funext fun j => by by_cases e : j = s; · rw [e, upd_self, hv]
                                                                         · rw [upd_ne _ _ e])
            clear hv hsn
            go_wp2_with (first
              | (go_at_call 18; refine (HTr.out.put_ 4 (s : Int) (k : Int) H4.out HKS.out HKK.out (by omega)).mono ?_; rw [HP.out.1, HP.out.2]; rintro _ z5 ⟨rfl, ht5, hu5⟩; have HT5 := hide ht5; have HB5 := hide (HBr.out.upto hu5 HWB.out.2); have q5 := HBS.out z5 HB5.out; clear ht5 hu5)
              | (refine wpList_poke rfl 4 (.tmp 64) (.const (.bool true)) rfl b9 s 50 _ HB5.out rfl (.bool true) rfl rfl bool_one (by have := HSN.out; simp [bl]; omega) ?_; intro z6 hb6 hg6 hs6; clear hs6; rw [bl_set, HV.out] at hb6; have HB6 := hide hb6; have HT6 := hide (HT5.out.grown hg6 (fun g e => (by injection e with e; subst e; exact HWB.out))); clear hb6 hg6))
            have HT7 : Hid (Tbl w z6 t lo (1 + (k + 1)) S) := hide (HT6.out.wider (by omega) (by omega))
            have HF7 := hide (HFr.out.more (k' := k + 1) (by omega))
            go_roundw
            case rel => exact ⟨k + 1, S, v, by go_num, by go_num, by omega, by omega, HT7, HF7, HB6⟩
            case measure => simp [intOf]; omega
          | false =>
            have HP := hide (HFr.out.put (b := (k : Int)) (k' := k + 1) hsn hv (.inl ⟨rfl, rfl, hk100⟩))
            have HBS : Hid (∀ z, Blk z b9 50 (bl v 128).toArray → z.cell? ⟨b9, s, none⟩ = some (.bool false)) := hide (fun z hz => by rw [hz.bit (by omega), hv])
            clear hv hsn
            go_wp2_with (first
              | (go_at_call 18; refine (HTr.out.put_ 4 (s : Int) (k : Int) H4.out HKS.out HKK.out (by omega)).mono ?_; rw [HP.out.1]; rintro _ z5 ⟨rfl, ht5, hu5⟩; have HT5 := hide ht5; have HB5 := hide (HBr.out.upto hu5 HWB.out.2); have q5 := HBS.out z5 HB5.out; clear ht5 hu5)
              | (refine wpList_poke rfl 4 (.tmp 64) (.const (.bool true)) rfl b9 s 50 _ HB5.out rfl (.bool true) rfl rfl bool_one (by have := HSN.out; simp [bl]; omega) ?_; intro z6 hb6 hg6 hs6; clear hs6; rw [bl_set] at hb6; have HB6 := hide hb6; have HT6 := hide (HT5.out.grown hg6 (fun g e => (by injection e with e; subst e; exact HWB.out))); clear hb6 hg6))
            have HT7 : Hid (Tbl w z6 t lo (1 + (k + 1)) (S.put' 4 (s : Int) (k : Int))) := hide (HT6.out.wider (by omega) (by omega))
            have HF7 := hide HP.out.2
            go_roundw
            case rel => exact ⟨k + 1, _, _, by go_num, by go_num, by omega, by omega, HT7, HF7, HB6⟩
            case measure => simp [intOf]; omega
        · have hd5 : decide ((k : Int) < 100) = false := by simp; omega
          have HTm := hide (HTr.out.wider (m' := 101) (by omega) (by omega))
          have HFm := hide (HFr.out.more (k' := 100) hk100)
          go_wp2_with fail
          go_meet
          exact ⟨S, v, HTm, HFm, HBr⟩
      · have HTm := hide (HTr.out.wider (m' := 101) (by omega) (by omega))
        have HFm := hide (HFr.out.more (k' := 100) hk100)
        go_wp2_with fail
        go_meet
        exact ⟨S, v, HTm, HFm, HBr⟩
  case rest =>
    obtain ⟨S, v, HTc, HFc, HBc⟩ := hcut
    obtain ⟨z1, rfl⟩ : ∃ z1, z1 = wc := ⟨_, rfl⟩
    clear HT2 HT3 HT4 HB4 HF0
    go_wp2_with fail
    go_loopw [13, 14, 15] (fun s13 _ _ wr => ∃ (j : Nat) (S : Us) (v : Nat → Bool), (s13 = undef ∧ j = 0 ∨ ∃ q : Nat, s13 = .int .i64 (q : Int) ∧ j = q + 1) ∧ j ≤ n ∧ (∀ i, i < j → v i = true) ∧ Hid (Tbl w wr t lo (101 + j) S) ∧ Hid (Fl n 100 v S) ∧ Hid (Blk wr b9 50 (bl v 128).toArray)) (fun s13 _ _ _ => holeM n s13)
    case atStart => exact ⟨0, S, v, .inl ⟨rfl, rfl⟩, Nat.zero_le _, fun i hi => by omega, HTc, HFc, HBc⟩
    case round =>
      obtain ⟨j, S, v, hj, hjn, hjv, HTr, HFr, HBr⟩ := hrel
      obtain ⟨z4, rfl⟩ : ∃ z4, z4 = wr := ⟨_, rfl⟩
      cases hh : S.hole 4 with
      | some q =>
        obtain ⟨hq1, hq2, hq3⟩ := HFr.out.hole hh
        have hjq : j ≤ q := by
          rcases Nat.lt_or_ge q j with h | h
          · rw [hjv q h] at hq2; cases hq2
          · exact h
        have hmz : n - q < holeM n u13 := by
          rcases hj with ⟨e, _⟩ | ⟨p, e, hp⟩
          · rw [e]; show n - q < n + 1; omega
          · rw [e]; show n - q < n - (p : Int).toNat; omega
        have HMZ := hide hmz
        have HQ3 := hide hq3
        have HP := hide (HFr.out.put (b := 1000 + (q : Int)) (k' := 100) hq1 hq2 (.inr ⟨rfl, rfl, by decide⟩))
        have hc0 : z4.cell? ⟨b9, q, none⟩ = some (.bool false) := by rw [HBr.out.bit (by omega), hq2]
        have HKQ : Hid (okI64 (q : Int)) := hide (by unfold okI64; omega)
        have HKB : Hid (okI64 (1000 + (q : Int))) := hide (by unfold okI64; omega)
        have hwr : IntKind.i64.wrap (1000 + (q : Int)) = 1000 + (q : Int) := IntWalk.i64_in _ (by omega)
        have hqn : (q : Int) < (n : Int) := by omega
        have hd1 : decide ((q : Int) < 0) = false := by simp
        have hd2 : decide ((n : Int) ≤ (q : Int)) = false := by simp; omega
        have HH := hide hh
        clear hq2 hh hjv hmz
        go_wp2_with (first
          | (go_at_call 18; refine (HTr.out.put_ 4 (q : Int) (1000 + (q : Int)) H4.out HKQ.out HKB.out (by omega)).mono ?_; rw [HP.out.1]; rintro _ z5 ⟨rfl, ht5, hu5⟩; have HT5 := hide ht5; have HB5 := hide (HBr.out.upto hu5 HWB.out.2); clear ht5 hu5)
          | (go_at_call 22; refine (HTr.out.hole_ 4 H4.out).mono ?_; rw [HH.out]; rintro _ _ ⟨rfl, rfl⟩))
        go_loopw [15] (fun s15 wr => ∃ i : Nat, s15 = .int .i64 (i : Int) ∧ i ≤ q ∧ Hid (wr = z5)) (fun s15 _ => q - (intOf s15).toNat)
        case atStart => exact ⟨0, rfl, Nat.zero_le _, (by first | exact hide rfl | exact hide trivial)⟩
        case round =>
          obtain ⟨i, rfl, hiq, hwz⟩ := hrel
          obtain rfl := hwz.out
          clear hwz
          by_cases hi : (i : Int) < (q : Int)
          · have hi128 : (i : Int) < 128 := by omega
            have hci : wr.cell? ⟨b9, i, none⟩ = some (.bool true) := by rw [HB5.out.bit (by omega), HQ3.out i (by omega)]
            go_wp2_with fail
            go_roundw
            case rel => exact ⟨i + 1, by go_num, by omega, (by first | exact hide rfl | exact hide trivial)⟩
            case measure => simp [intOf]; omega
          · have hq128 : (q : Int) < 128 := by omega
            go_wp2_with (first
              | (refine wpList_poke rfl 4 (.tmp 104) (.const (.bool true)) rfl b9 q 50 _ HB5.out rfl (.bool true) rfl rfl bool_one (by simp [bl]; omega) ?_; intro z6 hb6 hg6 hs6; clear hs6; rw [bl_set] at hb6; have HB6 := hide hb6; have HT6 := hide (HT5.out.grown hg6 (fun g e => (by injection e with e; subst e; exact HWB.out))); clear hb6 hg6))
            have HT7 : Hid (Tbl w z6 t lo (101 + (q + 1)) (S.put' 4 (q : Int) (1000 + (q : Int)))) := hide (HT6.out.wider (by omega) (by omega))
            have HF7 := hide HP.out.2
            have HAL : Hid (∀ i, i < q + 1 → upd v q true i = true) := hide (fun i hi => by
              by_cases e : i = q
              · rw [e, upd_self]
              · rw [upd_ne _ _ e]; exact HQ3.out i (by omega))
            go_roundw
            case rel => exact ⟨q + 1, .inr ⟨q, rfl, rfl⟩, by omega, _, _, HAL.out, HT7, HF7, HB6⟩
            case measure => exact HMZ.out
      | none =>
        have hfull := HFr.out.full (HFr.out.none_ hh)
        have HFU := hide hfull
        have HH := hide hh
        have hok := HTr.out.ok
        clear hh hjv hfull
        go_wp2_with (first
          | (go_at_call 25; refine (HT5.out.count_ 4 H4.out).mono ?_; rw [HFU.out.2.1]; rintro _ _ ⟨rfl, rfl⟩)
          | (go_at_call 24; refine (HTr.out.blocks_ 4 H4.out).mono ?_; rintro _ z5 ⟨rv, rfl, hown, ht5, _⟩; rw [HFU.out.1] at hown; obtain ⟨AR, cR, rfl, _, _⟩ := own_shape hown; have HO5 := hide hown; have HT5 := hide ht5; clear hown ht5)
          | (go_at_call 22; refine (HTr.out.hole_ 4 H4.out).mono ?_; rw [HH.out]; rintro _ _ ⟨rfl, rfl⟩))
        go_loopw [17, 18, 19, 20, 21, 22] (fun s17 _ _ _ _ _ wr => ∃ i : Nat, s17 = .int .i64 (i : Int) ∧ i ≤ n ∧ Hid (Tbl w wr t lo (101 + j) S) ∧ Hid (wr.ownsRow z4.heap.size 3 1 (.slice AR n cR) n (I64 (S.blocks 4)))) (fun s17 _ _ _ _ _ _ => n - (intOf s17).toNat)
        case atStart => exact ⟨0, rfl, Nat.zero_le _, HT5, HO5⟩
        case round =>
          obtain ⟨i, rfl, hin, HTi, HOi⟩ := hrel
          obtain ⟨z7, rfl⟩ : ∃ z7, z7 = wr := ⟨_, rfl⟩
          by_cases hi : (i : Int) < (n : Int)
          · obtain ⟨b, hb1, hb2, hb3, hb4⟩ := HFU.out.2.2 i (by omega)
            have HB1 := hide hb1
            have HB2 := hide hb2
            have HB3 := hide hb3
            have HB4 := hide hb4
            have HKI : Hid (okI64 (i : Int)) := hide (by unfold okI64; omega)
            clear hb1 hb2 hb3 hb4
            go_wp2_with (first
              | (go_at_call 21; refine (HTi.out.find_ b HB4.out).mono ?_; rw [HB2.out]; rintro _ z8 ⟨rfl, ht8, hl8⟩; have HT8 := hide ht8; have HO8 := hide (own_later HOi.out hl8); obtain ⟨ad, hAd, _, _, hcl⟩ := own_num2 HO8.out HB3.out; subst hAd; clear ht8 hl8)
              | (go_at_call 20; refine (HTi.out.block_ 4 (i : Int) H4.out HKI.out).mono ?_; rw [HB1.out]; rintro _ _ ⟨rfl, rfl⟩))
            go_roundw
            case rel => exact ⟨i + 1, by go_num, by omega, HT8, HO8⟩
            case measure => simp [intOf]; omega
          · go_wp2_with fail
            go_ret
            exact ⟨rfl, HTi.out.low⟩
#print axioms usageHoles_walk
end Go.Proofs.Ytgoglgghnjgcdaa
