/- UsageEmptiest's walk: the emptiest has the fewest. -/
import Derived.Test.YtgoglgghnjgcdaaUsgB
namespace Go.Proofs.Ytgoglgghnjgcdaa
open Go.RowKit Go.Maps

/-- What Emptiest tells, in plain words. -/
theorem emptier_not {S : Us} {x g : Int} (h : S.emptier x g = false) : S.cnt g < S.cnt x ∨ S.cnt g = S.cnt x ∧ g ≤ x := by
  unfold Us.emptier at h
  split at h
  · simp at h
    omega
  · simp at h
    omega
theorem emptier_of {S : Us} {x g : Int} (h : S.cnt g < S.cnt x ∨ S.cnt g = S.cnt x ∧ g ≤ x) : S.emptier x g = false := by
  unfold Us.emptier
  split
  · simp
    omega
  · simp
    omega
theorem emptier_yes {S : Us} {x g : Int} (h : S.emptier x g = true) : S.cnt x < S.cnt g ∨ S.cnt x = S.cnt g ∧ x < g := by
  unfold Us.emptier at h
  split at h
  · simp at h
    omega
  · simp at h
    omega
def EmpIs (S : Us) (l : List Int) : Option Int → Prop
  | none => ∀ x ∈ l, S.has x = false
  | some g => g ∈ l ∧ S.has g = true ∧ ∀ x ∈ l, S.has x = true → S.emptier x g = false
theorem empIs_step {S : Us} {l : List Int} {acc : Option Int} (h : EmpIs S l acc) (x : Int) : EmpIs S (l ++ [x]) (S.emptyStep acc x) := by
  unfold Us.emptyStep
  cases hx : S.has x with
  | false =>
    rw [if_neg (by simp)]
    cases acc with
    | none =>
      intro y hy
      rcases List.mem_append.1 hy with hy | hy
      · exact h y hy
      · simp at hy; rw [hy]; exact hx
    | some g =>
      refine ⟨List.mem_append.2 (.inl h.1), h.2.1, fun y hy hh => ?_⟩
      rcases List.mem_append.1 hy with hy | hy
      · exact h.2.2 y hy hh
      · simp at hy; rw [hy, hx] at hh; cases hh
  | true =>
    rw [if_pos rfl]
    cases acc with
    | none =>
      refine ⟨by simp, hx, fun y hy hh => ?_⟩
      rcases List.mem_append.1 hy with hy | hy
      · rw [h y hy] at hh; cases hh
      · simp at hy; subst hy; exact emptier_of (.inr ⟨rfl, Int.le_refl _⟩)
    | some g =>
      dsimp only
      cases he : S.emptier x g with
      | true =>
        rw [if_pos rfl]
        refine ⟨by simp, hx, fun y hy hh => ?_⟩
        have h1 := emptier_yes he
        rcases List.mem_append.1 hy with hy | hy
        · have h2 := emptier_not (h.2.2 y hy hh)
          exact emptier_of (by omega)
        · simp at hy; subst hy; exact emptier_of (.inr ⟨rfl, Int.le_refl _⟩)
      | false =>
        rw [if_neg (by simp)]
        refine ⟨List.mem_append.2 (.inl h.1), h.2.1, fun y hy hh => ?_⟩
        rcases List.mem_append.1 hy with hy | hy
        · exact h.2.2 y hy hh
        · simp at hy; subst hy; exact he
theorem empIs_fold (S : Us) (r : List Int) : ∀ (l : List Int) (acc : Option Int), EmpIs S l acc → EmpIs S (l ++ r) (r.foldl S.emptyStep acc) := by
  induction r with
  | nil => intro l acc h; simpa using h
  | cons x r ih =>
    intro l acc h
    have := ih (l ++ [x]) _ (empIs_step h x)
    rw [List.append_assoc] at this
    exact this
theorem empIs_all (S : Us) (l : List Int) : EmpIs S l (S.emptiest l) := by
  have := empIs_fold S l [] none (fun x hx => by cases hx)
  exact this
/-- Groups 0 to k - 1 are filled; of group k j slots are. -/
structure Em (m : Nat → Nat) (k j n : Nat) (S : Us) : Prop where
  ok : S.Ok
  g : S.G = grp (fun _ => 8) n
  cn : ∀ i : Nat, i < k → S.cnt (i : Int) = m i
  cj : S.cnt (k : Int) = j
  dead : ∀ s : Int, (j : Int) ≤ s → S.at_ (k : Int) s = none
  b : ∀ x ∈ S.L, x.b < 8 * (k : Int) + j
section
variable {m : Nat → Nat} {k j n : Nat} {S : Us}
theorem Em.has (h : Em m k j n S) (x : Int) : S.has x = decide (0 ≤ x ∧ x < (n : Int)) := by
  have := grp_has (fun _ => 8) n S.L x
  rw [← h.g] at this
  exact this
theorem Em.slots (h : Em m k j n S) {i : Nat} (hi : i < n) : S.slots (i : Int) = 8 := by
  have := grp_slots (fun _ => 8) n S.L i hi
  rw [← h.g] at this
  exact this
theorem Em.start (m : Nat → Nat) : Em m 0 0 0 Us.none_ := ⟨Us.ok_none, rfl, fun i hi => by omega, rfl, fun _ _ => rfl, fun x hx => by cases hx⟩
theorem Em.open_ (h : Em m k 0 k S) (hk : k < 1000) : S.openE (k : Int) 8 = 0 ∧ Em m k 0 (k + 1) (S.open' (k : Int) 8) := by
  have h1 := grp_open (fun _ => 8) k S.L (by decide) (by decide)
  rw [← h.g] at h1
  refine ⟨h1.1, ?_⟩
  have e : S.open' (k : Int) 8 = ⟨grp (fun _ => 8) (k + 1), S.L⟩ := h1.2
  have hok := h.ok.open' (k : Int) 8 (by unfold okI64; omega)
  rw [e] at hok ⊢
  exact ⟨hok, rfl, h.cn, h.cj, h.dead, h.b⟩
theorem Em.put (h : Em m k j (k + 1) S) (hj : j < 8) (hk : k < 1000000) : S.putE (k : Int) (j : Int) (8 * (k : Int) + (j : Int)) = 0 ∧ Em m k (j + 1) (k + 1) (S.put' (k : Int) (j : Int) (8 * (k : Int) + (j : Int))) := by
  have hd := h.dead (j : Int) (Int.le_refl _)
  have hh : S.has (k : Int) = true := by rw [h.has]; simp; omega
  have e : S.putE (k : Int) (j : Int) (8 * (k : Int) + (j : Int)) = 0 := by
    rw [putE_in hh (by omega) (by rw [h.slots (by omega)]; omega) (by omega), hd]
    rfl
  have hno : ∀ x ∈ S.L, x.b ≠ 8 * (k : Int) + (j : Int) := fun x hx => by have := h.b x hx; omega
  have hfree : S.freed (8 * (k : Int) + (j : Int)) = S := by
    unfold Us.freed
    have : S.L.filter (fun x => x.b != 8 * (k : Int) + (j : Int)) = S.L := List.filter_eq_self.2 fun x hx => by simpa using hno x hx
    rw [this]
  refine ⟨e, ?_⟩
  rw [put_good e]
  refine ⟨h.ok.put e (by omega), h.g, fun i hi => ?_, ?_, fun s hs => ?_, fun x hx => ?_⟩
  · rw [Us.put_cnt, hfree, if_neg (by omega)]
    exact h.cn i hi
  · rw [Us.put_cnt, hfree, if_pos rfl, h.cj]
  · rw [Us.put_at h.ok hd, if_neg (by omega)]
    have := h.dead s (by omega)
    rw [this]
    rfl
  · have hx2 : x ∈ S.L ∨ x = ⟨(k : Int), (j : Int), 8 * (k : Int) + (j : Int)⟩ := by
      rw [Us.put_freed, hfree] at hx
      rcases List.mem_append.1 hx with hx | hx
      · exact .inl hx
      · simp at hx; exact .inr hx
    rcases hx2 with hx2 | hx2
    · have := h.b x hx2
      omega
    · rw [hx2]
      show 8 * (k : Int) + (j : Int) < _
      omega
theorem Em.next (h : Em m k j (k + 1) S) (hj : j = m k) (h8 : j < 8) : Em m (k + 1) 0 (k + 1) S := by
  have hno : S.has ((k + 1 : Nat) : Int) = false := by rw [h.has]; simp
  refine ⟨h.ok, h.g, fun i hi => ?_, Us.cnt_none h.ok hno, fun s _ => ?_, fun x hx => ?_⟩
  · by_cases e : i = k
    · subst e
      rw [h.cj, hj]
    · exact h.cn i (by omega)
  · cases ha : S.at_ ((k + 1 : Nat) : Int) s with
    | none => rfl
    | some b => have := (Us.at_has h.ok ha).1; rw [hno] at this; cases this
  · have := h.b x hx
    omega
end
theorem masks7 (l : List Int) : ∃ m : Nat → Nat, ∀ i, bits .and .i64 (l.getD i 0) 7 = ((m i : Nat) : Int) ∧ m i < 8 :=
  ⟨fun i => (mask_7 (l.getD i 0)).choose, fun i => (mask_7 (l.getD i 0)).choose_spec⟩
theorem getD_of {l : List Int} {i : Nat} {x : Int} (h : l[i]? = some x) : l.getD i 0 = x := by
  rw [List.getD_eq_getElem?_getD, h]
  rfl
set_option maxRecDepth 100000 in
set_option maxHeartbeats 8000000 in
theorem usageEmptiest_walk (A0 : Option Addr) (n0 c0 : Nat) (l0 : List Int) (A1 : Option Addr) (n1 c1 : Nat) (l1 : List Int) (w : World) (hr0 : Reads w w.heap.size 1 A0 n0 (I64 l0)) (_hb0 : ∀ a ∈ l0, -9223372036854775808 ≤ a ∧ a ≤ 9223372036854775807)
    (hr1 : Reads w w.heap.size 1 A1 n1 (I64 l1)) (hb1 : ∀ a ∈ l1, -9223372036854775808 ≤ a ∧ a ≤ 9223372036854775807) (hc1 : n1 ≤ c1) (hc2 : c1 ≤ 9223372036854775807) :
    Calls Try.prog 6 #[.slice A0 n0 c0, .slice A1 n1 c1] w fun e w' => e = .returned (.bool true) ∧ Below w.heap.size w w' := by
  have HSH := hide shown14_any
  have HR0 := hide hr0
  have HR1 := hide hr1
  have HB1 := hide (fun v (hv : v ∈ l1) => (show okI64 v by have := hb1 v hv; unfold okI64; omega))
  have hnl := run_eql_tab
  obtain ⟨m, hm⟩ := masks7 l0
  have HM := hide hm
  have hl1 : l1.length = n1 := by have := hr1.1; rw [I64_length] at this; omega
  have HL1 := hide hl1
  have HN1 := hide (And.intro hc1 hc2)
  clear hr0 hr1 hb1 hm hl1 hc1 hc2
  go_enter Try.func6, Try.ntmps6
  go_upto_block 0 with (first
    | (go_at_call 9; refine (HSH.out w).mono ?_; rintro _ w1 ⟨rfl, hl1⟩)
    | (go_at_call 10; refine (Tbl.make w w1 hl1).mono ?_; rintro _ w2 ⟨t, lo, rfl, ht2, _, _⟩; have HT2 := hide ht2; clear ht2 hl1))
  go_cut [7, 8, 9] (fun s7 _ _ wx => ∃ (n : Nat) (S : Us), s7 = .int .i64 (n : Int) ∧ n ≤ n0 ∧ n ≤ 6 ∧ Hid (Tbl w wx t lo 60 S) ∧ Hid (Em m n 0 n S))
  case first =>
    go_wp2_with fail
    go_loopw [7, 8, 9] (fun s7 s8 _ wr => ∃ (k : Nat) (S : Us), s7 = .int .i64 (k : Int) ∧ s8 = .int .i64 (k : Int) ∧ k ≤ n0 ∧ k ≤ 6 ∧ Hid (Tbl w wr t lo (9 * k) S) ∧ Hid (Em m k 0 k S)) (fun _ s8 _ _ => 6 - (intOf s8).toNat)
    case atStart => exact ⟨0, Us.none_, rfl, rfl, Nat.zero_le _, Nat.zero_le _, HT2, hide (Em.start m)⟩
    case round =>
      obtain ⟨k, S, rfl, rfl, hk0, hk6, HTr, HEr⟩ := hrel
      obtain ⟨z4, rfl⟩ : ∃ z4, z4 = wr := ⟨_, rfl⟩
      by_cases hn' : (k : Int) < (n0 : Int)
      · by_cases h6 : (k : Int) < 6
        · have HO := hide (HEr.out.open_ (by omega))
          have HKK : Hid (okI64 (k : Int)) := hide (by unfold okI64; omega)
          go_wp2_with (first
            | (go_at_call 16; refine (HTr.out.open_ (k : Int) 8 HKK.out (by omega)).mono ?_; rw [HO.out.1]; rintro _ z5 ⟨rfl, ht5, _⟩; have HT5 : Hid (Tbl w z5 t lo (9 * k + 1 + 0) (S.open' (k : Int) 8)) := hide ht5; clear ht5))
          have HE5 := hide HO.out.2
          go_loopw [9] (fun s9 wr => ∃ (j : Nat) (S : Us), s9 = .int .i64 (j : Int) ∧ j ≤ m k ∧ Hid (Tbl w wr t lo (9 * k + 1 + j) S) ∧ Hid (Em m k j (k + 1) S)) (fun s9 _ => m k - (intOf s9).toNat)
          case atStart => exact ⟨0, _, rfl, Nat.zero_le _, HT5, HE5⟩
          case round =>
            obtain ⟨j, S2, rfl, hjm, HTi, HEi⟩ := hrel
            obtain ⟨z6, rfl⟩ : ∃ z6, z6 = wr := ⟨_, rfl⟩
            obtain ⟨ad, x, hA, hab, hx, hcell0⟩ := (HR0.out.below HTi.out.low).i64_at (k := k) (by omega)
            subst hA
            have hM := (HM.out k).1
            rw [getD_of hx] at hM
            have hm8 := (HM.out k).2
            clear hx hab
            by_cases hj : (j : Int) < ((m k : Nat) : Int)
            · have HP := hide (HEi.out.put (by omega) (by omega))
              have HKJ : Hid (okI64 (j : Int)) := hide (by unfold okI64; omega)
              have HKB : Hid (okI64 (8 * (k : Int) + (j : Int))) := hide (by unfold okI64; omega)
              go_wp2_with (first
                | (go_at_call 18; refine (HTi.out.put_ (k : Int) (j : Int) (8 * (k : Int) + (j : Int)) HKK.out HKJ.out HKB.out (by omega)).mono ?_; rw [HP.out.1]; rintro _ z7 ⟨rfl, ht7, _⟩; have HT7 : Hid (Tbl w z7 t lo (9 * k + 1 + (j + 1)) (S2.put' (k : Int) (j : Int) (8 * (k : Int) + (j : Int)))) := hide ht7; clear ht7))
              have HE7 := hide HP.out.2
              go_roundw
              case rel => exact ⟨j + 1, _, by go_num, by omega, HT7, HE7⟩
              case measure => simp [intOf]; omega
            · have HE7 := hide (HEi.out.next (by omega) (by omega))
              have HT7 := hide (HTi.out.wider (m' := 9 * (k + 1)) (by omega) (by omega))
              go_wp2_with fail
              go_roundw
              case rel => exact ⟨k + 1, S2, by go_num, by go_num, by omega, by omega, HT7, HE7⟩
              case measure => simp [intOf]; omega
        · have hd5 : decide ((k : Int) < 6) = false := by simp; omega
          have HTm := hide (HTr.out.wider (m' := 60) (by omega) (by omega))
          go_wp2_with fail
          go_meet
          exact ⟨k, S, rfl, hk0, hk6, HTm, HEr⟩
      · have HTm := hide (HTr.out.wider (m' := 60) (by omega) (by omega))
        go_wp2_with fail
        go_meet
        exact ⟨k, S, rfl, hk0, hk6, HTm, HEr⟩
  case rest =>
    obtain ⟨n, S, rfl, hn0, hn6, HTc, HEc⟩ := hcut
    obtain ⟨z1, rfl⟩ : ∃ z1, z1 = wc := ⟨_, rfl⟩
    clear HT2
    have HES := hide (empIs_all S l1)
    obtain ⟨E, hE⟩ : ∃ E, E = S.emptiest l1 := ⟨_, rfl⟩
    have HEQ := hide hE
    rw [← hE] at HES
    clear hE
    obtain ⟨G0, hG0⟩ : ∃ G0, G0 = E.getD 0 := ⟨_, rfl⟩
    obtain ⟨OK0, hOK0⟩ : ∃ OK0, OK0 = E.isSome := ⟨_, rfl⟩
    have HG0 := hide (And.intro hG0 hOK0)
    clear hG0 hOK0
    go_wp2_with (first
      | (go_at_call 28; refine (HTc.out.emptiest_ A1 n1 c1 l1 ((HR1.out.below HTc.out.low).more HTc.out.low.size) HB1.out (by have := HN1.out; omega)).mono ?_; rw [← HEQ.out, ← HG0.out.1, ← HG0.out.2]; rintro _ z2 ⟨rfl, ht2, _⟩; have HT2 := hide ht2; clear ht2))
    have HLO := hide HT2.out.low
    have HHA := hide HEc.out.has
    have HCN := hide HEc.out.cn
    go_loopw [12, 13, 14, 15] (fun s12 s13 s14 _ wr => ∃ (i : Nat) (sm inn : Bool), s12 = .bool sm ∧ s13 = .bool inn ∧ s14 = .int .i64 (i : Int) ∧ i ≤ n1 ∧ Hid (sm = (l1.take i).any S.has) ∧ Hid (inn = (l1.take i).any fun x => S.has x && decide (x = G0)) ∧ Hid (wr = z2)) (fun _ _ s14 _ _ => n1 - (intOf s14).toNat)
    case atStart => exact ⟨0, false, false, rfl, rfl, rfl, Nat.zero_le _, hide rfl, hide rfl, (by first | exact hide rfl | exact hide trivial)⟩
    case round =>
      obtain ⟨i, sm, inn, rfl, rfl, rfl, hi, HSM, HIN, hwz⟩ := hrel
      obtain rfl := hwz.out
      clear hwz
      have hn1b : n1 ≤ 9223372036854775807 := by have := HN1.out; omega
      by_cases hin : (i : Int) < (n1 : Int)
      · obtain ⟨ad, x, hA, hab, hx, hcell0⟩ := (HR1.out.below HLO.out).i64_at (k := i) (by omega)
        subst hA
        have hxm := List.mem_of_getElem? hx
        have hxo := HB1.out x hxm
        have HS2 : Hid ((l1.take (i + 1)).any S.has = ((l1.take i).any S.has || S.has x)) := hide (by rw [List.take_add_one, hx, List.any_append]; simp)
        have HI2 : Hid (((l1.take (i + 1)).any fun x => S.has x && decide (x = G0)) = (((l1.take i).any fun x => S.has x && decide (x = G0)) || (S.has x && decide (x = G0)))) := hide (by rw [List.take_add_one, hx, List.any_append]; simp)
        unfold okI64 at hxo
        by_cases hx0 : x < 0
        · have hh : S.has x = false := by rw [HHA.out]; simp; omega
          have HS3 : Hid (sm = (l1.take (i + 1)).any S.has) := hide (by rw [HS2.out, hh, HSM.out, Bool.or_false])
          have HI3 : Hid (inn = (l1.take (i + 1)).any fun x => S.has x && decide (x = G0)) := hide (by rw [HI2.out, hh, HIN.out, Bool.false_and, Bool.or_false])
          clear hh hx hab
          go_wp2_with fail
          go_roundw
          case rel => exact ⟨i + 1, sm, inn, rfl, rfl, by go_num, by omega, HS3, HI3, (by first | exact hide rfl | exact hide trivial)⟩
          case measure => simp [intOf]; omega
        · have hd0 : decide (x < 0) = false := by simpa using hx0
          by_cases hxn : (n : Int) ≤ x
          · have hh : S.has x = false := by rw [HHA.out]; simp; omega
            have HS3 : Hid (sm = (l1.take (i + 1)).any S.has) := hide (by rw [HS2.out, hh, HSM.out, Bool.or_false])
            have HI3 : Hid (inn = (l1.take (i + 1)).any fun x => S.has x && decide (x = G0)) := hide (by rw [HI2.out, hh, HIN.out, Bool.false_and, Bool.or_false])
            clear hh hx hab
            go_wp2_with fail
            go_roundw
            case rel => exact ⟨i + 1, sm, inn, rfl, rfl, by go_num, by omega, HS3, HI3, (by first | exact hide rfl | exact hide trivial)⟩
            case measure => simp [intOf]; omega
          · have hd1 : decide ((n : Int) ≤ x) = false := by simpa using hxn
            have hh : S.has x = true := by rw [HHA.out]; simp; omega
            obtain ⟨g, hg⟩ : ∃ g, E = some g := by
              cases E with
              | none => have := HES.out x hxm; rw [hh] at this; cases this
              | some g => exact ⟨g, rfl⟩
            subst hg
            obtain rfl : OK0 = true := HG0.out.2
            obtain rfl : G0 = g := HG0.out.1
            obtain ⟨hg1, hg2, hg3⟩ := HES.out
            have hgh := hg2
            rw [HHA.out] at hgh
            simp at hgh
            have hnot := emptier_not (hg3 x hxm hh)
            obtain ⟨X, rfl⟩ := Int.eq_ofNat_of_zero_le (show 0 ≤ x by omega)
            obtain ⟨q, hq⟩ := Int.eq_ofNat_of_zero_le hgh.1
            subst hq
            rw [HCN.out X (by omega), HCN.out q (by omega)] at hnot
            obtain ⟨ad0, x0, hA0, _, hx0', hc00⟩ := (HR0.out.below HLO.out).i64_at (k := X) (by omega)
            obtain ⟨ad1, x1, hA1, _, hx1', hc01⟩ := (HR0.out.below HLO.out).i64_at (k := q) (by omega)
            obtain rfl : ad0 = ad1 := by rw [hA0] at hA1; injection hA1
            subst hA0
            have hM0 := (HM.out X).1
            rw [getD_of hx0'] at hM0
            have hM1 := (HM.out q).1
            rw [getD_of hx1'] at hM1
            have HS3 : Hid (true = (l1.take (i + 1)).any S.has) := hide (by rw [HS2.out, hh, Bool.or_true])
            have HI3 : Hid ((inn || decide (X = q)) = (l1.take (i + 1)).any fun x => S.has x && decide (x = (q : Int))) := hide (by
              rw [HI2.out, hh, HIN.out, Bool.true_and]
              congr 1
              rw [Bool.eq_iff_iff]
              simp
              omega)
            have hqn : (q : Int) < (n : Int) := by omega
            have hXn0 : (X : Int) < (n0 : Int) := by omega
            have hqn0 : (q : Int) < (n0 : Int) := by omega
            obtain ⟨a, ha⟩ : ∃ a, m X = a := ⟨_, rfl⟩
            obtain ⟨b, hb⟩ : ∃ b, m q = b := ⟨_, rfl⟩
            rw [ha] at hM0 hnot
            rw [hb] at hM1 hnot
            clear ha hb hh hx hab hxm hx0' hx1' hg1 hg2 hg3
            have hdq : decide ((q : Int) < 0) = false := by simp
            have hdq2 : decide ((n : Int) ≤ (q : Int)) = false := by simp; omega
            have hdab : decide ((a : Int) < (b : Int)) = false := by simp; omega
            have HDN := hide hnot
            obtain ⟨I2, hI2⟩ : ∃ I2, I2 = (inn || decide (X = q)) := ⟨_, rfl⟩
            rw [← hI2] at HI3
            have HI2b := hide hI2
            clear hI2
            go_upto_region 25 with fail
            go_cut [13] from 60 to 132 (fun s13 wx => s13 = .bool I2 ∧ Hid (wr = wx))
            case first =>
              cases inn with
              | true =>
                have hI2 := HI2b.out
                rw [Bool.true_or] at hI2
                subst hI2
                go_wp2_with fail
                go_meet
                case rel => exact ⟨rfl, (by first | exact hide rfl | exact hide trivial)⟩
              | false =>
                have hI2 := HI2b.out
                rw [Bool.false_or] at hI2
                subst hI2
                by_cases hXe : X = q
                · subst hXe
                  go_wp2_with fail
                  go_meet
                  case rel => exact ⟨by simp, (by first | exact hide rfl | exact hide trivial)⟩
                · have hneX : ((X : Int) == (q : Int)) = false := by simp; omega
                  have hneX2 : (X == q) = false := by simpa using hXe
                  go_wp2_with fail
                  go_meet
                  case rel => exact ⟨by simp [hXe], (by first | exact hide rfl | exact hide trivial)⟩
            case rest =>
              obtain ⟨rfl, hwz⟩ := hcut
              obtain rfl := hwz.out
              clear hwz
              by_cases hab : a = b
              · have hXq : decide ((X : Int) < (q : Int)) = false := by simp; omega
                subst hab
                go_wp2_with fail
                go_roundw
                case rel => exact ⟨i + 1, true, I2, rfl, rfl, by go_num, by omega, HS3, HI3, (by first | exact hide rfl | exact hide trivial)⟩
                case measure => simp [intOf]; omega
              · have hne : ((a : Int) == (b : Int)) = false := by simp; omega
                have hne2 : (a == b) = false := by simpa using hab
                go_wp2_with fail
                go_roundw
                case rel => exact ⟨i + 1, true, I2, rfl, rfl, by go_num, by omega, HS3, HI3, (by first | exact hide rfl | exact hide trivial)⟩
                case measure => simp [intOf]; omega
      · have hfin : (l1.take i) = l1 := List.take_of_length_le (by rw [HL1.out]; omega)
        have HS4 : Hid (OK0 = sm) := hide (by
          rw [HG0.out.2, HSM.out, hfin]
          have h := HES.out
          cases E with
          | none => symm; show l1.any S.has = false; rw [List.any_eq_false]; intro x hx; rw [h x hx]; simp
          | some g => symm; show l1.any S.has = true; rw [List.any_eq_true]; exact ⟨g, h.1, h.2.1⟩)
        have HI4 : Hid (inn = sm) := hide (by
          rw [HIN.out, HSM.out, hfin, HG0.out.1]
          have h := HES.out
          cases E with
          | none =>
            have h1 : l1.any S.has = false := by rw [List.any_eq_false]; intro x hx; rw [h x hx]; simp
            rw [h1, List.any_eq_false]
            intro x hx
            rw [h x hx]
            simp
          | some g =>
            have h1 : l1.any S.has = true := by rw [List.any_eq_true]; exact ⟨g, h.1, h.2.1⟩
            rw [h1, List.any_eq_true]
            exact ⟨g, h.1, by rw [h.2.1]; simp⟩)
        obtain rfl := HS4.out
        obtain rfl := HI4.out
        cases inn
        all_goals
          go_wp2_with fail
          go_ret
          exact ⟨rfl, HLO.out⟩
#print axioms usageEmptiest_walk
end Go.Proofs.Ytgoglgghnjgcdaa
