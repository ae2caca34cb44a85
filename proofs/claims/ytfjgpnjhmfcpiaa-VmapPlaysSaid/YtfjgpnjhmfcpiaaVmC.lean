/- What wrong, byPlaces and Set of vmap do. -/
import Derived.Test.YtfjgpnjhmfcpiaaVmB
namespace Go.Proofs.Ytfjgpnjhmfcpiaa
open Go.RowKit Go.Maps
set_option linter.unusedVariables false
/-- A row of changes as an argument. -/
structure ChIn (w : World) (A : Option Addr) (n c : Nat) (L : List Ch) : Prop where
  rd : Reads w w.heap.size 4 A n (chsL L)
  fits : ∀ x ∈ L, okI64 x.1 ∧ x.2.fits
  few : n ≤ 1000000
  cap : n ≤ c
section
variable {w w' : World} {A : Option Addr} {n c : Nat} {L : List Ch}
theorem ChIn.len (h : ChIn w A n c L) : L.length = n := by
  have := h.rd.1
  rw [chsL_len] at this
  omega
theorem ChIn.later (h : ChIn w A n c L) (hb : Below w.heap.size w w') : ChIn w' A n c L :=
  ⟨⟨h.rd.1, fun hn => by
    obtain ⟨ad, e, h1, h2⟩ := h.rd.2 hn
    exact ⟨ad, e, Nat.lt_of_lt_of_le h1 hb.size, fun j u hu => (hb.cell (p := ad.add j) (by rw [block_of_add]; exact h1)).trans (h2 j u hu)⟩⟩, h.fits, h.few, h.cap⟩
end
theorem ch_zero (w : World) : (zeroValue 34).run Try.prog w = .ok (.agg #[.int .i64 0, .int .i64 0, .int .i64 0, .int .i64 0]) w := by kernel_rfl
theorem take_mid (l c : List Value) (o N : Nat) (k : Nat) (hk : c.length = k) (h1 : o + k ≤ N) (h2 : N ≤ l.length) : (l.take o ++ c ++ l.drop (o + k)).take N = (l.take N).take o ++ c ++ (l.take N).drop (o + k) := by
  have e1 : (l.take o ++ c).length = o + k := by rw [List.length_append, List.length_take, hk]; omega
  rw [List.take_append, e1, List.take_of_length_le (l := l.take o ++ c) (by rw [e1]; exact h1), List.take_take, List.drop_take, Nat.min_eq_left (by omega)]
/-- A row of places in a block: one of them is written over. -/
theorem row_set {cur : Array Value} {V : List Wh} {i : Nat} {q : Wh} (h : cur.toList.take (V.length * 3) = whsL V) (hi : i < V.length) : (cur.toList.take (i * 3) ++ whC q ++ cur.toList.drop (i * 3 + (whC q).length)).take ((V.set i q).length * 3) = whsL (V.set i q) := by
  have hl : V.length * 3 ≤ cur.toList.length := by
    have := congrArg List.length h
    rw [List.length_take, whsL_len] at this
    omega
  rw [List.length_set, take_mid cur.toList (whC q) (i * 3) (V.length * 3) _ rfl (by rw [whC_len]; omega) hl, h, whC_len]
  exact (flat_set whC 3 whC_len V i q hi).symm
theorem row_room {cur : Array Value} {V : List Wh} (h : cur.toList.take (V.length * 3) = whsL V) : V.length * 3 ≤ cur.size := by
  have := congrArg List.length h
  rw [List.length_take, whsL_len] at this
  rw [← Array.length_toList (xs := cur)]
  omega
theorem row_reads {W : World} {p : Nat} {cur : Array Value} {V : List Wh} (hb : Blk W p 24 cur) (h : cur.toList.take (V.length * 3) = whsL V) : Reads W W.heap.size 3 (some ⟨p, 0, none⟩) V.length (whsL V) := by
  refine ⟨whsL_len V, fun _ => ⟨_, rfl, hb.lt, fun j u hj => ?_⟩⟩
  rw [add0, hb.cell j]
  rw [← h, List.getElem?_take] at hj
  split at hj
  · simpa using hj
  · cases hj
/-- A row that a call made, as a block. -/
theorem row_blk {w : World} {base n : Nat} {v : Value} {V : List Wh} (h : w.ownsRow base 24 3 v n (whsL V)) (h0 : 0 < n) : ∃ g c cur, v = .slice (some ⟨g, 0, none⟩) n c ∧ Blk w g 24 cur ∧ cur.toList.take (V.length * 3) = whsL V ∧ base ≤ g ∧ n ≤ c ∧ c ≤ 9223372036854775807 := by
  have hn : V.length = n := by
    have := h.1
    rw [whsL_len] at this
    omega
  obtain ⟨A, c, hv, hc1, hc2⟩ := own_shape h
  rcases h.2 with ⟨_, hz⟩ | ⟨g, cap, cur, hv2, hg, hh, k1, k2, k3, ht⟩
  · omega
  · rw [hv] at hv2
    injection hv2 with e1 e2 e3
    refine ⟨g, c, cur, by rw [hv, e1], hh, by rw [hn]; exact ht, hg, hc1, hc2⟩
section
variable {w w' : World} {m p y c : Nat} {cur : Array Value} {V : List Wh}
theorem badE_range {L : List Ch} {n k : Nat} {x : Ch} (hx : L[k]? = some x) (h : inB n x.1 = false) : badE n L = 3 := by
  unfold badE
  rw [if_neg]
  intro ha
  have := List.all_eq_true.1 ha x (List.mem_of_getElem? hx)
  rw [h] at this
  cases this
theorem badE_arg {L : List Ch} {n k : Nat} {x : Ch} (ha : ∀ c ∈ L, inB n c.1 = true) (hx : L[k]? = some x) (h : x.2.ok = false) : badE n L = 1 := by
  unfold badE
  rw [if_pos (List.all_eq_true.2 ha), if_neg]
  intro hb
  have := List.all_eq_true.1 hb x (List.mem_of_getElem? hx)
  rw [h] at this
  cases this
theorem badE_ok {L : List Ch} {n : Nat} (ha : ∀ c ∈ L, inB n c.1 = true) (hb : ∀ c ∈ L, c.2.ok = true) : badE n L = 0 := by
  unfold badE
  rw [if_pos (List.all_eq_true.2 ha), if_pos (List.all_eq_true.2 hb)]
theorem all_snoc {α : Type} {l : List α} {k : Nat} {x : α} {P : α → Prop} (h : ∀ y ∈ l.take k, P y) (hx : l[k]? = some x) (hp : P x) : ∀ y ∈ l.take (k + 1), P y := by
  rw [List.take_add_one, hx]
  intro y hy
  rcases List.mem_append.1 hy with hy | hy
  · exact h y hy
  · have : y = x := by simpa using hy
    rw [this]
    exact hp
theorem all_end {α : Type} {l : List α} {k : Nat} {P : α → Prop} (h : ∀ y ∈ l.take k, P y) (hk : l.length = k) : ∀ y ∈ l, P y := by
  rw [List.take_of_length_le (by omega)] at h
  exact h
theorem ch_snd (x : Ch) (w : World) (g : Nat) (h : Blk w g 34 (chC x).toArray) : ∀ (j : Nat) (v : Value), (whC x.2)[j]? = some v → w.cell? ((⟨g, 1, none⟩ : Addr).add j) = some v := fun j v hj => by
  have hadd : (⟨g, 1, none⟩ : Addr).add j = ⟨g, 1 + j, none⟩ := by unfold Addr.add; split <;> simp_all
  rw [hadd, h.cell]
  have : (chC x)[1 + j]? = some v := by rw [Nat.add_comm]; exact hj
  simpa using this
set_option maxRecDepth 100000 in
set_option maxHeartbeats 1000000 in
theorem wrong_any (h : VmIn w m p y c cur V) {A : Option Addr} {n c2 : Nat} {L : List Ch} (hl : ChIn w A n c2 L) : Calls Try.prog 25 #[.pointer (some ⟨m, 0, none⟩), .slice A n c2] w fun e w' => e = .returned (.int .i64 (badE V.length L : Int)) ∧ Below w.heap.size w w' := by
  have HH := hide h
  have HL := hide hl
  have HLEN := hide hl.len
  have hfew := hl.few
  have HWI := hide (within_any)
  obtain ⟨r, hr⟩ : ∃ r, badE V.length L = r := ⟨_, rfl⟩
  rw [hr]
  have HRR := hide hr
  clear h hl hr
  go_enter Try.func25, Try.ntmps25
  go_wp2
  go_loopw [6, 11] (fun _ i wr => ∃ k : Nat, k ≤ n ∧ i = .int .i64 (k : Int) ∧ Hid (∀ x ∈ L.take k, inB V.length x.1 = true) ∧ Hid (Below w.heap.size w wr)) (fun _ i _ => n - (intOf i).toNat)
  case atStart => exact ⟨0, Nat.zero_le _, rfl, hide (by simp), hide (Below.refl _ _)⟩
  case round =>
    obtain ⟨k, hk, rfl, HP, HB⟩ := hrel
    by_cases hkn : k < n
    · obtain ⟨x, hx⟩ : ∃ x, L[k]? = some x := ⟨_, List.getElem?_eq_getElem (by rw [HLEN.out]; exact hkn)⟩
      obtain ⟨ad, hA, _, hcell, _, _⟩ := ch_at ((HL.out.later HB.out).rd) hx
      subst hA
      have HCL := hide hcell
      have HX := hide hx
      have hkk : (k : Int) < (n : Int) := by omega
      clear hcell hx
      by_cases hin : inB V.length x.1 = true
      · have HWD : Hid (∀ w, Calls Try.prog 29 #[.int .i64 x.1, .int .i64 (V.length : Int)] w fun e w' => e = .returned (.bool true) ∧ w = w') := hide (fun w => by have h1 := HWI.out w x.1 (V.length : Int); rw [show decide (0 ≤ x.1 ∧ x.1 < (V.length : Int)) = true from hin] at h1; exact h1)
        have HP2 := hide (all_snoc HP.out HX.out hin)
        clear hin
        go_wp2_with (first
          | ((with_reducible refine at_slot 14 ?_); refine when_loadC rfl (.tmp 13) rfl _ x HCL.out rfl ?_)
          | ((with_reducible refine at_slot 6 ?_); refine wpList_alloc_blk rfl 34 rfl _ (ch_zero _) ?_; intro w1 hb1 hl1 hs1; clear hs1)
          | ((with_reducible refine at_store 6 ?_); refine wpList_store_all rfl 34 (.tmp 6) (.tmp 14) rfl wr.heap.size 34 _ hb1 rfl (chC x) rfl (ch_info x) rfl (ch_one x) ?_; intro w2 hb2 hg2 hs2; clear hs2; have hl2 : Below wr.heap.size wr w2 := hl1.grown hg2 hl1.size (fun g e => by injection e with e; omega); have HL2 := hide hl2; have HB2 := hide (HB.out.trans (hl2.mono HB.out.size)); have HBK := hide hb2; clear hl1 hl2 hg2 hb1 hb2))
        refine wp_region_held_drew (S := (fun W => W = w2.drew)) (by kernel_rfl) ?_ (fun hHeld => ?_)
        · exact rfl
        refine heldTake (i := 0) (v := ?_) rfl (by kernel_rfl) (by kernel_rfl) (by kernel_rfl) (fun _ _ _ h => h) (Or.inl ⟨by rfl, ?_⟩) (by assumption) ?_
        rotate_left
        · intro w hSw; (try dsimp only at hSw); go_simp <;> (with_reducible rfl)
        try simp only [Act.put, List.setIfInBounds_toArray, List.set_cons_zero, List.set_cons_succ]
        refine heldTake (i := 1) (v := .int .i64 x.1) rfl (by kernel_rfl) (by kernel_rfl) (by kernel_rfl) (fun _ _ _ h => h) (Or.inl ⟨by rfl, fun W hW => ?_⟩) (by assumption) ?_
        · dsimp only at hW
          subst hW
          have hc : w2.drew.cell? ⟨wr.heap.size, 0, none⟩ = some (.int .i64 x.1) := HBK.out.cell 0
          go_simp <;> rfl
        try simp only [Act.put, List.setIfInBounds_toArray, List.set_cons_zero, List.set_cons_succ]
        refine heldTake (i := 2) (v := ?_) rfl (by kernel_rfl) (by kernel_rfl) (by kernel_rfl) (fun _ _ _ h => h) (Or.inl ⟨by rfl, ?_⟩) (by assumption) ?_
        rotate_left
        · intro w hSw; (try dsimp only at hSw); go_simp <;> (with_reducible rfl)
        try simp only [Act.put, List.setIfInBounds_toArray, List.set_cons_zero, List.set_cons_succ]
        refine wpAnyH_ready (rs := [3]) (by kernel_rfl) (by simp) ?_
        refine heldCons (i := 3) rfl (fun Kq hKq => ?_) AllReadyH.nil
        go_simp
        go_at_call 23
        refine (len_any ((HH.out.later HB2.out).later ((Below.refl _ _).drew))).mono ?_
        rintro _ _ ⟨rfl, rfl⟩
        first | (refine hKq.out _ _ rfl (fun hHeld => ?_)) | (go_wp2_with fail; refine hKq.out _ _ rfl (fun hHeld => ?_))
        clear hKq Kq
        try simp only [Act.put, List.setIfInBounds_toArray, List.set_cons_zero, List.set_cons_succ]
        refine wpAnyH_ready (rs := [4]) (by kernel_rfl) (by simp) ?_
        refine heldCons (i := 4) rfl (fun Kq hKq => ?_) AllReadyH.nil
        go_simp
        go_at_call 29
        refine (HWD.out _).mono ?_
        rintro _ _ ⟨rfl, rfl⟩
        first | (refine hKq.out _ _ rfl (fun hHeld => ?_)) | (go_wp2_with fail; refine hKq.out _ _ rfl (fun hHeld => ?_))
        clear hKq Kq
        try simp only [Act.put, List.setIfInBounds_toArray, List.set_cons_zero, List.set_cons_succ]
        refine heldTake (i := 5) (v := ?_) rfl (by kernel_rfl) (by kernel_rfl) (by kernel_rfl) (fun _ _ _ h => h) (Or.inl ⟨by rfl, ?_⟩) (by assumption) ?_
        rotate_left
        · intro w hSw; (try dsimp only at hSw); go_simp <;> (with_reducible rfl)
        try simp only [Act.put, List.setIfInBounds_toArray, List.set_cons_zero, List.set_cons_succ]
        refine wpAnyH_done (by kernel_rfl) ?_ _
        go_wp2
        have HB3 : Hid (Below w.heap.size w w2.drew) := hide (HB2.out.drew)
        go_roundw
        case rel => exact ⟨k + 1, by omega, by go_num, HP2, HB3⟩
        case measure => simp [intOf]; omega
      · have hin2 : inB V.length x.1 = false := by simpa using hin
        have HWD : Hid (∀ w, Calls Try.prog 29 #[.int .i64 x.1, .int .i64 (V.length : Int)] w fun e w' => e = .returned (.bool false) ∧ w = w') := hide (fun w => by have h1 := HWI.out w x.1 (V.length : Int); rw [show decide (0 ≤ x.1 ∧ x.1 < (V.length : Int)) = false from hin2] at h1; exact h1)
        have hr3 : r = 3 := HRR.out.symm.trans (badE_range HX.out hin2)
        subst hr3
        clear hin hin2
        go_wp2_with (first
          | ((with_reducible refine at_slot 14 ?_); refine when_loadC rfl (.tmp 13) rfl _ x HCL.out rfl ?_)
          | ((with_reducible refine at_slot 6 ?_); refine wpList_alloc_blk rfl 34 rfl _ (ch_zero _) ?_; intro w1 hb1 hl1 hs1; clear hs1)
          | ((with_reducible refine at_store 6 ?_); refine wpList_store_all rfl 34 (.tmp 6) (.tmp 14) rfl wr.heap.size 34 _ hb1 rfl (chC x) rfl (ch_info x) rfl (ch_one x) ?_; intro w2 hb2 hg2 hs2; clear hs2; have hl2 : Below wr.heap.size wr w2 := hl1.grown hg2 hl1.size (fun g e => by injection e with e; omega); have HL2 := hide hl2; have HB2 := hide (HB.out.trans (hl2.mono HB.out.size)); have HBK := hide hb2; clear hl1 hl2 hg2 hb1 hb2))
        refine wp_region_held_drew (S := (fun W => W = w2.drew)) (by kernel_rfl) ?_ (fun hHeld => ?_)
        · exact rfl
        refine heldTake (i := 0) (v := ?_) rfl (by kernel_rfl) (by kernel_rfl) (by kernel_rfl) (fun _ _ _ h => h) (Or.inl ⟨by rfl, ?_⟩) (by assumption) ?_
        rotate_left
        · intro w hSw; (try dsimp only at hSw); go_simp <;> (with_reducible rfl)
        try simp only [Act.put, List.setIfInBounds_toArray, List.set_cons_zero, List.set_cons_succ]
        refine heldTake (i := 1) (v := .int .i64 x.1) rfl (by kernel_rfl) (by kernel_rfl) (by kernel_rfl) (fun _ _ _ h => h) (Or.inl ⟨by rfl, fun W hW => ?_⟩) (by assumption) ?_
        · dsimp only at hW
          subst hW
          have hc : w2.drew.cell? ⟨wr.heap.size, 0, none⟩ = some (.int .i64 x.1) := HBK.out.cell 0
          go_simp <;> rfl
        try simp only [Act.put, List.setIfInBounds_toArray, List.set_cons_zero, List.set_cons_succ]
        refine heldTake (i := 2) (v := ?_) rfl (by kernel_rfl) (by kernel_rfl) (by kernel_rfl) (fun _ _ _ h => h) (Or.inl ⟨by rfl, ?_⟩) (by assumption) ?_
        rotate_left
        · intro w hSw; (try dsimp only at hSw); go_simp <;> (with_reducible rfl)
        try simp only [Act.put, List.setIfInBounds_toArray, List.set_cons_zero, List.set_cons_succ]
        refine wpAnyH_ready (rs := [3]) (by kernel_rfl) (by simp) ?_
        refine heldCons (i := 3) rfl (fun Kq hKq => ?_) AllReadyH.nil
        go_simp
        go_at_call 23
        refine (len_any ((HH.out.later HB2.out).later ((Below.refl _ _).drew))).mono ?_
        rintro _ _ ⟨rfl, rfl⟩
        first | (refine hKq.out _ _ rfl (fun hHeld => ?_)) | (go_wp2_with fail; refine hKq.out _ _ rfl (fun hHeld => ?_))
        clear hKq Kq
        try simp only [Act.put, List.setIfInBounds_toArray, List.set_cons_zero, List.set_cons_succ]
        refine wpAnyH_ready (rs := [4]) (by kernel_rfl) (by simp) ?_
        refine heldCons (i := 4) rfl (fun Kq hKq => ?_) AllReadyH.nil
        go_simp
        go_at_call 29
        refine (HWD.out _).mono ?_
        rintro _ _ ⟨rfl, rfl⟩
        first | (refine hKq.out _ _ rfl (fun hHeld => ?_)) | (go_wp2_with fail; refine hKq.out _ _ rfl (fun hHeld => ?_))
        clear hKq Kq
        try simp only [Act.put, List.setIfInBounds_toArray, List.set_cons_zero, List.set_cons_succ]
        refine heldTake (i := 5) (v := ?_) rfl (by kernel_rfl) (by kernel_rfl) (by kernel_rfl) (fun _ _ _ h => h) (Or.inl ⟨by rfl, ?_⟩) (by assumption) ?_
        rotate_left
        · intro w hSw; (try dsimp only at hSw); go_simp <;> (with_reducible rfl)
        try simp only [Act.put, List.setIfInBounds_toArray, List.set_cons_zero, List.set_cons_succ]
        refine wpAnyH_done (by kernel_rfl) ?_ _
        go_wp2
        go_ret
        exact ⟨rfl, HB2.out.drew⟩
    · obtain rfl : k = n := by omega
      have HPA := hide (all_end HP.out HLEN.out)
      obtain ⟨wz, hwz⟩ : ∃ wz, wz = wr := ⟨_, rfl⟩
      subst hwz
      have HBZ := HB
      clear HP HB
      go_wp2
      go_loopw [8, 24] (fun _ i wr => ∃ j : Nat, j ≤ k ∧ i = .int .i64 (j : Int) ∧ Hid (∀ x ∈ L.take j, x.2.ok = true) ∧ Hid (Below w.heap.size w wr)) (fun _ i _ => k - (intOf i).toNat)
      case atStart => exact ⟨0, Nat.zero_le _, rfl, hide (by simp), HBZ⟩
      case round =>
        obtain ⟨j, hj, rfl, HP, HB⟩ := hrel
        by_cases hjn : j < k
        · obtain ⟨x, hx⟩ : ∃ x, L[j]? = some x := ⟨_, List.getElem?_eq_getElem (by rw [HLEN.out]; exact hjn)⟩
          obtain ⟨ad, hA, _, hcell, _, _⟩ := ch_at ((HL.out.later HB.out).rd) hx
          subst hA
          have HCL := hide hcell
          have HX := hide hx
          have hkk : (j : Int) < (k : Int) := by omega
          clear hcell hx
          by_cases hin : x.2.ok = true
          · have HWD : Hid (∀ w, Calls Try.prog 30 #[.agg (whC x.2).toArray] w fun e w' => e = .returned (.bool true) ∧ Below w.heap.size w w') := hide (fun w => by have h1 := right_any w x.2; rw [hin] at h1; exact h1)
            have HP2 := hide (all_snoc HP.out HX.out hin)
            clear hin
            go_wp2_with (first
              | ((with_reducible refine at_slot 27 ?_); refine when_loadC rfl (.tmp 26) rfl _ x HCL.out rfl ?_)
              | ((with_reducible refine at_slot 8 ?_); refine wpList_alloc_blk rfl 34 rfl _ (ch_zero _) ?_; intro w1 hb1 hl1 hs1; clear hs1)
              | ((with_reducible refine at_store 8 ?_); refine wpList_store_all rfl 34 (.tmp 8) (.tmp 27) rfl wr.heap.size 34 _ hb1 rfl (chC x) rfl (ch_info x) rfl (ch_one x) ?_; intro w2 hb2 hg2 hs2; clear hs2; have hl2 : Below wr.heap.size wr w2 := hl1.grown hg2 hl1.size (fun g e => by injection e with e; omega); have HL2 := hide hl2; have HB2 := hide (HB.out.trans (hl2.mono HB.out.size)); have HBK := hide hb2; clear hl1 hl2 hg2 hb1 hb2)
              | ((with_reducible refine at_slot 29 ?_); refine when_loadW rfl (.tmp 28) rfl ⟨wr.heap.size, 1, none⟩ x.2 (ch_snd x _ _ HBK.out) rfl ?_)
              | (go_at_call 30; refine (HWD.out _).mono ?_; rintro _ w3 ⟨rfl, hl3⟩; have HB3 := hide (HB2.out.trans (hl3.mono HB2.out.size)); clear hl3))
            go_roundw
            case rel => exact ⟨j + 1, by omega, by go_num, HP2, HB3⟩
            case measure => simp [intOf]; omega
          · have hin2 : x.2.ok = false := by simpa using hin
            have HWD : Hid (∀ w, Calls Try.prog 30 #[.agg (whC x.2).toArray] w fun e w' => e = .returned (.bool false) ∧ Below w.heap.size w w') := hide (fun w => by have h1 := right_any w x.2; rw [hin2] at h1; exact h1)
            have hr3 : r = 1 := HRR.out.symm.trans (badE_arg HPA.out HX.out hin2)
            subst hr3
            clear hin hin2
            go_wp2_with (first
              | ((with_reducible refine at_slot 27 ?_); refine when_loadC rfl (.tmp 26) rfl _ x HCL.out rfl ?_)
              | ((with_reducible refine at_slot 8 ?_); refine wpList_alloc_blk rfl 34 rfl _ (ch_zero _) ?_; intro w1 hb1 hl1 hs1; clear hs1)
              | ((with_reducible refine at_store 8 ?_); refine wpList_store_all rfl 34 (.tmp 8) (.tmp 27) rfl wr.heap.size 34 _ hb1 rfl (chC x) rfl (ch_info x) rfl (ch_one x) ?_; intro w2 hb2 hg2 hs2; clear hs2; have hl2 : Below wr.heap.size wr w2 := hl1.grown hg2 hl1.size (fun g e => by injection e with e; omega); have HL2 := hide hl2; have HB2 := hide (HB.out.trans (hl2.mono HB.out.size)); have HBK := hide hb2; clear hl1 hl2 hg2 hb1 hb2)
              | ((with_reducible refine at_slot 29 ?_); refine when_loadW rfl (.tmp 28) rfl ⟨wr.heap.size, 1, none⟩ x.2 (ch_snd x _ _ HBK.out) rfl ?_)
              | (go_at_call 30; refine (HWD.out _).mono ?_; rintro _ w3 ⟨rfl, hl3⟩; have HB3 := hide (HB2.out.trans (hl3.mono HB2.out.size)); clear hl3))
            go_ret
            exact ⟨rfl, HB3.out⟩
        · obtain rfl : j = k := by omega
          have hr0 : r = 0 := HRR.out.symm.trans (badE_ok HPA.out (all_end HP.out HLEN.out))
          subst hr0
          go_wp2
          go_ret
          exact ⟨rfl, HB.out⟩
end
#print axioms wrong_any
end Go.Proofs.Ytfjgpnjhmfcpiaa
