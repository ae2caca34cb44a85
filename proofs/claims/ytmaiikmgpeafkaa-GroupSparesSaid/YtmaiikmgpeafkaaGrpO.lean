/- What inOrder of group answers: the disks that may be picked, in order. -/
import Derived.Test.YtmaiikmgpeafkaaGrpV
import Derived.Test.YtmaiikmgpeafkaaGrpQ
import Derived.Test.YtmaiikmgpeafkaaGrpM
import Derived.Test.YtmaiikmgpeafkaaStill
import Derived.Test.YtmaiikmgpeafkaaTwoRows
namespace Go.Proofs.Ytmaiikmgpeafkaa
open Go.RowKit Go.Sort Go.Shelf

theorem compare_any (a b : Int) (w : World) : Calls Try.prog 43 #[.int .i64 a, .int .i64 b] w fun e w' => e = .returned (.int .i64 (Lib.compareInt a b)) ∧ w' = w := AnyG.cmp_Compare_int lay_cmpInt a b w
theorem or_any (g : Nat) (a b : Int) (w : World) (h : Blk w g 3 #[.int .i64 a, .int .i64 b]) :
    Calls Try.prog 42 #[.slice (some ⟨g, 0, none⟩) 2 2] w fun e w' => e = .returned (.int .i64 (if a = 0 then b else a)) ∧ w' = w := by
  have c0 : w.cell? ⟨g, 0, none⟩ = some (.int .i64 a) := h.cell 0
  have c1 : w.cell? ⟨g, 1, none⟩ = some (.int .i64 b) := h.cell 1
  clear h
  by_cases ha : a = 0
  · subst ha
    rw [if_pos rfl]
    by_cases hb : b = 0
    · subst hb
      go_enter Try.func42, Try.ntmps42
      go_wp2
      go_loopw [8] (fun i wr => ((i = .int .i64 0) ∨ (i = .int .i64 1) ∨ (i = .int .i64 2)) ∧ wr = w) (fun i _ => 2 - (intOf i).toNat)
      case atStart => exact ⟨.inl rfl, rfl⟩
      case round =>
        obtain ⟨hc, rfl⟩ := hrel
        rcases hc with rfl | rfl | rfl
        · go_wp2
          go_roundw
          case rel => simp
          case measure => simp [intOf]
        · go_wp2
          go_roundw
          case rel => simp
          case measure => simp [intOf]
        · go_wp2
          go_ret
          exact ⟨rfl, rfl⟩
    · have hne : ((b : Int) != 0) = true := by simpa using hb
      clear hb
      go_enter Try.func42, Try.ntmps42
      go_wp2
      go_loopw [8] (fun i wr => ((i = .int .i64 0) ∨ (i = .int .i64 1)) ∧ wr = w) (fun i _ => 2 - (intOf i).toNat)
      case atStart => exact ⟨.inl rfl, rfl⟩
      case round =>
        obtain ⟨hc, rfl⟩ := hrel
        rcases hc with rfl | rfl
        · go_wp2
          go_roundw
          case rel => simp
          case measure => simp [intOf]
        · go_wp2
          go_ret
          exact ⟨rfl, rfl⟩
  · have hne : ((a : Int) != 0) = true := by simpa using ha
    rw [if_neg ha]
    clear ha
    go_enter Try.func42, Try.ntmps42
    go_wp2
    go_loopw [8] (fun i wr => i = .int .i64 0 ∧ wr = w) (fun _ _ => 0)
    case atStart => exact ⟨rfl, rfl⟩
    case round =>
      obtain ⟨rfl, rfl⟩ := hrel
      go_wp2
      go_ret
      exact ⟨rfl, rfl⟩
set_option maxRecDepth 100000 in
set_option maxHeartbeats 1000000 in
theorem byRoom_any (rm : List Int) (AR : Option Addr) (cR bR B0 : Nat) (x y : Nat) (w : World) (hr : Reads w B0 1 AR rm.length (I64 rm)) (hc : w.cell? ⟨bR, 0, none⟩ = some (.slice AR rm.length cR)) (hx : x < rm.length) (hy : y < rm.length) :
    Calls Try.prog 41 #[.int .i64 (x : Int), .int .i64 (y : Int), .pointer (some ⟨bR, 0, none⟩)] w fun e w' => e = .returned (.int .i64 (cmpR rm x y)) ∧ ∃ q os', w' = grow (w.drewN q) os' := by
  obtain ⟨ad, vx, rfl, _, hvx, hcx⟩ := hr.i64_at hx
  obtain ⟨ad', vy, hA, _, hvy, hcy⟩ := hr.i64_at hy
  injection hA with hA
  subst hA
  have ex := roomI_at hvx
  have ey := roomI_at hvy
  unfold cmpR
  rw [ex, ey]
  obtain ⟨r1, h1⟩ : ∃ r, r = Lib.compareInt vy vx := ⟨_, rfl⟩
  obtain ⟨r2, h2⟩ : ∃ r, r = Lib.compareInt (x : Int) (y : Int) := ⟨_, rfl⟩
  have hC1 : ∀ W, Calls Try.prog 43 #[.int .i64 vy, .int .i64 vx] W fun e w' => e = .returned (.int .i64 r1) ∧ w' = W := fun W => by rw [h1]; exact compare_any _ _ W
  have hC2 : ∀ W, Calls Try.prog 43 #[.int .i64 (x : Int), .int .i64 (y : Int)] W fun e w' => e = .returned (.int .i64 r2) ∧ w' = W := fun W => by rw [h2]; exact compare_any _ _ W
  rw [← h1, ← h2]
  have HC1 := hide hC1
  have HC2 := hide hC2
  clear hr hvx hvy ex ey h1 h2 hC1 hC2
  go_enter Try.func41, Try.ntmps41
  go_wp2
  obtain ⟨W, hW⟩ : ∃ W, W = w.drew := ⟨_, rfl⟩
  have d0 : W.cell? ⟨bR, 0, none⟩ = some (.slice (some ad) rm.length cR) := by rw [hW]; exact hc
  have d1 : W.cell? (ad.add x) = some (.int .i64 vx) := by rw [hW]; exact hcx
  have d2 : W.cell? (ad.add y) = some (.int .i64 vy) := by rw [hW]; exact hcy
  refine wp_region_still_tail 12 (by kernel_rfl) (by kernel_rfl) ?_
  change wpStill _ _ w.drew _ _ _
  rw [← hW]
  simp only [List.take_succ_cons, List.take_zero, List.drop_succ_cons, List.drop_zero]
  iterate 8 still_step
  still_call (HC1.out _)
  iterate 2 still_step
  still_call (HC2.out _)
  refine wpStill_nil ?_
  change wpList _ _ _ _ _ w.drew
  rw [← hW]
  have HW := hide hW
  clear hW
  go_wp2_with (first
    | ((with_reducible refine at_slot 18 ?_); refine wpList_build_two rfl (.tmp 14) (.tmp 17) rfl (.int .i64 r1) (.int .i64 r2) rfl rfl rfl rfl ?_)
    | (go_at_call 42; refine (or_any W.heap.size r1 r2 _ (Blk.new W _ _)).mono ?_; rintro _ _ ⟨rfl, rfl⟩))
  all_goals
    go_ret
    exact ⟨rfl, 1, _, by rw [HW.out]; exact alloc_eq_grow _ _⟩
def encF {n : Nat} (x : Fin n) : Value := .int .i64 ((x.1 : Nat) : Int)
theorem sortWorld_fin {n : Nat} [Inhabited (Fin n)] (w : World) (g m : Nat) (dk : Array (Fin n)) (os : Array Obj) : sortWorld encF w g 0 m dk os = grow (putRow encZ (Sort.ahead w m) g 0 (dk.map (fun x => ((x.1 : Nat) : Int)))) os := by
  have e : ∀ c, putCells encF 0 dk c = putCells encZ 0 (dk.map (fun x => ((x.1 : Nat) : Int))) c := by
    intro c
    unfold putCells
    congr 1
    funext k x
    by_cases hk : k < dk.size
    · have h1 : dk[k]! = dk[k] := getElem!_pos dk k hk
      have h2 : (dk.map (fun x => ((x.1 : Nat) : Int)))[k]! = ((dk[k].1 : Nat) : Int) := by rw [getElem!_pos _ k (by simpa using hk)]; simp
      simp only [Nat.zero_le, true_and, Nat.zero_add, Nat.sub_zero, Array.size_map, hk, if_true]
      rw [h1, h2]
      rfl
    · simp [hk]
  unfold sortWorld putRow
  congr 2
  funext c
  exact e c
set_option maxHeartbeats 1000000 in
theorem sort_order (rm : List Int) (AR : Option Addr) (cR bR B0 base : Nat) (v : Value) (L : List Nat) (w : World) (hr : Reads w B0 1 AR rm.length (I64 rm)) (hc : w.cell? ⟨bR, 0, none⟩ = some (.slice AR rm.length cR)) (hbR : bR < base) (hbw : bR < w.heap.size) (hB0 : B0 ≤ base) (hB0w : B0 ≤ w.heap.size)
    (hL : ∀ x ∈ L, x < rm.length) (hlen : L.length ≤ 1000000) (hown : w.ownsRow base 3 1 v L.length (I64 (toI L))) :
    Calls Try.prog 40 #[v, .func (.func 41) #[] #[.pointer (some ⟨bR, 0, none⟩)]] w fun e w' =>
      e = .returned (.tuple #[]) ∧ w'.ownsRow base 3 1 v L.length (I64 (toI (L.mergeSort (fun x y => !ltR rm y x)))) ∧ w.grownBy w' v.ownBlock := by
  rcases hown.2 with ⟨rfl, h0⟩ | ⟨g, cap, cur, rfl, hbase, hb, h1, h2, h3, h4⟩
  · have hl : L = [] := List.eq_nil_of_length_eq_zero h0
    subst hl
    refine (AnyF.slices_SortFunc_none (ρ := lay_sortF_ren) { lay_sortF with } none 0 _ w).mono ?_
    rintro e w' ⟨he, rfl⟩
    exact ⟨he, by simpa [toI, I64] using hown, World.grownBy.refl _ _⟩
  · have hgl : g < w.heap.size := (Array.getElem?_eq_some_iff.1 hb).1
    obtain ⟨ds, hds⟩ := lift_fin L hL
    have hdl : ds.length = L.length := by rw [← hds, List.length_map]
    by_cases hL0 : L.length = 0
    · have hl : L = [] := List.eq_nil_of_length_eq_zero hL0
      subst hl
      refine (AnyF.slices_SortFunc_none (ρ := lay_sortF_ren) { lay_sortF with } (some ⟨g, 0, none⟩) cap _ w).mono ?_
      rintro e w' ⟨he, rfl⟩
      exact ⟨he, by simpa [toI, I64] using hown, World.grownBy.refl _ _⟩
    · obtain ⟨d0, hd0⟩ : ∃ d0, ds[0]? = some d0 := ⟨_, List.getElem?_eq_getElem (by omega)⟩
      haveI : Inhabited (Fin rm.length) := ⟨d0⟩
      have eg : ∀ args w, (callFunc 41 args).run Try.prog w = .ok (.enter 41 args) w := enters_of Try.func41 (by kernel_rfl) rfl
      have hdsi : ds.map (fun x => ((x.1 : Nat) : Int)) = toI L := by rw [← hds, toI, List.map_map]; rfl
      have hH : Holds encF w g 0 ds.toArray := by
        have h5 : Holds encZ w g 0 (toI L).toArray := holds_of_block_i hb (by rw [toI_length]; rw [Nat.mul_one] at h4; exact h4)
        intro j hj
        have hj2 : j < L.length := by simpa [hdl] using hj
        obtain ⟨h6, h7⟩ := h5 j (by simpa [toI] using hj2)
        refine ⟨h6.trans ?_, h7⟩
        have e1 : ds.toArray[j]! = ds[j]'(by omega) := by rw [getElem!_pos _ j (by simpa using hj)]; simp
        have e2 : (toI L).toArray[j]! = (((ds[j]'(by omega)).1 : Nat) : Int) := by
          rw [getElem!_pos _ j (by simpa [toI] using hj2)]
          have : (toI L)[j]? = some (((ds[j]'(by omega)).1 : Nat) : Int) := by rw [← hdsi]; simp [show j < ds.length by omega]
          simp only [List.getElem_toArray]
          exact (List.getElem?_eq_some_iff.1 this).2
        rw [e1, e2]
        rfl
      have hcmp : CmpLays1 Try.prog 41 #[.pointer (some ⟨bR, 0, none⟩)] encF (fun x y : Fin rm.length => cmpR rm x.1 y.1) g 0 ds.toArray.size w := by
        intro m os dk _ x y
        have hg2 : w.grownBy (sortWorld encF w g 0 m dk os) (some g) := by rw [sortWorld_fin]; exact grownBy_sorted_i _
        have hlow : Below B0 w (sortWorld encF w g 0 m dk os) := (Below.refl B0 w).grown hg2 hB0w (fun k e => by injection e with e; omega)
        exact byRoom_any rm AR cR bR B0 x.1 y.1 _ (hr.below hlow) ((World.cell?_of_block (a := ⟨bR, 0, none⟩) (hg2.block bR hbw (fun e => by injection e with e; omega))).trans hc) x.2 y.2
      have hcon := Any.slices_SortFunc_total lay_sortF encF (fun _ => rfl) (fun x y : Fin rm.length => cmpR rm x.1 y.1) (swo_ltR rm) 41 #[.pointer (some ⟨bR, 0, none⟩)] g 0 cap ds.toArray w eg hcmp hH hgl (by simp [hdl]; omega) (fun x y k1 k2 => by
        change ltOf (cmpR rm) x.1 y.1 = false at k1
        change ltOf (cmpR rm) y.1 x.1 = false at k2
        rw [ltOf_cmpR] at k1 k2
        exact Fin.ext (ltR_total k1 k2))
      change Calls Try.prog 40 _ _ _ at hcon
      have e3 : ds.toArray.size = L.length := by simp [hdl]
      rw [e3] at hcon
      refine hcon.mono ?_
      rintro e w' ⟨he, nn, os, rfl⟩
      refine ⟨he, ?_, ?_⟩
      · have e4 : (ds.mergeSort (fun x y => !ltOf (fun x y : Fin rm.length => cmpR rm x.1 y.1) y x)).map (fun x => ((x.1 : Nat) : Int)) = toI (L.mergeSort (fun x y => !ltR rm y x)) := by
          rw [← hds, toI, ← List.map_mergeSort (r := fun x y => !ltOf (fun x y : Fin rm.length => cmpR rm x.1 y.1) y x) (fun a _ b _ => by
            show (!ltOf (cmpR rm) b.1 a.1) = !ltR rm b.1 a.1
            rw [ltOf_cmpR]), List.map_map]
          rfl
        have e5 : (toI (L.mergeSort (fun x y => !ltR rm y x))).length = (toI L).length := by rw [toI_length, toI_length, List.length_mergeSort]
        have h7 := ownsRow_sorted_i (w := w) (n := nn) (os := os) (ss := toI L) (ts := toI (L.mergeSort (fun x y => !ltR rm y x))) e5 hbase hb (by rw [toI_length]; exact h1) h2 h3
        rw [toI_length] at h7
        rw [sortWorld_fin]
        have e6 : ((ds.toArray.toList.mergeSort (fun x y => !ltOf (fun x y : Fin rm.length => cmpR rm x.1 y.1) y x)).toArray.map (fun x => ((x.1 : Nat) : Int))) = (toI (L.mergeSort (fun x y => !ltR rm y x))).toArray := by
          rw [← e4]
          simp
        rw [e6]
        exact h7
      · rw [sortWorld_fin]
        exact grownBy_sorted_i _
set_option maxRecDepth 100000 in
set_option maxHeartbeats 1000000 in
theorem inOrder_any (AR : Option Addr) (cR : Nat) (rm : List Int) (AB : Option Addr) (nB cB : Nat) (ban : List Int) (B0 : Nat) (w : World) (hr : Reads w B0 1 AR rm.length (I64 rm)) (hb : Reads w B0 1 AB nB (I64 ban)) (hB0 : B0 ≤ w.heap.size) (hn : rm.length ≤ 1000000) (hnB : nB ≤ maxLen) (hn8 : nB * 8 ≤ 140737488355328) :
    Calls Try.prog 26 #[.slice AR rm.length cR, .slice AB nB cB] w fun e w' => ∃ v, e = .returned v ∧ w'.ownsRow w.heap.size 3 1 v (orderL rm ban).length (I64 (toI (orderL rm ban))) ∧ Below w.heap.size w w' := by
  have hmf : ∀ (fn : Fn) (first cap : Array Value) (w : World), (Instr.makeFunc fn first cap).run Try.prog w = .ok (.func fn first cap) w := fun _ _ _ _ => rfl
  obtain ⟨i0, hi0, hz0, hz1, hz2⟩ := info_parts int_parts
  have HI := hide (And.intro hi0 (And.intro hz0 (And.intro hz1 hz2)))
  have HR := hide hr
  have HB := hide hb
  have hlb : ban.length = nB := by have := hb.1; rw [I64_length] at this; omega
  have HLB := hide hlb
  clear hr hb hi0 hz0 hz1 hz2 hlb
  go_enter Try.func26, Try.ntmps26
  go_wp2_with (first
    | ((with_reducible refine at_slot 2 ?_); refine wpList_box_blk rfl 22 (.tmp 0) rfl (.slice AR rm.length cR) rfl ?_; intro w1 hb1q hl1 hs1; have hq1 : w.heap.size < w1.heap.size := (by omega); clear hs1; have hb1 : Blk w1 w.heap.size 22 #[.slice AR rm.length cR] := hb1q; clear hb1q; have HRB := hide (((HB.out.below (hl1.mono hB0)).more (Nat.le_trans hB0 hl1.size))))
    | (go_at_call 38; refine (values_sorted AB nB cB ban w1 HRB.out hnB hn8).mono ?_; rintro _ w2 ⟨rfl, hl2, hso⟩; have HSO := hide hso; clear hso)
    | (go_at_call 37; refine HSO.out.mono ?_; rintro _ w3 ⟨vN, rfl, hrowN, hl3⟩; have c0 : w3.cell? ⟨w.heap.size, 0, none⟩ = some (.slice AR rm.length cR) := (hb1.below (hl2.trans (hl3.mono hl2.size)) hb1.lt).cell 0))
  have hl13 : Below w1.heap.size w1 w3 := hl2.trans (hl3.mono hl2.size)
  have hlw3 : Below w.heap.size w w3 := hl1.trans (hl13.mono hl1.size)
  have HB3 : Hid (Blk w3 w.heap.size 22 #[.slice AR rm.length cR]) := hide (hb1.below hl13 hb1.lt)
  obtain ⟨AN, cN, rfl, _, _⟩ := own_shape hrowN
  have HN : Hid (w3.ownsRow w1.heap.size 3 1 (.slice AN ban.length cN) (rise ban).length (I64 (rise ban))) := hide (by rw [rise_length]; exact hrowN)
  have HBIG : Hid ((rise ban).length < 4611686018427387904) := hide (by rw [rise_length, HLB.out]; simp only [maxLen] at hnB; omega)
  have hz3 : w1.heap.size ≤ w3.heap.size := hl13.size
  clear hrowN hl2 hl3 hb1 hl13 HSO HRB
  go_loopw [6, 14] (fun s6 i wr => ∃ (k : Nat), k ≤ rm.length ∧ i = .int .i64 k ∧ Hid (wr.ownsRow w3.heap.size 3 1 s6 ((List.range k).filter (mayB rm ban)).length (I64 (toI ((List.range k).filter (mayB rm ban))))) ∧ Below w3.heap.size w3 wr) (fun _ i _ => rm.length - (intOf i).toNat)
  case atStart => exact ⟨0, Nat.zero_le _, rfl, hide (World.ownsRow_nil _ _ _ _), Below.refl _ _⟩
  case round =>
    clear c0
    obtain ⟨k, hk, rfl, HO, hbel⟩ := hrel
    have hzr := hbel.size
    by_cases hkn : k < rm.length
    · have hlow : Below w.heap.size w wr := hlw3.trans (hbel.mono hlw3.size)
      obtain ⟨ad, rv, rfl, hab, hrv, hcr⟩ := HR.out.i64_at hkn
      have hce := ((hlow.mono hB0).cell (p := ad.add k) (by rw [block_of_add]; exact hab)).trans hcr
      have hri := roomI_at hrv
      have HRI := hide hri
      have hfl : ((List.range k).filter (mayB rm ban)).length ≤ k := by
        have := List.length_filter_le (mayB rm ban) (List.range k)
        rwa [List.length_range] at this
      have hran : wr.ownsRow w1.heap.size 3 1 (.slice AN ban.length cN) (rise ban).length (I64 (rise ban)) := own_later HN.out hbel
      have HRAN := hide hran
      have hstep : (List.range rm.length)[k]? = some k := by simp [hkn]
      have htk : ∀ j, j ≤ rm.length → (List.range rm.length).take j = List.range j := fun j hj => by rw [List.take_range, Nat.min_eq_left hj]
      have hmore : mayB rm ban k = true → (List.range (k + 1)).filter (mayB rm ban) = (List.range k).filter (mayB rm ban) ++ [k] := fun h => by
        have := filter_more (p := mayB rm ban) hstep h
        rwa [htk _ (by omega), htk _ hk] at this
      have hless : mayB rm ban k = false → (List.range (k + 1)).filter (mayB rm ban) = (List.range k).filter (mayB rm ban) := fun h => by
        have := filter_less (p := mayB rm ban) hstep h
        rwa [htk _ (by omega), htk _ hk] at this
      have HMORE := hide hmore
      have HLESS := hide hless
      have HFL := hide hfl
      clear hcr hrv hab hri hran hstep htk hmore hless hlow hfl
      by_cases h0 : (0 : Int) < rv
      · cases hb : ban.contains (k : Int) with
        | true =>
          have HQ := hide (HLESS.out (by unfold mayB; rw [HRI.out, hb]; simp))
          have HAM : Hid (Calls Try.prog 39 #[.slice AN ban.length cN, .int .i64 (k : Int)] wr fun e w' => e = .returned (.bool true) ∧ ∃ q, w' = wr.drewN q) := hide (by rw [← hb, ← rise_contains]; exact among_any _ (rise ban) (rise_sorted ban) _ wr HRAN.out (k : Int) HBIG.out)
          clear hb
          go_wp2_with (first | (go_at_call 39; refine HAM.out.mono ?_; rintro _ _ ⟨rfl, z, rfl⟩))
          have hl5 : Below wr.heap.size wr (wr.drewN z) := ⟨rfl, rfl, rfl, Nat.le_refl _, fun _ _ => rfl⟩
          have HO2 : Hid ((wr.drewN z).ownsRow w3.heap.size 3 1 u6 ((List.range (k + 1)).filter (mayB rm ban)).length (I64 (toI ((List.range (k + 1)).filter (mayB rm ban))))) := hide (by rw [HQ.out]; exact own_later HO.out hl5)
          have hl6 := hbel.trans (hl5.mono hzr)
          go_roundw
          case rel => exact ⟨k + 1, by omega, by go_num, HO2, hl6⟩
          case measure => simp [intOf]; omega
        | false =>
          have HQ := hide (HMORE.out (by unfold mayB; rw [HRI.out, hb]; simp [h0]))
          have HAM : Hid (Calls Try.prog 39 #[.slice AN ban.length cN, .int .i64 (k : Int)] wr fun e w' => e = .returned (.bool false) ∧ ∃ q, w' = wr.drewN q) := hide (by rw [← hb, ← rise_contains]; exact among_any _ (rise ban) (rise_sorted ban) _ wr HRAN.out (k : Int) HBIG.out)
          have hm1 : ((List.range k).filter (mayB rm ban)).length + 1 ≤ maxLen := by have := HFL.out; simp only [maxLen]; omega
          have hm2 : (((List.range k).filter (mayB rm ban)).length + 1) * 8 ≤ 140737488355328 := by have := HFL.out; omega
          have HM := hide (And.intro hm1 hm2)
          clear hb hm1 hm2
          go_wp2_with (first
            | (go_at_call 39; refine HAM.out.mono ?_; rintro _ w4 ⟨rfl, z, hw4⟩; have hl5 : Below wr.heap.size wr w4 := (by rw [hw4]; exact ⟨rfl, rfl, rfl, Nat.le_refl _, fun _ _ => rfl⟩); clear hw4; have HO4 := hide (own_later HO.out hl5); have hz4 := hl5.size)
            | (at_builtin; refine wpList_append_any _ rfl (.tmp 27) (.tmp 29) _ rfl w3.heap.size 3 i0 _ 1 8 Try.underlying22 HI.out.1 HI.out.2.1 HI.out.2.2.1 HI.out.2.2.2 rfl (by decide) _ ((List.range k).filter (mayB rm ban)).length _ rfl (HO4.out.alloc _) (w4.heap.size + 1) (some ⟨w4.heap.size, 0, none⟩) 1 1 [.int .i64 (k : Int)] rfl (Reads.one _ _ _ _ (by omega)) (one_i64 _) HM.out.1 HM.out.2 (le_alloc (by omega) _) ?_; intro v5 w5 hown5 hbel5))
          have hl6 : Below w3.heap.size w3 w5 := ((hbel.trans (hl5.mono hzr)).alloc (by omega) _).trans hbel5
          have HO5 : Hid (w5.ownsRow w3.heap.size 3 1 v5 ((List.range (k + 1)).filter (mayB rm ban)).length (I64 (toI ((List.range (k + 1)).filter (mayB rm ban))))) := hide (by rw [HQ.out, List.length_append, toI_append, I64_append]; exact hown5)
          clear hown5 hbel5
          go_roundw
          case rel => exact ⟨k + 1, by omega, by go_num, HO5, hl6⟩
          case measure => simp [intOf]; omega
      · have HQ := hide (HLESS.out (by unfold mayB; rw [HRI.out]; simp [h0]))
        go_wp2
        have HO2 : Hid (wr.ownsRow w3.heap.size 3 1 u6 ((List.range (k + 1)).filter (mayB rm ban)).length (I64 (toI ((List.range (k + 1)).filter (mayB rm ban))))) := hide (by rw [HQ.out]; exact HO.out)
        go_roundw
        case rel => exact ⟨k + 1, by omega, by go_num, HO2, hbel⟩
        case measure => simp [intOf]; omega
    · obtain rfl : k = rm.length := by omega
      obtain ⟨L, hL⟩ : ∃ L, L = (List.range rm.length).filter (mayB rm ban) := ⟨_, rfl⟩
      have hLo : orderL rm ban = L.mergeSort (fun x y => !ltR rm y x) := by rw [hL]; rfl
      have hLm : ∀ x ∈ L, x < rm.length := fun x hx => by rw [hL] at hx; exact List.mem_range.1 (List.mem_filter.1 hx).1
      have hLl : L.length ≤ 1000000 := by
        have := List.length_filter_le (mayB rm ban) (List.range rm.length)
        rw [List.length_range, ← hL] at this
        omega
      rw [← hL] at HO
      have hlow : Below w.heap.size w wr := hlw3.trans (hbel.mono hlw3.size)
      have hsort := sort_order rm AR cR w.heap.size B0 w3.heap.size u6 L wr (HR.out.below (hlow.mono hB0)) ((HB3.out.below hbel HB3.out.lt).cell 0) (by omega) (by omega) (by omega) (Nat.le_trans hB0 hlow.size) hLm hLl HO.out
      rw [← hLo] at hsort
      have HSORT := hide hsort
      have hlen : L.length = (orderL rm ban).length := by rw [hLo, List.length_mergeSort]
      have HLEN := hide hlen
      clear hsort hLo hLm hL hlen
      go_wp2_with (go_at_call 40; refine HSORT.out.mono ?_; rintro _ w6 ⟨rfl, hrow6, hg6⟩)
      have hl7 : Below w.heap.size w w6 := hlow.grown hg6 hlow.size (fun g e => by have := (HO.out.lt g e).1; omega)
      rw [HLEN.out] at hrow6
      go_ret
      exact ⟨_, rfl, own_mono hrow6 (by omega), hl7⟩
#print axioms inOrder_any
end Go.Proofs.Ytmaiikmgpeafkaa
