/- What Move of group answers. -/
import Derived.Test.YtmaiikmgpeafkaaGrpK
import Derived.Test.YtmaiikmgpeafkaaGrpA
namespace Go.Proofs.Ytmaiikmgpeafkaa
open Go.RowKit

theorem orderL_rise (rm ban : List Int) : orderL rm (rise ban) = orderL rm ban := order_unique (orderL_sorted _ _) (orderL_sorted _ _) fun x => by
  rw [orderL_mem, orderL_mem, (rise_perm ban).mem_iff]
/-- One room less on a disk. -/
def decR (rm : List Int) (d : Nat) : List Int := rm.set d (roomI rm d - 1)
/-- The first disk in order that leaves the others theirs. -/
noncomputable def moveD (rm : List Int) (g : GrV) (R : List GrV) (lost : Int) : Option Nat := (orderL rm (dks g.ex)).find? (fun d => fitsB (decR rm d) (needyL R lost))
theorem GsIn.drop {w : World} {B n c k : Nat} {A : Option Addr} {L : List GrV} (h : GsIn w B A n c L) (hk : k ≤ n) : GsIn w B (if c = k then A else A.map (·.add (k * 3))) (n - k) (c - k) (L.drop k) := by
  have hr := h.row.cut hk h.le
  refine ⟨?_, by have := h.le; omega, by have := h.cap; omega, fun g hg => h.mem g (List.mem_of_mem_drop hg)⟩
  have e : (grL L).drop (k * 3) = grL (L.drop k) := flat_drop grC_length k L
  rw [← e]
  exact hr
theorem GB.later {w0 w : World} {B0 : Nat} {vG : Value} {Bs : List (List Int)} (h : GB w0 B0 vG Bs) (hb : Below B0 w0 w) (hB : B0 ≤ w.heap.size) : GB w w.heap.size vG Bs := by
  intro i hi
  obtain ⟨g, c, u, hv, hc, hg, hcell, hr, hs⟩ := h i hi
  exact ⟨g, c, u, hv, hc, Nat.lt_of_lt_of_le hg hB, (hb.cell (p := ⟨g, i, none⟩) hg).trans hcell, (hr.below hb).more hB, hs⟩
/-- What Move answers. -/
noncomputable def moveV (rm : List Int) (L : List GrV) (lost : Int) : Value :=
  if 0 ≤ idxI (fun y : GrV => hasB y.ex lost) L ∧ safeB rm L lost = true then
    match L[(idxI (fun y : GrV => hasB y.ex lost) L).toNat]? with
    | none => .tuple #[.int .i64 0, .int .i64 0, .bool false]
    | some g => match moveD rm g (L.drop ((idxI (fun y : GrV => hasB y.ex lost) L).toNat + 1)) lost with
      | none => .tuple #[.int .i64 0, .int .i64 0, .bool false]
      | some d => .tuple #[.int .i64 (idxI (fun y : GrV => hasB y.ex lost) L), .int .i64 (d : Int), .bool true]
  else .tuple #[.int .i64 0, .int .i64 0, .bool false]
theorem idxI_lt {α : Type} {p : α → Bool} {l : List α} : idxI p l < (l.length : Int) := by
  rw [idxI]
  split <;> omega
theorem find_none {α : Type} {p : α → Bool} {l : List α} (h : NoneYet p l l.length) : l.find? p = none := by
  rw [List.find?_eq_none]
  intro x hx
  obtain ⟨i, hi⟩ := List.getElem?_of_mem hx
  rw [h i x (List.getElem?_eq_some_iff.1 hi).1 hi]
  decide
theorem find_some {α : Type} {p : α → Bool} : ∀ {l : List α} {k : Nat} {x : α}, NoneYet p l k → l[k]? = some x → p x = true → l.find? p = some x
  | [], k, x, _, h, _ => by simp at h
  | y :: l, 0, x, _, h, hp => by
    simp at h
    subst h
    simp [hp]
  | y :: l, k + 1, x, hn, h, hp => by
    have h0 := hn 0 y (by omega) rfl
    rw [List.find?_cons, h0]
    exact find_some (k := k) (fun i z hi hz => hn (i + 1) z (by omega) (by simpa using hz)) (by simpa using h) hp
theorem decR_length (rm : List Int) (d : Nat) : (decR rm d).length = rm.length := by simp [decR]
theorem decR_back (rm : List Int) {d : Nat} (hd : d < rm.length) : (decR rm d).set d (roomI rm d) = rm := by
  have h1 : rm[d]? = some (roomI rm d) := by simp [roomI, List.getD, hd]
  rw [decR, List.set_set]
  apply List.ext_getElem?
  intro i
  rw [List.getElem?_set]
  by_cases e : d = i
  · subst e
    rw [if_pos rfl, if_pos hd, h1]
  · rw [if_neg e]
theorem own_blk {w : World} {base g n cap : Nat} {xs : List Value} (h : w.ownsRow base 3 1 (.slice (some ⟨g, 0, none⟩) n cap) n xs) : ∃ cur, Blk w g 3 cur ∧ n ≤ cur.size ∧ base ≤ g := by
  rcases h.2 with ⟨h0, _⟩ | ⟨g', cap', cur', hv, h1, h2, h3, _, h5, _⟩
  · cases h0
  · injection hv with e1 e2 e3
    injection e1 with e1
    injection e1 with e1
    subst e1
    exact ⟨cur', h2, by omega, h1⟩
theorem own_cell {w : World} {base g n cap : Nat} {l : List Int} {i : Nat} {x : Int} (h : w.ownsRow base 3 1 (.slice (some ⟨g, 0, none⟩) n cap) n (I64 l)) (hx : l[i]? = some x) : w.cell? ⟨g, i, none⟩ = some (.int .i64 x) := by
  have h1 := h.cells (g := g) rfl i (.int .i64 x) (by simp [I64, hx])
  have hadd : (⟨g, 0, none⟩ : Addr).add i = ⟨g, i, none⟩ := by unfold Addr.add; split <;> simp_all
  rwa [hadd] at h1
theorem roomI_get {rm : List Int} {d : Nat} (hd : d < rm.length) : rm[d]? = some (roomI rm d) := by simp [roomI, List.getD, hd]
theorem decR_get {rm : List Int} {d : Nat} (hd : d < rm.length) : (decR rm d)[d]? = some (roomI rm d - 1) := by simp [decR, hd]
set_option maxRecDepth 100000 in
set_option maxHeartbeats 2000000 in
theorem move_any (A : Option Addr) (n c : Nat) (L : List GrV) (AR : Option Addr) (cR : Nat) (rm : List Int) (d : Int) (B0 : Nat) (w : World) (hr : GsIn w B0 A n c L) (hrm : Reads w B0 1 AR rm.length (I64 rm)) (hB0 : B0 ≤ w.heap.size) (hn : n ≤ 1000000) (hfew : ∀ g ∈ L, g.n ≤ 1000000) (hrn : rm.length ≤ 1000000) (hrb : ∀ v ∈ rm, -9223372036854775808 ≤ v ∧ v ≤ 9223372036854775807) :
    Calls Try.prog 22 #[.slice A n c, .slice AR rm.length cR, .int .i64 d] w fun e w' => e = .returned (moveV rm L d) ∧ Below w.heap.size w w' := by
  have hmf : ∀ (fn : Fn) (first cap : Array Value) (w : World), (Instr.makeFunc fn first cap).run Try.prog w = .ok (.func fn first cap) w := fun _ _ _ _ => rfl
  have HR := hide hr
  have HRM := hide hrm
  have HFEW := hide hfew
  have HRB := hide hrb
  obtain ⟨p, hp⟩ : ∃ p, p = fun y : GrV => hasB y.ex d := ⟨_, rfl⟩
  have HP := hide hp
  obtain ⟨q, hq⟩ : ∃ q, q = idxI p L := ⟨_, rfl⟩
  have HQ := hide hq
  have hqlt : q < (n : Int) := by rw [hq, ← hr.len]; exact idxI_lt
  have hqge : -1 ≤ q := by rw [hq]; unfold idxI; split <;> omega
  unfold moveV
  rw [← hp, ← hq]
  have HIX : Hid (∀ (W : World) (g : Nat), Below B0 w W → B0 ≤ W.heap.size → g < W.heap.size → W.cell? ⟨g, 0, none⟩ = some (.int .i64 d) → Calls Try.prog 32 #[.slice A n c, .func (.func 33) #[] #[.pointer (some ⟨g, 0, none⟩)]] W fun e w' => e = .returned (.int .i64 q) ∧ Below W.heap.size W w') := hide (fun W g h1 h2 h3 h4 => by
    rw [hq, hp]
    exact indexGr_any A n c L d g B0 W (HR.out.below h1) h2 h3 h4)
  have HSA : Hid (∀ W : World, Below B0 w W → B0 ≤ W.heap.size → Calls Try.prog 16 #[.slice A n c, .slice AR rm.length cR, .int .i64 d] W fun e w' => e = .returned (.bool (safeB rm L d)) ∧ (safeB rm L d = false → ∃ T, Viol rm (needyL L d) T) ∧ Below W.heap.size W w') := hide (fun W h1 h2 => safe_any A n c L AR cR rm d B0 W (HR.out.below h1) (HRM.out.below h1) h2 hn HFEW.out hrn)
  clear hr hrm hfew hrb hp hq
  by_cases h0 : q < 0
  · rw [if_neg (by omega)]
    go_enter Try.func22, Try.ntmps22
    go_wp2_with (first
      | ((with_reducible refine at_slot 5 ?_); refine wpList_box_blk rfl 3 (.tmp 2) rfl (.int .i64 d) rfl ?_; intro w1 hb1q hl1 hs1; have hz1 : w.heap.size < w1.heap.size := (by omega); clear hs1; have hc1 : w1.cell? ⟨w.heap.size, 0, none⟩ = some (.int .i64 d) := hb1q.cell 0)
      | (go_at_call 32; refine (HIX.out w1 w.heap.size (hl1.mono hB0) (Nat.le_trans hB0 hl1.size) hz1 hc1).mono ?_; rintro _ w2 ⟨rfl, hl2⟩))
    go_ret3
    exact ⟨rfl, hl1.trans (hl2.mono hl1.size)⟩
  · obtain ⟨k, rfl⟩ : ∃ k : Nat, q = (k : Int) := ⟨q.toNat, by omega⟩
    have hkn : k < n := by omega
    cases hsf : safeB rm L d with
    | false =>
      have HSF := hide hsf
      rw [if_neg (by rintro ⟨_, h⟩; cases h)]
      clear hsf
      go_enter Try.func22, Try.ntmps22
      go_wp2_with (first
        | ((with_reducible refine at_slot 5 ?_); refine wpList_box_blk rfl 3 (.tmp 2) rfl (.int .i64 d) rfl ?_; intro w1 hb1q hl1 hs1; have hz1 : w.heap.size < w1.heap.size := (by omega); clear hs1; have hc1 : w1.cell? ⟨w.heap.size, 0, none⟩ = some (.int .i64 d) := hb1q.cell 0)
        | (go_at_call 32; refine (HIX.out w1 w.heap.size (hl1.mono hB0) (Nat.le_trans hB0 hl1.size) hz1 hc1).mono ?_; rintro _ w2 ⟨rfl, hl2⟩; have hc2 := (hl2.cell (p := ⟨w.heap.size, 0, none⟩) hz1).trans hc1; have hl12 := hl1.trans (hl2.mono hl1.size))
        | (go_at_call 16; refine (HSA.out w2 (hl12.mono hB0) (Nat.le_trans hB0 hl12.size)).mono ?_; rw [HSF.out]; rintro _ w3 ⟨rfl, _, hl3⟩))
      go_ret3
      exact ⟨rfl, hl12.trans (hl3.mono hl12.size)⟩
    | true =>
      have HSF := hide hsf
      rw [if_pos ⟨by omega, rfl⟩]
      clear hsf
      have hLk : k < L.length := by rw [HR.out.len]; exact hkn
      obtain ⟨g, hg⟩ : ∃ g, L[k]? = some g := ⟨_, List.getElem?_eq_getElem hLk⟩
      rw [Int.toNat_natCast, hg]
      have HG := hide hg
      have hgm := List.mem_of_getElem? hg
      obtain ⟨Bs, hBs⟩ : ∃ Bs, Bs = needyL (L.drop (k + 1)) d := ⟨_, rfl⟩
      obtain ⟨O, hO⟩ : ∃ O, O = orderL rm (dks g.ex) := ⟨_, rfl⟩
      have hOm : ∀ x ∈ O, x < rm.length := fun x hx => by rw [hO, orderL_mem] at hx; exact hx.1
      obtain ⟨F, hF⟩ : ∃ F : Nat → Bool, F = fun e => fitsB (decR rm e) Bs := ⟨_, rfl⟩
      have hmd : moveD rm g (L.drop (k + 1)) d = O.find? F := by rw [moveD, ← hO, hF, hBs]
      show Calls _ _ _ _ fun e w' => e = .returned (match moveD rm g (L.drop (k + 1)) d with
        | none => .tuple #[.int .i64 0, .int .i64 0, .bool false]
        | some x => .tuple #[.int .i64 (k : Int), .int .i64 (x : Int), .bool true]) ∧ Below w.heap.size w w'
      rw [hmd]
      obtain ⟨RV, hRV⟩ : ∃ RV : Value, RV = (match O.find? F with
        | none => .tuple #[.int .i64 0, .int .i64 0, .bool false]
        | some x => .tuple #[.int .i64 (k : Int), .int .i64 (x : Int), .bool true]) := ⟨_, rfl⟩
      rw [← hRV]
      have HRV := hide hRV
      clear hRV
      have hOl : O.length ≤ 1000000 := by
        have h1 := (orderL_perm rm (dks g.ex)).length_eq
        have h2 := List.length_filter_le (mayB rm (dks g.ex)) (List.range rm.length)
        rw [List.length_range] at h2
        rw [hO]
        omega
      obtain ⟨adG, g', rfl, habG, hxG, _, hcsG⟩ := HR.out.at_ hkn
      have hgg : g' = g := by rw [hg] at hxG; injection hxG with h; exact h.symm
      subst hgg
      have HCS := hide hcsG
      have hdr := HR.out.drop (k := k + 1) (by omega)
      obtain ⟨AS, hAS⟩ : ∃ AS, (if c = k + 1 then some adG else some (adG.add ((k + 1) * 3))) = AS := ⟨_, rfl⟩
      change GsIn w B0 (if c = k + 1 then some adG else some (adG.add ((k + 1) * 3))) _ _ _ at hdr
      rw [hAS] at hdr
      have HNE : Hid (∀ W : World, Below B0 w W → B0 ≤ W.heap.size → Calls Try.prog 29 #[.slice AS (n - (k + 1)) (c - (k + 1)), .int .i64 d] W fun e w' => ∃ v, e = .returned v ∧ Nd w' W.heap.size v Bs ∧ Below W.heap.size W w') := hide (fun W h1 h2 => by
        rw [hBs]
        exact needy_any _ _ _ _ d B0 W (hdr.below h1) h2 (by omega) (fun x hx => HFEW.out x (List.mem_of_mem_drop hx)))
      have HBS : Hid (∀ l ∈ Bs, l.Pairwise (· ≤ ·)) := hide (by rw [hBs]; exact needyL_sorted)
      have HBF : Hid (∀ l ∈ Bs, l.length < 4611686018427387904) := hide (by rw [hBs]; exact needyL_few hdr (fun x hx => HFEW.out x (List.mem_of_mem_drop hx)))
      have hbl : Bs.length ≤ 1000000 := by
        rw [hBs]
        refine Nat.le_trans (needyL_length _ _) ?_
        rw [List.length_drop, HR.out.len]
        omega
      have HBL := hide hbl
      have HO := hide hO
      have HOM := hide hOm
      have HOL := hide hOl
      have HF := hide hF
      have hgi := HR.out.mem g' hgm
      have hgn := HFEW.out g' hgm
      have HGI := hide hgi
      have hcn : n ≤ c := HR.out.le
      have hcM : c ≤ 9223372036854775807 := HR.out.cap
      clear hg hBs hO hOm hF hmd hOl hdr hbl hgi hxG hcsG
      go_enter Try.func22, Try.ntmps22
      go_wp2_with (first
        | ((with_reducible refine at_slot 5 ?_); refine wpList_box_blk rfl 3 (.tmp 2) rfl (.int .i64 d) rfl ?_; intro w1 hb1q hl1 hs1; have hz1 : w.heap.size < w1.heap.size := (by omega); clear hs1; have hc1 : w1.cell? ⟨w.heap.size, 0, none⟩ = some (.int .i64 d) := hb1q.cell 0)
        | (go_at_call 32; refine (HIX.out w1 w.heap.size (hl1.mono hB0) (Nat.le_trans hB0 hl1.size) hz1 hc1).mono ?_; rintro _ w2 ⟨rfl, hl2⟩; have hc2 := (hl2.cell (p := ⟨w.heap.size, 0, none⟩) hz1).trans hc1; have hl12 := hl1.trans (hl2.mono hl1.size))
        | (go_at_call 16; refine (HSA.out w2 (hl12.mono hB0) (Nat.le_trans hB0 hl12.size)).mono ?_; rw [HSF.out]; rintro _ w3 ⟨rfl, _, hl3⟩; have hc3 := (hl3.cell (p := ⟨w.heap.size, 0, none⟩) (Nat.lt_of_lt_of_le hz1 hl2.size)).trans hc2; have hl13 := hl12.trans (hl3.mono hl12.size)))
      obtain ⟨wx, hwx⟩ : ∃ wx, wx = w3.drew := ⟨_, rfl⟩
      have hc4 : wx.cell? ⟨w.heap.size, 0, none⟩ = some (.int .i64 d) := by rw [hwx]; exact hc3
      have hl14 : Below w.heap.size w wx := by rw [hwx]; exact hl13.drew
      have hk1 : IntKind.i64.wrap ((k : Int) + 1) = (k : Int) + 1 := IntWalk.i64_in _ (by omega)
      have hk2 : ((k : Int) + 1).toNat = k + 1 := by omega
      have hk3 : (k : Int) + 1 ≤ (n : Int) := by omega
      have hk4 : (0 : Int) ≤ (k : Int) + 1 := by omega
      refine wp_region_still_tail 5 (by kernel_rfl) (by kernel_rfl) ?_
      change wpStill _ _ w3.drew _ _ _
      rw [← hwx]
      simp only [List.take_succ_cons, List.take_zero, List.drop_succ_cons, List.drop_zero]
      iterate 5 still_step
      refine wpStill_nil ?_
      change wpList _ _ _ _ _ w3.drew
      rw [← hwx]
      clear hwx hc3 hl13
      clear hk1 hk2 hk3 hk4
      go_wp2_with (first
        | (go_at_call 29; refine (HNE.out wx (hl14.mono hB0) (Nat.le_trans hB0 hl14.size)).mono ?_; rintro _ w5 ⟨vN, rfl, hnd, hl5⟩; have hl15 : Below w.heap.size w w5 := hl14.trans (hl5.mono hl14.size); obtain ⟨AN, cN, rfl, _, _⟩ := hnd.shape)
        | (go_at_call 35; refine (clone_any AR rm.length cR rm B0 w5 (HRM.out.below (hl15.mono hB0)) (Nat.le_trans hB0 hl15.size) hrn).mono ?_; rintro _ w6 ⟨vL, rfl, hrowL, hl6⟩; obtain ⟨AL, cL, rfl, _, _⟩ := own_shape hrowL; have hl16 : Below w.heap.size w w6 := hl15.trans (hl6.mono hl15.size); have HCS6 : Hid (∀ (j : Nat) (v : Value), (grC g')[j]? = some v → w6.cell? ((adG.add (k * 3)).add j) = some v) := hide (fun j v hj => ((hl16.mono hB0).cell (p := (adG.add (k * 3)).add j) (by rw [block_of_add, block_of_add]; exact habG)).trans (HCS.out j v hj)))
        | ((with_reducible refine at_slot 38 ?_); refine wpList_load_at rfl 36 (.tmp 37) rfl (adG.add (k * 3)) rfl (grC g') _ HCS6.out Try.underlying36 rfl grp_info ?_)
        | (go_at_call 36; refine (disksOf_any g' B0 w6 (HGI.out.below (hl16.mono hB0)) (Nat.le_trans hB0 hl16.size) hgn).mono ?_; rintro _ w7 ⟨vD, rfl, hrowD, hl7⟩; have hl17 : Below w.heap.size w w7 := hl16.trans (hl7.mono hl16.size); obtain ⟨AD, cD, rfl, _, _⟩ := own_shape hrowD; have HRD := hide (Reads.of_own hrowD))
        | (go_at_call 26; refine (inOrder_any AR cR rm AD g'.n cD (rise (dks g'.ex)) w7.heap.size w7 ((HRM.out.below (hl17.mono hB0)).more (Nat.le_trans hB0 hl17.size)) HRD.out (Nat.le_refl _) hrn (by simp only [maxLen]; omega) (by omega)).mono ?_; rw [orderL_rise, ← HO.out]; rintro _ w8 ⟨vO, rfl, hrowO, hl8⟩; obtain ⟨AO, cO, rfl, _, _⟩ := own_shape hrowO))
      have hl18 : Below w.heap.size w w8 := hl17.trans (hl8.mono hl17.size)
      have HGB := hide (hnd.gb HBS.out)
      have hl56 : Below w5.heap.size w5 w8 := hl6.trans ((hl7.trans (hl8.mono hl7.size)).mono hl6.size)
      have hz67 := hl7.size
      have hz56 := hl6.size
      have hz78 := hl8.size
      have HL5 := hide hl15
      have HLB : Hid (∀ b, (Value.slice AL rm.length cL).ownBlock = some b → w5.heap.size ≤ b ∧ b < w7.heap.size) := hide (fun b hb => ⟨(hrowL.lt b hb).1, Nat.lt_of_lt_of_le (hrowL.lt b hb).2 hz67⟩)
      have HLO : Hid (w8.ownsRow w5.heap.size 3 1 (.slice AL rm.length cL) rm.length (I64 rm)) := hide (own_later hrowL (hl7.trans (hl8.mono hz67)))
      have HOO : Hid (w8.ownsRow w7.heap.size 3 1 (.slice AO O.length cO) O.length (I64 (toI O))) := hide hrowO
      have HBE := hide hl56
      have hroom : ∀ x ∈ O, 0 < roomI rm x := fun x hx => by rw [HO.out, orderL_mem] at hx; exact hx.2.1
      have HROOM := hide hroom
      clear hnd hrowL hrowO hrowD HRD hl6 hl7 hl8 hl12 hl14 hl15 hl16 hl17 hl18 hl1 hl2 hl3 hl5 hl56 hc1 hc2 hc4 HCS6 hroom habG
      go_loopw [42] (fun i wr => ∃ j : Nat, j ≤ O.length ∧ i = .int .i64 j ∧ Hid (NoneYet F O j) ∧ Hid (wr.ownsRow w5.heap.size 3 1 (.slice AL rm.length cL) rm.length (I64 rm)) ∧ Hid (wr.ownsRow w7.heap.size 3 1 (.slice AO O.length cO) O.length (I64 (toI O))) ∧ Hid (Below w5.heap.size w5 wr) ∧ w8.heap.size ≤ wr.heap.size) (fun i _ => O.length - (intOf i).toNat)
      case atStart => exact ⟨0, Nat.zero_le _, rfl, hide NoneYet.zero, HLO, HOO, HBE, Nat.le_refl _⟩
      case round =>
        clear HLO HOO HBE
        obtain ⟨j, hj, rfl, HNY, HLO, HOO, HBE, hzr⟩ := hrel
        by_cases hjn : j < O.length
        · obtain ⟨x, hx⟩ : ∃ x, O[j]? = some x := ⟨_, List.getElem?_eq_getElem hjn⟩
          have hol := HOL.out
          have hxm := List.mem_of_getElem? hx
          have hxr := HOM.out x hxm
          obtain ⟨gO, cO', hvO, _, _⟩ := HOO.out.form (by omega)
          injection hvO with eO _ eO3
          subst eO eO3
          obtain ⟨gL, cL', hvL, _, _⟩ := HLO.out.form (by omega)
          injection hvL with eL _ eL3
          subst eL eL3
          have hcO := own_cell HOO.out (i := j) (x := (x : Int)) (by simp [toI, hx])
          obtain ⟨v, hv⟩ : ∃ v, v = roomI rm x := ⟨_, rfl⟩
          have hcL := own_cell HLO.out (i := x) (x := v) (by rw [hv]; exact roomI_get hxr)
          have hv0 : 0 < v := by rw [hv]; exact HROOM.out x hxm
          have hv1 : v ≤ 9223372036854775807 := by
            rw [hv]
            exact (HRB.out _ (List.mem_of_getElem? (roomI_get hxr))).2
          obtain ⟨cur, hcur, hcs, hgb⟩ := own_blk HLO.out
          have hlb := HLB.out gL rfl
          have HCUR := hide hcur
          have HX := hide hx
          have HV := hide hv
          have hxs : x < cur.size := by omega
          have HXS := hide hxs
          have hFx : ∀ W, Below w5.heap.size w5 W → w5.heap.size ≤ W.heap.size → W.ownsRow w5.heap.size 3 1 (.slice (some ⟨gL, 0, none⟩) rm.length cL) rm.length (I64 (decR rm x)) → Calls Try.prog 28 #[.slice AN Bs.length cN, .slice (some ⟨gL, 0, none⟩) rm.length cL] W fun e w' => e = .returned (.bool (F x)) ∧ Below W.heap.size W w' := by
            intro W h1 h2 h3
            have h4 := eachFinds_any AN cN (some ⟨gL, 0, none⟩) cL (decR rm x) Bs W (by rw [decR_length]; exact Reads.of_own h3) (by rw [decR_length]; exact hrn) HBL.out (HGB.out.later h1 h2) HBF.out
            rw [decR_length] at h4
            have e : F x = fitsB (decR rm x) Bs := by rw [HF.out]
            rw [e]
            exact h4.mono fun _ _ ⟨k1, _, k2⟩ => ⟨k1, k2⟩
          have HFX := hide hFx
          clear hcur hx hv hcs hxs hFx
          cases hq : F x with
          | true =>
            have HRES := hide (find_some HNY.out HX.out hq)
            have hF2 := HFX.out
            rw [hq] at hF2
            have HF2 := hide hF2
            clear hF2 hq
            go_wp2_with (first
              | ((with_reducible refine at_store 51 ?_); refine wpList_poke rfl 3 (.tmp 51) (.tmp 50) rfl gL x 3 cur HCUR.out rfl (.int .i64 (v - 1)) rfl rfl (by kernel_rfl) HXS.out ?_; intro w9 hb9 hg9 hs9; have hz9 : wr.heap.size ≤ w9.heap.size := (by omega); clear hs9; have hown9 : w9.ownsRow w5.heap.size 3 1 (.slice (some ⟨gL, 0, none⟩) rm.length cL) rm.length (I64 (decR rm x)) := (by have h := own_poke HLO.out HCUR.out hb9; rw [HV.out] at h; exact h); have hl9 : Below w5.heap.size w5 w9 := HBE.out.grown hg9 HBE.out.size (fun g e => (by injection e with e; omega)); have HOWN9 := hide hown9; have HL9 := hide hl9; clear hown9 hl9 hb9)
              | (go_at_call 28; refine (HF2.out w9 HL9.out (Nat.le_trans HBE.out.size hz9) HOWN9.out).mono ?_; rintro _ w10 ⟨rfl, hl10⟩))
            go_ret3
            exact ⟨by rw [HRV.out, HRES.out]; rfl, HL5.out.trans ((HL9.out.trans (hl10.mono HL9.out.size)).mono HL5.out.size)⟩
          | false =>
            have HNY2 := hide (HNY.out.succ HX.out hq)
            have hF2 := HFX.out
            rw [hq] at hF2
            have HF2 := hide hF2
            clear hF2 hq
            have hcs2 : x < (cur.setIfInBounds x (.int .i64 (v - 1))).size := by have := HXS.out; simpa using this
            have HXS2 := hide hcs2
            clear hcs2
            go_wp2_with (first
              | ((with_reducible refine at_store 51 ?_); refine wpList_poke rfl 3 (.tmp 51) (.tmp 50) rfl gL x 3 cur HCUR.out rfl (.int .i64 (v - 1)) rfl rfl (by kernel_rfl) HXS.out ?_; intro w9 hb9 hg9 hs9; have hz9 : wr.heap.size ≤ w9.heap.size := (by omega); clear hs9; have hown9 : w9.ownsRow w5.heap.size 3 1 (.slice (some ⟨gL, 0, none⟩) rm.length cL) rm.length (I64 (decR rm x)) := (by have h := own_poke HLO.out HCUR.out hb9; rw [HV.out] at h; exact h); have hl9 : Below w5.heap.size w5 w9 := HBE.out.grown hg9 HBE.out.size (fun g e => (by injection e with e; omega)); have HOWN9 := hide hown9; have HL9 := hide hl9; have HB9 := hide hb9; have hOO9 : w9.ownsRow w7.heap.size 3 1 (.slice (some ⟨gO, 0, none⟩) O.length cO) O.length (I64 (toI O)) := HOO.out.kept hg9 (.inr (fun e => (by have h1 := (HOO.out.lt gO rfl).1; simp [Value.ownBlock] at e; omega))); have HO9 := hide hOO9; clear hown9 hl9 hb9 hOO9)
              | (go_at_call 28; refine (HF2.out w9 HL9.out (Nat.le_trans HBE.out.size hz9) HOWN9.out).mono ?_; rintro _ w10 ⟨rfl, hl10⟩; have hown10 := own_later HOWN9.out hl10; have HOWN10 := hide hown10; have hc10 := own_cell hown10 (i := x) (x := v - 1) (by rw [HV.out]; exact decR_get hxr); have HB10 := hide (HB9.out.below hl10 HB9.out.lt); have HO10 := hide (own_later HO9.out hl10); have HL10 := hide (HL9.out.trans (hl10.mono HL9.out.size)); have hz10 := hl10.size; clear hown10)
              | ((with_reducible refine at_store 62 ?_); refine wpList_poke rfl 3 (.tmp 62) (.tmp 61) rfl gL x 3 _ HB10.out rfl (.int .i64 v) rfl rfl (by kernel_rfl) HXS2.out ?_; intro w11 hb11 hg11 hs11; have hz11 : w10.heap.size ≤ w11.heap.size := (by omega); clear hs11; have HB11 := hide hb11; clear hb11))
            have HLO2 : Hid (w11.ownsRow w5.heap.size 3 1 (.slice (some ⟨gL, 0, none⟩) rm.length cL) rm.length (I64 rm)) := hide (by
              have h := own_poke HOWN10.out HB10.out HB11.out
              rw [HV.out, decR_back rm hxr] at h
              exact h)
            have HOO2 : Hid (w11.ownsRow w7.heap.size 3 1 (.slice (some ⟨gO, 0, none⟩) O.length cO) O.length (I64 (toI O))) := hide (HO10.out.kept hg11 (.inr (fun e => by have h1 := (HO10.out.lt gO rfl).1; simp [Value.ownBlock] at e; omega)))
            have HBE2 : Hid (Below w5.heap.size w5 w11) := hide (HL10.out.grown hg11 HL10.out.size (fun g e => by injection e with e; omega))
            go_roundw
            case rel => exact ⟨j + 1, by omega, by go_num, HNY2, HLO2, HOO2, HBE2, by omega⟩
            case measure => simp [intOf]; omega
        · obtain rfl : j = O.length := by omega
          have HRES := hide (find_none HNY.out)
          go_wp2
          go_ret3
          exact ⟨by rw [HRV.out, HRES.out]; rfl, HL5.out.trans (HBE.out.mono HL5.out.size)⟩
#print axioms move_any
end Go.Proofs.Ytmaiikmgpeafkaa
