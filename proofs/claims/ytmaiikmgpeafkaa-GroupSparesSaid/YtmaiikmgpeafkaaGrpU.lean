/- What Spare of group answers: the most extents that one disk has. -/
import Derived.Test.YtmaiikmgpeafkaaGrpM
import Derived.Test.YtmaiikmgpeafkaaTwoRows
namespace Go.Proofs.Ytmaiikmgpeafkaa
open Go.RowKit

/-- The disks of all extents; those below n. -/
def allD (L : List GrV) : List Int := L.flatMap (fun g => dks g.ex)
def inD (n : Int) (l : List Int) : List Int := l.filter (fun d => decide (0 ≤ d) && decide (d < n))
theorem inD_append (n : Int) (a b : List Int) : inD n (a ++ b) = inD n a ++ inD n b := by simp [inD]
theorem inD_ge {n : Int} {l : List Int} : ∀ d ∈ inD n l, 0 ≤ d := by
  intro d hd
  have := (List.mem_filter.1 hd).2
  simp at this
  exact this.1
theorem inD_yes {n d : Int} (h0 : 0 ≤ d) (h1 : d < n) : inD n [d] = [d] := by simp [inD, h0, h1]
theorem inD_no {n d : Int} (h : d < 0 ∨ n ≤ d) : inD n [d] = [] := by
  have : ¬ (0 ≤ d ∧ d < n) := by omega
  simp only [inD, List.filter_cons, List.filter_nil]
  by_cases h0 : 0 ≤ d
  · have h1 : ¬ d < n := by omega
    simp [h1]
  · simp [h0]
/-- m is the greatest number of times that one stands in a list. -/
def IsMx (P : List Int) (m : Nat) : Prop := (∀ d, P.count d ≤ m) ∧ (m = 0 ∨ ∃ d, P.count d = m)
theorem IsMx.unique {P : List Int} {a b : Nat} (h : IsMx P a) (k : IsMx P b) : a = b := by
  have h1 : a ≤ b := by
    rcases h.2 with h2 | ⟨d, h2⟩
    · omega
    · rw [← h2]; exact k.1 d
  have h3 : b ≤ a := by
    rcases k.2 with h2 | ⟨d, h2⟩
    · omega
    · rw [← h2]; exact h.1 d
  omega
theorem IsMx.nil : IsMx [] 0 := ⟨fun _ => Nat.le_refl _, .inl rfl⟩
theorem IsMx.more {P : List Int} {m : Nat} (h : IsMx P m) (d : Int) {m' : Nat} (hm : (m ≤ P.count d + 1 ∧ m' = P.count d + 1) ∨ (P.count d + 1 ≤ m ∧ m' = m)) : IsMx (P ++ [d]) m' := by
  have hc : ∀ e, (P ++ [d]).count e = P.count e + if e = d then 1 else 0 := by
    intro e
    rw [List.count_append, List.count_singleton]
    by_cases h1 : e = d
    · subst h1; simp
    · have : ¬ d = e := fun h => h1 h.symm
      simp [h1, this]
  refine ⟨fun e => ?_, ?_⟩
  · rw [hc]
    have := h.1 e
    by_cases h1 : e = d
    · subst h1; rw [if_pos rfl]; omega
    · rw [if_neg h1]; omega
  · rcases hm with ⟨h1, h2⟩ | ⟨h1, h2⟩
    · exact .inr ⟨d, by rw [hc, if_pos rfl, h2]⟩
    · rcases h.2 with h3 | ⟨e, h3⟩
      · omega
      · by_cases h4 : e = d
        · subst h4; omega
        · exact .inr ⟨e, by rw [hc, if_neg h4, h2]; omega⟩
def uniq : List Nat → List Nat
  | [] => []
  | x :: l => if x ∈ uniq l then uniq l else x :: uniq l
theorem uniq_mem (x : Nat) : ∀ l : List Nat, x ∈ uniq l ↔ x ∈ l
  | [] => Iff.rfl
  | y :: l => by
    rw [uniq]
    by_cases h : y ∈ uniq l
    · rw [if_pos h, uniq_mem x l, List.mem_cons]
      constructor
      · exact .inr
      · rintro (rfl | h2)
        · exact (uniq_mem x l).1 h
        · exact h2
    · rw [if_neg h, List.mem_cons, List.mem_cons, uniq_mem x l]
theorem uniq_nodup : ∀ l : List Nat, (uniq l).Nodup
  | [] => List.nodup_nil
  | y :: l => by
    rw [uniq]
    by_cases h : y ∈ uniq l
    · rw [if_pos h]; exact uniq_nodup l
    · rw [if_neg h]; exact List.nodup_cons.2 ⟨h, uniq_nodup l⟩
theorem uniq_length : ∀ l : List Nat, (uniq l).length ≤ l.length
  | [] => Nat.le_refl _
  | y :: l => by
    rw [uniq]
    have := uniq_length l
    split
    · rw [List.length_cons]; omega
    · rw [List.length_cons, List.length_cons]; omega
/-- The map of how often each stands there. -/
def cf (P : List Int) : Nat → Option Value := fun k => if P.count (k : Int) = 0 then none else some (.int .i64 (P.count (k : Int) : Int))
theorem cf_look (P : List Int) (k : Nat) : cf P k = some (.int .i64 (P.count (k : Int) : Int)) ∨ (cf P k = none ∧ Value.int .i64 0 = .int .i64 (P.count (k : Int) : Int)) := by
  unfold cf
  by_cases h : P.count (k : Int) = 0
  · right
    rw [if_pos h, h]
    exact ⟨rfl, rfl⟩
  · left
    rw [if_neg h]
theorem cf_more (P : List Int) (k : Nat) : upd (cf P) k (some (.int .i64 ((P.count (k : Int) : Int) + 1))) = cf (P ++ [(k : Int)]) := by
  funext j
  by_cases h : j = k
  · subst h
    rw [upd_self, cf, List.count_append, List.count_singleton]
    simp
  · rw [upd_ne _ _ h, cf, cf, List.count_append, List.count_singleton]
    have : ¬ (k : Int) = (j : Int) := by omega
    simp [this]
theorem cf_mem {P : List Int} (h : ∀ d ∈ P, 0 ≤ d) (k : Nat) : k ∈ uniq (P.map Int.toNat) ↔ (cf P k).isSome = true := by
  rw [uniq_mem, List.mem_map, cf]
  by_cases hc : P.count (k : Int) = 0
  · rw [if_pos hc]
    have hn : (k : Int) ∉ P := fun hm => by have := List.count_pos_iff.2 hm; omega
    constructor
    · rintro ⟨d, hd, rfl⟩
      have := h d hd
      rw [show ((d.toNat : Nat) : Int) = d by omega] at hn
      exact absurd hd hn
    · intro h2; cases h2
  · rw [if_neg hc]
    exact ⟨fun _ => rfl, fun _ => ⟨(k : Int), List.count_pos_iff.1 (by omega), by simp⟩⟩
theorem grow_take {α β : Type} {f : α → List β} {L : List α} {k : Nat} {x : α} (h : L[k]? = some x) : (L.take (k + 1)).flatMap f = (L.take k).flatMap f ++ f x := by
  rw [take_more h]; simp
theorem dks_take {l : List Ex} {j : Nat} {x : Ex} (h : l[j]? = some x) : dks (l.take (j + 1)) = dks (l.take j) ++ [x.1] := by
  rw [take_more h]; simp [dks]
theorem len_take_flat (L : List GrV) (k : Nat) : (allD (L.take k)).length ≤ (allD L).length := by
  have e : allD L = allD (L.take k) ++ allD (L.drop k) := by
    unfold allD
    rw [← List.flatMap_append, List.take_append_drop]
  rw [e, List.length_append]
  omega
theorem inD_length (n : Int) (l : List Int) : (inD n l).length ≤ l.length := List.length_filter_le _ _
/-- What was gone through: k groups, and j extents of the next one. -/
def seenD (n : Int) (L : List GrV) (g : GrV) (k j : Nat) : List Int := inD n (allD (L.take k)) ++ inD n (dks (g.ex.take j))
theorem seenD_zero (n : Int) (L : List GrV) (g : GrV) (k : Nat) : seenD n L g k 0 = inD n (allD (L.take k)) := by simp [seenD, dks, inD]
theorem seenD_end {n : Int} {L : List GrV} {g : GrV} {k : Nat} (h : L[k]? = some g) : seenD n L g k g.ex.length = inD n (allD (L.take (k + 1))) := by
  unfold seenD allD
  rw [grow_take h, inD_append, List.take_length]
theorem seenD_yes {n : Int} {L : List GrV} {g : GrV} {k j : Nat} {x : Ex} (h : g.ex[j]? = some x) (h0 : 0 ≤ x.1) (h1 : x.1 < n) : seenD n L g k (j + 1) = seenD n L g k j ++ [x.1] := by
  unfold seenD
  rw [dks_take h, inD_append, inD_yes h0 h1, List.append_assoc]
theorem seenD_no {n : Int} {L : List GrV} {g : GrV} {k j : Nat} {x : Ex} (h : g.ex[j]? = some x) (h0 : x.1 < 0 ∨ n ≤ x.1) : seenD n L g k (j + 1) = seenD n L g k j := by
  unfold seenD
  rw [dks_take h, inD_append, inD_no h0, List.append_nil]
theorem seenD_ge {n : Int} {L : List GrV} {g : GrV} {k j : Nat} : ∀ d ∈ seenD n L g k j, 0 ≤ d := by
  intro d hd
  rcases List.mem_append.1 hd with h | h
  · exact inD_ge d h
  · exact inD_ge d h
theorem seenD_len {n : Int} {L : List GrV} {g : GrV} {k j : Nat} (h : L[k]? = some g) : (seenD n L g k j).length ≤ (allD L).length := by
  have h1 := inD_length n (allD (L.take k))
  have h2 := inD_length n (dks (g.ex.take j))
  have h3 : (dks (g.ex.take j)).length ≤ (dks g.ex).length := by simp [dks]; omega
  have h4 := len_take_flat L (k + 1)
  have h5 : (allD (L.take (k + 1))).length = (allD (L.take k)).length + (dks g.ex).length := by
    unfold allD
    rw [grow_take h, List.length_append]
  unfold seenD
  rw [List.length_append]
  omega
theorem count_le_len (P : List Int) (d : Int) : P.count d ≤ P.length := List.count_le_length
theorem wpList_makeMap2 {ops : Array Oper} {rest : List Oper} {o : Oper} {a : Act} {w : World} {Q : Exit → Act → World → Prop} (hgd : o.guard = none) (t : TypeId) (ho : o.op = .makeMap t none)
    (hK : ∀ w', MapIs w' w.heap.size (fun _ => none) → Below w.heap.size w w' → w.heap.size < w'.heap.size → wpList Try.prog ops Q rest (a.put o.dst (.map (some w.heap.size))) w') : wpList Try.prog ops Q (o :: rest) a w :=
  wpList_plain hgd fun _ hK' => by
    have hmm := @run_makeMap Try.prog
    unfold Oper.wp
    simp [execOp, ho, hmm, Result.andThen]
    exact hK' _ _ (hK _ (MapIs.new w) ((Below.refl _ _).alloc (Nat.le_refl _) _) (by rw [World.size_alloc]; omega))
set_option maxRecDepth 100000 in
set_option maxHeartbeats 2000000 in
theorem spare_any (A : Option Addr) (n c : Nat) (L : List GrV) (ds : Int) (B0 : Nat) (w : World) (hr : GsIn w B0 A n c L) (hB0 : B0 ≤ w.heap.size) (hn : n ≤ 1000000) (hfew : ∀ g ∈ L, g.n ≤ 1000000) (hall : (allD L).length ≤ 1000000) (hds : ds ≤ 9223372036854775807) :
    Calls Try.prog 20 #[.slice A n c, .int .i64 ds] w fun e w' => ∃ m : Nat, e = .returned (.int .i64 (m : Int)) ∧ IsMx (inD ds (allD L)) m ∧ Below w.heap.size w w' := by
  have HR := hide hr
  have HL := hide hr.len
  have HF := hide hfew
  clear hr hfew
  go_enter Try.func20, Try.ntmps20
  go_wp2_with (first
    | ((with_reducible refine at_slot 11 ?_); refine wpList_makeMap2 rfl 54 rfl ?_; intro w1 hm1 hl1 hz1))
  have HM1 := hide hm1
  have HL1 := hide hl1
  clear hm1 hl1
  go_loopw [5, 14] (fun s5 i wr => ∃ k m : Nat, k ≤ n ∧ i = .int .i64 k ∧ s5 = .int .i64 m ∧ Hid (IsMx (inD ds (allD (L.take k))) m) ∧ Hid (MapIs wr w.heap.size (cf (inD ds (allD (L.take k))))) ∧ Hid (Below w.heap.size w wr)) (fun _ i _ => n - (intOf i).toNat)
  case atStart => exact ⟨0, 0, Nat.zero_le _, rfl, rfl, hide IsMx.nil, HM1, HL1⟩
  case round =>
    obtain ⟨k, m, hk, rfl, rfl, HX, HM, HB⟩ := hrel
    by_cases hkn : k < n
    · obtain ⟨ad, g, rfl, hab, hx, hgi, hcs⟩ := (HR.out.below (HB.out.mono hB0)).at_ hkn
      have HS := hide hcs
      have HG := hide hx
      have HGI := hide hgi
      have hgn := HF.out g (List.mem_of_getElem? hx)
      have hgl := ExIn.len hgi
      have HGL := hide hgl
      have hzr := HB.out.size
      have HX0 : Hid (IsMx (seenD ds L g k 0) m) := hide (by rw [seenD_zero]; exact HX.out)
      have hmb := HM.out.lt
      clear hcs hx hgi hgl hab
      go_wp2_with (first
        | ((with_reducible refine at_slot 17 ?_); refine wpList_load_at rfl 36 (.tmp 16) rfl (ad.add (k * 3)) rfl (grC g) _ HS.out Try.underlying36 rfl grp_info ?_)
        | ((with_reducible refine at_slot 8 ?_); refine wpList_alloc_blk rfl 36 rfl _ (grp_zero _) ?_; intro w2 hb2 hl2 hs2; clear hs2)
        | ((with_reducible refine at_store 8 ?_); refine wpList_store_all rfl 36 (.tmp 8) (.tmp 17) rfl wr.heap.size 36 _ hb2 rfl (grC g) rfl grp_info rfl (grC_one _) ?_; intro w3 hb3 hg3 hs3; clear hs3; have hl3 : Below wr.heap.size wr w3 := hl2.grown hg3 hl2.size (fun g e => (by injection e with e; omega)); have x2 : w3.cell? ⟨wr.heap.size, 2, none⟩ = some (.slice g.A g.n g.c) := hb3.cell 2))
      have HM3 : Hid (MapIs w3 w.heap.size (cf (seenD ds L g k 0))) := hide (by rw [seenD_zero]; exact HM.out.below hl3 hmb)
      have HB3 : Hid (Below w.heap.size w w3) := hide (HB.out.trans (hl3.mono hzr))
      clear x2 hb3 hb2 hl2 hg3 hl3
      go_loopw [5, 21] (fun s5 i w4 => ∃ j m : Nat, j ≤ g.n ∧ i = .int .i64 j ∧ s5 = .int .i64 m ∧ Hid (IsMx (seenD ds L g k j) m) ∧ Hid (MapIs w4 w.heap.size (cf (seenD ds L g k j))) ∧ Hid (Below w.heap.size w w4)) (fun _ i _ => g.n - (intOf i).toNat)
      case atStart => exact ⟨0, m, Nat.zero_le _, rfl, rfl, HX0, HM3, HB3⟩
      case round =>
        clear HX0 HM3 HB3 HX HM
        obtain ⟨j, m, hj, rfl, rfl, HX, HM, HB4⟩ := hrel
        by_cases hjn : j < g.n
        · obtain ⟨ae, x, hA, hae, hx, hce⟩ := ExIn.at_ (HR.out.mem g (List.mem_of_getElem? HG.out) |>.below (HB4.out.mono hB0)) hjn
          have HXE := hide hx
          have HCE := hide hce
          have hzr4 := HB4.out.size
          have hmb4 := HM.out.lt
          obtain ⟨d, hd⟩ : ∃ d, d = x.1 := ⟨_, rfl⟩
          have HD := hide hd
          rw [hA]
          clear hx hce hae hd
          by_cases h0 : d < 0
          · have _tok := True.intro
            have HN := hide (seenD_no (n := ds) (L := L) (k := k) HXE.out (by rw [← HD.out]; exact .inl h0))
            go_wp2_with (first
              | ((with_reducible refine at_slot 24 ?_); refine wpList_load_at rfl 38 (.tmp 23) rfl (ae.add (j * 2)) rfl (exC x) _ HCE.out Try.underlying38 rfl ext_info ?_)
              | ((with_reducible refine at_slot 10 ?_); refine wpList_alloc_blk rfl 38 rfl _ (ext_zero _) ?_; intro w5 hb5 hl5 hs5; clear hs5)
              | ((with_reducible refine at_store 10 ?_); refine wpList_store_all rfl 38 (.tmp 10) (.tmp 24) rfl wr.heap.size 38 _ hb5 rfl (exC x) rfl ext_info rfl (exC_one _) ?_; intro w6 hb6 hg6 hs6; clear hs6; have hl6 : Below wr.heap.size wr w6 := hl5.grown hg6 hl5.size (fun g e => (by injection e with e; omega)); have x0 : w6.cell? ⟨wr.heap.size, 0, none⟩ = some (.int .i64 d) := (by rw [HD.out]; exact hb6.cell 0); have hlt6 := hb6.lt; have hm6 := HM.out.below hl6 hmb4; have HM6 := hide hm6; clear hm6))
            have HX2 : Hid (IsMx (seenD ds L g k (j + 1)) m) := hide (by rw [HN.out]; exact HX.out)
            have HM2 : Hid (MapIs w6 w.heap.size (cf (seenD ds L g k (j + 1)))) := hide (by rw [HN.out]; exact HM6.out)
            have HB2 : Hid (Below w.heap.size w w6) := hide (HB4.out.trans (hl6.mono hzr4))
            clear x0 hb6 hb5 hl5 hg6 hl6
            go_roundw
            case rel => exact ⟨j + 1, m, by omega, by go_num, rfl, HX2, HM2, HB2⟩
            case measure => simp [intOf]; omega
          · by_cases h1 : ds ≤ d
            · have _tok := True.intro
              have HN := hide (seenD_no (n := ds) (L := L) (k := k) HXE.out (by rw [← HD.out]; exact .inr h1))
              go_wp2_with (first
                | ((with_reducible refine at_slot 24 ?_); refine wpList_load_at rfl 38 (.tmp 23) rfl (ae.add (j * 2)) rfl (exC x) _ HCE.out Try.underlying38 rfl ext_info ?_)
                | ((with_reducible refine at_slot 10 ?_); refine wpList_alloc_blk rfl 38 rfl _ (ext_zero _) ?_; intro w5 hb5 hl5 hs5; clear hs5)
                | ((with_reducible refine at_store 10 ?_); refine wpList_store_all rfl 38 (.tmp 10) (.tmp 24) rfl wr.heap.size 38 _ hb5 rfl (exC x) rfl ext_info rfl (exC_one _) ?_; intro w6 hb6 hg6 hs6; clear hs6; have hl6 : Below wr.heap.size wr w6 := hl5.grown hg6 hl5.size (fun g e => (by injection e with e; omega)); have x0 : w6.cell? ⟨wr.heap.size, 0, none⟩ = some (.int .i64 d) := (by rw [HD.out]; exact hb6.cell 0); have hlt6 := hb6.lt; have hm6 := HM.out.below hl6 hmb4; have HM6 := hide hm6; clear hm6))
              have HX2 : Hid (IsMx (seenD ds L g k (j + 1)) m) := hide (by rw [HN.out]; exact HX.out)
              have HM2 : Hid (MapIs w6 w.heap.size (cf (seenD ds L g k (j + 1)))) := hide (by rw [HN.out]; exact HM6.out)
              have HB2 : Hid (Below w.heap.size w w6) := hide (HB4.out.trans (hl6.mono hzr4))
              clear x0 hb6 hb5 hl5 hg6 hl6
              go_roundw
              case rel => exact ⟨j + 1, m, by omega, by go_num, rfl, HX2, HM2, HB2⟩
              case measure => simp [intOf]; omega
            · have _tok := True.intro
              obtain ⟨e, rfl⟩ : ∃ e : Nat, d = (e : Int) := ⟨d.toNat, by omega⟩
              have HN := hide (seenD_yes (n := ds) (L := L) (k := k) HXE.out (by rw [← HD.out]; omega) (by rw [← HD.out]; omega))
              obtain ⟨P, hP⟩ : ∃ P, P = seenD ds L g k j := ⟨_, rfl⟩
              obtain ⟨P2, hP2⟩ : ∃ P2, P2 = seenD ds L g k (j + 1) := ⟨_, rfl⟩
              have hPP : P2 = P ++ [(e : Int)] := by rw [hP2, HN.out, hP, ← HD.out]
              have hPl : P.length ≤ 1000000 := by rw [hP]; exact Nat.le_trans (seenD_len HG.out) hall
              have hPg : ∀ d ∈ P, 0 ≤ d := by rw [hP]; exact seenD_ge
              rw [← hP] at HX HM
              obtain ⟨C, hC⟩ : ∃ C, C = P.count (e : Int) := ⟨_, rfl⟩
              have hCl : C ≤ 1000000 := by rw [hC]; exact Nat.le_trans (count_le_len _ _) hPl
              have hC2 : P2.count (e : Int) = C + 1 := by rw [hPP, List.count_append, ← hC]; simp
              have hf := cf_look P e
              rw [← hC] at hf
              have hf2 := cf_look P2 e
              rw [hC2] at hf2
              have he63 : e < 9223372036854775808 := by omega
              have hmm : m ≤ 1000000 := by
                rcases HX.out.2 with h | ⟨d, h⟩
                · omega
                · rw [← h]; exact Nat.le_trans (count_le_len _ _) hPl
              have hks : (uniq (P.map Int.toNat)).length < 1073741824 := by
                have := uniq_length (P.map Int.toNat)
                rw [List.length_map] at this
                omega
              have HFL := hide hf
              have HFL2 := hide hf2
              have HCC := hide hC
              have HPP := hide hPP
              have HPG := hide hPg
              have HKS := hide hks
              have HP2 := hide hP2
              have hup : upd (cf P) e (some (.int .i64 ((C : Int) + 1))) = cf P2 := by rw [hC, hPP]; exact cf_more P e
              have HUP := hide hup
              have hmx : ∀ m2 : Nat, (m ≤ C + 1 ∧ m2 = C + 1) ∨ (C + 1 ≤ m ∧ m2 = m) → IsMx P2 m2 := fun m2 h => by rw [hPP]; exact HX.out.more (e : Int) (by rw [← hC]; exact h)
              have HMX := hide hmx
              clear hf hf2 hC hPP hPg hks hP2 hup hmx hC2 hPl hP
              by_cases hmc : m ≤ C + 1
              · go_wp2_with (first
                  | ((with_reducible refine at_slot 24 ?_); refine wpList_load_at rfl 38 (.tmp 23) rfl (ae.add (j * 2)) rfl (exC x) _ HCE.out Try.underlying38 rfl ext_info ?_)
                  | ((with_reducible refine at_slot 10 ?_); refine wpList_alloc_blk rfl 38 rfl _ (ext_zero _) ?_; intro w5 hb5 hl5 hs5; clear hs5)
                  | ((with_reducible refine at_store 10 ?_); refine wpList_store_all rfl 38 (.tmp 10) (.tmp 24) rfl wr.heap.size 38 _ hb5 rfl (exC x) rfl ext_info rfl (exC_one _) ?_; intro w6 hb6 hg6 hs6; clear hs6; have hl6 : Below wr.heap.size wr w6 := hl5.grown hg6 hl5.size (fun g e => (by injection e with e; omega)); have x0 : w6.cell? ⟨wr.heap.size, 0, none⟩ = some (.int .i64 (e : Int)) := (by rw [HD.out]; exact hb6.cell 0); have hlt6 := hb6.lt; have hm6 := HM.out.below hl6 hmb4; have HM6 := hide hm6; clear hm6)
                  | ((with_reducible refine at_slot 37 ?_); refine wpList_look_plain rfl (.tmp 34) (.tmp 36) 54 3 rfl Try.underlying54 _ (Try.zeroValue3 _) w.heap.size (cf P) rfl HM6.out e rfl _ HFL.out he63 ?_)
                  | ((with_reducible refine at_slot 43 ?_); refine wpList_look_plain rfl (.tmp 40) (.tmp 42) 54 3 rfl Try.underlying54 _ (Try.zeroValue3 _) w.heap.size (cf P2) rfl HM7.out e rfl _ HFL2.out he63 ?_)
                  | (refine wpList_put rfl (.tmp 34) (.tmp 36) (.tmp 38) 54 3 rfl Try.underlying54 w.heap.size (cf P) rfl HM6.out e he63 (.int .i64 ((C : Int) + 1)) rfl rfl _ (uniq_nodup _) (cf_mem HPG.out) HKS.out ?_; intro w7 hm7 hg7; rw [HUP.out] at hm7; have HM7 := hide hm7; have y0 : w7.cell? ⟨wr.heap.size, 0, none⟩ = some (.int .i64 (e : Int)) := (World.cell?_of_block (a := ⟨wr.heap.size, 0, none⟩) (hg7.block wr.heap.size hlt6 (fun h => (by injection h with h; omega)))).trans x0; have HB7 := hide ((HB4.out.trans (hl6.mono hzr4)).grown hg7 (by have := hl6.size; omega) (fun g e => (by injection e with e; omega))); clear hm7))
                clear x0 y0 hb6 hb5 hl5 hg6 hl6 hg7
                have HX2 := hide (HMX.out (C + 1) (.inl ⟨hmc, rfl⟩))
                rw [HP2.out] at HX2 HM7
                go_roundw
                case rel => exact ⟨j + 1, C + 1, by omega, by go_num, by go_num, HX2, HM7, HB7⟩
                case measure => simp [intOf]; omega
              · go_wp2_with (first
                  | ((with_reducible refine at_slot 24 ?_); refine wpList_load_at rfl 38 (.tmp 23) rfl (ae.add (j * 2)) rfl (exC x) _ HCE.out Try.underlying38 rfl ext_info ?_)
                  | ((with_reducible refine at_slot 10 ?_); refine wpList_alloc_blk rfl 38 rfl _ (ext_zero _) ?_; intro w5 hb5 hl5 hs5; clear hs5)
                  | ((with_reducible refine at_store 10 ?_); refine wpList_store_all rfl 38 (.tmp 10) (.tmp 24) rfl wr.heap.size 38 _ hb5 rfl (exC x) rfl ext_info rfl (exC_one _) ?_; intro w6 hb6 hg6 hs6; clear hs6; have hl6 : Below wr.heap.size wr w6 := hl5.grown hg6 hl5.size (fun g e => (by injection e with e; omega)); have x0 : w6.cell? ⟨wr.heap.size, 0, none⟩ = some (.int .i64 (e : Int)) := (by rw [HD.out]; exact hb6.cell 0); have hlt6 := hb6.lt; have hm6 := HM.out.below hl6 hmb4; have HM6 := hide hm6; clear hm6)
                  | ((with_reducible refine at_slot 37 ?_); refine wpList_look_plain rfl (.tmp 34) (.tmp 36) 54 3 rfl Try.underlying54 _ (Try.zeroValue3 _) w.heap.size (cf P) rfl HM6.out e rfl _ HFL.out he63 ?_)
                  | ((with_reducible refine at_slot 43 ?_); refine wpList_look_plain rfl (.tmp 40) (.tmp 42) 54 3 rfl Try.underlying54 _ (Try.zeroValue3 _) w.heap.size (cf P2) rfl HM7.out e rfl _ HFL2.out he63 ?_)
                  | (refine wpList_put rfl (.tmp 34) (.tmp 36) (.tmp 38) 54 3 rfl Try.underlying54 w.heap.size (cf P) rfl HM6.out e he63 (.int .i64 ((C : Int) + 1)) rfl rfl _ (uniq_nodup _) (cf_mem HPG.out) HKS.out ?_; intro w7 hm7 hg7; rw [HUP.out] at hm7; have HM7 := hide hm7; have y0 : w7.cell? ⟨wr.heap.size, 0, none⟩ = some (.int .i64 (e : Int)) := (World.cell?_of_block (a := ⟨wr.heap.size, 0, none⟩) (hg7.block wr.heap.size hlt6 (fun h => (by injection h with h; omega)))).trans x0; have HB7 := hide ((HB4.out.trans (hl6.mono hzr4)).grown hg7 (by have := hl6.size; omega) (fun g e => (by injection e with e; omega))); clear hm7))
                clear x0 y0 hb6 hb5 hl5 hg6 hl6 hg7
                have HX2 := hide (HMX.out m (.inr ⟨by omega, rfl⟩))
                rw [HP2.out] at HX2 HM7
                go_roundw
                case rel => exact ⟨j + 1, m, by omega, by go_num, by go_num, HX2, HM7, HB7⟩
                case measure => simp [intOf]; omega
        · obtain rfl : j = g.n := by omega
          have hXe := HX.out
          have hMe := HM.out
          rw [← HGL.out, seenD_end HG.out] at hXe hMe
          have HXE := hide hXe
          have HME := hide hMe
          clear hXe hMe
          go_wp2
          go_roundw
          case rel => exact ⟨k + 1, m, by omega, by go_num, rfl, HXE, HME, HB4⟩
          case measure => simp [intOf]; omega
    · obtain rfl : k = n := by omega
      have hX := HX.out
      rw [List.take_of_length_le (by rw [HL.out]; exact Nat.le_refl _)] at hX
      have HX2 := hide hX
      clear hX
      go_wp2
      go_ret
      exact ⟨m, rfl, HX2.out, HB.out⟩
#print axioms spare_any
end Go.Proofs.Ytmaiikmgpeafkaa
