/- Groups that a call made, the law's on. -/
import Derived.Test.YtmaiikmgpeafkaaLawN
import Derived.Test.YtmaiikmgpeafkaaGrpM
import Derived.Test.YtmaiikmgpeafkaaGrpN
import Derived.Test.YtmaiikmgpeafkaaStill
namespace Go.Proofs.Ytmaiikmgpeafkaa
open Go.RowKit

/-- The group's extents, where they lie. -/
def GrV.row (g : GrV) : Value := .slice g.A g.n g.c
/-- They are a row of the call's own. -/
def ExOwn (w : World) (base : Nat) (g : GrV) : Prop := w.ownsRow base 38 2 g.row g.n (exL g.ex)
theorem ExOwn.in_ {w : World} {base : Nat} {g : GrV} (h : ExOwn w base g) : GrIn w w.heap.size g := by
  obtain ⟨A, c, hv, h1, h2⟩ := own_shape h
  injection hv with e1 _ e3
  refine ⟨Reads.of_own h, by rw [e3]; exact h1, ?_⟩
  rw [e3]
  simpa [maxLen] using h2
theorem ExOwn.later {w w' : World} {base : Nat} {g : GrV} (h : ExOwn w base g) (hb : Below w.heap.size w w') : ExOwn w' base g := own_later h hb
theorem blk_kind_ne {w : World} {base : Nat} {e t : TypeId} {size : Nat} {v : Value} {n : Nat} {xs : List Value} {cs : Array Value} (h : w.ownsRow base e size v n xs) {b : Nat} (hb : Blk w b t cs) (hne : e ≠ t) : v.ownBlock ≠ some b := by
  intro hg
  rcases h.2 with ⟨rfl, _⟩ | ⟨g, cap, cur, rfl, _, h1, _⟩
  · simp [Value.ownBlock] at hg
  · simp [Value.ownBlock] at hg
    subst hg
    unfold Blk at hb
    rw [h1] at hb
    injection hb with hb
    injection hb with _ hb _
    exact hne hb
section
variable {P : Program}
theorem results_cell_one {fn : Func} {p : Tmp} {ty : TypeId} (h : fn.results = #[.cell p ty]) (tmps : Array Value) (w : World) :
    (results fn tmps).run P w = ((asAddr (tmps.getD p undef)).run P w).andThen fun a w₁ => (loadVar ty a).run P w₁ := by
  simp only [results, h]
  simp [Sem.run_bind, Result.andThen]
/-- A function that hands back a struct out of its block. -/
theorem ret_cell_one {fn : Func} {R : Ending → World → Prop} {a : Act} {w : World} {p : Tmp} {ty : TypeId} (h : fn.results = #[.cell p ty]) (g : Nat) (t : TypeId) (cs : List Value) (d : TypeDesc) (hb : Blk w g t cs.toArray)
    (hx : a.tmps.getD p undef = .pointer (some ⟨g, 0, none⟩)) (hu : P.underlying ty = some d) (hd : (match d with | .struct _ | .array _ _ => true | _ => false) = true) (hi : (P.info? ty).map (·.size) = some cs.length)
    (hdf : a.defers = []) (hR : R (.returned (.agg cs.toArray)) w) : bodyPost P fn R .ret a w := by
  refine bodyPost_ret (v := .agg cs.toArray) ?_ hdf hR
  rw [results_cell_one h, hx]
  have := run_loadVar_blk (P := P) w g 0 t ty cs.toArray hb cs d (fun j v hv => by rw [Nat.zero_add]; simpa using hv) hu hd hi
  simp only [asAddr, Sem.run_pure, Result.andThen_ok, this]
end
/-- Numbers as disks. -/
def onL (ds : List Int) : List Ex := ds.map (fun d => (d, 0))
theorem onL_more {ds : List Int} {k : Nat} {d : Int} (h : ds[k]? = some d) : onL (ds.take (k + 1)) = onL (ds.take k) ++ [(d, 0)] := by
  unfold onL
  rw [List.take_add_one, h]
  simp
theorem ex_built (a : Int) : Try.prog.built 38 [(0, .int .i64 a)] = some #[.int .i64 a, .int .i64 0] := by kernel_rfl
theorem ex_reads (w : World) (B : Nat) (x : Ex) (hB : w.heap.size < B) : Reads (w.alloc (.cells #[.int .i64 x.1, .int .i64 x.2] 38)) B 2 (some ⟨w.heap.size, 0, none⟩) 1 (exC x) := by
  refine ⟨rfl, fun _ => ⟨_, rfl, hB, fun j u hu => ?_⟩⟩
  have h := (Blk.new w 38 #[.int .i64 x.1, .int .i64 x.2]).cell j
  have hadd : (⟨w.heap.size, 0, none⟩ : Addr).add j = ⟨w.heap.size, j, none⟩ := by unfold Addr.add; split <;> simp_all
  rw [hadd, h]
  simpa [exC] using hu
set_option maxRecDepth 100000 in
set_option maxHeartbeats 2000000 in
theorem on_any (A : Option Addr) (n c : Nat) (ds : List Int) (B0 : Nat) (w : World) (hr : Reads w B0 1 A n (I64 ds)) (hB0 : B0 ≤ w.heap.size) (hn : n ≤ 1000000) :
    Calls Try.prog 25 #[.slice A n c] w fun e w' => ∃ g, e = .returned (.agg (grC g).toArray) ∧ g.ex = onL ds ∧ g.n = n ∧ ExOwn w' w.heap.size g ∧ Below w.heap.size w w' := by
  obtain ⟨i0, hi0, hz0, hz1, hz2⟩ := info_parts ext_parts
  have HI := hide (And.intro hi0 (And.intro hz0 (And.intro hz1 hz2)))
  have HR := hide hr
  have hll : ds.length = n := by have := hr.1; rw [I64_length] at this; omega
  have HL := hide hll
  clear hr hi0 hz0 hz1 hz2 hll
  go_enter Try.func25, Try.ntmps25
  go_wp2_with (first
    | ((with_reducible refine at_slot 2 ?_); refine wpList_alloc_blk rfl 36 rfl _ (grp_zero _) ?_; intro w2 hb2 hl2 hs2; have hz2 : w2.heap.size = w.heap.size + 1 := hs2; clear hs2)
    | ((with_reducible refine at_slot 3 ?_); refine wpList_alloc_blk rfl 36 rfl _ (grp_zero _) ?_; intro w3 hb3 hl3 hs3; have hz3 : w3.heap.size = w2.heap.size + 1 := hs3; clear hs3)
    | ((with_reducible refine at_store 3 ?_); refine wpList_store_all rfl 36 (.tmp 3) (.tmp 5) rfl w2.heap.size 36 _ hb3 rfl (grC ⟨0, 0, none, 0, 0, []⟩) rfl grp_info rfl (grC_one _) ?_; intro w4 hb4 hg4 hs4; have hz4 : w4.heap.size = w3.heap.size := (by omega); clear hs4))
  have hl4 : Below w.heap.size w w4 := (hl2.trans (hl3.mono hl2.size)).grown hg4 (by omega) (fun g e => (by injection e with e; omega))
  obtain ⟨b3, hb3e⟩ : ∃ b, b = w.heap.size + 1 := ⟨_, rfl⟩
  have hB2 : Blk w4 w.heap.size 36 #[.int .i64 0, .int .i64 0, .slice none 0 0] := (hb2.below hl3 hb2.lt).grown hg4 (fun e => by injection e with e; omega)
  have hB3 : Blk w4 b3 36 #[.int .i64 0, .int .i64 0, .slice none 0 0] := by rw [hb3e, ← hz2]; exact hb4
  have hbb : w.heap.size < b3 := by omega
  have HL4 := hide hl4
  have HB2 := hide hB2
  have HB3 := hide hB3
  rw [← hb3e]
  clear hb2 hl2 hb3 hl3 hb4 hg4 hl4 hB2 hB3 hz2 hz3 hz4 hb3e
  go_loopw [4] (fun i wr => ∃ (k : Nat) (A1 : Option Addr) (c1 : Nat), k ≤ n ∧ i = .int .i64 k ∧ Hid (Blk wr b3 36 #[.int .i64 0, .int .i64 0, .slice A1 k c1]) ∧ Hid (Blk wr w.heap.size 36 #[.int .i64 0, .int .i64 0, .slice none 0 0]) ∧ Hid (wr.ownsRow w.heap.size 38 2 (.slice A1 k c1) k (exL (onL (ds.take k)))) ∧ Hid (Below w.heap.size w wr)) (fun i _ => n - (intOf i).toNat)
  case atStart => exact ⟨0, none, 0, Nat.zero_le _, rfl, HB3, HB2, hide (World.ownsRow_nil _ _ _ _), HL4⟩
  case round =>
    clear HB2 HB3 HL4
    obtain ⟨k, A1, c1, hk, rfl, HB3, HB2, HO, HL4⟩ := hrel
    have hzr := HL4.out.size
    by_cases hkn : k < n
    · obtain ⟨wy, hwy⟩ : ∃ x : World, x = wr := ⟨_, rfl⟩
      subst hwy
      obtain ⟨ad, d, rfl, hab, hd, hcd⟩ := (HR.out.below (HL4.out.mono hB0)).i64_at hkn
      have hcd2 : wy.drew.cell? (ad.add k) = some (.int .i64 d) := hcd
      have HOM := hide (onL_more hd)
      have hbt := ex_built d
      obtain ⟨wa, hwa⟩ : ∃ wa, wa = (wy.alloc (.cells #[.int .i64 d, .int .i64 0] 38)).drew := ⟨_, rfl⟩
      have hga : wy.grownBy wa none := by rw [hwa]; exact grown_drew (World.grownBy_alloc _ _ _)
      have hrowa : wa.ownsRow w.heap.size 38 2 (.slice A1 k c1) k (exL (onL (ds.take k))) := HO.out.kept hga (by cases (Value.slice A1 k c1).ownBlock <;> simp)
      have hza := hga.size
      obtain ⟨v', wb, hrun, hown, hgb, hvb⟩ := run_append_any (P := Try.prog) wa w.heap.size 34 34 38 i0 _ 2 16 Try.underlying34 HI.out.1 HI.out.2.1 HI.out.2.2.1 HI.out.2.2.2 rfl (by decide) _ _ _ hrowa (wy.heap.size + 1) (some ⟨wy.heap.size, 0, none⟩) 1 1 (exC (d, 0)) (by rw [hwa]; exact (ex_reads wy _ (d, 0) (by omega)).drew) (exC_one _) (by simp only [maxLen]; omega) (by omega) (by omega)
      have hne : ∀ t : Nat, (Value.slice A1 k c1).ownBlock = some t → t ≠ b3 := fun t ht e => blk_kind_ne HO.out HB3.out (by decide) (by rw [ht, e])
      have hB3b : Blk wb b3 36 #[.int .i64 0, .int .i64 0, .slice A1 k c1] := (HB3.out.grown hga (by simp)).grown hgb (fun e => hne b3 e.symm rfl)
      have hB2b : Blk wb w.heap.size 36 #[.int .i64 0, .int .i64 0, .slice none 0 0] := (HB2.out.grown hga (by simp)).grown hgb (fun e => blk_kind_ne HO.out HB2.out (by decide) e.symm)
      have c1a : wy.drew.cell? ⟨b3, 2, none⟩ = some (.slice A1 k c1) := HB3.out.drew.cell 2
      have c1b : (wy.alloc (.cells #[.int .i64 d, .int .i64 0] 38)).drew.cell? ⟨b3, 2, none⟩ = some (.slice A1 k c1) := (HB3.out.alloc _).drew.cell 2
      have c1c : wb.cell? ⟨b3, 2, none⟩ = some (.slice A1 k c1) := hB3b.cell 2
      have f1c : wb.frozen? ⟨b3, 2, none⟩ = false := hB3b.frozen 2
      have hlb : Below w.heap.size w wb := ((HL4.out.alloc hzr _).drew).grown (by rw [← hwa]; exact hgb) (by rw [← hwa]; omega) (fun g e => (HO.out.lt g e).1)
      obtain ⟨A2, c2, hv', _, _⟩ := own_shape hown
      have HOWN := hide hown
      have HB3B := hide hB3b
      have HB2B := hide hB2b
      have HLB := hide hlb
      subst hv'
      rw [hwa] at hrun
      clear hown hB3b hB2b hlb hgb hvb hrowa hga hza hne hd hcd hwa
      go_wp2
      go_region_law (first
        | (refine step_known rfl (.tmp 13) (.tmp 19) 34 rfl _ _ rfl rfl _ wb hrun ?_))
      all_goals
        go_wp2
        obtain ⟨X, hX⟩ : ∃ X : Value, X = .slice A2 (k + 1) c2 := ⟨_, rfl⟩
        have hgs : wb.grownBy (wb.setCell ⟨b3, 2, none⟩ (.slice A2 (k + 1) c2)) (some b3) := grown_set (grown_refl wb _) ⟨b3, 2, none⟩ rfl _
        have q1 : Blk (wb.setCell ⟨b3, 2, none⟩ (.slice A2 (k + 1) c2)) b3 36 #[.int .i64 0, .int .i64 0, .slice A2 (k + 1) c2] := by
          have h := HB3B.out.set_ 2 (.slice A2 (k + 1) c2)
          simpa using h
        have Q1 := hide q1
        have Q2 := hide (HB2B.out.far (p := ⟨b3, 2, none⟩) (by show w.heap.size ≠ b3; omega) (.slice A2 (k + 1) c2))
        have q3 : (wb.setCell ⟨b3, 2, none⟩ (.slice A2 (k + 1) c2)).ownsRow w.heap.size 38 2 (.slice A2 (k + 1) c2) (k + 1) (exL (onL (ds.take (k + 1)))) := by
          rw [HOM.out, exL_append, exL_one]
          refine HOWN.out.kept hgs ?_
          cases hob : (Value.slice A2 (k + 1) c2).ownBlock with
          | none => exact .inl rfl
          | some y => exact .inr (fun e => blk_kind_ne HOWN.out HB3B.out (by decide) (hob.trans e))
        have Q3 := hide q3
        have Q4 := hide (HLB.out.grown hgs (by have := HLB.out.size; exact this) (fun y e => by injection e with e; omega))
        clear q1 q3 hgs
        go_roundw
        case rel => exact ⟨k + 1, A2, c2, by omega, by go_num, Q1, Q2, Q3, Q4⟩
        case measure => simp [intOf]; omega
    · obtain rfl : k = n := by omega
      go_wp2_with (first
        | ((with_reducible refine at_slot 22 ?_); refine wpList_load_blk rfl 36 (.tmp 3) rfl b3 0 36 _ HB3.out rfl (grC ⟨0, 0, A1, k, c1, []⟩) _ (fun j v hv => (by rw [Nat.zero_add]; simpa [grC] using hv)) Try.underlying36 rfl grp_info ?_)
        | ((with_reducible refine at_store 2 ?_); refine wpList_store_all rfl 36 (.tmp 2) (.tmp 22) rfl w.heap.size 36 _ HB2.out rfl (grC ⟨0, 0, A1, k, c1, []⟩) rfl grp_info rfl (grC_one _) ?_; intro w5 hb5 hg5 hs5; clear hs5))
      refine ret_cell_one rfl w.heap.size 36 (grC ⟨0, 0, A1, k, c1, []⟩) _ hb5 rfl Try.underlying36 rfl grp_info rfl ?_
      have he : onL (ds.take k) = onL ds := by rw [List.take_of_length_le (by rw [HL.out]; exact Nat.le_refl _)]
      refine ⟨⟨0, 0, A1, k, c1, onL ds⟩, rfl, rfl, rfl, ?_, HL4.out.grown hg5 HL4.out.size (fun y e => by injection e with e; omega)⟩
      have ho := HO.out
      rw [he] at ho
      refine ho.kept hg5 ?_
      cases hob : (Value.slice A1 k c1).ownBlock with
      | none => exact .inl rfl
      | some y => exact .inr (fun e => blk_kind_ne HO.out HB2.out (by decide) (by rw [← e]; exact hob))
#print axioms on_any
end Go.Proofs.Ytmaiikmgpeafkaa
