/- What the calls of one disk do: has, newest, write, keep, lose, flush, fail. -/
import Derived.Test.YtmjjnbabfldbcaaGreatPure
import Derived.Test.YtmjjnbabfldbcaaGreatBlk
import Derived.Test.YtmjjnbabfldbcaaGreatArr
import Derived.Deep.QuietTactic
import Derived.BigQuiet
import Derived.Outline
namespace Go.Proofs.YtmjjnbabfldbcaaGreat
open Go.RowKit

theorem sec_info : (Tryz.prog.info? 43).map (·.size) = some 64 := by kernel_rfl
theorem newer_info : (Tryz.prog.info? 126).map (·.size) = some 65 := by kernel_rfl
theorem sec_zero (w : World) : (zeroValue 43).run Tryz.prog w = .ok (secV zeroSec) w := by kernel_rfl
theorem sec_none : Tryz.prog.built 43 [] = some (secL zeroSec).toArray := by kernel_rfl
theorem newer_zero (w : World) : (zeroValue 126).run Tryz.prog w = .ok (newV zeroSec 0) w := by kernel_rfl
theorem secL_one (s : Sec) : ∀ v ∈ secL s, v.oneCell' = true := B8_one _
theorem newL_one (s : Sec) (t : Nat) : ∀ v ∈ newL s t, v.oneCell' = true := by
  intro v hv
  rcases List.mem_append.1 hv with hv | hv
  · exact secL_one s v hv
  · simp at hv
    subst hv
    rfl
section
variable {w : World} {mb o l x : Nat} {f g : Nat → Option Value}
theorem has_yes (k z : Nat) (c0 : w.cell? ⟨mb, o, none⟩ = some (.int .i64 (z : Int))) (hk : k < z) :
    Calls Tryz.prog 87 #[.pointer (some ⟨mb, o, none⟩), .int .i64 (k : Int)] w fun e w' => e = .returned (.bool true) ∧ w = w' := by
  have hd : decide (k < z) = true := by simpa using hk
  go_enter Tryz.func87, Tryz.ntmps87
  go_wp2
  go_ret
  exact ⟨rfl, rfl⟩
theorem has_no (k z : Nat) (c0 : w.cell? ⟨mb, o, none⟩ = some (.int .i64 (z : Int))) (hk : z ≤ k) :
    Calls Tryz.prog 87 #[.pointer (some ⟨mb, o, none⟩), .int .i64 (k : Int)] w fun e w' => e = .returned (.bool false) ∧ w = w' := by
  have hd : decide (k < z) = false := by simpa using hk
  go_enter Tryz.func87, Tryz.ntmps87
  go_wp2
  go_ret
  exact ⟨rfl, rfl⟩
set_option maxRecDepth 100000 in
theorem newest_loose (k : Nat) (s : Sec) (t : Nat) (hm : mb < w.heap.size) (c3 : w.cell? ⟨mb, o + 3, none⟩ = some (.map (some l))) (hl : MapIs w l f) (hf : f k = some (newV s t)) :
    Calls Tryz.prog 48 #[.pointer (some ⟨mb, o, none⟩), .int .i64 (k : Int)] w fun e w' => e = .returned (secV s) ∧ Below w.heap.size w w' := by
  have hlt := hl.lt
  have HF := hide hf
  obtain ⟨V, hV⟩ : ∃ V, V = newL s t := ⟨_, rfl⟩
  have hVl : V.length = 65 := by rw [hV, newL_length]
  have hVo : ∀ v ∈ V, v.oneCell' = true := by rw [hV]; exact newL_one s t
  obtain ⟨U, hU⟩ : ∃ U, U = secL s := ⟨_, rfl⟩
  have hUl : U.length = 64 := by rw [hU, secL_length]
  have hUo : ∀ v ∈ U, v.oneCell' = true := by rw [hU]; exact secL_one s
  have hUV : ∀ (j : Nat) (v : Value), U[j]? = some v → V[j]? = some v := by
    intro j v hv
    have hj : j < (secL s).length := by rw [← hU]; exact (List.getElem?_eq_some_iff.1 hv).1
    rw [hV, newL, List.getElem?_append_left hj, ← hU]
    exact hv
  have hfV : f k = some (.agg V.toArray) := by rw [hV]; exact hf
  have HV := hide hfV
  have HVl := hide hVl
  have HUl := hide hUl
  have HUV := hide hUV
  have hfin : secV s = .agg U.toArray := by rw [hU]; rfl
  rw [hfin]
  have hiV : (Tryz.prog.info? 126).map (·.size) = some V.length := by rw [hVl]; exact newer_info
  have hiU : (Tryz.prog.info? 43).map (·.size) = some U.length := by rw [hUl]; exact sec_info
  have HIV := hide hiV
  have HIU := hide hiU
  have HVO := hide hVo
  have HUO := hide hUo
  clear hf hfV hV hU hfin hVl hUl hUV hiV hiU hVo hUo
  go_enter Tryz.func48, Tryz.ntmps48
  go_wp2_with (first
    | (refine wpList_alloc_blk rfl 43 rfl _ (sec_zero _) ?_; intro w1 hb1 hl1 hs1; clear hs1; have c31 := (hl1.cell (p := ⟨mb, o + 3, none⟩) hm).trans c3)
    | (refine wpList_look_some rfl (.tmp 11) (.tmp 12) 80 126 true rfl Tryz.underlying80 _ (newer_zero _) l f rfl (hl.below hl1 hlt) k rfl (.agg V.toArray) HV.out _ rfl ?_)
    | (refine wpList_alloc_blk rfl 126 rfl _ (newer_zero _) ?_; intro w2 hb2 hl2 hs2; clear hs2)
    | (refine wpList_store_all rfl 126 (.tmp 5) (.tmp 14) rfl w1.heap.size 126 _ hb2 rfl V rfl HIV.out (HVl.out.trans (newL_length zeroSec 0).symm) HVO.out ?_; intro w3 hb3 hg3 hs3; clear hs3; have hb13 := (hb1.below hl2 hb1.lt).grown hg3 (fun e => by have := hb1.lt; injection e with e; omega))
    | (refine wpList_load_blk rfl 43 (.tmp 17) rfl w1.heap.size 0 126 _ hb3 rfl U _ (fun j v hj => by rw [Nat.zero_add]; simpa using HUV.out j v hj) Tryz.underlying43 rfl HIU.out ?_)
    | (refine wpList_store_all rfl 43 (.tmp 4) (.tmp 18) rfl w.heap.size 43 _ hb13 rfl U rfl HIU.out (HUl.out.trans (secL_length zeroSec).symm) HUO.out ?_; intro w4 hb4 hg4 hs4; clear hs4))
  refine ret_cell rfl w.heap.size 43 U _ hb4 rfl Tryz.underlying43 rfl HIU.out rfl ⟨rfl, ?_⟩
  have h1 := hb1.lt
  exact ((hl1.trans (hl2.mono (by omega))).grown hg3 (by have := hl2.size; omega) (fun g e => by injection e with e; omega)).grown hg4 (by have := hl2.size; have := hg3.size; omega) (fun g e => by injection e with e; omega)
set_option maxRecDepth 100000 in
theorem newest_flat (k : Nat) (s : Sec) (hk63 : k < 9223372036854775808) (hm : mb < w.heap.size) (c3 : w.cell? ⟨mb, o + 3, none⟩ = some (.map (some l))) (hl : MapIs w l f) (hf : f k = none)
    (c2 : w.cell? ⟨mb, o + 2, none⟩ = some (.map (some x))) (hx : MapIs w x g) (hg : g k = some (secV s) ∨ (g k = none ∧ zeroSec = s)) :
    Calls Tryz.prog 48 #[.pointer (some ⟨mb, o, none⟩), .int .i64 (k : Int)] w fun e w' => e = .returned (secV s) ∧ Below w.heap.size w w' := by
  have hlt := hl.lt
  have hxt := hx.lt
  have HF := hide hf
  obtain ⟨U, hU⟩ : ∃ U, U = secL s := ⟨_, rfl⟩
  have hUl : U.length = 64 := by rw [hU, secL_length]
  have hUo : ∀ v ∈ U, v.oneCell' = true := by rw [hU]; exact secL_one s
  obtain ⟨V, hV⟩ : ∃ V, V = newL zeroSec 0 := ⟨_, rfl⟩
  have hVl : V.length = 65 := by rw [hV, newL_length]
  have hVo : ∀ v ∈ V, v.oneCell' = true := by rw [hV]; exact newL_one zeroSec 0
  have hz : newV zeroSec 0 = .agg V.toArray := by rw [hV]; rfl
  have hg' : g k = some (.agg U.toArray) ∨ (g k = none ∧ secV zeroSec = .agg U.toArray) := by
    rcases hg with h | ⟨h, h2⟩
    · exact .inl (by rw [h, hU]; rfl)
    · exact .inr ⟨h, by rw [hU, h2]; rfl⟩
  have hfin : secV s = .agg U.toArray := by rw [hU]; rfl
  have hnz : (if true = true then Value.tuple #[newV zeroSec 0, .bool false] else newV zeroSec 0) = Value.tuple #[.agg V.toArray, .bool false] := by rw [hz]; rfl
  rw [hfin]
  have hiV : (Tryz.prog.info? 126).map (·.size) = some V.length := by rw [hVl]; exact newer_info
  have hiU : (Tryz.prog.info? 43).map (·.size) = some U.length := by rw [hUl]; exact sec_info
  have HZ := hide hnz
  have HG := hide hg'
  have HVl := hide hVl
  have HUl := hide hUl
  have HIV := hide hiV
  have HIU := hide hiU
  have HVO := hide hVo
  have HUO := hide hUo
  clear hf hV hU hfin hVl hUl hiV hiU hVo hUo hz hg hg' hnz
  go_enter Tryz.func48, Tryz.ntmps48
  go_wp2_with (first
    | (refine wpList_alloc_blk rfl 43 rfl _ (sec_zero _) ?_; intro w1 hb1 hl1 hs1; clear hs1; have c31 := (hl1.cell (p := ⟨mb, o + 3, none⟩) hm).trans c3)
    | (refine wpList_look_none rfl (.tmp 11) (.tmp 12) 80 126 true rfl Tryz.underlying80 _ (newer_zero _) l f rfl (hl.below hl1 hlt) k rfl HF.out hk63 _ HZ.out ?_)
    | (refine wpList_alloc_blk rfl 126 rfl _ (newer_zero _) ?_; intro w2 hb2 hl2 hs2; clear hs2)
    | (refine wpList_store_all rfl 126 (.tmp 5) (.tmp 14) rfl w1.heap.size 126 _ hb2 rfl V rfl HIV.out (HVl.out.trans (newL_length zeroSec 0).symm) HVO.out ?_; intro w3 hb3 hg3 hs3; clear hs3; have hb13 := (hb1.below hl2 hb1.lt).grown hg3 (fun e => by have := hb1.lt; injection e with e; omega); have hb1' : Below w.heap.size w w3 := ((hl1.trans (hl2.mono (by have := hb1.lt; omega))).grown hg3 (by have := hl2.size; have := hb1.lt; omega) (fun g e => by have := hb1.lt; injection e with e; omega)); have c23 := (hb1'.cell (p := ⟨mb, o + 2, none⟩) hm).trans c2)
    | (refine wpList_look_plain rfl (.tmp 22) (.tmp 23) 79 43 rfl Tryz.underlying79 _ (sec_zero _) x g rfl (hx.below hb1' hxt) k rfl _ HG.out hk63 ?_)
    | (refine wpList_store_all rfl 43 (.tmp 4) (.tmp 24) rfl w.heap.size 43 _ hb13 rfl U rfl HIU.out (HUl.out.trans (secL_length zeroSec).symm) HUO.out ?_; intro w4 hb4 hg4 hs4; clear hs4))
  refine ret_cell rfl w.heap.size 43 U _ hb4 rfl Tryz.underlying43 rfl HIU.out rfl ⟨rfl, ?_⟩
  exact hb1'.grown hg4 hb1'.size (fun g e => by injection e with e; omega)

/-- What is newest of sector k, by the two maps of its disk. -/
def NewIs (f g : Nat → Option Value) (k : Nat) (s : Sec) : Prop := (∃ t, f k = some (newV s t)) ∨ (f k = none ∧ (g k = some (secV s) ∨ (g k = none ∧ zeroSec = s)))
theorem newest_any (k : Nat) (s : Sec) (hk63 : k < 9223372036854775808) (hm : mb < w.heap.size) (c3 : w.cell? ⟨mb, o + 3, none⟩ = some (.map (some l))) (hl : MapIs w l f)
    (c2 : w.cell? ⟨mb, o + 2, none⟩ = some (.map (some x))) (hx : MapIs w x g) (hs : NewIs f g k s) :
    Calls Tryz.prog 48 #[.pointer (some ⟨mb, o, none⟩), .int .i64 (k : Int)] w fun e w' => e = .returned (secV s) ∧ Below w.heap.size w w' := by
  rcases hs with ⟨t, hf⟩ | ⟨hf, hg⟩
  · exact newest_loose k s t hm c3 hl hf
  · exact newest_flat k s hk63 hm c3 hl hf c2 hx hg
end
end Go.Proofs.YtmjjnbabfldbcaaGreat
