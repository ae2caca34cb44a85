/- VmapOne's walk over the contracts. -/
import Derived.Test.YtfjgpnjhmfcpiaaVmV
import Derived.Test.YtfjgpnjhmfcpiaaArgW
import Derived.Deep.DeepCutAuto
import Derived.Deep.CutBlock
namespace Go.Proofs.Ytfjgpnjhmfcpiaa
open Go.RowKit Go.Maps
set_option linter.unusedVariables false
/-- A slice's head. -/
theorem run_cutC {a : Act} (W : World) (o : Oper) (x h : Operand) (ho : o.op = .slice 30 x none (some h) none) (A : Option Addr) (n c m : Nat) (hx : a.eval x = .slice A n c) (hh : a.eval h = .int .i64 (m : Int)) (hm : m ≤ c) : (execOp a.eval o).run Try.prog W = .ok (.value (.slice A m c)) W := by
  have h1 := run_slice_h (P := Try.prog) (w := W) 30 A n c Try.underlying30 .i64 (m : Int) (by omega) (by omega)
  have hs : (sizeOf (Try.prog.elem 30)).run Try.prog W = .ok 4 W := by kernel_rfl
  unfold execOp
  have h2 := run_sliceAt_slice (P := Try.prog) (w := W) 30 (.slice A n c) none (some (.int .i64 (m : Int))) none Try.underlying30
  simp [ho, hx, hh, h2, h1, hs, Result.andThen]
  cases A <;> simp [sliced, Addr.add]
theorem inZ_mem {V : List Wh} {b : Nat} {q : Wh} (hq : V[b]? = some q) (ht : q.t ≠ 0) : (b : Int) ∈ inZ V q.g V.length := by
  unfold inZ inUp
  refine List.mem_map.2 ⟨b, List.mem_filter.2 ⟨List.mem_range.2 (List.getElem?_eq_some_iff.1 hq).1, ?_⟩, rfl⟩
  rw [getD_at hq]
  exact decide_eq_true ⟨ht, rfl⟩
theorem mem_take_next {l : List Int} {k : Nat} {v b : Int} (hv : l[k]? = some v) : decide (b ∈ l.take (k + 1)) = (decide (b ∈ l.take k) || (v == b)) := by
  rw [take_snoc hv]
  by_cases h1 : b ∈ l.take k <;> by_cases h2 : v = b
  · simp [h1]
  · simp [h1]
  · simp [h2]
  · have h3 : ¬ b = v := fun e => h2 e.symm
    simp [h1, h2, h3]
theorem atE_in {V : List Wh} {b : Nat} (h : b < V.length) : atE V (b : Int) = 0 := by
  unfold atE
  rw [show inB V.length (b : Int) = true by unfold inB; exact decide_eq_true (by omega), if_pos rfl]
theorem atW_in1 {V : List Wh} {a : Nat} {x : Wh} (h : V[a]? = some x) : atW V (a : Int) = x := by
  have ha1 := (List.getElem?_eq_some_iff.1 h).1
  unfold atW
  rw [show inB V.length (a : Int) = true by unfold inB; exact decide_eq_true (by omega), if_pos rfl, Int.toNat_natCast]
  exact getD_at h
set_option maxRecDepth 100000 in
set_option maxHeartbeats 8000000 in
theorem vmapOne_walk (ni : Int) (A : Option Addr) (n c : Nat) (f : Nat → ChV) (w : World) (hx : ChRows w w.heap.size A n c f) :
    Calls Try.prog 4 #[.int .i64 ni, .slice A n c] w fun e w' => e = .returned (.bool true) ∧ Below w.heap.size w w' := by
  have HS_w : Hid (Sta w w [] []) := hide (Sta.begin w)
  have HSH := hide shown15_any
  have HX := hide hx
  have hnc : n ≤ c := hx.le
  have hcm : c ≤ 9223372036854775807 := hx.lt
  have heq := run_eql_vm
  obtain ⟨v0, h0⟩ : ∃ v, newV ni = v := ⟨_, rfl⟩
  have HV0 := hide h0
  clear hx h0
  go_enter Try.func4, Try.ntmps4
  go_wp2_with (first
    | (go_at_call 9; refine (HSH.out _).mono ?_; rintro _ y1 ⟨rfl, hlq⟩; have HS_y1 : Hid (Sta w y1 [] []) := hide (HS_w.out.later hlq); clear hlq)
    | (go_at_call 10; refine (HS_y1.out.mk_ ni).mono ?_; rintro _ y2 ⟨m, rfl, hsq⟩; rw [HV0.out] at hsq; have HS_y2 : Hid (Sta w y2 [vmT m v0] []) := hide hsq; clear hsq))
  go_loopw [7, 8, 9, 10, 11, 12, 13, 14, 15, 16, 17, 18] (fun s7 _ _ _ _ _ _ _ _ _ _ _ wr => ∃ (i : Nat) (V : List Wh), s7 = .int .i64 (i : Int) ∧ i ≤ 40 ∧ Hid (Sta w wr [vmT m V] [])) (fun s7 _ _ _ _ _ _ _ _ _ _ _ _ => 40 - (intOf s7).toNat)
  case atStart => exact ⟨0, v0, rfl, by decide, HS_y2⟩
  case round =>
    obtain ⟨i, V, rfl, hi40, HS_z1⟩ := hrel
    obtain ⟨z1, rfl⟩ : ∃ z, z = wr := ⟨_, rfl⟩
    by_cases hin : (i : Int) < (n : Int)
    · by_cases h40 : (i : Int) < 40
      · obtain ⟨ad, hA, hab, hrow⟩ := HX.out.row (by omega)
        subst hA
        obtain ⟨hci, hchi⟩ := hrow i (by omega)
        obtain ⟨⟨Ai, ni2, ci, Li⟩, hfi⟩ : ∃ y, f i = y := ⟨_, rfl⟩
        rw [hfi] at hci hchi
        dsimp only at hci
        have HCI := hide (fun (W : World) (hW : Below w.heap.size w W) => show W.cell? (ad.add i) = some (.slice Ai ni2 ci) from (hW.cell (p := ad.add i) (by rw [block_of_add]; exact hab)).trans hci)
        have HCH := hide hchi
        have hle : ni2 ≤ ci := hchi.le
        have hlm : ci ≤ 9223372036854775807 := hchi.lt
        obtain ⟨mm, hmm⟩ : ∃ mm, mm = min ni2 20 := ⟨_, rfl⟩
        have hmi : min (ni2 : Int) 20 = (mm : Int) := by rw [hmm]; omega
        have hm1 : mm ≤ ni2 := by omega
        have hm2 : mm ≤ 20 := by omega
        have HHD := hide (fun (W : World) (hW : Below w.heap.size w W) => hchi.head hW (m := mm) hm1 (by omega))
        dsimp only at HHD
        obtain ⟨L, hL⟩ : ∃ L, L = Li.take mm := ⟨_, rfl⟩
        rw [← hL] at HHD
        have HOK1 := hide (HS_z1.out.okV 0 rfl)
        clear hrow hci hchi hfi hmm hL
        go_upto_region 9 with (first
          | (go_at_call 14; refine (HS_z1.out.all_ 0 rfl).mono ?_; rintro _ z2 ⟨g0, cg0, cs0, rfl, hcs, hsq⟩; have HCS0 := hide hcs; have HS_z2 : Hid (Sta w z2 [vmT m V] [(g0, 24, cs0)]) := hide hsq; clear hcs hsq))
        have HN1 := hide (show V.length ≤ 96 from HOK1.out.few)
        obtain ⟨V2, hV2⟩ : ∃ V2, setV V L = V2 := ⟨_, rfl⟩
        have HV2 := hide hV2
        obtain ⟨E, hE⟩ : ∃ E, setE V L = E := ⟨_, rfl⟩
        have HE := hide hE
        clear hV2 hE
        go_cut [60] (fun s60 wx => s60 = .bool false ∧ Hid (Sta w wx [vmT m V2] []))
        case first =>
          by_cases hE0 : E = 0
          · subst hE0
            refine wp_region_held_drew (S := (fun W => Below w.heap.size w W)) (by kernel_rfl) ?_ (fun hHeld => ?_)
            · exact HS_z2.out.drew.low
            have HS_d2 := hide HS_z2.out.drew
            refine heldTake (i := 0) (v := ?_) rfl (by kernel_rfl) (by kernel_rfl) (by kernel_rfl) (fun _ _ _ h => h) (Or.inl ⟨by rfl, ?_⟩) (by assumption) ?_
            rotate_left
            · intro w hSw; (try dsimp only at hSw); go_simp <;> (with_reducible rfl)
            try simp only [Act.put, List.setIfInBounds_toArray, List.set_cons_zero, List.set_cons_succ]
            refine heldTake (i := 1) (v := ?_) rfl (by kernel_rfl) (by kernel_rfl) (by kernel_rfl) (fun _ _ _ h => h) (Or.inl ⟨by rfl, ?_⟩) (by assumption) ?_
            rotate_left
            · intro w hSw; (try dsimp only at hSw); go_simp <;> (with_reducible rfl)
            try simp only [Act.put, List.setIfInBounds_toArray, List.set_cons_zero, List.set_cons_succ]
            refine heldTake (i := 2) (v := ?_) rfl (by kernel_rfl) (by kernel_rfl) (by kernel_rfl) (fun _ _ _ h => h) (Or.inl ⟨by rfl, ?_⟩) (by assumption) ?_
            rotate_left
            · intro w hSw; (try dsimp only at hSw); go_simp <;> (with_reducible rfl)
            try simp only [Act.put, List.setIfInBounds_toArray, List.set_cons_zero, List.set_cons_succ]
            refine heldTake (i := 3) (v := ?_) rfl (by kernel_rfl) (by kernel_rfl) (by kernel_rfl) (fun _ _ _ h => h) (Or.inl ⟨by rfl, ?_⟩) (by assumption) ?_
            rotate_left
            · intro w hSw; (try dsimp only at hSw); go_simp <;> (with_reducible rfl)
            try simp only [Act.put, List.setIfInBounds_toArray, List.set_cons_zero, List.set_cons_succ]
            refine heldTake (i := 4) (v := .slice Ai ni2 ci) rfl (by kernel_rfl) (by kernel_rfl) (by kernel_rfl) (fun _ _ _ h => h) (Or.inl ⟨by rfl, fun W hW => ?_⟩) (by assumption) ?_
            · dsimp only at hW
              have hc2 := HCI.out W hW
              go_simp <;> rfl
            try simp only [Act.put, List.setIfInBounds_toArray, List.set_cons_zero, List.set_cons_succ]
            refine heldTake (i := 5) (v := ?_) rfl (by kernel_rfl) (by kernel_rfl) (by kernel_rfl) (fun _ _ _ h => h) (Or.inl ⟨by rfl, ?_⟩) (by assumption) ?_
            rotate_left
            · intro w hSw; (try dsimp only at hSw); go_simp <;> (with_reducible rfl)
            try simp only [Act.put, List.setIfInBounds_toArray, List.set_cons_zero, List.set_cons_succ]
            refine heldTake (i := 6) (v := ?_) rfl (by kernel_rfl) (by kernel_rfl) (by kernel_rfl) (fun _ _ _ h => h) (Or.inl ⟨by rfl, ?_⟩) (by assumption) ?_
            rotate_left
            · intro w hSw; (try dsimp only at hSw); go_simp <;> (with_reducible rfl)
            try simp only [Act.put, List.setIfInBounds_toArray, List.set_cons_zero, List.set_cons_succ]
            refine heldTake (i := 7) (v := ?_) rfl (by kernel_rfl) (by kernel_rfl) (by kernel_rfl) (fun _ _ _ h => h) (Or.inl ⟨by rfl, ?_⟩) (by assumption) ?_
            rotate_left
            · intro w hSw; (try dsimp only at hSw); go_simp <;> (with_reducible rfl)
            try simp only [Act.put, List.setIfInBounds_toArray, List.set_cons_zero, List.set_cons_succ]
            refine heldTake (i := 8) (v := .slice Ai ni2 ci) rfl (by kernel_rfl) (by kernel_rfl) (by kernel_rfl) (fun _ _ _ h => h) (Or.inl ⟨by rfl, fun W hW => ?_⟩) (by assumption) ?_
            · dsimp only at hW
              have hc2 := HCI.out W hW
              go_simp <;> rfl
            try simp only [Act.put, List.setIfInBounds_toArray, List.set_cons_zero, List.set_cons_succ]
            refine heldTake (i := 9) (v := ?_) rfl (by kernel_rfl) (by kernel_rfl) (by kernel_rfl) (fun _ _ _ h => h) (Or.inl ⟨by rfl, ?_⟩) (by assumption) ?_
            rotate_left
            · intro w hSw; (try dsimp only at hSw); go_simp <;> (with_reducible rfl)
            try simp only [Act.put, List.setIfInBounds_toArray, List.set_cons_zero, List.set_cons_succ]
            refine heldTake (i := 10) (v := .int .i64 (mm : Int)) rfl (by kernel_rfl) (by kernel_rfl) (by kernel_rfl) (fun _ _ _ h => h) (Or.inl ⟨by rfl, fun W hW => ?_⟩) (by assumption) ?_
            · dsimp only at hW
              go_simp <;> (first | rfl | (rw [hmi]) | (simp [hmi]))
            try simp only [Act.put, List.setIfInBounds_toArray, List.set_cons_zero, List.set_cons_succ]
            refine heldTake (i := 11) (v := .slice Ai mm ci) rfl (by kernel_rfl) (by kernel_rfl) (by kernel_rfl) (fun _ _ _ h => h) (Or.inl ⟨by rfl, fun W hW => run_cutC W _ (.tmp 44) (.tmp 50) rfl Ai ni2 ci mm rfl rfl (by omega)⟩) (by assumption) ?_
            try simp only [Act.put, List.setIfInBounds_toArray, List.set_cons_zero, List.set_cons_succ]
            refine wpAnyH_ready (rs := [12]) (by kernel_rfl) (by simp) ?_
            refine heldCons (i := 12) rfl (fun Kq hKq => ?_) AllReadyH.nil
            go_simp
            go_at_call 12
            refine (HS_d2.out.set_ 0 rfl (HHD.out _ HS_d2.out.low)).mono ?_
            rintro _ z3 ⟨rfl, hsq⟩
            rw [HE.out]
            rw [HV2.out] at hsq
            have HS_z3 : Hid (Sta w z3 [vmT m V2] [(g0, 24, cs0)]) := hide hsq
            clear hsq
            first | (refine hKq.out _ _ HS_z3.out.low (fun hHeld => ?_)) | (go_wp2_with fail; refine hKq.out _ _ HS_z3.out.low (fun hHeld => ?_))
            clear hKq Kq
            try simp only [Act.put, List.setIfInBounds_toArray, List.set_cons_zero, List.set_cons_succ]
            refine heldTake (i := 13) (v := .bool false) rfl (by kernel_rfl) (by kernel_rfl) (by kernel_rfl) (fun _ _ _ h => h) (Or.inl ⟨by rfl, fun W hW => ?_⟩) (by assumption) ?_
            · dsimp only at hW
              go_simp <;> (first | rfl | simp)
            try simp only [Act.put, List.setIfInBounds_toArray, List.set_cons_zero, List.set_cons_succ]
            refine heldTake (i := 14) (v := ?_) rfl (by kernel_rfl) (by kernel_rfl) (by kernel_rfl) (fun _ _ _ h => h) (Or.inl ⟨by rfl, ?_⟩) (by assumption) ?_
            rotate_left
            · intro w hSw; (try dsimp only at hSw); go_simp <;> (with_reducible rfl)
            try simp only [Act.put, List.setIfInBounds_toArray, List.set_cons_zero, List.set_cons_succ]
            refine heldTake (i := 15) (v := undef) rfl (by kernel_rfl) (by kernel_rfl) (by kernel_rfl) (fun _ _ _ h => h) (Or.inr ⟨by rfl, rfl⟩) (by assumption) ?_
            try simp only [Act.put, List.setIfInBounds_toArray, List.set_cons_zero, List.set_cons_succ]
            refine heldTake (i := 16) (v := undef) rfl (by kernel_rfl) (by kernel_rfl) (by kernel_rfl) (fun _ _ _ h => h) (Or.inr ⟨by rfl, rfl⟩) (by assumption) ?_
            try simp only [Act.put, List.setIfInBounds_toArray, List.set_cons_zero, List.set_cons_succ]
            refine heldTake (i := 17) (v := undef) rfl (by kernel_rfl) (by kernel_rfl) (by kernel_rfl) (fun _ _ _ h => h) (Or.inr ⟨by rfl, rfl⟩) (by assumption) ?_
            try simp only [Act.put, List.setIfInBounds_toArray, List.set_cons_zero, List.set_cons_succ]
            refine heldTake (i := 18) (v := undef) rfl (by kernel_rfl) (by kernel_rfl) (by kernel_rfl) (fun _ _ _ h => h) (Or.inr ⟨by rfl, rfl⟩) (by assumption) ?_
            try simp only [Act.put, List.setIfInBounds_toArray, List.set_cons_zero, List.set_cons_succ]
            refine heldTake (i := 19) (v := undef) rfl (by kernel_rfl) (by kernel_rfl) (by kernel_rfl) (fun _ _ _ h => h) (Or.inr ⟨by rfl, rfl⟩) (by assumption) ?_
            try simp only [Act.put, List.setIfInBounds_toArray, List.set_cons_zero, List.set_cons_succ]
            refine heldTake (i := 20) (v := ?_) rfl (by kernel_rfl) (by kernel_rfl) (by kernel_rfl) (fun _ _ _ h => h) (Or.inl ⟨by rfl, ?_⟩) (by assumption) ?_
            rotate_left
            · intro w hSw; (try dsimp only at hSw); go_simp <;> (with_reducible rfl)
            try simp only [Act.put, List.setIfInBounds_toArray, List.set_cons_zero, List.set_cons_succ]
            refine wpAnyH_done (by kernel_rfl) ?_ _
            go_wp2_with fail
            go_meet
            exact ⟨rfl, hide (HS_z3.out.cut 0)⟩
          · have hne : ((E : Int) != 0) = true := by simp; omega
            have hVV : V2 = V := HV2.out.symm.trans (setV_no (by rw [HE.out]; exact hE0))
            have HSM := hide (show decide (V2 = V) = true from decide_eq_true hVV)
            have HN2 := hide (show V2.length ≤ 96 by rw [hVV]; exact HN1.out)
            clear hVV
            refine wp_region_held_drew (S := (fun W => Below w.heap.size w W)) (by kernel_rfl) ?_ (fun hHeld => ?_)
            · exact HS_z2.out.drew.low
            have HS_d2 := hide HS_z2.out.drew
            refine heldTake (i := 0) (v := ?_) rfl (by kernel_rfl) (by kernel_rfl) (by kernel_rfl) (fun _ _ _ h => h) (Or.inl ⟨by rfl, ?_⟩) (by assumption) ?_
            rotate_left
            · intro w hSw; (try dsimp only at hSw); go_simp <;> (with_reducible rfl)
            try simp only [Act.put, List.setIfInBounds_toArray, List.set_cons_zero, List.set_cons_succ]
            refine heldTake (i := 1) (v := ?_) rfl (by kernel_rfl) (by kernel_rfl) (by kernel_rfl) (fun _ _ _ h => h) (Or.inl ⟨by rfl, ?_⟩) (by assumption) ?_
            rotate_left
            · intro w hSw; (try dsimp only at hSw); go_simp <;> (with_reducible rfl)
            try simp only [Act.put, List.setIfInBounds_toArray, List.set_cons_zero, List.set_cons_succ]
            refine heldTake (i := 2) (v := ?_) rfl (by kernel_rfl) (by kernel_rfl) (by kernel_rfl) (fun _ _ _ h => h) (Or.inl ⟨by rfl, ?_⟩) (by assumption) ?_
            rotate_left
            · intro w hSw; (try dsimp only at hSw); go_simp <;> (with_reducible rfl)
            try simp only [Act.put, List.setIfInBounds_toArray, List.set_cons_zero, List.set_cons_succ]
            refine heldTake (i := 3) (v := ?_) rfl (by kernel_rfl) (by kernel_rfl) (by kernel_rfl) (fun _ _ _ h => h) (Or.inl ⟨by rfl, ?_⟩) (by assumption) ?_
            rotate_left
            · intro w hSw; (try dsimp only at hSw); go_simp <;> (with_reducible rfl)
            try simp only [Act.put, List.setIfInBounds_toArray, List.set_cons_zero, List.set_cons_succ]
            refine heldTake (i := 4) (v := .slice Ai ni2 ci) rfl (by kernel_rfl) (by kernel_rfl) (by kernel_rfl) (fun _ _ _ h => h) (Or.inl ⟨by rfl, fun W hW => ?_⟩) (by assumption) ?_
            · dsimp only at hW
              have hc2 := HCI.out W hW
              go_simp <;> rfl
            try simp only [Act.put, List.setIfInBounds_toArray, List.set_cons_zero, List.set_cons_succ]
            refine heldTake (i := 5) (v := ?_) rfl (by kernel_rfl) (by kernel_rfl) (by kernel_rfl) (fun _ _ _ h => h) (Or.inl ⟨by rfl, ?_⟩) (by assumption) ?_
            rotate_left
            · intro w hSw; (try dsimp only at hSw); go_simp <;> (with_reducible rfl)
            try simp only [Act.put, List.setIfInBounds_toArray, List.set_cons_zero, List.set_cons_succ]
            refine heldTake (i := 6) (v := ?_) rfl (by kernel_rfl) (by kernel_rfl) (by kernel_rfl) (fun _ _ _ h => h) (Or.inl ⟨by rfl, ?_⟩) (by assumption) ?_
            rotate_left
            · intro w hSw; (try dsimp only at hSw); go_simp <;> (with_reducible rfl)
            try simp only [Act.put, List.setIfInBounds_toArray, List.set_cons_zero, List.set_cons_succ]
            refine heldTake (i := 7) (v := ?_) rfl (by kernel_rfl) (by kernel_rfl) (by kernel_rfl) (fun _ _ _ h => h) (Or.inl ⟨by rfl, ?_⟩) (by assumption) ?_
            rotate_left
            · intro w hSw; (try dsimp only at hSw); go_simp <;> (with_reducible rfl)
            try simp only [Act.put, List.setIfInBounds_toArray, List.set_cons_zero, List.set_cons_succ]
            refine heldTake (i := 8) (v := .slice Ai ni2 ci) rfl (by kernel_rfl) (by kernel_rfl) (by kernel_rfl) (fun _ _ _ h => h) (Or.inl ⟨by rfl, fun W hW => ?_⟩) (by assumption) ?_
            · dsimp only at hW
              have hc2 := HCI.out W hW
              go_simp <;> rfl
            try simp only [Act.put, List.setIfInBounds_toArray, List.set_cons_zero, List.set_cons_succ]
            refine heldTake (i := 9) (v := ?_) rfl (by kernel_rfl) (by kernel_rfl) (by kernel_rfl) (fun _ _ _ h => h) (Or.inl ⟨by rfl, ?_⟩) (by assumption) ?_
            rotate_left
            · intro w hSw; (try dsimp only at hSw); go_simp <;> (with_reducible rfl)
            try simp only [Act.put, List.setIfInBounds_toArray, List.set_cons_zero, List.set_cons_succ]
            refine heldTake (i := 10) (v := .int .i64 (mm : Int)) rfl (by kernel_rfl) (by kernel_rfl) (by kernel_rfl) (fun _ _ _ h => h) (Or.inl ⟨by rfl, fun W hW => ?_⟩) (by assumption) ?_
            · dsimp only at hW
              go_simp <;> (first | rfl | (rw [hmi]) | (simp [hmi]))
            try simp only [Act.put, List.setIfInBounds_toArray, List.set_cons_zero, List.set_cons_succ]
            refine heldTake (i := 11) (v := .slice Ai mm ci) rfl (by kernel_rfl) (by kernel_rfl) (by kernel_rfl) (fun _ _ _ h => h) (Or.inl ⟨by rfl, fun W hW => run_cutC W _ (.tmp 44) (.tmp 50) rfl Ai ni2 ci mm rfl rfl (by omega)⟩) (by assumption) ?_
            try simp only [Act.put, List.setIfInBounds_toArray, List.set_cons_zero, List.set_cons_succ]
            refine wpAnyH_ready (rs := [12]) (by kernel_rfl) (by simp) ?_
            refine heldCons (i := 12) rfl (fun Kq hKq => ?_) AllReadyH.nil
            go_simp
            go_at_call 12
            refine (HS_d2.out.set_ 0 rfl (HHD.out _ HS_d2.out.low)).mono ?_
            rintro _ z3 ⟨rfl, hsq⟩
            rw [HE.out]
            rw [HV2.out] at hsq
            have HS_z3 : Hid (Sta w z3 [vmT m V2] [(g0, 24, cs0)]) := hide hsq
            clear hsq
            first | (refine hKq.out _ _ HS_z3.out.low (fun hHeld => ?_)) | (go_wp2_with fail; refine hKq.out _ _ HS_z3.out.low (fun hHeld => ?_))
            clear hKq Kq
            try simp only [Act.put, List.setIfInBounds_toArray, List.set_cons_zero, List.set_cons_succ]
            refine heldTake (i := 13) (v := .bool true) rfl (by kernel_rfl) (by kernel_rfl) (by kernel_rfl) (fun _ _ _ h => h) (Or.inl ⟨by rfl, fun W hW => ?_⟩) (by assumption) ?_
            · dsimp only at hW
              go_simp <;> (first | rfl | simp [hne])
            try simp only [Act.put, List.setIfInBounds_toArray, List.set_cons_zero, List.set_cons_succ]
            refine heldTake (i := 14) (v := ?_) rfl (by kernel_rfl) (by kernel_rfl) (by kernel_rfl) (fun _ _ _ h => h) (Or.inl ⟨by rfl, ?_⟩) (by assumption) ?_
            rotate_left
            · intro w hSw; (try dsimp only at hSw); go_simp <;> (with_reducible rfl)
            try simp only [Act.put, List.setIfInBounds_toArray, List.set_cons_zero, List.set_cons_succ]
            refine heldTake (i := 15) (v := ?_) rfl (by kernel_rfl) (by kernel_rfl) (by kernel_rfl) (fun _ _ _ h => h) (Or.inl ⟨by rfl, ?_⟩) (by assumption) ?_
            rotate_left
            · intro w hSw; (try dsimp only at hSw); go_simp <;> (with_reducible rfl)
            try simp only [Act.put, List.setIfInBounds_toArray, List.set_cons_zero, List.set_cons_succ]
            refine heldTake (i := 17) (v := ?_) rfl (by kernel_rfl) (by kernel_rfl) (by kernel_rfl) (fun _ _ _ h => h) (Or.inl ⟨by rfl, ?_⟩) (by assumption) ?_
            rotate_left
            · intro w hSw; (try dsimp only at hSw); go_simp <;> (with_reducible rfl)
            try simp only [Act.put, List.setIfInBounds_toArray, List.set_cons_zero, List.set_cons_succ]
            refine wpAnyH_ready (rs := [16]) (by kernel_rfl) (by simp) ?_
            refine heldCons (i := 16) rfl (fun Kq hKq => ?_) AllReadyH.nil
            go_simp
            go_at_call 14
            refine (HS_z3.out.all_ 0 rfl).mono ?_
            rintro _ z4 ⟨g1, cg1, cs1, rfl, hcs, hsq⟩
            have HCS1 := hide hcs
            have HS_z4 : Hid (Sta w z4 [vmT m V2] [(g0, 24, cs0), (g1, 24, cs1)]) := hide hsq
            clear hcs hsq
            first | (refine hKq.out _ _ HS_z4.out.low (fun hHeld => ?_)) | (go_wp2_with fail; refine hKq.out _ _ HS_z4.out.low (fun hHeld => ?_))
            clear hKq Kq
            try simp only [Act.put, List.setIfInBounds_toArray, List.set_cons_zero, List.set_cons_succ]
            refine wpAnyH_ready (rs := [18]) (by kernel_rfl) (by simp) ?_
            refine heldCons (i := 18) rfl (fun Kq hKq => ?_) AllReadyH.nil
            go_simp
            go_at_call 15
            refine (wsame_any (V := V2) (L := V) (HS_z4.out.reads 1 rfl HCS1.out) (HS_z4.out.reads 0 rfl HCS0.out) (by have := HN2.out; omega) (by have := HN1.out; omega)).mono ?_
            rintro _ z5 ⟨rfl, hl5⟩
            rw [HSM.out]
            have HS_z5 := hide (HS_z4.out.later hl5)
            clear hl5
            first | (refine hKq.out _ _ HS_z5.out.low (fun hHeld => ?_)) | (go_wp2_with fail; refine hKq.out _ _ HS_z5.out.low (fun hHeld => ?_))
            clear hKq Kq
            try simp only [Act.put, List.setIfInBounds_toArray, List.set_cons_zero, List.set_cons_succ]
            refine heldTake (i := 19) (v := ?_) rfl (by kernel_rfl) (by kernel_rfl) (by kernel_rfl) (fun _ _ _ h => h) (Or.inl ⟨by rfl, ?_⟩) (by assumption) ?_
            rotate_left
            · intro w hSw; (try dsimp only at hSw); go_simp <;> (with_reducible rfl)
            try simp only [Act.put, List.setIfInBounds_toArray, List.set_cons_zero, List.set_cons_succ]
            refine heldTake (i := 20) (v := ?_) rfl (by kernel_rfl) (by kernel_rfl) (by kernel_rfl) (fun _ _ _ h => h) (Or.inl ⟨by rfl, ?_⟩) (by assumption) ?_
            rotate_left
            · intro w hSw; (try dsimp only at hSw); go_simp <;> (with_reducible rfl)
            try simp only [Act.put, List.setIfInBounds_toArray, List.set_cons_zero, List.set_cons_succ]
            refine wpAnyH_done (by kernel_rfl) ?_ _
            go_wp2_with fail
            go_meet
            exact ⟨rfl, hide (HS_z5.out.cut 0)⟩
        obtain ⟨rfl, HS_z6⟩ := hcut
        obtain ⟨z6, hz6⟩ : ∃ z, z = wc := ⟨_, rfl⟩
        subst hz6
        have HOK2 := hide (HS_z6.out.okV 0 rfl)
        obtain ⟨N, hN⟩ : ∃ N, V2.length = N := ⟨_, rfl⟩
        have h1 := HOK2.out.one
        have h96 := HOK2.out.few
        rw [hN] at h1 h96
        have HN := hide hN
        have HDD := hide (show (!decide (Dis V2)) = false by rw [decide_eq_true HOK2.out.dis]; rfl)
        clear hN hmi hm1 hm2
        go_wp2_with (first
          | (go_at_call 14; refine (HS_z6.out.all_ 0 rfl).mono ?_; rintro _ z7 ⟨g, cg, cs, rfl, hcs, hsq⟩; have HCS := hide hcs; have HS_z7 : Hid (Sta w z7 [vmT m V2] [(g, 24, cs)]) := hide hsq; clear hcs hsq; rw [HN.out])
          | (go_at_call 24; refine (twice_any (V := V2) (by have h8 := HS_z7.out.reads 0 rfl HCS.out; rw [HN.out] at h8; exact h8) (by omega)).mono ?_; rintro _ z8 ⟨rfl, hl8⟩; rw [HDD.out]; have HS_z8 : Hid (Sta w z8 [vmT m V2] [(g, 24, cs)]) := hide (HS_z7.out.later hl8); clear hl8))
        go_loopw [11, 12, 13, 14, 15, 16, 17, 18] (fun s11 _ _ _ _ _ _ _ wr => ∃ b : Nat, b ≤ N ∧ s11 = .int .i64 (b : Int) ∧ Hid (Sta w wr [vmT m V2] [(g, 24, cs)])) (fun s11 _ _ _ _ _ _ _ _ => N - (intOf s11).toNat)
        case atStart => exact ⟨0, Nat.zero_le _, rfl, HS_z8⟩
        case round =>
          obtain ⟨b, hb, rfl, HS_a1⟩ := hrel
          obtain ⟨a1, rfl⟩ : ∃ z, z = wr := ⟨_, rfl⟩
          by_cases hbN : b < N
          · obtain ⟨q, hq⟩ : ∃ q, V2[b]? = some q := ⟨_, List.getElem?_eq_getElem (by rw [HN.out]; exact hbN)⟩
            have HQ := hide hq
            have HAW := hide (atW_in1 hq)
            have HAE := hide (atE_in (V := V2) (b := b) (by rw [HN.out]; exact hbN))
            have HQF := hide (Wh.ok_fits (HOK2.out.ok q (List.mem_of_getElem? hq)))
            have hbb : (b : Int) < (N : Int) := by omega
            clear hq
            go_upto_region 19 with (first
              | (go_at_call 16; refine (HS_a1.out.at_ 0 rfl (b : Int)).mono ?_; rintro _ y41 ⟨rfl, hsq⟩; rw [HAW.out, HAE.out]; have HS_y41 : Hid (Sta w y41 [vmT m V2] [(g, 24, cs)]) := hide hsq; clear hsq)
              | ((with_reducible refine at_slot 12 ?_); refine wpList_alloc_blk rfl 24 rfl _ (wh_zero _) ?_; intro y42 hbq hl1 hs1; clear hs1)
              | ((with_reducible refine at_store 12 ?_); refine wpList_store_all rfl 24 (.tmp 12) (.tmp 76) rfl y41.heap.size 24 _ hbq rfl (whC q) rfl (wh_info _) rfl (wh_one _) ?_; intro y43 hbz hg hs; have HS_y43 : Hid (Sta w y43 [vmT m V2] [(g, 24, cs), (y41.heap.size, 24, whC q)]) := hide (HS_y41.out.new hl1 hg hbz); clear hs hbq hl1 hg hbz))
            obtain ⟨ad9, hA9, _, hcell, _, _⟩ := wh_at (HS_y43.out.reads 0 rfl HCS.out) HQ.out
            injection hA9 with hA9
            subst hA9
            rw [add0] at hcell
            have HCL := hide hcell
            have HDX := hide HS_y43.out.drew
            clear hcell
            refine wp_region_held_drew (S := (fun W => W = y43.drew)) (by kernel_rfl) ?_ (fun hHeld => ?_)
            · exact rfl
            refine heldTake (i := 0) (v := ?_) rfl (by kernel_rfl) (by kernel_rfl) (by kernel_rfl) (fun _ _ _ h => h) (Or.inl ⟨by rfl, ?_⟩) (by assumption) ?_
            rotate_left
            · intro w hSw; (try dsimp only at hSw); go_simp <;> (with_reducible rfl)
            try simp only [Act.put, List.setIfInBounds_toArray, List.set_cons_zero, List.set_cons_succ]
            refine heldTake (i := 1) (v := ?_) rfl (by kernel_rfl) (by kernel_rfl) (by kernel_rfl) (fun _ _ _ h => h) (Or.inl ⟨by rfl, ?_⟩) (by assumption) ?_
            rotate_left
            · intro w hSw; (try dsimp only at hSw); go_simp <;> (with_reducible rfl)
            try simp only [Act.put, List.setIfInBounds_toArray, List.set_cons_zero, List.set_cons_succ]
            refine heldTake (i := 2) (v := ?_) rfl (by kernel_rfl) (by kernel_rfl) (by kernel_rfl) (fun _ _ _ h => h) (Or.inl ⟨by rfl, ?_⟩) (by assumption) ?_
            rotate_left
            · intro w hSw; (try dsimp only at hSw); go_simp <;> (with_reducible rfl)
            try simp only [Act.put, List.setIfInBounds_toArray, List.set_cons_zero, List.set_cons_succ]
            refine heldTake (i := 3) (v := .agg (whC q).toArray) rfl (by kernel_rfl) (by kernel_rfl) (by kernel_rfl) (fun _ _ _ h => h) (Or.inl ⟨by rfl, fun W hW => ?_⟩) (by assumption) ?_
            · dsimp only at hW
              subst hW
              exact run_load_wh _ _ (.tmp 12) rfl ⟨y41.heap.size, 0, none⟩ q (blk_at (w := y43.drew) (cs := whC q) (HS_y43.out.own.blk 1 rfl)) rfl
            try simp only [Act.put, List.setIfInBounds_toArray, List.set_cons_zero, List.set_cons_succ]
            refine heldTake (i := 4) (v := ?_) rfl (by kernel_rfl) (by kernel_rfl) (by kernel_rfl) (fun _ _ _ h => h) (Or.inl ⟨by rfl, ?_⟩) (by assumption) ?_
            rotate_left
            · intro w hSw; (try dsimp only at hSw); go_simp <;> (with_reducible rfl)
            try simp only [Act.put, List.setIfInBounds_toArray, List.set_cons_zero, List.set_cons_succ]
            refine heldTake (i := 5) (v := ?_) rfl (by kernel_rfl) (by kernel_rfl) (by kernel_rfl) (fun _ _ _ h => h) (Or.inl ⟨by rfl, ?_⟩) (by assumption) ?_
            rotate_left
            · intro w hSw; (try dsimp only at hSw); go_simp <;> (with_reducible rfl)
            try simp only [Act.put, List.setIfInBounds_toArray, List.set_cons_zero, List.set_cons_succ]
            refine heldTake (i := 6) (v := ?_) rfl (by kernel_rfl) (by kernel_rfl) (by kernel_rfl) (fun _ _ _ h => h) (Or.inl ⟨by rfl, ?_⟩) (by assumption) ?_
            rotate_left
            · intro w hSw; (try dsimp only at hSw); go_simp <;> (with_reducible rfl)
            try simp only [Act.put, List.setIfInBounds_toArray, List.set_cons_zero, List.set_cons_succ]
            refine heldTake (i := 7) (v := .agg (whC q).toArray) rfl (by kernel_rfl) (by kernel_rfl) (by kernel_rfl) (fun _ _ _ h => h) (Or.inl ⟨by rfl, fun W hW => ?_⟩) (by assumption) ?_
            · dsimp only at hW
              subst hW
              exact run_load_wh _ _ (.tmp 84) rfl ⟨g, b * 3, none⟩ q HCL.out rfl
            try simp only [Act.put, List.setIfInBounds_toArray, List.set_cons_zero, List.set_cons_succ]
            refine heldTake (i := 8) (v := .bool false) rfl (by kernel_rfl) (by kernel_rfl) (by kernel_rfl) (fun _ _ _ h => h) (Or.inl ⟨by rfl, fun W hW => ?_⟩) (by assumption) ?_
            · dsimp only at hW
              subst hW
              exact run_neW _ _ (.tmp 81) (.tmp 85) _ rfl q q rfl rfl false (by simp)
            try simp only [Act.put, List.setIfInBounds_toArray, List.set_cons_zero, List.set_cons_succ]
            refine heldTake (i := 9) (v := ?_) rfl (by kernel_rfl) (by kernel_rfl) (by kernel_rfl) (fun _ _ _ h => h) (Or.inl ⟨by rfl, ?_⟩) (by assumption) ?_
            rotate_left
            · intro w hSw; (try dsimp only at hSw); go_simp <;> (with_reducible rfl)
            try simp only [Act.put, List.setIfInBounds_toArray, List.set_cons_zero, List.set_cons_succ]
            refine wpAnyH_done (by kernel_rfl) ?_ _
            have c0 : y43.drew.cell? ⟨y41.heap.size, 0, none⟩ = some (.int .i64 q.t) := (HDX.out.own.blk 1 rfl).cell 0
            have c1 : y43.drew.cell? ⟨y41.heap.size, 1, none⟩ = some (.int .i64 q.g) := (HDX.out.own.blk 1 rfl).cell 1
            obtain ⟨d1, hd1⟩ : ∃ d, d = y43.drew := ⟨_, rfl⟩
            rw [← hd1] at HDX c0 c1 ⊢
            clear hd1 HCL
            by_cases ht : q.t = 0
            · have hne : (q.t == 0) = true := by simpa using ht
              clear ht
              go_wp2_with fail
              go_roundw
              case rel => exact ⟨b + 1, by omega, by go_num, hide (HDX.out.cut 1)⟩
              case measure => simp [intOf]; omega
            · have hne : (q.t == 0) = false := by simpa using ht
              have HHO := hide (hold_at HOK2.out.dis HQ.out ht)
              have HMEM := hide (show (b : Int) ∈ inZ V2 q.g N by rw [← HN.out]; exact inZ_mem HQ.out ht)
              clear ht
              go_upto_block 4 with (first
                | ((with_reducible refine at_slot 93 ?_); refine when_loadW rfl (.tmp 12) rfl ⟨y41.heap.size, 0, none⟩ (q) (blk_at (cs := whC (q)) (HDX.out.own.blk 1 rfl)) rfl ?_)
                | (go_at_call 18; refine (HDX.out.holder 0 rfl q HQF.out).mono ?_; rintro _ y44 ⟨rfl, hsq⟩; rw [HHO.out]; have HS_y44 : Hid (Sta w y44 [vmT m V2] [(g, 24, cs), (y41.heap.size, 24, whC q)]) := hide hsq; clear hsq; have c1_y44 : y44.cell? ⟨y41.heap.size, 1, none⟩ = some (.int .i64 q.g) := (HS_y44.out.own.blk 1 rfl).cell 1)
                | (go_at_call 21; refine (HS_y44.out.in_ 0 rfl q.g).mono ?_; rintro _ y45 ⟨A5, c5, rfl, hr5, hsq, hl5⟩; rw [HN.out] at hr5 ⊢; have HR5 := hide hr5; clear hr5 hl5; have HS_y45 : Hid (Sta w y45 [vmT m V2] [(g, 24, cs), (y41.heap.size, 24, whC q)]) := hide hsq; clear hsq))
              obtain ⟨M, hM⟩ : ∃ M, (inZ V2 q.g N).length = M := ⟨_, rfl⟩
              have hMN : M ≤ N := by rw [← hM]; exact inZ_len V2 q.g N
              rw [hM] at HR5 ⊢
              have HM := hide hM
              clear hM
              obtain ⟨Z, hZ⟩ : ∃ Z, Z = inZ V2 q.g N := ⟨_, rfl⟩
              rw [← hZ] at HR5 HMEM HM
              clear hZ
              go_wp2_with fail
              go_loopw [16, 18] (fun s16 s18 wr => ∃ (k : Nat) (x : Bool), k ≤ M ∧ s18 = .int .i64 (k : Int) ∧ s16 = .bool x ∧ Hid (x = decide ((b : Int) ∈ Z.take k)) ∧ Hid (y45 = wr)) (fun _ s18 _ => M - (intOf s18).toNat)
              case atStart => exact ⟨0, false, Nat.zero_le _, rfl, rfl, hide (by simp), (by first | exact hide rfl | exact hide trivial)⟩
              case round =>
                obtain ⟨k, x, hk, rfl, rfl, HXK, HW⟩ := hrel
                obtain rfl := HW.out
                clear HW
                by_cases hkM : k < M
                · obtain ⟨ad8, v, hA8, _, hv, hcv⟩ := HR5.out.i64_at hkM
                  subst hA8
                  have HNX := hide (mem_take_next (b := (b : Int)) hv)
                  have hkk : (k : Int) < (M : Int) := by omega
                  clear hv
                  cases x with
                  | true =>
                    have HX2 := hide (show true = decide ((b : Int) ∈ Z.take (k + 1)) by rw [HNX.out, ← HXK.out]; rfl)
                    go_wp2
                    go_roundw
                    case rel => exact ⟨k + 1, true, by omega, by go_num, rfl, HX2, (by first | exact hide rfl | exact hide trivial)⟩
                    case measure => simp [intOf]; omega
                  | false =>
                    by_cases hvb : v = (b : Int)
                    · have hve : (v == (b : Int)) = true := by simpa using hvb
                      have HX2 := hide (show true = decide ((b : Int) ∈ Z.take (k + 1)) by rw [HNX.out, ← HXK.out, hve]; rfl)
                      clear hvb
                      go_wp2
                      go_roundw
                      case rel => exact ⟨k + 1, true, by omega, by go_num, rfl, HX2, (by first | exact hide rfl | exact hide trivial)⟩
                      case measure => simp [intOf]; omega
                    · have hve : (v == (b : Int)) = false := by simpa using hvb
                      have HX2 := hide (show false = decide ((b : Int) ∈ Z.take (k + 1)) by rw [HNX.out, ← HXK.out, hve]; rfl)
                      clear hvb
                      go_wp2
                      go_roundw
                      case rel => exact ⟨k + 1, false, by omega, by go_num, rfl, HX2, (by first | exact hide rfl | exact hide trivial)⟩
                      case measure => simp [intOf]; omega
                · obtain rfl : k = M := by omega
                  obtain rfl : x = true := by
                    have h8 := HXK.out
                    rw [List.take_of_length_le (by rw [HM.out]; exact Nat.le_refl _)] at h8
                    rw [h8]
                    exact decide_eq_true HMEM.out
                  go_wp2_with fail
                  go_roundw
                  case rel => exact ⟨b + 1, by omega, by go_num, hide (HS_y45.out.cut 1)⟩
                  case measure => simp [intOf]; omega
          · obtain rfl : b = N := by omega
            go_wp2_with fail
            go_roundw
            case rel => exact ⟨i + 1, V2, by go_num, by omega, hide (HS_a1.out.cut 0)⟩
            case measure => simp [intOf]; omega
      · have hd : decide ((i : Int) < 40) = false := by simpa using h40
        go_wp2_with fail
        go_ret
        exact ⟨rfl, HS_z1.out.low⟩
    · have hd : decide ((i : Int) < (n : Int)) = false := by simpa using hin
      go_wp2_with fail
      go_ret
      exact ⟨rfl, HS_z1.out.low⟩
#print axioms vmapOne_walk
end Go.Proofs.Ytfjgpnjhmfcpiaa
