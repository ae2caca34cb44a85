/- What Add of the reference's map does where a member is added. -/
import Derived.Test.YtmaiikmgpeafkabDoorRefAM
namespace Go.Proofs.YtmaiikmgpeafkabDoor
open Go.RowKit

theorem refMember_info : ∃ i, Tryd.prog.info? 50 = some i ∧ i.zero = some (.agg #[.int .i64 0, .slice none 0 0]) ∧ i.size = 2 ∧ i.bytes = 32 := ⟨(Tryd.prog.info? 50).get (by kernel_rfl), by kernel_rfl, by kernel_rfl, by kernel_rfl, by kernel_rfl⟩
theorem refMember_zero (w : World) : (zeroValue 50).run Tryd.prog w = .ok (.agg #[.int .i64 0, .slice none 0 0]) w := by kernel_rfl
section
variable {w : World} {r : Nat} {vm : Value} {vt : Nat → Value} {S : Ext}
set_option maxRecDepth 100000 in
set_option maxHeartbeats 4000000 in
theorem refAdd_yes (h : RefE w r vm vt S) (hok : S.Ok) (d : Nat) (s : Int) (h0 : 0 ≤ s) (h1 : s ≤ 4096) (g2 : d < 9223372036854775808) (hd : d ∉ S.ks) :
    Calls Tryd.prog 17 #[.pointer (some ⟨r, 0, none⟩), .int .i64 (d : Int), .int .i64 s] w fun e w' => e = .returned (.int .i64 0) ∧ ∃ vm' vt', RefE w' r vm' vt' (S.add d (countZ s)) ∧ Turn (RFootE r vm vt S) w w' ∧ ∀ y, RFootE r vm' vt' (S.add d (countZ s)) y → RFootE r vm vt S y ∨ (w.heap.size ≤ y ∧ y < w'.heap.size) := by
  have HAT := hide (refAt_any h hok (d : Int) (by omega) (by omega))
  have hin : inE S (d : Int) = false := by simp [inE, hd]
  rw [atE_out hin] at HAT
  have e1 : decide ((d : Int) < 0) = false := by simp
  have e2 : decide (s < 0) = false := by simp; omega
  have e3 : decide (4096 < s) = false := by simp; omega
  have hcl := countZ_le h1
  obtain ⟨n, hn⟩ : ∃ n, n = countZ s := ⟨_, rfl⟩
  have HCN : Hid (∀ w1 : World, Calls Tryd.prog 34 #[.int .i64 s] w1 fun e w' => e = .returned (.int .i64 (n : Int)) ∧ w1 = w') := hide (fun w1 => by rw [hn]; exact refCount_any s (by omega) (by omega))
  rw [← hn] at hcl ⊢
  have hf := hok.few
  have HH := hide h
  have HD := hide hd
  have k0 := h.c0
  have k0d : w.drew.cell? ⟨r, 0, none⟩ = some vm := k0
  obtain ⟨ib, hb0, hb1, hb2, hb3⟩ := info_parts bool_info
  obtain ⟨wm, hwm⟩ : ∃ wm, wm = w.drew.alloc (.cells (BL n (fun _ => false)).toArray 4) := ⟨_, rfl⟩
  have hmk : (Instr.makeSlice 48 (.int .i64 (n : Int)) (.int .i64 (n : Int))).run Tryd.prog w.drew = .ok (.slice (some ⟨w.heap.size, 0, none⟩) n n) wm := by
    rw [hwm]
    exact run_make_list w.drew _ _ ib _ Tryd.underlying48 hb0 hb1 hb2 rfl n _ (BL_none n) (by rw [hb3]; omega) (by omega)
  have HWM := hide hwm
  have hzm : wm.heap.size = w.heap.size + 1 := by rw [hwm]; exact World.size_alloc _ _
  have hbm : Below w.heap.size w wm := by rw [hwm]; exact ((Below.refl _ w).drew).alloc (Nat.le_refl _) _
  have c01 : wm.cell? ⟨r, 0, none⟩ = some vm := (hbm.cell h.head.lt).trans k0
  have c02 : ∀ o, (wm.alloc o).cell? ⟨r, 0, none⟩ = some vm := fun o => (World.cell?_alloc_lt wm o _ (Nat.lt_of_lt_of_le h.head.lt hbm.size)).trans c01
  have HROW := hide (fun o => (own_later h.row hbm).alloc o)
  have HRV : Hid (vm.ownBlock ≠ some r) := hide (kind_blk_ne h.row h.head (by decide))
  have HR0 := hide h.head.lt
  have HZM := hide hzm
  have HBM := hide hbm
  obtain ⟨i0, hi0, hzz, hz3, hz4⟩ := refMember_info
  have hzero := refMember_zero
  have HI0 := hide hi0
  have HZZ := hide hzz
  have HZ3 := hide hz3
  have HZ4 := hide hz4
  have HBD : Hid (S.ks.length + 1 ≤ maxLen ∧ (S.ks.length + 1) * 32 ≤ 140737488355328) := hide (by simp only [maxLen]; omega)
  have HN497 := hide hcl
  clear h hd hin hn hwm hzm hbm hi0 hzz hz3 hz4 hb0 hb1 hb2 hb3 hcl hf h0 h1
  go_enter Tryd.func17, Tryd.ntmps17
  go_wp2_with (first
    | (go_at_call 33; refine HAT.out.mono ?_; rintro _ _ ⟨rfl, rfl⟩))
  go_region_law (first
    | (go_simp; go_at_call 34; refine (HCN.out _).mono ?_; rintro _ _ ⟨rfl, rfl⟩)
    | (refine step_append_lies _ rfl (.tmp 25) (.tmp 31) 45 rfl 0 50 i0 _ 2 32 Tryd.underlying45 HI0.out HZZ.out HZ3.out HZ4.out rfl (by decide) _ _ _ rfl (HROW.out (.cells #[.int .i64 (d : Int), .slice (some ⟨w.heap.size, 0, none⟩) n n] 50)) ⟨wm.heap.size, 0, none⟩ 1 1 [.int .i64 (d : Int), .slice (some ⟨w.heap.size, 0, none⟩) n n] rfl rfl (World.news_of_block (Blk.new wm 50 #[.int .i64 (d : Int), .slice (some ⟨w.heap.size, 0, none⟩) n n])) (by intro u hu; simp at hu; rcases hu with rfl | rfl <;> rfl) (by decide) HBD.out.1 HBD.out.2 (Nat.zero_le _) _ rfl ?_; intro g5 cap5 w5 hown5 hg5 hat5 hgl5; have hB5 : Blk w5 r 47 _ := HH.out.head.of_block ((hg5.block r (by rw [World.size_alloc]; have := HR0.out; have := HZM.out; omega) (fun e => HRV.out e.symm)).trans ((HBM.out.trans ((Below.refl _ wm).alloc (by have := HZM.out; omega) _)).block r HR0.out)); have c05 : w5.cell? ⟨r, 0, none⟩ = some vm := hB5.cell 0; have f05 := hB5.frozen 0; have HOWN5 := hide hown5; have HG5 := hide hg5; have HAT5 := hide hat5; clear hown5 hg5 hat5))
  all_goals
    obtain ⟨q1, q2, q3⟩ := radd_made HH.out HD.out HN497.out HWM.out HOWN5.out HG5.out HAT5.out
    have HQ1 := hide q1
    have HQ2 := hide q2
    have HQ3 := hide q3
    clear q1 q2 q3
    go_wp2
    go_ret
    exact ⟨rfl, _, _, HQ1.out, HQ2.out, HQ3.out⟩
end
#print axioms refAdd_yes
end Go.Proofs.YtmaiikmgpeafkabDoor
