/- Both tables tell the same. -/
import Derived.Test.YtgoglgghnjgcdaaUrX
namespace Go.Proofs.Ytgoglgghnjgcdaa
open Go.RowKit Go.Maps

theorem numbers_same (A1 A2 : Option Addr) (n1 n2 c1 c2 : Nat) (l : List Int) (B : Nat) (w : World) (h1 : Reads w B 1 A1 n1 (I64 l)) (h2 : Reads w B 1 A2 n2 (I64 l)) (hn1 : n1 ≤ maxLen) (hn2 : n2 ≤ maxLen) :
    Calls Try.prog 23 #[.slice A1 n1 c1, .slice A2 n2 c2] w fun e w' => e = .returned (.bool true) ∧ ∃ q, w' = w.drewN q :=
  (numbers_any A1 A2 n1 n2 c1 c2 l l B w h1 h2 hn1 hn2).mono fun _ _ ⟨q1, q2⟩ => ⟨q1.trans (ret_bool (by simp)), q2⟩
theorem run_pair (w : World) (a b : Int) : (Instr.buildSlice 32 2 #[(0, .int .i64 a), (1, .int .i64 b)]).run Try.prog w = .ok (.slice (some ⟨w.heap.size, 0, none⟩) 2 2) (w.alloc (.cells #[.int .i64 a, .int .i64 b] 3)) := by kernel_rfl
section
variable {ops : Array Oper} {rest : List Oper} {o : Oper} {a : Act} {w : World} {Q : Exit → Act → World → Prop}
theorem wpList_pair (hgd : o.guard = none) (x y : Operand) (hop : o.op = .buildSlice 32 2 #[(0, x), (1, y)]) (p q : Int) (hx : a.eval x = .int .i64 p) (hy : a.eval y = .int .i64 q)
    (hK : ∀ w', Blk w' w.heap.size 3 #[.int .i64 p, .int .i64 q] → Below w.heap.size w w' → w'.heap.size = w.heap.size + 1 → wpList Try.prog ops Q rest (a.put o.dst (.slice (some ⟨w.heap.size, 0, none⟩) 2 2)) w') : wpList Try.prog ops Q (o :: rest) a w :=
  wpList_plain hgd fun _ hK' => by
    have hrun := run_pair w p q
    unfold Oper.wp
    simp [execOp, hop, hx, hy, hrun, Result.andThen]
    exact hK' _ _ (hK _ (Blk.new _ _ _) ((Below.refl _ _).alloc (Nat.le_refl _) _) (World.size_alloc _ _))
end
theorem reads_pair {w : World} {b : Nat} {t : TypeId} {p q : Int} (h : Blk w b t #[.int .i64 p, .int .i64 q]) : Reads w w.heap.size 1 (some ⟨b, 0, none⟩) 2 (I64 [p, q]) := by
  refine ⟨rfl, fun _ => ⟨_, rfl, h.lt, fun j u hu => ?_⟩⟩
  rcases j with _ | _ | j
  · exact (h.cell 0).trans hu
  · exact (h.cell 1).trans hu
  · simp [I64] at hu
theorem below_dq {B : Nat} {a w : World} (h : Below B a w) (q : Nat) : Below B a (w.drewN q) := ⟨h.os, h.tape, h.output, h.size, h.block⟩
section
variable {w0 w : World} {t lo r m : Nat} {S : Us} {AG AL : Option Addr} {cG cL : Nat}
theorem row_ok (h : S.Ok) {g : Int} (hg : okI64 g) : ∀ v ∈ S.groups ++ [g, -1], okI64 v := by
  intro v hv
  rcases List.mem_append.1 hv with hv | hv
  · obtain ⟨e, he, rfl⟩ := groups_mem.1 hv
    have h1 := h.gs e he
    unfold okI64
    omega
  · simp only [List.mem_cons, List.not_mem_nil, or_false] at hv
    rcases hv with rfl | rfl
    · exact hg
    · simp [okI64]
set_option maxRecDepth 100000 in
set_option maxHeartbeats 8000000 in
theorem same14_any (h : Tbl w0 w t lo m S) (hr : RefRd w r AG cG AL cL S) (k g s b n : Int) (hg : okI64 g) (hs : okI64 s) :
    Calls Try.prog 15 #[.pointer (some ⟨t, 0, none⟩), .pointer (some ⟨r, 0, none⟩), .agg #[.int .i64 k, .int .i64 g, .int .i64 s, .int .i64 b, .int .i64 n]] w fun e w' => e = .returned (.bool true) ∧ Below w.heap.size w w' := by
  obtain ⟨i0, hi0, hz0, hz1i, hz2i⟩ := info_parts usg_int_parts
  have HI := hide (And.intro hi0 (And.intro hz0 (And.intro hz1i hz2i)))
  have hgl : S.G.length < 1000000 := by have := h.gs; have := h.few; omega
  have hll : S.L.length < 1000000 := by have := h.ls; have := h.few; omega
  have hgn : S.groups.length < 1000000 := by rw [S.groups_len]; exact hgl
  obtain ⟨wB, hwB⟩ : ∃ x, x = w.alloc (.cells #[.int .i64 k, .int .i64 g, .int .i64 s, .int .i64 b, .int .i64 n] 29) := ⟨_, rfl⟩
  obtain ⟨ob, hob⟩ : ∃ x, x = w.heap.size := ⟨_, rfl⟩
  have kB : Blk wB ob 29 #[.int .i64 k, .int .i64 g, .int .i64 s, .int .i64 b, .int .i64 n] := by rw [hwB, hob]; exact Blk.new _ _ _
  have lB : Below w.heap.size w wB := by rw [hwB]; exact (Below.refl _ w).alloc (Nat.le_refl _) _
  have HT : Hid (∀ W, Below w.heap.size w W → Tbl w0 W t lo m S) := hide fun W hb => h.later hb
  have HR : Hid (∀ W, Below w.heap.size w W → RefRd W r AG cG AL cL S) := hide fun W hb => hr.later hb
  have HOK := hide (And.intro h.ok (And.intro hgl hll))
  have HROW := hide (row_ok h.ok hg)
  have HG := hide hg
  have HSS := hide hs
  obtain ⟨gl, hgle⟩ : ∃ x, x = S.groups.length := ⟨_, rfl⟩
  have HGL := hide hgle
  have hgl6 : gl < 1000000 := by omega
  have HKB := hide kB
  have HE4 : Hid (w.alloc (.cells #[.int .i64 k, .int .i64 g, .int .i64 s, .int .i64 b, .int .i64 n] 29) = wB) := hide hwB.symm
  have HO : Hid (w.heap.size = ob) := hide hob.symm
  clear h hr hg hs hgl hll hgn hi0 hz0 hz1i hz2i hgle kB hob hwB
  go_enter Try.func15, Try.ntmps15
  go_upto_region 1 with fail
  rw [HE4.out, HO.out]
  clear HE4
  go_upto_region 6 with (first
    | (go_at_call 37; refine (rgroups_any (HR.out _ lB) HOK.out.1 HOK.out.2.1).mono ?_; rw [← HGL.out]; rintro _ w1 ⟨v1, rfl, ho1, hl1⟩; obtain ⟨A1, c1, rfl, _, hc1⟩ := own_shape ho1; have hL1 : Below w.heap.size w w1 := lB.trans (hl1.mono lB.size); have HO1 := hide ho1; clear ho1)
    | (go_at_call 27; refine (HT.out w1 hL1).groups_.mono ?_; rw [← HGL.out]; rintro _ w2 ⟨v2, rfl, ho2, _, hl2⟩; obtain ⟨A2, c2, rfl, _, hc2⟩ := own_shape ho2; have hL2 : Below w.heap.size w w2 := hL1.trans (hl2.mono hL1.size); have HO2 := hide ho2; have HO3 := hide (own_later HO1.out hl2); clear ho2)
    | (go_at_call 23; refine (numbers_same _ _ _ _ _ _ S.groups _ w2 (own_reads HO3.out) (own_reads HO2.out) (by simp only [maxLen]; omega) (by simp only [maxLen]; omega)).mono ?_; rintro _ _ ⟨rfl, q2, rfl⟩))
  obtain ⟨w3, hw3⟩ : ∃ x, x = w2.drewN q2 := ⟨_, rfl⟩
  rw [← hw3]
  have hL3 : Below w.heap.size w w3 := by rw [hw3]; exact below_dq hL2 q2
  have hb3 : Below wB.heap.size wB w3 := by rw [hw3]; exact below_dq (hl1.trans (hl2.mono hl1.size)) q2
  have HO4 : Hid (w3.ownsRow wB.heap.size 3 1 (.slice A1 gl c1) gl (I64 S.groups)) := hide (by rw [hw3]; exact own_later HO3.out (below_dq (Below.refl _ w2) q2))
  have hz3 := hb3.size
  have hq1 : w3.cell? ⟨ob, 1, none⟩ = some (.int .i64 g) := (HKB.out.below hb3 HKB.out.lt).cell 1
  clear HO1 HO2 HO3 hw3 hL1 hL2 hl1 hl2
  go_upto_block 0 with (first
    | (refine wpList_pair rfl (.tmp 42) (.const (.int .i64 (-1))) rfl g (-1) rfl rfl ?_; intro w4 hp4 hl4 hs4; have HP4 := hide (reads_pair hp4); have HO5 := hide (own_later HO4.out hl4); have hz4 := hl4.size; clear hp4)
    | ((with_reducible refine at_slot 44 ?_); refine wpList_append_any _ rfl (.tmp 40) (.tmp 43) _ rfl wB.heap.size 3 i0 _ 1 8 Try.underlying32 HI.out.1 HI.out.2.1 HI.out.2.2.1 HI.out.2.2.2 rfl (by decide) _ gl _ rfl HO5.out w4.heap.size (some ⟨w3.heap.size, 0, none⟩) 2 2 (I64 [g, -1]) rfl HP4.out (by intro x hx; simp [I64] at hx; rcases hx with rfl | rfl <;> rfl) (by simp only [maxLen]; omega) (by omega) (by omega) ?_; intro v5 w5 ho5 hl5; obtain ⟨A5, c5, rfl, hn5, hc5⟩ := own_shape ho5))
  have hb5 : Below wB.heap.size wB w5 := (hb3.trans (hl4.mono hz3)).trans hl5
  have hL5 : Below w.heap.size w w5 := lB.trans (hb5.mono lB.size)
  rw [← I64_append] at ho5
  have HRW : Hid (∀ W, Below w5.heap.size w5 W → Reads W W.heap.size 1 A5 (gl + 2) (I64 (S.groups ++ [g, -1]))) := hide fun W hb => own_reads (own_later ho5 hb)
  have HQ : Hid (∀ W, Below w5.heap.size w5 W → W.cell? ⟨ob, 1, none⟩ = some (.int .i64 g) ∧ W.cell? ⟨ob, 2, none⟩ = some (.int .i64 s)) := hide fun W hb => by
    have hk := HKB.out.below (hb5.trans (hb.mono hb5.size)) HKB.out.lt
    exact ⟨hk.cell 1, hk.cell 2⟩
  have HLT : Hid (∀ W, Below w5.heap.size w5 W → Below w.heap.size w W) := hide fun W hb => hL5.trans (hb.mono hL5.size)
  clear HO4 HO5 HP4 hb3 hz3 hz4 hl4 hl5 ho5 hq1 hL3 hb5 hL5 lB hs4
  obtain ⟨n5, hn5e⟩ : ∃ x, x = gl + 2 := ⟨_, rfl⟩
  rw [← hn5e] at HRW hn5 ⊢
  have hn5b : n5 < 1000002 := by omega
  clear hn5e hgl6 HGL hn5
  go_cut [10, 11, 12, 13, 14, 15] (fun _ _ _ _ _ _ wx => Hid (Below w5.heap.size w5 wx))
  case first =>
    go_wp2_with fail
    go_loopw [10, 11, 12, 13, 14, 15] (fun s10 _ _ _ _ _ wr => ∃ j : Nat, s10 = .int .i64 (j : Int) ∧ j ≤ n5 ∧ Hid (Below w5.heap.size w5 wr)) (fun s10 _ _ _ _ _ _ => n5 - (intOf s10).toNat)
    case atStart => exact ⟨0, rfl, Nat.zero_le _, hide (Below.refl _ _)⟩
    case round =>
      obtain ⟨j, rfl, hj, HBr⟩ := hrel
      obtain ⟨wz, rfl⟩ : ∃ wz, wz = wr := ⟨_, rfl⟩
      by_cases hjn : j < n5
      · have hjn' : decide ((j : Int) < (n5 : Int)) = true := by simp; omega
        obtain ⟨ad, x, hA, hab, hx, hcell⟩ := (HRW.out wz HBr.out).i64_at hjn
        subst hA
        have hok := HROW.out x (List.mem_of_getElem? hx)
        have HX := hide hok
        have HS : Hid (∀ W, Below wz.heap.size wz W → W.cell? (ad.add j) = some (.int .i64 x)) := hide fun W hb => (hb.cell (by rw [block_of_add]; exact hab)).trans hcell
        have HBW := hide (HLT.out wz HBr.out)
        have HTz : Hid (∀ W, Below wz.heap.size wz W → Tbl w0 W t lo m S) := hide fun W hb => HT.out W (HBW.out.trans (hb.mono HBW.out.size))
        have HRz : Hid (∀ W, Below wz.heap.size wz W → RefRd W r AG cG AL cL S) := hide fun W hb => HR.out W (HBW.out.trans (hb.mono HBW.out.size))
        have hbl := Us.blocks_len HOK.out.1 x
        obtain ⟨L, hL⟩ : ∃ L, S.blocks x = L := ⟨_, rfl⟩
        have hcn : S.cnt x ≤ S.L.length := List.countP_le_length
        have hL9 : L.length < 1000000 := by have := HOK.out.2.2; rw [← hL, hbl]; omega
        have HL := hide hL
        have HCN : Hid (S.cnt x = L.length) := hide (by rw [← hL]; exact hbl.symm)
        obtain ⟨a, hae⟩ : ∃ a : Int, (((S.hole x).getD 0 : Nat) : Int) = a := ⟨_, rfl⟩
        obtain ⟨p, hpe⟩ : ∃ p : Bool, (S.hole x).isSome = p := ⟨_, rfl⟩
        obtain ⟨sl, hse⟩ : ∃ a : Int, S.slots x = a := ⟨_, rfl⟩
        have HAE := hide hae
        have HPE := hide hpe
        have HSE := hide hse
        obtain ⟨ll, hlle⟩ : ∃ a : Nat, L.length = a := ⟨_, rfl⟩
        have HLL := hide hlle
        have hm1 : ll ≤ maxLen := by simp only [maxLen]; omega
        have HM1 := hide hm1
        have hT0 : Below wz.heap.size wz wz.drew := (Below.refl _ wz).drew
        clear hx hok hbl hL hcn hL9 hae hpe hse hlle hm1
        go_upto_region 10 with fail
        go_region_held3 (fun W => W.cell? (ad.add j) = some (.int .i64 x)) (first | exact HS.out _ (by assumption)) (first
          | (go_at_call 23; refine (numbers_same _ _ _ _ _ _ L _ _ hA hB HM1.out HM1.out).mono ?_; rintro _ _ ⟨rfl, q, rfl⟩; have hTq := below_dq hT2 q)
          | (go_at_call 24; refine ((HTz.out w1 hB1).blocks_ x HX.out).mono ?_; rw [HL.out, HLL.out]; rintro _ w2 ⟨v2, rfl, ho2, _, hl2⟩; obtain ⟨A2, c2, rfl, _, _⟩ := own_shape ho2; have hA := own_reads ho2; have hB := own_reads (own_later ho1 hl2); have hT2 := hB1.trans (hl2.mono hB1.size); clear ho1 ho2 hl2)
          | (go_at_call 38; refine (rblocks_any (HRz.out w1 hA1) HOK.out.1 HOK.out.2.1 HOK.out.2.2 x).mono ?_; rw [HL.out, HLL.out]; rintro _ w2 ⟨v2, rfl, ho2, hl2⟩; obtain ⟨A2, c2, rfl, _, _⟩ := own_shape ho2; have hB := own_reads ho2; have hA := own_reads (own_later ho1 hl2); have hT2 := hA1.trans (hl2.mono hA1.size); clear ho1 ho2 hl2)
          | (go_at_call 24; refine ((HTz.out _ hT0).blocks_ x HX.out).mono ?_; rw [HL.out, HLL.out]; rintro _ w1 ⟨v1, rfl, ho1, _, hl1⟩; obtain ⟨A1, c1, rfl, _, _⟩ := own_shape ho1; have hA1 := hT0.trans (hl1.mono hT0.size); clear hl1)
          | (go_at_call 38; refine (rblocks_any (HRz.out _ hT0) HOK.out.1 HOK.out.2.1 HOK.out.2.2 x).mono ?_; rw [HL.out, HLL.out]; rintro _ w1 ⟨v1, rfl, ho1, hl1⟩; obtain ⟨A1, c1, rfl, _, _⟩ := own_shape ho1; have hB1 := hT0.trans (hl1.mono hT0.size); clear hl1))
        all_goals
          clear hA hB hT2
          have hTq' := hTq
          clear hTq
          obtain ⟨w9, hw9⟩ : ∃ x, x = w2.drewN q := ⟨_, rfl⟩
          rw [← hw9] at hTq' ⊢
          have HT9 := hide hTq'
          have hcell9 := HS.out w9 hTq'
          have hT9 : Below wz.heap.size wz w9.drew := hTq'.drew
          clear hw9 hTq'
          go_upto_region 13 with (first
            | (go_at_call 22; refine ((HTz.out w9 HT9.out).hole_ x HX.out).mono ?_; rw [HAE.out, HPE.out]; rintro _ _ ⟨rfl, rfl⟩)
            | (go_at_call 36; refine (rhole_any (HRz.out w9 HT9.out) HOK.out.1 HOK.out.2.1 HOK.out.2.2 x).mono ?_; rw [HAE.out, HPE.out]; rintro _ _ ⟨rfl, rfl⟩))
          go_region_held3 (fun W => W.cell? (ad.add j) = some (.int .i64 x)) (first | exact HS.out _ (by assumption)) (first
            | (go_at_call 19; refine ((HTz.out _ hT9).slots_ x HX.out).mono ?_; rw [HSE.out]; rintro _ _ ⟨rfl, rfl⟩)
            | (go_at_call 39; refine (rslots_any (HRz.out _ hT9) HOK.out.1 HOK.out.2.1 x).mono ?_; rw [HSE.out]; rintro _ _ ⟨rfl, rfl⟩)
            | (go_at_call 25; refine ((HTz.out _ hTd).count_ x HX.out).mono ?_; rw [HCN.out, HLL.out]; rintro _ _ ⟨rfl, rfl⟩)
            | (go_at_call 25; refine ((HTz.out _ hT9).count_ x HX.out).mono ?_; rw [HCN.out, HLL.out]; rintro _ _ ⟨rfl, rfl⟩)
            | (go_at_call 38; refine (rblocks_any (HRz.out _ hT9) HOK.out.1 HOK.out.2.1 HOK.out.2.2 x).mono ?_; rw [HL.out, HLL.out]; rintro _ wd ⟨vd, rfl, hod, hld⟩; obtain ⟨Ad, cd, rfl, _, _⟩ := own_shape hod; have hTd := hT9.trans (hld.mono hT9.size); clear hod hld))
          all_goals
            have HBn := hide (HBr.out.trans (hTd.mono HBr.out.size))
            clear hTd
            go_wp2
            go_roundw
            case rel => exact ⟨j + 1, by go_num, by omega, HBn⟩
            case measure => simp [intOf]; omega
      · obtain rfl : j = n5 := by omega
        go_wp2_with fail
        go_meet
        exact HBr
  case rest =>
    obtain ⟨z1, rfl⟩ : ∃ z1, z1 = wc := ⟨_, rfl⟩
    have HB1 := hcut
    clear hcut
    go_upto_block 2 with fail
    go_cut [16, 17, 18, 19, 20, 21, 22] (fun _ _ _ _ _ _ _ wx => Hid (Below w5.heap.size w5 wx))
    case first =>
      go_wp2_with fail
      go_loopw [16, 17, 18, 19, 20, 21, 22] (fun s16 _ _ _ _ _ _ wr => ∃ (d : Nat) (e : Int), s16 = .int .i64 e ∧ Hid (e = (d : Int) - 1) ∧ d ≤ 21 ∧ Hid (Below w5.heap.size w5 wr)) (fun s16 _ _ _ _ _ _ _ => (20 - intOf s16).toNat)
      case atStart => exact ⟨0, -1, rfl, hide rfl, by omega, HB1⟩
      case round =>
        obtain ⟨d, e, rfl, HE, hd21, HBr⟩ := hrel
        obtain ⟨wz, rfl⟩ : ∃ wz, wz = wr := ⟨_, rfl⟩
        have he1 : -1 ≤ e := by have := HE.out; omega
        by_cases he : e < 20
        · have hed : decide (e < 20) = true := by simpa using he
          have HX : Hid (okI64 e) := hide (by unfold okI64; omega)
          have HBW := hide (HLT.out wz HBr.out)
          have HT1 := hide (HT.out wz HBW.out)
          obtain ⟨f1, hf1⟩ : ∃ x : Int, ((S.fnd e).getD (0, 0)).1 = x := ⟨_, rfl⟩
          obtain ⟨f2, hf2⟩ : ∃ x : Int, ((S.fnd e).getD (0, 0)).2 = x := ⟨_, rfl⟩
          obtain ⟨f3, hf3⟩ : ∃ x : Bool, (S.fnd e).isSome = x := ⟨_, rfl⟩
          have HF1 := hide hf1
          have HF2 := hide hf2
          have HF3 := hide hf3
          clear hf1 hf2 hf3
          go_wp2_with (first
            | (go_at_call 21; refine (HT1.out.find_ e HX.out).mono ?_; rw [HF1.out, HF2.out, HF3.out]; rintro _ z2 ⟨rfl, _, hl2⟩; have HB2 := hide (HBr.out.trans (hl2.mono HBr.out.size)); clear hl2)
            | (go_at_call 40; refine (rfind_any (HR.out z2 (HLT.out z2 HB2.out)) HOK.out.1 HOK.out.2.2 e).mono ?_; rw [HF1.out, HF2.out, HF3.out]; rintro _ _ ⟨rfl, q, rfl⟩; have HB3 := hide (below_dq HB2.out q)))
          go_roundw
          case rel => exact ⟨d + 1, e + 1, by go_num, hide (by have := HE.out; omega), by have := HE.out; omega, HB3⟩
          case measure => simp [intOf]; omega
        · have hed : decide (e < 20) = false := by simp; omega
          go_wp2_with fail
          go_meet
          exact HBr
    case rest =>
      obtain ⟨z1, rfl⟩ : ∃ z1, z1 = wc := ⟨_, rfl⟩
      have HB1 := hcut
      clear hcut
      have hq := HQ.out z1 HB1.out
      have hq1 := hq.1
      have hq2 := hq.2
      have hn5c : n5 ≤ 9223372036854775807 := by omega
      have HN5 := hide hn5c
      have HTz := hide (HT.out z1 (HLT.out z1 HB1.out))
      have HRz := hide (HR.out z1 (HLT.out z1 HB1.out))
      obtain ⟨a1, ha1⟩ : ∃ x : Int, (S.at_ g s).getD 0 = x := ⟨_, rfl⟩
      obtain ⟨p1, hp1⟩ : ∃ x : Bool, (S.at_ g s).isSome = x := ⟨_, rfl⟩
      obtain ⟨a2, ha2⟩ : ∃ x : Int, (S.emptiest (S.groups ++ [g, -1])).getD 0 = x := ⟨_, rfl⟩
      obtain ⟨p2, hp2⟩ : ∃ x : Bool, (S.emptiest (S.groups ++ [g, -1])).isSome = x := ⟨_, rfl⟩
      have HA1 := hide ha1
      have HP1 := hide hp1
      have HA2 := hide ha2
      have HP2 := hide hp2
      clear ha1 hp1 ha2 hp2 hq hn5c
      go_wp2_with (first
        | (go_at_call 20; refine (HTz.out.block_ g s HG.out HSS.out).mono ?_; rw [HA1.out, HP1.out]; rintro _ _ ⟨rfl, rfl⟩)
        | (go_at_call 41; refine (rblock_any HRz.out HOK.out.1 HOK.out.2.2 g s).mono ?_; rw [HA1.out, HP1.out]; rintro _ _ ⟨rfl, rfl⟩)
        | (go_at_call 28; refine (HTz.out.emptiest_ A5 n5 c5 _ (HRW.out z1 HB1.out) HROW.out HN5.out).mono ?_; rw [HA2.out, HP2.out]; rintro _ z2 ⟨rfl, _, hl2⟩; have HB2 := hide (HB1.out.trans (hl2.mono HB1.out.size)); clear hl2)
        | (go_at_call 42; refine (remptiest_any (HR.out z2 (HLT.out z2 HB2.out)) HOK.out.1 HOK.out.2.1 HOK.out.2.2 A5 n5 c5 _ (HRW.out z2 HB2.out) HN5.out).mono ?_; rw [HA2.out, HP2.out]; rintro _ z3 ⟨rfl, hl3⟩; have HB3 := hide (HLT.out z3 (HB2.out.trans (hl3.mono HB2.out.size))); clear hl3))
      go_ret
      exact ⟨rfl, HB3.out⟩

end
#print axioms same14_any
end Go.Proofs.Ytgoglgghnjgcdaa
