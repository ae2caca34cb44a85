/- The reference's bank: Write; a new one, and a disk more. -/
import Derived.Test.YtgfbndmdndpelaaRefK
namespace Go.Proofs.Ytgfbndmdndpelaa
open Go.RowKit
set_option linter.unusedVariables false
theorem pl_guard : Try.prog.eqGuardType Try.prog.depth 33 = false := by kernel_rfl
theorem pl_fields : Try.prog.underlying 33 = some (.struct (Try.prog.fieldsOf 33)) := by kernel_rfl
theorem pl_stood : Try.prog.stoodInHeld 33 = false := by kernel_rfl
theorem pl_fieldsL : (Try.prog.fieldsOf 33).toList.map (fun f => (f.name, f.type, f.offset)) = [("Disk", 3, 0), ("At", 3, 1)] := by kernel_rfl
set_option maxRecDepth 100000 in
theorem run_eql_pl (a b : Nat × Nat) (w : World) : (binOp .eql 33 (.agg (placeL a).toArray) (.agg (placeL b).toArray)).run Try.prog w = .ok (.bool (decide (a = b))) w := by
  obtain ⟨a1, a2⟩ := a
  obtain ⟨b1, b2⟩ := b
  have h := run_equalIn_struct (P := Try.prog) w 9999 33 (placeL (a1, a2)).toArray (placeL (b1, b2)).toArray pl_fields pl_stood
  have hl := pl_fieldsL
  generalize (Try.prog.fieldsOf 33).toList = fs at h hl
  rcases fs with _ | ⟨f0, _ | ⟨f1, _ | ⟨f2, fs⟩⟩⟩ <;> simp at hl
  obtain ⟨⟨n0, t0, o0⟩, n1, t1, o1⟩ := hl
  have p0 : ∀ (x y : Nat), (part f0.type (placeL (x, y)).toArray f0.offset).run Try.prog w = .ok (.int .i64 (x : Int)) w := fun x y => by rw [t0, o0]; exact run_part_plain (P := Try.prog) w (by kernel_rfl) (xs := (placeL (x, y)).toArray) (off := 0) (v := .int .i64 (x : Int)) rfl
  have p1 : ∀ (x y : Nat), (part f1.type (placeL (x, y)).toArray f1.offset).run Try.prog w = .ok (.int .i64 (y : Int)) w := fun x y => by rw [t1, o1]; exact run_part_plain (P := Try.prog) w (by kernel_rfl) (xs := (placeL (x, y)).toArray) (off := 1) (v := .int .i64 (y : Int)) rfl
  have e0 : ∀ x y : Int, (Op.equalIn 9999 f0.type (.int .i64 x) (.int .i64 y)).run Try.prog w = .ok (x == y) w := fun x y => by rw [t0]; exact run_equalIn_int (P := Try.prog) w 9998 3 .i64 .i64 x y Try.underlying3
  have e1 : ∀ x y : Int, (Op.equalIn 9999 f1.type (.int .i64 x) (.int .i64 y)).run Try.prog w = .ok (x == y) w := fun x y => by rw [t1]; exact run_equalIn_int (P := Try.prog) w 9998 3 .i64 .i64 x y Try.underlying3
  rw [run_eql_struct, h]
  simp only [Op.eqFields]
  by_cases h1 : a1 = b1 <;> by_cases h2 : a2 = b2 <;> simp [n0, n1, p0, p1, e0, e1, h1, h2] <;> omega
theorem quiet_eql_pl {ops : Array Oper} {C : World → Prop} {Q : Act → Prop} {o : Oper} {rest : List Oper} {a : Act} (hgd : o.guard = none) (p q : Operand) (tr : TypeId) (ho : o.op = .binOp .eql 33 p q tr)
    (x y : Nat × Nat) (hp : a.eval p = .agg (placeL x).toArray) (hq : a.eval q = .agg (placeL y).toArray) (β : Bool) (hβ : decide (x = y) = β)
    (h : wpQuiet Try.prog ops C Q rest (a.put o.dst (.bool β))) : wpQuiet Try.prog ops C Q (o :: rest) a :=
  quiet_gives hgd _ (fun w _ => by
    unfold execOp
    simp only [ho, hp, hq, Sem.run_bind, run_eqGuard_agg w .eql 33 p q _ _ pl_guard, Result.andThen_ok, run_eql_pl x y w, Sem.run_pure, hβ]) h
theorem Turn.trans_more {G : Nat → Prop} {a b c : World} (h : Turn G a b) (k : Turn (More G a b) b c) : Turn G a c :=
  ⟨k.os.trans h.os, k.tape.trans h.tape, k.output.trans h.output, Nat.le_trans h.size k.size, fun i hi hn => (k.block i (Nat.lt_of_lt_of_le hi h.size) (fun hm => hm.elim hn (fun h => by omega))).trans (h.block i hi hn)⟩
section
variable {w w' : World} {r : Nat} {R : RLay} {S : Bank} {G : Nat → Prop}
/-- The bank as it goes: its rows are in G, or new. -/
def RefGo (w0 w : World) (r : Nat) (G : Nat → Prop) (S : Bank) : Prop := S.Ok ∧ (∃ R, RefIn w r R S ∧ ∀ x, RFoot r R S x → G x ∨ w0.heap.size ≤ x) ∧ Turn G w0 w
theorem RefGo.on {w0 : World} (h : RefGo w0 w r G S) (hl : ∀ x, G x → x < w0.heap.size) : RefOn w r (More G w0 w) S := by
  obtain ⟨h1, ⟨R, h2, h3⟩, h4⟩ := h
  refine ⟨fun x hx => ?_, h1, R, h2, fun x hx => (h3 x hx).imp id (fun h => ⟨h, h2.foot_lt x hx⟩)⟩
  rcases hx with hx | hx
  · exact Nat.lt_of_lt_of_le (hl x hx) h4.size
  · exact hx.2
theorem RefGo.step {w0 : World} {T : Bank} (h : RefGo w0 w r G S) (hB : RefOn w' r (More (More G w0 w) w w') T) (hT : Turn (More G w0 w) w w') : RefGo w0 w' r G T := by
  obtain ⟨_, _, h4⟩ := h
  obtain ⟨_, k1, R, k2, k3⟩ := hB
  have hs := h4.size
  refine ⟨k1, ⟨R, k2, fun x hx => ?_⟩, h4.trans_more hT⟩
  rcases k3 x hx with (h | h) | h
  · exact .inl h
  · exact .inr h.1
  · exact .inr (by omega)
theorem RefGo.later {w0 : World} (h : RefGo w0 w r G S) (hb : Below w.heap.size w w') : RefGo w0 w' r G S := by
  obtain ⟨h1, ⟨R, h2, h3⟩, h4⟩ := h
  exact ⟨h1, ⟨R, h2.later hb, h3⟩, h4.below hb⟩
theorem RefGo.fin {w0 wb : World} (h : RefGo w0 w r G S) (hb : Below wb.heap.size wb w0) (hl : ∀ x, G x → x < wb.heap.size) : RefOn w r (More G wb w) S ∧ Turn G wb w := by
  obtain ⟨h1, ⟨R, h2, h3⟩, h4⟩ := h
  have hs := hb.size
  have hs4 := h4.size
  refine ⟨⟨fun x hx => ?_, h1, R, h2, fun x hx => (h3 x hx).imp id (fun h => ⟨by omega, h2.foot_lt x hx⟩)⟩, (Turn.of_below hb).trans h4⟩
  rcases hx with hx | hx
  · have := hl x hx
    omega
  · exact hx.2
theorem RefIn.no_own (h : RefIn w r R S) {g : Nat} {t : TypeId} {cs : Array Value} (hb : Blk w g t cs) (ht : t ≠ 33) : (Value.slice R.la S.order.length R.lc).ownBlock ≠ some g := by
  intro e
  rcases h.loose.2 with ⟨hv, _⟩ | ⟨g', cap, cur, hv, _, hbk, _⟩
  · rw [hv] at e
    cases e
  · rw [hv] at e
    injection e with e
    subst e
    exact hb.apart (show Blk w g' 33 cur from hbk) ht rfl
/-- One more is loose: the row of them may have grown where it lay, or lie anew. -/
theorem RefIn.loose_new {T : Bank} {w9 : World} (h : RefIn w r R S) {A : Option Addr} {c : Nat} (hT : S.n = T.n ∧ S.size = T.size ∧ S.dead = T.dead ∧ S.flushed = T.flushed ∧ S.newest = T.newest ∧ S.failAt = T.failAt ∧ S.down = T.down ∧ S.writes = T.writes ∧ S.armed = T.armed ∧ S.mask = T.mask)
    (hk : ∀ x, x < w.heap.size → (Value.slice R.la S.order.length R.lc).ownBlock ≠ some x → w9.heap[x]? = w.heap[x]?)
    (hl : w9.ownsRow 0 33 2 (.slice A T.order.length c) T.order.length (flatP T.order)) : RefIn (w9.setCell ⟨r, 1, none⟩ (.slice A T.order.length c)) r { R with la := A, lc := c } T := by
  obtain ⟨t1, t2, t3, t4, t5, t6, t7, t8, t9, t10⟩ := hT
  have h9 : ∀ {g : Nat} {t : TypeId} {cs : Array Value}, Blk w g t cs → t ≠ 33 → Blk w9 g t cs := fun hq ht => hq.of_block (hk _ hq.lt (h.no_own hq ht))
  have hh := h9 h.head (by decide)
  have hne : ∀ {g : Nat} {t : TypeId} {cs : Array Value}, Blk w g t cs → t ≠ 33 → t ≠ 41 → Blk (w9.setCell ⟨r, 1, none⟩ (.slice A T.order.length c)) g t cs := fun hq ht ht2 => (h9 hq ht).far (hq.apart h.head ht2) _
  refine { head := ?_, cap := by rw [← t1]; exact h.cap, row := fun h0 => ?_, loose := ?_, disk := fun i hi => ?_, flu := fun i hi => ?_, new := fun i hi => ?_, inj1 := fun i j hi hj => h.inj1 i j (by rw [t1]; exact hi) (by rw [t1]; exact hj), inj2 := fun i j hi hj => h.inj2 i j (by rw [t1]; exact hi) (by rw [t1]; exact hj), inj3 := fun i j hi hj => h.inj3 i j (by rw [t1]; exact hi) (by rw [t1]; exact hj), inj4 := fun i j hi hj => h.inj4 i j (by rw [t1]; exact hi) (by rw [t1]; exact hj) }
  · have h2 := hh.set_ 1 (.slice A T.order.length c)
    rw [t1, t7, t8, t9, t10] at h2
    exact h2
  · obtain ⟨cs, hb, h2⟩ := h.row (by rw [t1]; exact h0)
    rw [t1] at h2
    exact ⟨cs, hne hb (by decide) (by decide), h2⟩
  · refine own_of_block hl (fun g hg => ?_)
    rcases hl.2 with ⟨hv, _⟩ | ⟨g', cap, cur, hv, _, hbk, _⟩
    · rw [hv] at hg
      cases hg
    · rw [hv] at hg
      injection hg with hg
      subst hg
      exact Below.heap_setCell _ _ _ _ ((show Blk w9 g' 33 cur from hbk).apart hh (by decide))
  · have h2 := h.disk i (by rw [t1]; exact hi)
    rw [t2, t3, t6] at h2
    exact hne h2 (by decide) (by decide)
  · have h2 := h.flu i (by rw [t1]; exact hi)
    rw [t2, t4] at h2
    exact hne h2 (by decide) (by decide)
  · have h2 := h.new i (by rw [t1]; exact hi)
    rw [t2, t5] at h2
    exact hne h2 (by decide) (by decide)
theorem write_down {d k : Nat} {s : Sec} (hd : S.down = true) : S.write d k s = (S.place d k, S) ∧ S.place d k ≠ 0 := by
  have hm : S.may d ≠ 0 := by
    unfold Bank.may
    rw [hd]
    split
    · decide
    · split <;> decide
  have hp : S.place d k ≠ 0 := by unfold Bank.place; rw [if_neg hm]; exact hm
  refine ⟨?_, hp⟩
  unfold Bank.write Bank.count
  rw [if_pos hd]
  show (if S.place d k = 0 then _ else _) = _
  rw [if_neg hp]
theorem write_up {d k : Nat} {s : Sec} {V : Bank} (hc : S.count = (false, V)) : S.write d k s = if V.place d k = 0 then (0, V.put d k s) else (V.place d k, V) := by
  unfold Bank.write
  rw [hc]
  rfl
set_option maxRecDepth 100000 in
set_option maxHeartbeats 8000000 in
theorem rOn_write (h : RefOn w r G S) (hw62 : S.writes < 4611686018427387904) (d k : Nat) (s : Sec) :
    Calls Try.prog 40 #[.pointer (some ⟨r, 0, none⟩), .agg #[.int .i64 (d : Int), .int .i64 (k : Int)], secV s] w fun e w' => e = .returned (.int .i64 ((S.write d k s).1 : Int)) ∧ RefOn w' r (More G w w') (S.write d k s).2 ∧ Turn G w w' := by
  obtain ⟨h1, h2, R, h3, h4⟩ := h
  obtain ⟨U, hU⟩ : ∃ U, U = secL s := ⟨_, rfl⟩
  have hUl : U.length = 64 := by rw [hU, secL_length]
  have hUo : ∀ v ∈ U, v.oneCell' = true := by rw [hU]; exact secL_one _
  have hiU : (Try.prog.info? 43).map (·.size) = some U.length := by rw [hUl]; exact sec_info
  have hs : secV s = .agg U.toArray := by rw [hU]; rfl
  rw [hs]
  have HUl := hide hUl
  have HUO := hide hUo
  have HIU := hide hiU
  have HU := hide hU
  have HB := hide h3
  have HOK := hide h2
  have HG := hide h4
  have HL := hide h1
  clear hUl hUo hiU hs hU h1 h2 h3 h4
  cases hdn : S.down with
  | true =>
    obtain ⟨e1, e2⟩ := write_down (S := S) (d := d) (k := k) (s := s) hdn
    have HE := hide e1
    have hne : ((S.place d k : Int) != 0) = true := by simp; omega
    have HDN := hide hdn
    clear e1 e2 hdn
    go_enter Try.func40, Try.ntmps40
    go_wp2_with (first
      | (refine wpList_box_blk rfl 33 (.tmp 1) rfl (.agg #[.int .i64 (d : Int), .int .i64 (k : Int)]) rfl ?_; intro w1 hb1q hl1 hs1; clear hs1; have hb1 : Blk w1 w.heap.size 33 (placeL (d, k)).toArray := hb1q; clear hb1q)
      | (refine wpList_box_blk rfl 43 (.tmp 2) rfl (.agg U.toArray) rfl ?_; intro w2 hb2q hl2 hs2; clear hs2; have hb2 : Blk w2 w1.heap.size 43 U.toArray := hb2q; clear hb2q; have hz1 := hb1.lt; have hz2 := hb2.lt; have hl02 : Below w.heap.size w w2 := hl1.trans (hl2.mono (by omega)); have hb12 := hb1.below hl2 hz1; have hgo : RefGo w2 w2 r G S := ⟨HOK.out, ⟨R, HB.out.later hl02, fun x hx => .inl (HG.out x hx)⟩, Turn.refl _ _⟩; have hI2 := HB.out.later hl02; have x2 := hI2.c2; rw [HDN.out] at x2; have HGO := hide hgo; have HX := hide hb12; have HL02 := hide hl02; have hP := hide (rplace_any hI2 d k); clear hgo hb12 hl02 hb1 hb2 hl1 hl2 hI2)
      | (refine wpList_load_blk rfl 33 (.tmp 4) rfl w.heap.size 0 33 _ HX.out rfl (placeL (d, k)) _ (fun j v hj => by rw [Nat.zero_add]; simpa using hj) Try.underlying33 rfl rplace_info ?_)
      | (go_at_call 49; refine hP.out.mono ?_; rintro _ w3 ⟨rfl, hl3⟩))
    go_ret
    rw [HE.out]
    have hf := (HGO.out.later hl3).fin HL02.out HL.out
    exact ⟨rfl, hf.1, hf.2⟩
  | false =>
    have hcn : S.writes + 1 < 9223372036854775808 := by omega
    have hn32 := HOK.out.n_le
    have HDN := hide hdn
    obtain ⟨W0, hW0⟩ : ∃ T, T = S.wrote := ⟨_, rfl⟩
    have HW0 := hide hW0
    have hnW : W0.n = S.n := by rw [hW0]; rfl
    have hok0 : W0.Ok := by rw [hW0]; exact HOK.out.wrote
    have HOK0 := hide hok0
    clear hdn hW0 hok0
    go_enter Try.func40, Try.ntmps40
    go_wp2_with (first
      | (refine wpList_box_blk rfl 33 (.tmp 1) rfl (.agg #[.int .i64 (d : Int), .int .i64 (k : Int)]) rfl ?_; intro w1 hb1q hl1 hs1; clear hs1; have hb1 : Blk w1 w.heap.size 33 (placeL (d, k)).toArray := hb1q; clear hb1q)
      | (refine wpList_box_blk rfl 43 (.tmp 2) rfl (.agg U.toArray) rfl ?_; intro w2 hb2q hl2 hs2; clear hs2; have hb2 : Blk w2 w1.heap.size 43 U.toArray := hb2q; clear hb2q; have hz1 := hb1.lt; have hz2 := hb2.lt; have hl02 : Below w.heap.size w w2 := hl1.trans (hl2.mono (by omega)); have hb12 := hb1.below hl2 hz1; have hgo : RefGo w2 w2 r G S := ⟨HOK.out, ⟨R, HB.out.later hl02, fun x hx => .inl (HG.out x hx)⟩, Turn.refl _ _⟩; have hI2 := HB.out.later hl02; have x2 := hI2.c2; rw [HDN.out] at x2; have x3 := hI2.c3; have fx3 := hI2.head.frozen 3; have HGO := hide hgo; have HI2 := hide hI2; have HX := hide hb12; have HY := hide hb2; have HL02 := hide hl02; clear hgo hb12 hl02 hb1 hb2 hl1 hl2 hI2))
    have hrG := HG.out r (.inl rfl)
    have hrlt := HL.out r hrG
    have hg0 : RefGo w2 (w2.setCell ⟨r, 3, none⟩ (.int .i64 ((S.writes : Int) + 1))) r G W0 := by
      refine ⟨HOK0.out, ⟨R, ?_, fun x hx => .inl (HG.out x ?_)⟩, (Turn.refl _ _).set ⟨r, 3, none⟩ (.inl hrG) _⟩
      · rw [HW0.out]
        exact HI2.out.head_set (w' := w2.setCell ⟨r, 3, none⟩ (.int .i64 ((S.writes : Int) + 1))) S.down (S.writes + 1) S.armed S.mask (HI2.out.head.set_ 3 _) (fun x hx => Below.heap_setCell _ _ _ x hx)
      · rw [HW0.out] at hx
        exact hx
    have HG0 := hide hg0
    have hzz2 := HY.out.lt
    have hxx2 := HX.out.lt
    clear hg0 x2 x3 fx3 HI2 HB HG
    go_loopw [7] (fun s7 wr => ∃ j : Nat, s7 = .int .i64 (j : Int) ∧ j ≤ S.n ∧ Hid (RefGo w2 wr r G (W0.tick j))) (fun s7 _ => S.n - (intOf s7).toNat)
    case atStart => exact ⟨0, rfl, Nat.zero_le _, HG0⟩
    case round =>
      obtain ⟨j, rfl, hj, hgo⟩ := hrel
      obtain ⟨wo, rfl⟩ : ∃ wo, wo = wr := ⟨_, rfl⟩
      obtain ⟨hok1, ⟨R1, hI1, hF1⟩, hT1⟩ := hgo.out
      obtain ⟨k1, k2, k3, k4, k5, k6⟩ := tick_keeps W0 j
      have hnj : (W0.tick j).n = S.n := k1.trans hnW
      have c0 := hI1.c0
      rw [hnj] at c0
      by_cases hjn : j < S.n
      · have hg1 : (j : Int) < (S.n : Int) := by omega
        have hjT : j < (W0.tick j).n := by omega
        rw [R1.ad_pos hjn] at c0
        have p0 := hI1.p hjT
        have d3 := hI1.d3 hjT
        have fd3 := (hI1.disk j hjT).frozen 3
        have hfl := hok1.fail_le j
        have HOK1 := hide hok1
        have HI1 := hide hI1
        have HF1 := hide hF1
        clear hok1 hI1 hF1 k1 k2 k3 k4 k5 k6
        obtain ⟨f, hf⟩ : ∃ f, f = (W0.tick j).failAt j := ⟨_, rfl⟩
        rw [← hf] at d3 hfl
        by_cases h0 : f = 0
        · have HT := hide (tick_zero W0 j (by rw [← hf]; exact h0))
          subst h0
          clear hf
          go_wp2_with fail
          go_roundw
          case rel => exact ⟨j + 1, by go_num, by omega, by rw [HT.out]; exact hgo⟩
          case measure => simp [intOf]; omega
        · have hf0 : (0 : Int) < (f : Int) := by omega
          have hsub : (f : Int) - 1 = ((f - 1 : Nat) : Int) := by omega
          have hset : ∀ v : Int, v = (f : Int) - 1 → ∀ w4, w4 = wo.setCell ⟨R1.dk j, 3, none⟩ (.int .i64 v) → RefGo w2 w4 r G { W0.tick j with failAt := upd (W0.tick j).failAt j ((W0.tick j).failAt j - 1) } ∧ w4.cell? ⟨r, 0, none⟩ = some (.slice (some ⟨R1.mb, 0, none⟩) S.n R1.cap) ∧ w4.cell? ⟨R1.mb, j, none⟩ = some (.pointer (some ⟨R1.dk j, 0, none⟩)) ∧ w4.cell? ⟨R1.dk j, 3, none⟩ = some (.int .i64 v) := by
            rintro v hv w4 rfl
            have hv2 : v = ((f - 1 : Nat) : Int) := by omega
            have hI4 : RefIn (wo.setCell ⟨R1.dk j, 3, none⟩ (.int .i64 v)) r R1 { W0.tick j with failAt := upd (W0.tick j).failAt j ((W0.tick j).failAt j - 1) } := by
              have h := HI1.out.disk_set (w' := wo.setCell ⟨R1.dk j, 3, none⟩ (.int .i64 v)) hjT ((W0.tick j).dead j) ((W0.tick j).failAt j - 1) (by rw [← hf, ← hv2]; exact (HI1.out.disk j hjT).set_ 3 _) (fun x hx => Below.heap_setCell _ _ _ x hx)
              rw [upd_same] at h
              exact h
            have c04 := hI4.c0
            have hn4 : ({ W0.tick j with failAt := upd (W0.tick j).failAt j ((W0.tick j).failAt j - 1) } : Bank).n = S.n := hnj
            rw [hn4, R1.ad_pos hjn] at c04
            refine ⟨⟨HOK1.out.setFail j (by rw [← hf]; omega), ⟨R1, hI4, HF1.out⟩, (hgo.out.2.2).set ⟨R1.dk j, 3, none⟩ ?_ _⟩, c04, hI4.p hjT, ?_⟩
            · exact HF1.out _ (.inr (.inr (.inr ⟨j, hjT, .inl rfl⟩)))
            · have h := hI4.d3 hjT
              have e : ({ W0.tick j with failAt := upd (W0.tick j).failAt j ((W0.tick j).failAt j - 1) } : Bank).failAt j = f - 1 := by show upd (W0.tick j).failAt j ((W0.tick j).failAt j - 1) j = _; rw [upd_self, hf]
              rw [e, ← hv2] at h
              exact h
          have HSET := hide hset
          clear hset
          by_cases h1 : f = 1
          · have HT := hide (tick_one W0 j (by rw [← hf]; exact h1))
            have HNJ := hide hnj
            obtain ⟨hg4, c04, p04, d34⟩ := HSET.out 0 (by omega) _ rfl
            have HG4 := hide hg4
            subst h1
            clear hf hg4 hsub
            have hd1 : wo.cell? ⟨R1.dk j, 3, none⟩ = some (.int .i64 1) := d3
            clear d3
            go_wp2_with fail
            have hfl := rOn_fail (HG4.out.on (fun x hx => by have := HL.out x hx; omega)) j (by show j < (W0.tick j).n; omega)
            refine hfl.mono ?_
            rintro _ w5 ⟨rfl, hB5, hT5⟩
            have HG5 := hide (HG4.out.step hB5 hT5)
            clear hB5 hT5 c04 p04 d34 hd1
            go_wp2_with fail
            go_roundw
            case rel => exact ⟨j + 1, by go_num, by omega, by rw [HT.out]; exact HG5⟩
            case measure => simp [intOf]; omega
          · have HT := hide (tick_more W0 j (by rw [← hf]; exact h0) (by rw [← hf]; exact h1))
            obtain ⟨hg4, c04, p04, d34⟩ := HSET.out ((f : Int) - 1) rfl _ rfl
            have HG4 := hide hg4
            have hne1 : ¬ ((f : Int) - 1 = 0) := by omega
            clear hf hg4 hsub h1
            go_wp2_with fail
            go_roundw
            case rel => exact ⟨j + 1, by go_num, by omega, by rw [HT.out]; exact HG4⟩
            case measure => simp [intOf]; omega
      · obtain rfl : j = S.n := by omega
        have hnl : ¬ ((S.n : Int) < (S.n : Int)) := by omega
        obtain ⟨T, hT⟩ : ∃ T, T = W0.tick S.n := ⟨_, rfl⟩
        rw [← hT] at hgo hI1 hF1 hok1
        have HGT := hide hgo.out
        have HTK := hide (show S.ticked = T by rw [hT, HW0.out]; rfl)
        have c4 := hI1.c4
        have f4 := hI1.head.frozen 4
        have HI1 := hide hI1
        have HF1 := hide hF1
        have HOT := hide hok1
        have hal := HOT.out.armed_le
        clear hgo hI1 hF1 hok1 hT k1 k2 k3 k4 k5 k6 hnj hT1
        by_cases ha0 : T.armed = 0
        · have HE := hide (show S.write d k s = if T.place d k = 0 then (0, T.put d k s) else (T.place d k, T) from write_up (by
            unfold Bank.count
            rw [if_neg (by rw [HDN.out]; decide), HTK.out]
            simp only
            rw [if_pos ha0]))
          rw [ha0] at c4
          clear ha0
          obtain ⟨okV, ⟨R5, hI5, hF5⟩, hT5⟩ := HGT.out
          have HX5 := hide (HX.out.turned hT5 (fun hf => by have := HL.out _ hf; omega))
          have HY5 := hide (HY.out.turned hT5 (fun hf => by have := HL.out _ hf; omega))
          have hsz5 := hT5.size
          have hP := hide (rplace_any hI5 d k)
          have HI5 := hide hI5
          have HF5 := hide hF5
          have HT5 := hide hT5
          have HOV := hide okV
          clear hI5 hF5 hT5 okV
          by_cases hp : T.place d k = 0
          · obtain ⟨_, hdV, hkV⟩ := rplace_zero hp
            have HE2 := hide (show S.write d k s = (0, T.put d k s) by rw [HE.out, if_pos hp])
            have HPZ := hide hp
            rw [hp] at hP
            have hkw : (k : Int) < (T.size d : Int) := by omega
            have hdw : (d : Int) < (T.n : Int) := by omega
            have hkz : k * 64 + 64 ≤ T.size d * 64 := by omega
            clear hp
            go_wp2_with (first
              | (refine wpList_load_blk rfl 33 (.tmp 4) rfl w.heap.size 0 33 _ HX5.out rfl (placeL (d, k)) _ (fun j v hj => by rw [Nat.zero_add]; simpa using hj) Try.underlying33 rfl rplace_info ?_)
              | (go_at_call 49; refine hP.out.mono ?_; rintro _ w6 ⟨rfl, hl6⟩))
            have hsz6 := hl6.size
            have hI6 := HI5.out.later hl6
            have HX6 := hide (HX5.out.below hl6 HX5.out.lt)
            have HY6 := hide (HY5.out.below hl6 HY5.out.lt)
            have q0 : w6.drew.cell? ⟨w.heap.size, 0, none⟩ = some (.int .i64 (d : Int)) := HX6.out.cell 0
            have q1 : w6.drew.cell? ⟨w.heap.size, 1, none⟩ = some (.int .i64 (k : Int)) := HX6.out.cell 1
            have c0 : w6.drew.cell? ⟨r, 0, none⟩ = _ := hI6.c0
            rw [R5.ad_pos hdV] at c0
            have p0 : w6.drew.cell? ⟨R5.mb, d, none⟩ = _ := hI6.p hdV
            have d1 : w6.drew.cell? ⟨R5.dk d, 1, none⟩ = _ := hI6.d1 hdV
            have HN6 := hide (hI6.new d hdV).drew
            have HI6 := hide hI6.drew
            have HT6 := hide (HT5.out.below hl6).drew
            have HYC : Hid (∀ (j : Nat) (v : Value), U[j]? = some v → w6.drew.cell? ((⟨w1.heap.size, 0, none⟩ : Addr).add j) = some v) := fun j v hj => by
              have hadd : (⟨w1.heap.size, 0, none⟩ : Addr).add j = ⟨w1.heap.size, j, none⟩ := by unfold Addr.add; split <;> simp_all
              rw [hadd, HY6.out.drew.cell j]
              simpa using hj
            clear hI6 hl6 HX5 HY5 HI5 HT5
            refine wp_region_still_tail 15 (by kernel_rfl) (by kernel_rfl) ?_
            change wpStill _ _ w6.drew _ _ _
            simp only [List.take_succ_cons, List.take_zero, List.drop_succ_cons, List.drop_zero]
            iterate 13 still_step
            refine still_load_at rfl 43 (.tmp 5) rfl ⟨w1.heap.size, 0, none⟩ rfl U _ HYC.out Try.underlying43 rfl HIU.out ?_
            still_step
            refine wpStill_nil ?_
            change wpList _ _ _ _ _ w6.drew
            go_wp2_with (first
              | (refine wpList_store_blk rfl 43 (.tmp 112) (.tmp 111) rfl (R5.nw d) (k * 64) 43 _ HN6.out rfl U rfl HIU.out (by rw [HUl.out, rowS_size]; exact hkz) HUO.out ?_; intro w7 hb7 hg7 hs7; clear hs7))
            have hI7 : RefIn w7 r R5 { T with newest := upd2 T.newest d k s } := by
              refine HI6.out.new_set hdV s ?_ hg7
              have h5 := hb7
              rw [HU.out] at h5
              rw [← rowS_put (T.newest d) s k (T.size d) hkV]
              exact h5
            have hnwG := HF5.out _ (.inr (.inr (.inr ⟨d, hdV, .inr (.inr rfl)⟩)))
            have HT7 : Hid (Turn G w2 w7) := HT6.out.grown hg7 (fun g e => by injection e with e; subst e; exact hnwG)
            have hX7 : Blk w7 w.heap.size 33 (placeL (d, k)).toArray := HX6.out.drew.grown hg7 (fun e => by injection e with e; exact hnwG.elim (fun h => by have := HL.out _ h; omega) (fun h => by omega))
            have HX7 := hide hX7
            have HI7 := hide hI7
            have hsz7 := HT7.out.size
            have hlen := hide (order_le T HOV.out T.order HOV.out.nodup (fun _ hp => hp))
            clear hX7 hI7 hb7 hg7 HI6 HN6 HT6 HX6 HY6 HYC q0 q1 c0 p0 d1
            go_loopw [9] (fun s9 wr => ∃ i q : Nat, s9 = .int .i64 (i : Int) ∧ i ≤ T.order.length ∧ wr = w7.drewN q ∧ Hid (∀ j p, j < i → T.order[j]? = some p → p ≠ (d, k))) (fun s9 _ => T.order.length - (intOf s9).toNat)
            case atStart => exact ⟨0, 0, rfl, Nat.zero_le _, rfl, fun j p hj => absurd hj (Nat.not_lt_zero j)⟩
            case round =>
              obtain ⟨i, q, rfl, hi, rfl, hall⟩ := hrel
              have hl2 := hlen.out
              have hI8 : RefIn (w7.drewN q) r R5 { T with newest := upd2 T.newest d k s } := HI7.out.drewN q
              have c1 : w7.cell? ⟨r, 1, none⟩ = some (.slice R5.la T.order.length R5.lc) := hI8.c1
              by_cases hil : i < T.order.length
              · have hg1 : (i : Int) < (T.order.length : Int) := by omega
                obtain ⟨p, hp⟩ : ∃ p, T.order[i]? = some p := ⟨_, List.getElem?_eq_getElem hil⟩
                obtain ⟨g, hla, hcs⟩ := hI8.loose_cells hp
                rw [hla] at c1
                have HCS := hide hcs
                have HX8 := hide (HX7.out.drewN q)
                have HP := hide hp
                have HI8 := hide hI8
                clear hcs hp hI8
                cases hdec : decide (p = (d, k)) with
                | true =>
                  have hpe : p = (d, k) := of_decide_eq_true hdec
                  have HMEM := hide (show (d, k) ∈ T.order by rw [← hpe]; exact List.mem_of_getElem? HP.out)
                  have HD := hide hdec
                  clear hdec hpe
                  go_wp2_with fail
                  refine wp_region_quiet_lit (by kernel_rfl) (by kernel_rfl) ?_
                  iterate 6 (go_big_quiet_step (fail))
                  refine quiet_load_at rfl 33 (.tmp 127) rfl ⟨g, i * 2, none⟩ rfl (placeL p) _ (by rintro w1 ⟨q1, rfl⟩; exact HCS.out) Try.underlying33 rfl rplace_info ?_
                  simp only [Act.put, List.setIfInBounds_toArray, List.set_cons_succ, List.set_cons_zero]
                  refine quiet_when_load rfl 33 (.tmp 4) rfl w.heap.size 0 33 _ (by rintro w1 ⟨q1, rfl⟩; exact HX8.out.drewN _) rfl (placeL (d, k)) _ (fun j v hj => by rw [Nat.zero_add]; simpa using hj) Try.underlying33 rfl rplace_info ?_
                  simp only [Act.put, List.setIfInBounds_toArray, List.set_cons_succ, List.set_cons_zero]
                  refine quiet_eql_pl rfl (.tmp 128) (.tmp 129) _ rfl p (d, k) rfl rfl true HD.out ?_
                  simp only [Act.put, List.setIfInBounds_toArray, List.set_cons_succ, List.set_cons_zero]
                  refine wpQuiet_nil ?_
                  rintro w11 ⟨q1, rfl⟩
                  go_wp2
                  go_ret
                  have hput : T.put d k s = { T with newest := upd2 T.newest d k s } := by unfold Bank.put; rw [if_pos HMEM.out]
                  have hfin := (show RefGo w2 ((w7.drewN q).drewN q1) r G (T.put d k s) from ⟨HOV.out.put HPZ.out s, ⟨R5, by rw [hput]; exact HI8.out.drewN q1, by rw [hput]; exact HF5.out⟩, (HT7.out.drewN q).drewN q1⟩).fin HL02.out HL.out
                  rw [HE2.out]
                  exact ⟨rfl, hfin.1, hfin.2⟩
                | false =>
                  have hpe : p ≠ (d, k) := of_decide_eq_false hdec
                  have HALL : Hid (∀ j p, j < i + 1 → T.order[j]? = some p → p ≠ (d, k)) := fun j p' hj hp' => by
                    rcases Nat.lt_or_ge j i with h | h
                    · exact hall.out j p' h hp'
                    · obtain rfl : j = i := by omega
                      rw [HP.out] at hp'
                      injection hp' with hp'
                      rw [← hp']
                      exact hpe
                  have HD := hide hdec
                  clear hdec hpe
                  go_wp2_with fail
                  refine wp_region_quiet_lit (by kernel_rfl) (by kernel_rfl) ?_
                  iterate 6 (go_big_quiet_step (fail))
                  refine quiet_load_at rfl 33 (.tmp 127) rfl ⟨g, i * 2, none⟩ rfl (placeL p) _ (by rintro w1 ⟨q1, rfl⟩; exact HCS.out) Try.underlying33 rfl rplace_info ?_
                  simp only [Act.put, List.setIfInBounds_toArray, List.set_cons_succ, List.set_cons_zero]
                  refine quiet_when_load rfl 33 (.tmp 4) rfl w.heap.size 0 33 _ (by rintro w1 ⟨q1, rfl⟩; exact HX8.out.drewN _) rfl (placeL (d, k)) _ (fun j v hj => by rw [Nat.zero_add]; simpa using hj) Try.underlying33 rfl rplace_info ?_
                  simp only [Act.put, List.setIfInBounds_toArray, List.set_cons_succ, List.set_cons_zero]
                  refine quiet_eql_pl rfl (.tmp 128) (.tmp 129) _ rfl p (d, k) rfl rfl false HD.out ?_
                  simp only [Act.put, List.setIfInBounds_toArray, List.set_cons_succ, List.set_cons_zero]
                  refine wpQuiet_nil ?_
                  rintro w11 ⟨q1, rfl⟩
                  go_wp2
                  go_roundw
                  case rel => exact ⟨i + 1, q + q1, by go_num, by omega, by first | rfl | exact World.drewN_drewN _ _ _, HALL⟩
                  case measure => simp [intOf]; omega
              · obtain rfl : i = T.order.length := by omega
                have hnl : ¬ ((T.order.length : Int) < (T.order.length : Int)) := by omega
                have HNM : Hid ((d, k) ∉ T.order) := fun hm => by
                  obtain ⟨j, hj, he⟩ := List.mem_iff_getElem.1 hm
                  exact hall.out j (d, k) hj (by rw [List.getElem?_eq_getElem hj, he]) rfl
                have hput : T.put d k s = { T with newest := upd2 T.newest d k s, order := T.order ++ [(d, k)] } := by unfold Bank.put; rw [if_neg HNM.out]
                have hokP := HOV.out.put HPZ.out s
                have HOP := hide hokP
                have HPUT := hide hput
                clear hput hokP
                obtain ⟨w8, hw8⟩ : ∃ w8, w8 = w7.drewN q := ⟨_, rfl⟩
                rw [← hw8] at hI8 ⊢
                have c18 : w8.cell? ⟨r, 1, none⟩ = some (.slice R5.la T.order.length R5.lc) := by rw [hw8]; exact c1
                clear c1
                have HT8 : Hid (Turn G w2 w8) := by show Turn _ _ _; rw [hw8]; exact HT7.out.drewN q
                have hX8 : Blk w8 w.heap.size 33 (placeL (d, k)).toArray := by rw [hw8]; exact HX7.out.drewN q
                have hsz8 := HT8.out.size
                obtain ⟨pi, hi0, hz0, hz1i, hz2i⟩ := place_info
                have HI := hide (And.intro hi0 (And.intro hz0 (And.intro hz1i hz2i)))
                have hl8 := (((Below.refl w8.heap.size w8).alloc (Nat.le_refl _) (.cells (placeL (d, k)).toArray 33)).drew)
                have HL8 := hide hl8
                have HROW := hide (((hI8.loose).alloc (.cells (placeL (d, k)).toArray 33)).drew)
                have HNEWS := hide (World.news_of_block ((Blk.new w8 33 (placeL (d, k)).toArray).drew))
                have HNUM := hide (show T.order.length + 1 ≤ maxLen ∧ (T.order.length + 1) * 16 ≤ 140737488355328 from ⟨by simp only [maxLen]; omega, by omega⟩)
                have q0 : w8.drew.cell? ⟨w.heap.size, 0, none⟩ = some (.int .i64 (d : Int)) := hX8.cell 0
                have q1 : w8.drew.cell? ⟨w.heap.size, 1, none⟩ = some (.int .i64 (k : Int)) := hX8.cell 1
                have hrlt8 : r < w8.heap.size := hI8.head.lt
                have c1d : w8.drew.cell? ⟨r, 1, none⟩ = some (.slice R5.la T.order.length R5.lc) := c18
                have c1a : ∀ o, (w8.alloc o).cell? ⟨r, 1, none⟩ = some (.slice R5.la T.order.length R5.lc) := fun o => (World.cell?_alloc_lt w8 o _ hrlt8).trans c18
                have HNO := hide (hI8.no_own hI8.head (by decide))
                have HI8 := hide hI8
                clear hi0 hz0 hz1i hz2i hl8 hX8 hI8 hw8
                go_wp2_with fail
                go_region_law (first
                  | (refine step_append_lies _ rfl (.tmp 135) (.tmp 137) 39 rfl 0 33 pi _ 2 16 Try.underlying39 HI.out.1 HI.out.2.1 HI.out.2.2.1 HI.out.2.2.2 rfl (by decide) _ _ _ rfl HROW.out ⟨w8.heap.size, 0, none⟩ 1 1 (placeL (d, k)) rfl rfl HNEWS.out (placeL_one _) (by decide) HNUM.out.1 HNUM.out.2 (Nat.zero_le _) _ rfl ?_; intro g9 cap9 w9 hown9 hg9 hat9 hgl9; have hB9 : Blk w9 r 41 _ := (HI8.out.head.below HL8.out hrlt8).of_block (hg9.block r (Nat.lt_of_lt_of_le hrlt8 HL8.out.size) (fun e => HNO.out e.symm)); have c19 : w9.cell? ⟨r, 1, none⟩ = some (.slice R5.la T.order.length R5.lc) := hB9.cell 1; have f19 := hB9.frozen 1; have HG9 := hide hg9; have HOWN9 := hide hown9; have HAT9 : Hid ((Value.slice R5.la T.order.length R5.lc).ownBlock = some g9 ∨ w8.heap.size ≤ g9) := (hat9.imp id (fun e => by rw [e]; exact HL8.out.size)); clear hat9 hg9 hown9 hB9))
                all_goals
                  go_wp2_with fail
                  go_ret
                  have hI9 : RefIn (w9.setCell ⟨r, 1, none⟩ (.slice (some ⟨g9, 0, none⟩) (T.order.length + 1) cap9)) r { R5 with la := some ⟨g9, 0, none⟩, lc := cap9 } (T.put d k s) := by
                    have hln : (T.put d k s).order.length = T.order.length + 1 := by rw [HPUT.out]; show (T.order ++ [(d, k)]).length = _; rw [List.length_append, List.length_singleton]
                    have h := HI8.out.loose_new (T := T.put d k s) (w9 := w9) (A := some ⟨g9, 0, none⟩) (c := cap9) ⟨rfl, rfl, rfl, rfl, rfl, rfl, rfl, rfl, rfl, rfl⟩ (fun x hx hne => (HG9.out.block x (Nat.lt_of_lt_of_le hx HL8.out.size) (fun e => hne e.symm)).trans (HL8.out.block x hx)) (by
                      rw [hln, HPUT.out]
                      show w9.ownsRow 0 33 2 _ _ (flatP (T.order ++ [(d, k)]))
                      rw [flatP_append]
                      exact HOWN9.out)
                    rw [hln] at h
                    exact h
                  have hF9 : ∀ x, RFoot r { R5 with la := some ⟨g9, 0, none⟩, lc := cap9 } (T.put d k s) x → G x ∨ w2.heap.size ≤ x := by
                    rintro x (rfl | ⟨h0, rfl⟩ | hx | ⟨i, hi, hx⟩)
                    · exact HF5.out _ (.inl rfl)
                    · exact HF5.out _ (.inr (.inl ⟨h0, rfl⟩))
                    · injection hx with hx
                      rw [← hx]
                      rcases HAT9.out with h | h
                      · exact HF5.out _ (.inr (.inr (.inl h)))
                      · exact .inr (Nat.le_trans hsz8 h)
                    · exact HF5.out _ (.inr (.inr (.inr ⟨i, hi, hx⟩)))
                  have hT9 : Turn G w2 (w9.setCell ⟨r, 1, none⟩ (.slice (some ⟨g9, 0, none⟩) (T.order.length + 1) cap9)) := ((HT8.out.below HL8.out).grown HG9.out (fun g hg => HF5.out _ (.inr (.inr (.inl hg))))).set ⟨r, 1, none⟩ (.inl hrG) _
                  have hfin := (show RefGo w2 _ r G (T.put d k s) from ⟨HOP.out, ⟨_, hI9, hF9⟩, hT9⟩).fin HL02.out HL.out
                  rw [HE2.out]
                  exact ⟨rfl, hfin.1, hfin.2⟩
          · have HE2 := hide (show S.write d k s = (T.place d k, T) by rw [HE.out, if_neg hp])
            have hne : ((T.place d k : Int) != 0) = true := by simp; omega
            clear hp
            go_wp2_with (first
              | (refine wpList_load_blk rfl 33 (.tmp 4) rfl w.heap.size 0 33 _ HX5.out rfl (placeL (d, k)) _ (fun j v hj => by rw [Nat.zero_add]; simpa using hj) Try.underlying33 rfl rplace_info ?_)
              | (go_at_call 49; refine hP.out.mono ?_; rintro _ w6 ⟨rfl, hl6⟩))
            go_ret
            have hfin := (HGT.out.later hl6).fin HL02.out HL.out
            rw [HE2.out]
            exact ⟨rfl, hfin.1, hfin.2⟩
        · obtain ⟨V, hV⟩ : ∃ V : Bank, V = { T with armed := T.armed - 1 } := ⟨_, rfl⟩
          have hset : ∀ v : Int, v = (T.armed : Int) - 1 → ∀ w4, w4 = wo.setCell ⟨r, 4, none⟩ (.int .i64 v) → RefGo w2 w4 r G V ∧ w4.cell? ⟨r, 4, none⟩ = some (.int .i64 v) ∧ w4.cell? ⟨r, 5, none⟩ = some (.int .u64 (T.mask : Int)) := by
            rintro v hv w4 rfl
            have hv2 : v = ((T.armed - 1 : Nat) : Int) := by omega
            have hI4 : RefIn (wo.setCell ⟨r, 4, none⟩ (.int .i64 v)) r R1 V := by
              rw [hV]
              exact HI1.out.head_set (w' := wo.setCell ⟨r, 4, none⟩ (.int .i64 v)) T.down T.writes (T.armed - 1) T.mask (by rw [← hv2]; exact HI1.out.head.set_ 4 _) (fun x hx => Below.heap_setCell _ _ _ x hx)
            have h4 := hI4.c4
            have h5 := hI4.c5
            rw [show V.armed = T.armed - 1 by rw [hV], ← hv2] at h4
            rw [show V.mask = T.mask by rw [hV]] at h5
            refine ⟨⟨by rw [hV]; exact HOT.out.setArmed (by omega), ⟨R1, hI4, fun x hx => HF1.out x (by rw [hV] at hx; exact hx)⟩, (HGT.out.2.2).set ⟨r, 4, none⟩ (.inl hrG) _⟩, h4, h5⟩
          have HSET := hide hset
          have ha1 : (0 : Int) < (T.armed : Int) := by omega
          clear hset
          by_cases h1 : T.armed = 1
          · have HE := hide (show S.write d k s = (6, V.crash T.mask) by
              have hc : S.count = (true, V.crash T.mask) := by
                unfold Bank.count
                rw [if_neg (by rw [HDN.out]; decide), HTK.out]
                simp only
                rw [if_neg ha0, if_pos h1, ← hV]
              unfold Bank.write
              rw [hc]
              rfl)
            obtain ⟨hg4, c44, c45⟩ := HSET.out 0 (by omega) _ rfl
            have HG4 := hide hg4
            have HML := hide (HOT.out.mask_le)
            rw [h1] at c4 ha1
            clear ha0 h1 hg4
            go_wp2_with fail
            refine (rOn_crash (HG4.out.on (fun x hx => by have := HL.out x hx; omega)) T.mask HML.out).mono ?_
            rintro _ w5 ⟨rfl, hB5, hT5⟩
            have HG5 := hide (HG4.out.step hB5 hT5)
            clear hB5 hT5 c44 c45
            go_wp2_with fail
            go_ret
            rw [HE.out]
            have hf := HG5.out.fin HL02.out HL.out
            exact ⟨rfl, hf.1, hf.2⟩
          · have HE := hide (show S.write d k s = if V.place d k = 0 then (0, V.put d k s) else (V.place d k, V) from write_up (by
              unfold Bank.count
              rw [if_neg (by rw [HDN.out]; decide), HTK.out]
              simp only
              rw [if_neg ha0, if_neg h1, ← hV]))
            have HV := hide hV
            obtain ⟨hg4, c44, c45⟩ := HSET.out ((T.armed : Int) - 1) rfl _ rfl
            have HG4 := hide hg4
            clear hV
            have hne1 : ¬ ((T.armed : Int) - 1 = 0) := by omega
            clear ha0 h1 hg4 c45
            obtain ⟨okV, ⟨R5, hI5, hF5⟩, hT5⟩ := HG4.out
            have HX5 := hide (HX.out.turned hT5 (fun hf => by have := HL.out _ hf; omega))
            have HY5 := hide (HY.out.turned hT5 (fun hf => by have := HL.out _ hf; omega))
            have hsz5 := hT5.size
            have hP := hide (rplace_any hI5 d k)
            have HI5 := hide hI5
            have HF5 := hide hF5
            have HT5 := hide hT5
            have HOV := hide okV
            clear hI5 hF5 hT5 okV
            by_cases hp : V.place d k = 0
            · obtain ⟨_, hdV, hkV⟩ := rplace_zero hp
              have HE2 := hide (show S.write d k s = (0, V.put d k s) by rw [HE.out, if_pos hp])
              have HPZ := hide hp
              rw [hp] at hP
              have hkw : (k : Int) < (V.size d : Int) := by omega
              have hdw : (d : Int) < (V.n : Int) := by omega
              have hkz : k * 64 + 64 ≤ V.size d * 64 := by omega
              clear hp
              go_wp2_with (first
                | (refine wpList_load_blk rfl 33 (.tmp 4) rfl w.heap.size 0 33 _ HX5.out rfl (placeL (d, k)) _ (fun j v hj => by rw [Nat.zero_add]; simpa using hj) Try.underlying33 rfl rplace_info ?_)
                | (go_at_call 49; refine hP.out.mono ?_; rintro _ w6 ⟨rfl, hl6⟩))
              have hsz6 := hl6.size
              have hI6 := HI5.out.later hl6
              have HX6 := hide (HX5.out.below hl6 HX5.out.lt)
              have HY6 := hide (HY5.out.below hl6 HY5.out.lt)
              have q0 : w6.drew.cell? ⟨w.heap.size, 0, none⟩ = some (.int .i64 (d : Int)) := HX6.out.cell 0
              have q1 : w6.drew.cell? ⟨w.heap.size, 1, none⟩ = some (.int .i64 (k : Int)) := HX6.out.cell 1
              have c0 : w6.drew.cell? ⟨r, 0, none⟩ = _ := hI6.c0
              rw [R5.ad_pos hdV] at c0
              have p0 : w6.drew.cell? ⟨R5.mb, d, none⟩ = _ := hI6.p hdV
              have d1 : w6.drew.cell? ⟨R5.dk d, 1, none⟩ = _ := hI6.d1 hdV
              have HN6 := hide (hI6.new d hdV).drew
              have HI6 := hide hI6.drew
              have HT6 := hide (HT5.out.below hl6).drew
              have HYC : Hid (∀ (j : Nat) (v : Value), U[j]? = some v → w6.drew.cell? ((⟨w1.heap.size, 0, none⟩ : Addr).add j) = some v) := fun j v hj => by
                have hadd : (⟨w1.heap.size, 0, none⟩ : Addr).add j = ⟨w1.heap.size, j, none⟩ := by unfold Addr.add; split <;> simp_all
                rw [hadd, HY6.out.drew.cell j]
                simpa using hj
              clear hI6 hl6 HX5 HY5 HI5 HT5
              refine wp_region_still_tail 15 (by kernel_rfl) (by kernel_rfl) ?_
              change wpStill _ _ w6.drew _ _ _
              simp only [List.take_succ_cons, List.take_zero, List.drop_succ_cons, List.drop_zero]
              iterate 13 still_step
              refine still_load_at rfl 43 (.tmp 5) rfl ⟨w1.heap.size, 0, none⟩ rfl U _ HYC.out Try.underlying43 rfl HIU.out ?_
              still_step
              refine wpStill_nil ?_
              change wpList _ _ _ _ _ w6.drew
              go_wp2_with (first
                | (refine wpList_store_blk rfl 43 (.tmp 112) (.tmp 111) rfl (R5.nw d) (k * 64) 43 _ HN6.out rfl U rfl HIU.out (by rw [HUl.out, rowS_size]; exact hkz) HUO.out ?_; intro w7 hb7 hg7 hs7; clear hs7))
              have hI7 : RefIn w7 r R5 { V with newest := upd2 V.newest d k s } := by
                refine HI6.out.new_set hdV s ?_ hg7
                have h5 := hb7
                rw [HU.out] at h5
                rw [← rowS_put (V.newest d) s k (V.size d) hkV]
                exact h5
              have hnwG := HF5.out _ (.inr (.inr (.inr ⟨d, hdV, .inr (.inr rfl)⟩)))
              have HT7 : Hid (Turn G w2 w7) := HT6.out.grown hg7 (fun g e => by injection e with e; subst e; exact hnwG)
              have hX7 : Blk w7 w.heap.size 33 (placeL (d, k)).toArray := HX6.out.drew.grown hg7 (fun e => by injection e with e; exact hnwG.elim (fun h => by have := HL.out _ h; omega) (fun h => by omega))
              have HX7 := hide hX7
              have HI7 := hide hI7
              have hsz7 := HT7.out.size
              have hlen := hide (order_le V HOV.out V.order HOV.out.nodup (fun _ hp => hp))
              clear hX7 hI7 hb7 hg7 HI6 HN6 HT6 HX6 HY6 HYC q0 q1 c0 p0 d1
              go_loopw [9] (fun s9 wr => ∃ i q : Nat, s9 = .int .i64 (i : Int) ∧ i ≤ V.order.length ∧ wr = w7.drewN q ∧ Hid (∀ j p, j < i → V.order[j]? = some p → p ≠ (d, k))) (fun s9 _ => V.order.length - (intOf s9).toNat)
              case atStart => exact ⟨0, 0, rfl, Nat.zero_le _, rfl, fun j p hj => absurd hj (Nat.not_lt_zero j)⟩
              case round =>
                obtain ⟨i, q, rfl, hi, rfl, hall⟩ := hrel
                have hl2 := hlen.out
                have hI8 : RefIn (w7.drewN q) r R5 { V with newest := upd2 V.newest d k s } := HI7.out.drewN q
                have c1 : w7.cell? ⟨r, 1, none⟩ = some (.slice R5.la V.order.length R5.lc) := hI8.c1
                by_cases hil : i < V.order.length
                · have hg1 : (i : Int) < (V.order.length : Int) := by omega
                  obtain ⟨p, hp⟩ : ∃ p, V.order[i]? = some p := ⟨_, List.getElem?_eq_getElem hil⟩
                  obtain ⟨g, hla, hcs⟩ := hI8.loose_cells hp
                  rw [hla] at c1
                  have HCS := hide hcs
                  have HX8 := hide (HX7.out.drewN q)
                  have HP := hide hp
                  have HI8 := hide hI8
                  clear hcs hp hI8
                  cases hdec : decide (p = (d, k)) with
                  | true =>
                    have hpe : p = (d, k) := of_decide_eq_true hdec
                    have HMEM := hide (show (d, k) ∈ V.order by rw [← hpe]; exact List.mem_of_getElem? HP.out)
                    have HD := hide hdec
                    clear hdec hpe
                    go_wp2_with fail
                    refine wp_region_quiet_lit (by kernel_rfl) (by kernel_rfl) ?_
                    iterate 6 (go_big_quiet_step (fail))
                    refine quiet_load_at rfl 33 (.tmp 127) rfl ⟨g, i * 2, none⟩ rfl (placeL p) _ (by rintro w1 ⟨q1, rfl⟩; exact HCS.out) Try.underlying33 rfl rplace_info ?_
                    simp only [Act.put, List.setIfInBounds_toArray, List.set_cons_succ, List.set_cons_zero]
                    refine quiet_when_load rfl 33 (.tmp 4) rfl w.heap.size 0 33 _ (by rintro w1 ⟨q1, rfl⟩; exact HX8.out.drewN _) rfl (placeL (d, k)) _ (fun j v hj => by rw [Nat.zero_add]; simpa using hj) Try.underlying33 rfl rplace_info ?_
                    simp only [Act.put, List.setIfInBounds_toArray, List.set_cons_succ, List.set_cons_zero]
                    refine quiet_eql_pl rfl (.tmp 128) (.tmp 129) _ rfl p (d, k) rfl rfl true HD.out ?_
                    simp only [Act.put, List.setIfInBounds_toArray, List.set_cons_succ, List.set_cons_zero]
                    refine wpQuiet_nil ?_
                    rintro w11 ⟨q1, rfl⟩
                    go_wp2
                    go_ret
                    have hput : V.put d k s = { V with newest := upd2 V.newest d k s } := by unfold Bank.put; rw [if_pos HMEM.out]
                    have hfin := (show RefGo w2 ((w7.drewN q).drewN q1) r G (V.put d k s) from ⟨HOV.out.put HPZ.out s, ⟨R5, by rw [hput]; exact HI8.out.drewN q1, by rw [hput]; exact HF5.out⟩, (HT7.out.drewN q).drewN q1⟩).fin HL02.out HL.out
                    rw [HE2.out]
                    exact ⟨rfl, hfin.1, hfin.2⟩
                  | false =>
                    have hpe : p ≠ (d, k) := of_decide_eq_false hdec
                    have HALL : Hid (∀ j p, j < i + 1 → V.order[j]? = some p → p ≠ (d, k)) := fun j p' hj hp' => by
                      rcases Nat.lt_or_ge j i with h | h
                      · exact hall.out j p' h hp'
                      · obtain rfl : j = i := by omega
                        rw [HP.out] at hp'
                        injection hp' with hp'
                        rw [← hp']
                        exact hpe
                    have HD := hide hdec
                    clear hdec hpe
                    go_wp2_with fail
                    refine wp_region_quiet_lit (by kernel_rfl) (by kernel_rfl) ?_
                    iterate 6 (go_big_quiet_step (fail))
                    refine quiet_load_at rfl 33 (.tmp 127) rfl ⟨g, i * 2, none⟩ rfl (placeL p) _ (by rintro w1 ⟨q1, rfl⟩; exact HCS.out) Try.underlying33 rfl rplace_info ?_
                    simp only [Act.put, List.setIfInBounds_toArray, List.set_cons_succ, List.set_cons_zero]
                    refine quiet_when_load rfl 33 (.tmp 4) rfl w.heap.size 0 33 _ (by rintro w1 ⟨q1, rfl⟩; exact HX8.out.drewN _) rfl (placeL (d, k)) _ (fun j v hj => by rw [Nat.zero_add]; simpa using hj) Try.underlying33 rfl rplace_info ?_
                    simp only [Act.put, List.setIfInBounds_toArray, List.set_cons_succ, List.set_cons_zero]
                    refine quiet_eql_pl rfl (.tmp 128) (.tmp 129) _ rfl p (d, k) rfl rfl false HD.out ?_
                    simp only [Act.put, List.setIfInBounds_toArray, List.set_cons_succ, List.set_cons_zero]
                    refine wpQuiet_nil ?_
                    rintro w11 ⟨q1, rfl⟩
                    go_wp2
                    go_roundw
                    case rel => exact ⟨i + 1, q + q1, by go_num, by omega, by first | rfl | exact World.drewN_drewN _ _ _, HALL⟩
                    case measure => simp [intOf]; omega
                · obtain rfl : i = V.order.length := by omega
                  have hnl : ¬ ((V.order.length : Int) < (V.order.length : Int)) := by omega
                  have HNM : Hid ((d, k) ∉ V.order) := fun hm => by
                    obtain ⟨j, hj, he⟩ := List.mem_iff_getElem.1 hm
                    exact hall.out j (d, k) hj (by rw [List.getElem?_eq_getElem hj, he]) rfl
                  have hput : V.put d k s = { V with newest := upd2 V.newest d k s, order := V.order ++ [(d, k)] } := by unfold Bank.put; rw [if_neg HNM.out]
                  have hokP := HOV.out.put HPZ.out s
                  have HOP := hide hokP
                  have HPUT := hide hput
                  clear hput hokP
                  obtain ⟨w8, hw8⟩ : ∃ w8, w8 = w7.drewN q := ⟨_, rfl⟩
                  rw [← hw8] at hI8 ⊢
                  have c18 : w8.cell? ⟨r, 1, none⟩ = some (.slice R5.la V.order.length R5.lc) := by rw [hw8]; exact c1
                  clear c1
                  have HT8 : Hid (Turn G w2 w8) := by show Turn _ _ _; rw [hw8]; exact HT7.out.drewN q
                  have hX8 : Blk w8 w.heap.size 33 (placeL (d, k)).toArray := by rw [hw8]; exact HX7.out.drewN q
                  have hsz8 := HT8.out.size
                  obtain ⟨pi, hi0, hz0, hz1i, hz2i⟩ := place_info
                  have HI := hide (And.intro hi0 (And.intro hz0 (And.intro hz1i hz2i)))
                  have hl8 := (((Below.refl w8.heap.size w8).alloc (Nat.le_refl _) (.cells (placeL (d, k)).toArray 33)).drew)
                  have HL8 := hide hl8
                  have HROW := hide (((hI8.loose).alloc (.cells (placeL (d, k)).toArray 33)).drew)
                  have HNEWS := hide (World.news_of_block ((Blk.new w8 33 (placeL (d, k)).toArray).drew))
                  have HNUM := hide (show V.order.length + 1 ≤ maxLen ∧ (V.order.length + 1) * 16 ≤ 140737488355328 from ⟨by simp only [maxLen]; omega, by omega⟩)
                  have q0 : w8.drew.cell? ⟨w.heap.size, 0, none⟩ = some (.int .i64 (d : Int)) := hX8.cell 0
                  have q1 : w8.drew.cell? ⟨w.heap.size, 1, none⟩ = some (.int .i64 (k : Int)) := hX8.cell 1
                  have hrlt8 : r < w8.heap.size := hI8.head.lt
                  have c1d : w8.drew.cell? ⟨r, 1, none⟩ = some (.slice R5.la V.order.length R5.lc) := c18
                  have c1a : ∀ o, (w8.alloc o).cell? ⟨r, 1, none⟩ = some (.slice R5.la V.order.length R5.lc) := fun o => (World.cell?_alloc_lt w8 o _ hrlt8).trans c18
                  have HNO := hide (hI8.no_own hI8.head (by decide))
                  have HI8 := hide hI8
                  clear hi0 hz0 hz1i hz2i hl8 hX8 hI8 hw8
                  go_wp2_with fail
                  go_region_law (first
                    | (refine step_append_lies _ rfl (.tmp 135) (.tmp 137) 39 rfl 0 33 pi _ 2 16 Try.underlying39 HI.out.1 HI.out.2.1 HI.out.2.2.1 HI.out.2.2.2 rfl (by decide) _ _ _ rfl HROW.out ⟨w8.heap.size, 0, none⟩ 1 1 (placeL (d, k)) rfl rfl HNEWS.out (placeL_one _) (by decide) HNUM.out.1 HNUM.out.2 (Nat.zero_le _) _ rfl ?_; intro g9 cap9 w9 hown9 hg9 hat9 hgl9; have hB9 : Blk w9 r 41 _ := (HI8.out.head.below HL8.out hrlt8).of_block (hg9.block r (Nat.lt_of_lt_of_le hrlt8 HL8.out.size) (fun e => HNO.out e.symm)); have c19 : w9.cell? ⟨r, 1, none⟩ = some (.slice R5.la V.order.length R5.lc) := hB9.cell 1; have f19 := hB9.frozen 1; have HG9 := hide hg9; have HOWN9 := hide hown9; have HAT9 : Hid ((Value.slice R5.la V.order.length R5.lc).ownBlock = some g9 ∨ w8.heap.size ≤ g9) := (hat9.imp id (fun e => by rw [e]; exact HL8.out.size)); clear hat9 hg9 hown9 hB9))
                  all_goals
                    go_wp2_with fail
                    go_ret
                    have hI9 : RefIn (w9.setCell ⟨r, 1, none⟩ (.slice (some ⟨g9, 0, none⟩) (V.order.length + 1) cap9)) r { R5 with la := some ⟨g9, 0, none⟩, lc := cap9 } (V.put d k s) := by
                      have hln : (V.put d k s).order.length = V.order.length + 1 := by rw [HPUT.out]; show (V.order ++ [(d, k)]).length = _; rw [List.length_append, List.length_singleton]
                      have h := HI8.out.loose_new (T := V.put d k s) (w9 := w9) (A := some ⟨g9, 0, none⟩) (c := cap9) ⟨rfl, rfl, rfl, rfl, rfl, rfl, rfl, rfl, rfl, rfl⟩ (fun x hx hne => (HG9.out.block x (Nat.lt_of_lt_of_le hx HL8.out.size) (fun e => hne e.symm)).trans (HL8.out.block x hx)) (by
                        rw [hln, HPUT.out]
                        show w9.ownsRow 0 33 2 _ _ (flatP (V.order ++ [(d, k)]))
                        rw [flatP_append]
                        exact HOWN9.out)
                      rw [hln] at h
                      exact h
                    have hF9 : ∀ x, RFoot r { R5 with la := some ⟨g9, 0, none⟩, lc := cap9 } (V.put d k s) x → G x ∨ w2.heap.size ≤ x := by
                      rintro x (rfl | ⟨h0, rfl⟩ | hx | ⟨i, hi, hx⟩)
                      · exact HF5.out _ (.inl rfl)
                      · exact HF5.out _ (.inr (.inl ⟨h0, rfl⟩))
                      · injection hx with hx
                        rw [← hx]
                        rcases HAT9.out with h | h
                        · exact HF5.out _ (.inr (.inr (.inl h)))
                        · exact .inr (Nat.le_trans hsz8 h)
                      · exact HF5.out _ (.inr (.inr (.inr ⟨i, hi, hx⟩)))
                    have hT9 : Turn G w2 (w9.setCell ⟨r, 1, none⟩ (.slice (some ⟨g9, 0, none⟩) (V.order.length + 1) cap9)) := ((HT8.out.below HL8.out).grown HG9.out (fun g hg => HF5.out _ (.inr (.inr (.inl hg))))).set ⟨r, 1, none⟩ (.inl hrG) _
                    have hfin := (show RefGo w2 _ r G (V.put d k s) from ⟨HOP.out, ⟨_, hI9, hF9⟩, hT9⟩).fin HL02.out HL.out
                    rw [HE2.out]
                    exact ⟨rfl, hfin.1, hfin.2⟩
            · have HE2 := hide (show S.write d k s = (V.place d k, V) by rw [HE.out, if_neg hp])
              have hne : ((V.place d k : Int) != 0) = true := by simp; omega
              clear hp
              go_wp2_with (first
                | (refine wpList_load_blk rfl 33 (.tmp 4) rfl w.heap.size 0 33 _ HX5.out rfl (placeL (d, k)) _ (fun j v hj => by rw [Nat.zero_add]; simpa using hj) Try.underlying33 rfl rplace_info ?_)
                | (go_at_call 49; refine hP.out.mono ?_; rintro _ w6 ⟨rfl, hl6⟩))
              go_ret
              have hfin := (HG4.out.later hl6).fin HL02.out HL.out
              rw [HE2.out]
              exact ⟨rfl, hfin.1, hfin.2⟩
end
#print axioms rOn_write
theorem rptr_info : (Try.prog.info? 72).map (fun i => (i.zero, i.size, i.bytes)) = some (some (.pointer none), 1, 8) := by kernel_rfl
theorem rsec_info : ∃ i, Try.prog.info? 43 = some i ∧ i.zero = some (secV zeroSec) ∧ i.size = 64 ∧ i.bytes = 64 := ⟨(Try.prog.info? 43).get!, by kernel_rfl, by kernel_rfl, by kernel_rfl, by kernel_rfl⟩
theorem made_zero (n : Nat) : ∀ (i : Nat) (v : Value), (madeCells (secV zeroSec).cells n)[i]? = some v → v = Value.int .u8 0 := by
  intro i v h
  have h64 : secL zeroSec = List.replicate 64 (Value.int .u8 0) := by rfl
  have hc : (secV zeroSec).cells = (List.replicate 64 (Value.int .u8 0)).toArray := by rw [← h64]; rfl
  rw [hc] at h
  unfold madeCells at h
  rw [Array.getElem?_map] at h
  cases hr : (Array.range n)[i]? with
  | none => rw [hr] at h; cases h
  | some k =>
    rw [hr] at h
    injection h with h
    rw [← h]
    have hk : k % 64 < 64 := Nat.mod_lt _ (by decide)
    show (List.replicate 64 (Value.int .u8 0)).toArray[k % (List.replicate 64 (Value.int .u8 0)).toArray.size]! = _
    simp only [List.size_toArray, List.length_replicate]
    rw [getElem!_pos _ _ (by simpa using hk), List.getElem_toArray]
    exact List.getElem_replicate _
theorem made_row (z : Nat) : madeCells (secV zeroSec).cells (z * 64) = (rowS (fun _ => zeroSec) z).toArray := rowS_zero (size_madeCells _ _) (made_zero _)
section
variable {w w' : World} {r : Nat} {R : RLay} {S : Bank} {G : Nat → Prop}
theorem rNew_any (w : World) :
    Calls Try.prog 11 #[] w fun e w' => e = .returned (.pointer (some ⟨w.heap.size, 0, none⟩)) ∧ RefOn w' w.heap.size (fun x => x = w.heap.size) Bank.new ∧ Below w.heap.size w w' ∧ w'.heap.size = w.heap.size + 1 := by
  go_enter Try.func11, Try.ntmps11
  go_wp2
  go_ret
  refine ⟨rfl, ⟨fun x hx => ?_, Bank.new_ok, ⟨0, 0, none, 0, fun _ => 0, fun _ => 0, fun _ => 0⟩, ?_, fun x hx => ?_⟩, (Below.refl _ _).alloc (Nat.le_refl _) _, World.size_alloc _ _⟩
  · rw [World.size_alloc]; omega
  · exact { head := Blk.new _ _ _, cap := ⟨Nat.le_refl _, Nat.zero_le _, fun _ => rfl⟩, row := fun h => absurd h (Nat.lt_irrefl 0), loose := World.ownsRow_nil _ _ _ _, disk := fun i h => absurd h (Nat.not_lt_zero i), flu := fun i h => absurd h (Nat.not_lt_zero i), new := fun i h => absurd h (Nat.not_lt_zero i), inj1 := fun i j h => absurd h (Nat.not_lt_zero i), inj2 := fun i j h => absurd h (Nat.not_lt_zero i), inj3 := fun i j h => absurd h (Nat.not_lt_zero i), inj4 := fun i j h => absurd h (Nat.not_lt_zero i) }
  · rcases hx with rfl | ⟨h0, _⟩ | hx | ⟨i, hi, _⟩
    · rfl
    · exact absurd h0 (Nat.lt_irrefl 0)
    · cases hx
    · exact absurd hi (Nat.not_lt_zero i)
/-- The disks' row as a row that a slice owns. -/
theorem RefIn.members (h : RefIn w r R S) : ∃ xs, w.ownsRow 0 72 1 (.slice (R.ad S.n) S.n R.cap) S.n xs ∧ ∀ i, i < S.n → xs[i]? = some (.pointer (some ⟨R.dk i, 0, none⟩)) := by
  obtain ⟨hc1, hc2, hc3⟩ := h.cap
  by_cases h0 : S.n = 0
  · refine ⟨[], ?_, fun i hi => by omega⟩
    have : R.ad S.n = none := by unfold RLay.ad; rw [if_pos h0]
    rw [this, h0, hc3 h0]
    exact World.ownsRow_nil _ _ _ _
  · obtain ⟨cs, hb, hsz, hc⟩ := h.row (by omega)
    have hlen : (cs.toList.take (S.n * 1)).length = S.n * 1 := by rw [List.length_take, Array.length_toList, hsz]; omega
    refine ⟨cs.toList.take (S.n * 1), ⟨hlen, .inr ⟨R.mb, R.cap, cs, by rw [R.ad_pos (show 0 < S.n by omega)], Nat.zero_le _, hb, hc1, hc2, by rw [hsz, Nat.mul_one], rfl⟩⟩, fun i hi => ?_⟩
    rw [List.getElem?_take_of_lt (by omega), Array.getElem?_toList]
    exact hc i hi
theorem rown_ad {n : Nat} : ∀ g, (Value.slice (R.ad n) n R.cap).ownBlock = some g → 0 < n ∧ g = R.mb := by
  intro g hg
  unfold RLay.ad at hg
  split at hg
  · simp [Value.ownBlock] at hg
  · simp only [Value.ownBlock] at hg
    injection hg with hg
    exact ⟨by omega, hg.symm⟩
theorem radd_made (h : RefIn w r R S) (hok : S.Ok) {z : Nat} (hz1 : 1 ≤ z) (hz2 : z ≤ 4096) (hn : S.n < 32) {w4 w5 : World} {g5 cap5 dk fl nw : Nat} {xs : List Value} (hl : Below w.heap.size w w4)
    (hdk : Blk w4 dk 75 #[.slice (some ⟨fl, 0, none⟩) z z, .slice (some ⟨nw, 0, none⟩) z z, .bool false, .int .i64 0]) (hfl : Blk w4 fl 43 (rowS (fun _ => zeroSec) z).toArray) (hnw : Blk w4 nw 43 (rowS (fun _ => zeroSec) z).toArray)
    (hdk0 : w.heap.size ≤ dk) (hfl0 : w.heap.size ≤ fl) (hnw0 : w.heap.size ≤ nw) (hfn : fl ≠ nw)
    (hxs : ∀ i, i < S.n → xs[i]? = some (.pointer (some ⟨R.dk i, 0, none⟩)))
    (hg5 : w4.grownBy w5 (Value.slice (R.ad S.n) S.n R.cap).ownBlock) (hown5 : w5.ownsRow 0 72 1 (.slice (some ⟨g5, 0, none⟩) (S.n + 1) cap5) (S.n + 1) (xs ++ [.pointer (some ⟨dk, 0, none⟩)])) :
    RefIn (w5.setCell ⟨r, 0, none⟩ (.slice (some ⟨g5, 0, none⟩) (S.n + 1) cap5)) r { R with mb := g5, cap := cap5, dk := upd R.dk S.n dk, fl := upd R.fl S.n fl, nw := upd R.nw S.n nw } (S.add z) ∧ (S.add z).Ok := by
  have hs4 := hl.size
  obtain ⟨cur, hcur, hnc, hcm, hcs, htake⟩ : ∃ cur : Array Value, Blk w5 g5 72 cur ∧ S.n + 1 ≤ cap5 ∧ cap5 ≤ maxLen ∧ cur.size = cap5 * 1 ∧ cur.toList.take ((S.n + 1) * 1) = xs ++ [.pointer (some ⟨dk, 0, none⟩)] := by
    rcases hown5.2 with ⟨hn, _⟩ | ⟨g', cap', cur, hv, _, hb', h1, h2, h3, h4⟩
    · cases hn
    · injection hv with hv1 hv2 hv3
      injection hv1 with hv1
      injection hv1 with hv1
      subst hv1
      subst hv3
      exact ⟨cur, hb', h1, h2, h3, h4⟩
  have hnr : ∀ {g : Nat} {t : TypeId} {cs : Array Value}, Blk w g t cs → t ≠ 72 → (Value.slice (R.ad S.n) S.n R.cap).ownBlock ≠ some g := fun hq ht e => by
    obtain ⟨h0, e⟩ := rown_ad _ e
    obtain ⟨cs, hb, _⟩ := h.row h0
    exact hq.apart hb ht e
  have hnr4 : ∀ g, w.heap.size ≤ g → (Value.slice (R.ad S.n) S.n R.cap).ownBlock ≠ some g := fun g hg e => by
    obtain ⟨h0, e⟩ := rown_ad _ e
    have := h.foot_lt R.mb (.inr (.inl ⟨h0, rfl⟩))
    omega
  have h5 : ∀ {g : Nat} {t : TypeId} {cs : Array Value}, Blk w g t cs → t ≠ 72 → Blk w5 g t cs := fun hq ht => (hq.below hl hq.lt).grown hg5 (fun e => hnr hq ht e.symm)
  have h45 : ∀ {g : Nat} {t : TypeId} {cs : Array Value}, Blk w4 g t cs → w.heap.size ≤ g → Blk w5 g t cs := fun hq hg => hq.grown hg5 (fun e => hnr4 _ hg e.symm)
  have hh := h5 h.head (by decide)
  have h6 : ∀ {g : Nat} {t : TypeId} {cs : Array Value}, Blk w5 g t cs → t ≠ 41 → Blk (w5.setCell ⟨r, 0, none⟩ (.slice (some ⟨g5, 0, none⟩) (S.n + 1) cap5)) g t cs := fun hq ht => hq.far (hq.apart hh ht) _
  have hxl : xs.length = S.n := by have := hown5.1; rw [List.length_append] at this; simp at this; omega
  have hold : ∀ i, i < S.n → R.dk i < w.heap.size ∧ R.fl i < w.heap.size ∧ R.nw i < w.heap.size := fun i hi => ⟨(h.disk i hi).lt, (h.flu i hi).lt, (h.new i hi).lt⟩
  have hout : ∀ k, (S.n, k) ∉ S.order := fun k hk => by have := (hok.loose _ hk).1; simp at this
  have hinj : ∀ (m : Nat → Nat) (y : Nat), (∀ i j, i < S.n → j < S.n → m i = m j → i = j) → (∀ i, i < S.n → m i ≠ y) → ∀ i j, i < S.n + 1 → j < S.n + 1 → upd m S.n y i = upd m S.n y j → i = j := by
    intro m y h1 h2 i j hi hj he
    by_cases ei : i = S.n
    · by_cases ej : j = S.n
      · omega
      · rw [ei, upd_self, upd_ne _ _ ej] at he
        exact absurd he.symm (h2 j (by omega))
    · rw [upd_ne _ _ ei] at he
      by_cases ej : j = S.n
      · rw [ej, upd_self] at he
        exact absurd he (h2 i (by omega))
      · rw [upd_ne _ _ ej] at he
        exact h1 i j (by omega) (by omega) he
  refine ⟨{ head := ?_, cap := ⟨hnc, hcm, fun e => absurd e (Nat.succ_ne_zero _)⟩, row := fun _ => ⟨cur, h6 hcur (by decide), by rw [hcs, Nat.mul_one], fun i hi => ?_⟩, loose := ?_, disk := fun i hi => ?_, flu := fun i hi => ?_, new := fun i hi => ?_, inj1 := hinj _ _ h.inj1 (fun i hi e => by have := (hold i hi).1; omega), inj2 := hinj _ _ h.inj2 (fun i hi e => by have := (hold i hi).2.1; omega), inj3 := hinj _ _ h.inj3 (fun i hi e => by have := (hold i hi).2.2; omega), inj4 := fun i j hi hj => ?_ }, ?_⟩
  · have h2 := hh.set_ 0 (.slice (some ⟨g5, 0, none⟩) (S.n + 1) cap5)
    have e : RLay.ad { R with mb := g5, cap := cap5, dk := upd R.dk S.n dk, fl := upd R.fl S.n fl, nw := upd R.nw S.n nw } (S.add z).n = some ⟨g5, 0, none⟩ := RLay.ad_pos _ (Nat.lt_succ_self S.n)
    rw [e]
    exact h2
  · have hi' : i < S.n + 1 := hi
    show cur[i]? = some (.pointer (some ⟨upd R.dk S.n dk i, 0, none⟩))
    have e1 : cur[i]? = (xs ++ [.pointer (some ⟨dk, 0, none⟩)])[i]? := by rw [← htake, List.getElem?_take_of_lt (by omega), Array.getElem?_toList]
    rw [e1]
    by_cases e : i = S.n
    · subst e
      rw [upd_self, List.getElem?_append_right (by omega), hxl, Nat.sub_self]
      rfl
    · rw [upd_ne _ _ e, List.getElem?_append_left (by omega)]
      exact hxs i (by omega)
  · refine own_of_block h.loose (fun g hg0 => ?_)
    have hg : (Value.slice R.la S.order.length R.lc).ownBlock = some g := hg0
    rcases h.loose.2 with ⟨hv, _⟩ | ⟨g', cap, cu, hv, _, hbk, _⟩
    · rw [hv] at hg
      cases hg
    · rw [hv] at hg
      injection hg with hg
      subst hg
      have hbp : Blk w g' 33 cu := hbk
      exact (h6 (h5 hbp (by decide)) (by decide)).trans hbp.symm
  · have hi' : i < S.n + 1 := hi
    show Blk _ (upd R.dk S.n dk i) _ #[.slice (some ⟨upd R.fl S.n fl i, 0, none⟩) (upd S.size S.n z i) (upd S.size S.n z i), .slice (some ⟨upd R.nw S.n nw i, 0, none⟩) (upd S.size S.n z i) (upd S.size S.n z i), .bool (upd S.dead S.n false i), .int .i64 ((upd S.failAt S.n 0 i : Nat) : Int)]
    by_cases e : i = S.n
    · subst e
      simp only [upd_self]
      exact h6 (h45 hdk hdk0) (by decide)
    · simp only [upd_ne _ _ e]
      exact h6 (h5 (h.disk i (by omega)) (by decide)) (by decide)
  · have hi' : i < S.n + 1 := hi
    show Blk _ (upd R.fl S.n fl i) _ (rowS (upd S.flushed S.n (fun _ => zeroSec) i) (upd S.size S.n z i)).toArray
    by_cases e : i = S.n
    · subst e
      simp only [upd_self]
      exact h6 (h45 hfl hfl0) (by decide)
    · simp only [upd_ne _ _ e]
      exact h6 (h5 (h.flu i (by omega)) (by decide)) (by decide)
  · have hi' : i < S.n + 1 := hi
    show Blk _ (upd R.nw S.n nw i) _ (rowS (upd S.newest S.n (fun _ => zeroSec) i) (upd S.size S.n z i)).toArray
    by_cases e : i = S.n
    · subst e
      simp only [upd_self]
      exact h6 (h45 hnw hnw0) (by decide)
    · simp only [upd_ne _ _ e]
      exact h6 (h5 (h.new i (by omega)) (by decide)) (by decide)
  · have hi' : i < S.n + 1 := hi
    have hj' : j < S.n + 1 := hj
    show upd R.fl S.n fl i ≠ upd R.nw S.n nw j
    by_cases ei : i = S.n
    · rw [ei, upd_self]
      by_cases ej : j = S.n
      · rw [ej, upd_self]; exact hfn
      · rw [upd_ne _ _ ej]
        have := (hold j (by omega)).2.2
        omega
    · rw [upd_ne _ _ ei]
      have := (hold i (by omega)).2.1
      by_cases ej : j = S.n
      · rw [ej, upd_self]; omega
      · rw [upd_ne _ _ ej]; exact h.inj4 i j (by omega) (by omega)
  · refine ⟨by show S.n + 1 ≤ 32; omega, fun d hd => ?_, hok.nodup, fun p hp => ?_, fun d k hk => ?_, hok.down_, fun d => ?_, hok.armed_le, hok.mask_le⟩
    · show 1 ≤ upd S.size S.n z d ∧ upd S.size S.n z d ≤ 4096
      by_cases e : d = S.n
      · subst e; rw [upd_self]; exact ⟨hz1, hz2⟩
      · rw [upd_ne _ _ e]; exact hok.size_le d (by have : d < S.n + 1 := hd; omega)
    · obtain ⟨h1, h2, h3⟩ := hok.loose p hp
      have e : p.1 ≠ S.n := by omega
      exact ⟨by show p.1 < S.n + 1; omega, by show p.2 < upd S.size S.n z p.1; rw [upd_ne _ _ e]; exact h2, by show upd S.dead S.n false p.1 = false; rw [upd_ne _ _ e]; exact h3⟩
    · show upd S.newest S.n _ d k = upd S.flushed S.n _ d k
      by_cases e : d = S.n
      · subst e; rw [upd_self, upd_self]
      · rw [upd_ne _ _ e, upd_ne _ _ e]; exact hok.same d k hk
    · show upd S.failAt S.n 0 d < _
      by_cases e : d = S.n
      · subst e; rw [upd_self]; decide
      · rw [upd_ne _ _ e]; exact hok.fail_le d
theorem radd_fin (h3 : RefIn w r R S) (hok : S.Ok) (hG : ∀ x, RFoot r R S x → G x) (hL : ∀ x, G x → x < w.heap.size) {z : Nat} (hz1 : 1 ≤ z) (hz2 : z ≤ 4096) (hn : S.n < 32) {w5 : World} {g5 cap5 : Nat} {xs : List Value} {Z : Array Value} (hZ : Z = (rowS (fun _ => zeroSec) z).toArray)
    (hxs : ∀ i, i < S.n → xs[i]? = some (.pointer (some ⟨R.dk i, 0, none⟩))) (fl nw : Nat)
    (hg5 : ((((w.alloc (.cells Z 43)).alloc (.cells Z 43)).alloc (.cells #[.slice (some ⟨fl, 0, none⟩) z z, .slice (some ⟨nw, 0, none⟩) z z, .bool false, .int .i64 0] 75)).alloc (.cells #[Value.pointer (some ⟨w.heap.size + 1 + 1, 0, none⟩)] 72)).drew.grownBy w5 (Value.slice (R.ad S.n) S.n R.cap).ownBlock)
    (hcase : (fl = w.heap.size ∧ nw = w.heap.size + 1) ∨ (fl = w.heap.size + 1 ∧ nw = w.heap.size))
    (hown5 : w5.ownsRow 0 72 1 (.slice (some ⟨g5, 0, none⟩) (S.n + 1) cap5) (S.n + 1) (xs ++ [.pointer (some ⟨w.heap.size + 1 + 1, 0, none⟩)])) (hat : (Value.slice (R.ad S.n) S.n R.cap).ownBlock = some g5 ∨ w.heap.size ≤ g5) :
    RefOn (w5.setCell ⟨r, 0, none⟩ (.slice (some ⟨g5, 0, none⟩) (S.n + 1) cap5)) r (More G w (w5.setCell ⟨r, 0, none⟩ (.slice (some ⟨g5, 0, none⟩) (S.n + 1) cap5))) (S.add z) ∧ Turn G w (w5.setCell ⟨r, 0, none⟩ (.slice (some ⟨g5, 0, none⟩) (S.n + 1) cap5)) := by
  have b1 : Blk (w.alloc (.cells Z 43)) w.heap.size 43 Z := Blk.new _ _ _
  have b2 : Blk ((w.alloc (.cells Z 43)).alloc (.cells Z 43)) (w.heap.size + 1) 43 Z := by
    have := Blk.new (w.alloc (.cells Z 43)) 43 Z
    rw [World.size_alloc] at this
    exact this
  have b3 : Blk (((w.alloc (.cells Z 43)).alloc (.cells Z 43)).alloc (.cells #[.slice (some ⟨fl, 0, none⟩) z z, .slice (some ⟨nw, 0, none⟩) z z, .bool false, .int .i64 0] 75)) (w.heap.size + 1 + 1) 75 #[.slice (some ⟨fl, 0, none⟩) z z, .slice (some ⟨nw, 0, none⟩) z z, .bool false, .int .i64 0] := by
    have := Blk.new ((w.alloc (.cells Z 43)).alloc (.cells Z 43)) 75 #[.slice (some ⟨fl, 0, none⟩) z z, .slice (some ⟨nw, 0, none⟩) z z, .bool false, .int .i64 0]
    rw [World.size_alloc, World.size_alloc] at this
    exact this
  obtain ⟨w4, hw4⟩ : ∃ w4, w4 = ((((w.alloc (.cells Z 43)).alloc (.cells Z 43)).alloc (.cells #[.slice (some ⟨fl, 0, none⟩) z z, .slice (some ⟨nw, 0, none⟩) z z, .bool false, .int .i64 0] 75)).alloc (.cells #[Value.pointer (some ⟨w.heap.size + 1 + 1, 0, none⟩)] 72)).drew := ⟨_, rfl⟩
  have hl4 : Below w.heap.size w w4 := by
    rw [hw4]
    exact (((((Below.refl _ w).alloc (Nat.le_refl _) _).alloc (by rw [World.size_alloc]; omega) _).alloc (by simp only [World.size_alloc]; omega) _).alloc (by simp only [World.size_alloc]; omega) _).drew
  have d1 : Blk w4 w.heap.size 43 Z := by rw [hw4]; exact (((b1.alloc _).alloc _).alloc _).drew
  have d2 : Blk w4 (w.heap.size + 1) 43 Z := by rw [hw4]; exact ((b2.alloc _).alloc _).drew
  have d3 : Blk w4 (w.heap.size + 1 + 1) 75 #[.slice (some ⟨fl, 0, none⟩) z z, .slice (some ⟨nw, 0, none⟩) z z, .bool false, .int .i64 0] := by rw [hw4]; exact (b3.alloc _).drew
  rw [← hw4] at hg5
  clear hw4 b1 b2 b3
  rw [hZ] at d1 d2
  have dfl : Blk w4 fl 43 (rowS (fun _ => zeroSec) z).toArray := by
    rcases hcase with ⟨h, _⟩ | ⟨h, _⟩
    · rw [h]; exact d1
    · rw [h]; exact d2
  have dnw : Blk w4 nw 43 (rowS (fun _ => zeroSec) z).toArray := by
    rcases hcase with ⟨_, h⟩ | ⟨_, h⟩
    · rw [h]; exact d2
    · rw [h]; exact d1
  obtain ⟨hI, hO⟩ := radd_made h3 hok hz1 hz2 hn hl4 d3 dfl dnw (by omega) (by omega) (by omega) (by omega) hxs hg5 hown5
  have hsz6 : (w5.setCell ⟨r, 0, none⟩ (.slice (some ⟨g5, 0, none⟩) (S.n + 1) cap5)).heap.size = w5.heap.size := by simp [World.setCell]
  have hT5 : Turn G w w5 := (Turn.of_below hl4).grown hg5 (fun g hg => by
    obtain ⟨h0, e⟩ := rown_ad _ hg
    rw [e]
    exact .inl (hG _ (.inr (.inl ⟨h0, rfl⟩))))
  have hs5 := hT5.size
  refine ⟨⟨fun x hx => ?_, hO, _, hI, fun x hx => ?_⟩, hT5.set ⟨r, 0, none⟩ (.inl (hG r (.inl rfl))) _⟩
  · rcases hx with hx | hx
    · have := hL x hx
      rw [hsz6]
      omega
    · exact hx.2
  · have hlt := hI.foot_lt x hx
    rcases hx with e0 | ⟨_, e0⟩ | hx | ⟨i, hi, hx⟩
    · rw [e0]
      exact .inl (hG _ (.inl rfl))
    · have e1 : x = g5 := e0
      rw [e1] at hlt ⊢
      rcases hat with h | h
      · obtain ⟨h0, e⟩ := rown_ad _ h
        rw [e]
        exact .inl (hG _ (.inr (.inl ⟨h0, rfl⟩)))
      · exact .inr ⟨h, hlt⟩
    · exact .inl (hG _ (.inr (.inr (.inl hx))))
    · have hi' : i < S.n + 1 := hi
      by_cases ei : i = S.n
      · subst ei
        refine .inr ⟨?_, hlt⟩
        rcases hx with hx | hx | hx
        · have e : x = w.heap.size + 1 + 1 := hx.trans (upd_self _ _ _)
          omega
        · have e : x = fl := hx.trans (upd_self _ _ _)
          omega
        · have e : x = nw := hx.trans (upd_self _ _ _)
          omega
      · refine .inl (hG _ (.inr (.inr (.inr ⟨i, by omega, ?_⟩))))
        rcases hx with hx | hx | hx
        · exact .inl (hx.trans (upd_ne _ _ ei))
        · exact .inr (.inl (hx.trans (upd_ne _ _ ei)))
        · exact .inr (.inr (hx.trans (upd_ne _ _ ei)))
set_option maxRecDepth 100000 in
set_option maxHeartbeats 4000000 in
theorem rOn_add (h : RefOn w r G S) (z : Nat) (hz1 : 1 ≤ z) (hz2 : z ≤ 4096) (hn : S.n < 32) :
    Calls Try.prog 12 #[.pointer (some ⟨r, 0, none⟩), .int .i64 (z : Int)] w fun e w' => (∃ v, e = .returned v) ∧ RefOn w' r (More G w w') (S.add z) ∧ Turn G w w' := by
  obtain ⟨h1, h2, R, h3, h4⟩ := h
  obtain ⟨xs, hrow, hxs⟩ := h3.members
  have c0 := h3.c0
  obtain ⟨i1, hi1, hz1i1, hs1, hy1⟩ := rsec_info
  obtain ⟨i0, hi0, hz0, hz1i, hz2i⟩ := info_parts rptr_info
  obtain ⟨Z, hZ⟩ : ∃ Z, Z = (rowS (fun _ => zeroSec) z).toArray := ⟨_, rfl⟩
  have hmk : ∀ w : World, (Instr.makeSlice 73 (.int .i64 (z : Int)) (.int .i64 (z : Int))).run Try.prog w = .ok (.slice (some ⟨w.heap.size, 0, none⟩) z z) (w.alloc (.cells Z 43)) := fun w => by
    have := run_makeSlice (P := Try.prog) (w := w) 73 43 i1 (secV zeroSec) Try.underlying73 hi1 hz1i1 .i64 .i64 (z : Int) (z : Int) (by omega) (Int.le_refl _) (by rw [hs1, Int.toNat_natCast]; omega) (by rw [hy1]; omega) (by omega)
    rw [hs1, Int.toNat_natCast, made_row, ← hZ] at this
    exact this
  clear hi1 hz1i1 hs1 hy1
  have HZ := hide hZ
  have hz3 : ∀ D, (((w.alloc (.cells Z 43)).alloc (.cells Z 43)).alloc D).heap.size = w.heap.size + 1 + 1 + 1 := fun D => by simp only [World.size_alloc]
  have hl3 : ∀ D, Below w.heap.size w (((w.alloc (.cells Z 43)).alloc (.cells Z 43)).alloc D) := fun D => (((Below.refl _ w).alloc (Nat.le_refl _) _).alloc (by rw [World.size_alloc]; omega) _).alloc (by simp only [World.size_alloc]; omega) _
  have hl4 := fun D => ((hl3 D).alloc (by rw [hz3]; omega) (.cells #[Value.pointer (some ⟨w.heap.size + 1 + 1, 0, none⟩)] 72)).drew
  have hrow4 := fun D => ((((hrow.alloc (.cells Z 43)).alloc (.cells Z 43)).alloc D).alloc (.cells #[Value.pointer (some ⟨w.heap.size + 1 + 1, 0, none⟩)] 72)).drew
  have hnews := fun D => World.news_of_block ((Blk.new (((w.alloc (.cells Z 43)).alloc (.cells Z 43)).alloc D) 72 #[Value.pointer (some ⟨w.heap.size + 1 + 1, 0, none⟩)]).drew)
  simp only [hz3] at hnews
  have HL4 := hide hl4
  have HROW := hide hrow4
  have HNEWS := hide hnews
  have hrlt := h3.head.lt
  have c0d : w.drew.cell? ⟨r, 0, none⟩ = some (.slice (R.ad S.n) S.n R.cap) := c0
  have c0a : ∀ o, (w.alloc o).cell? ⟨r, 0, none⟩ = some (.slice (R.ad S.n) S.n R.cap) := fun o => (World.cell?_alloc_lt w o _ hrlt).trans c0
  have c0b : ∀ o p, ((w.alloc o).alloc p).cell? ⟨r, 0, none⟩ = some (.slice (R.ad S.n) S.n R.cap) := fun o p => (World.cell?_alloc_lt (w.alloc o) p _ (by rw [World.size_alloc]; show r < _; omega)).trans (c0a o)
  have c0e : ∀ o p q, (((w.alloc o).alloc p).alloc q).cell? ⟨r, 0, none⟩ = some (.slice (R.ad S.n) S.n R.cap) := fun o p q => (World.cell?_alloc_lt ((w.alloc o).alloc p) q _ (by simp only [World.size_alloc]; show r < _; omega)).trans (c0b o p)
  have c0g : ∀ o p q s, ((((w.alloc o).alloc p).alloc q).alloc s).cell? ⟨r, 0, none⟩ = some (.slice (R.ad S.n) S.n R.cap) := fun o p q s => (World.cell?_alloc_lt (((w.alloc o).alloc p).alloc q) s _ (by simp only [World.size_alloc]; show r < _; omega)).trans (c0e o p q)
  have hn32 : ¬ ((32 : Int) ≤ (S.n : Int)) := by omega
  have hza : decide ((z : Int) < 1) = false := by simp; omega
  have hzb : decide ((4096 : Int) < (z : Int)) = false := by simp; omega
  have hnm : S.n + 1 ≤ maxLen ∧ (S.n + 1) * 8 ≤ 140737488355328 := by simp only [maxLen]; omega
  have HNM := hide hnm
  have HB := hide h3
  have HOK := hide h2
  have HG := hide h4
  have HL := hide h1
  have HXS := hide hxs
  have HHB := hide h3.head
  have HI := hide (And.intro hi0 (And.intro hz0 (And.intro hz1i hz2i)))
  have HNO : Hid ((Value.slice (R.ad S.n) S.n R.cap).ownBlock ≠ some r) := fun e => by
    obtain ⟨h0, e⟩ := rown_ad _ e
    obtain ⟨cs, hb, _⟩ := h3.row h0
    exact h3.head.apart hb (by decide) e
  clear hl3 hl4 hrow4 hnews hz3 hrow hi0 hz0 hz1i hz2i hnm hZ h1 h2 h3 h4 hxs
  go_enter Try.func12, Try.ntmps12
  go_wp2
  go_region_law (first
    | (refine step_append_lies _ rfl (.tmp 22) (.tmp 29) 38 rfl 0 72 i0 _ 1 8 Try.underlying38 HI.out.1 HI.out.2.1 HI.out.2.2.1 HI.out.2.2.2 rfl (by decide) _ _ _ rfl (HROW.out _) ⟨w.heap.size + 1 + 1 + 1, 0, none⟩ 1 1 [.pointer (some ⟨w.heap.size + 1 + 1, 0, none⟩)] rfl rfl (HNEWS.out _) (by intro u hu; simp at hu; subst hu; rfl) (by decide) HNM.out.1 HNM.out.2 (Nat.zero_le _) _ rfl ?_; intro g5 cap5 w5 hown5 hg5 hat5 hgl5; have HAT : Hid ((Value.slice (R.ad S.n) S.n R.cap).ownBlock = some g5 ∨ w.heap.size ≤ g5) := (hat5.imp id (fun e => by rw [e]; exact (HL4.out _).size)); have hB5 : Blk w5 r 41 _ := (HHB.out.below (HL4.out _) hrlt).of_block (hg5.block r (Nat.lt_of_lt_of_le hrlt (HL4.out _).size) (fun e => HNO.out e.symm)); have c05 : w5.cell? ⟨r, 0, none⟩ = some (.slice (R.ad S.n) S.n R.cap) := hB5.cell 0; have f05 := hB5.frozen 0; have HG5 := hide hg5; have HOWN5 := hide hown5; clear hat5 hg5 hB5 hown5))
  all_goals
    go_wp2
    go_ret2
    exact ⟨⟨_, rfl⟩, radd_fin HB.out HOK.out HG.out HL.out hz1 hz2 hn HZ.out HXS.out _ _ HG5.out (by omega) HOWN5.out HAT.out⟩
end
#print axioms rOn_add
end Go.Proofs.Ytgfbndmdndpelaa
