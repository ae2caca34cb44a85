/- What record.Join does. -/
import Derived.Test.YtmjdndhpnckeeaaRecT
namespace Go.Proofs.Ytmjdndhpnckeeaa
open Go.RowKit

theorem tag_guard : Try.prog.eqGuardType Try.prog.depth 105 = false := by kernel_rfl
theorem tag_fields : Try.prog.underlying 105 = some (.struct (Try.prog.fieldsOf 105)) := by kernel_rfl
theorem tag_stood : Try.prog.stoodInHeld 105 = false := by kernel_rfl
theorem tag_fieldsL : (Try.prog.fieldsOf 105).toList.map (fun f => (f.name, f.type, f.offset)) = [("Gen", 3, 0), ("Num", 3, 1), ("Part", 3, 2), ("Parts", 3, 3), ("Len", 3, 4)] := by kernel_rfl
/-- Do two tags say the same? -/
def sameT (a b : Tg) : Bool := a.gen == b.gen && (a.nr == b.nr && (a.part == b.part && (a.parts == b.parts && a.len == b.len)))
set_option maxRecDepth 100000 in
set_option maxHeartbeats 1000000 in
theorem run_neq_tag (a b : Tg) (w : World) : (binOp .neq 105 (tagV a) (tagV b)).run Try.prog w = .ok (.bool (!sameT a b)) w := by
  obtain ⟨a1, a2, a3, a4, a5⟩ := a
  obtain ⟨b1, b2, b3, b4, b5⟩ := b
  have h := run_equalIn_struct (P := Try.prog) w 9999 105 (tagC ⟨a1, a2, a3, a4, a5⟩).toArray (tagC ⟨b1, b2, b3, b4, b5⟩).toArray tag_fields tag_stood
  have hl := tag_fieldsL
  generalize (Try.prog.fieldsOf 105).toList = fs at h hl
  rcases fs with _ | ⟨f0, _ | ⟨f1, _ | ⟨f2, _ | ⟨f3, _ | ⟨f4, _ | ⟨f5, fs⟩⟩⟩⟩⟩⟩ <;> simp at hl
  obtain ⟨⟨n0, t0, o0⟩, ⟨n1, t1, o1⟩, ⟨n2, t2, o2⟩, ⟨n3, t3, o3⟩, n4, t4, o4⟩ := hl
  have p0 : ∀ (x y z u v : Int), (part f0.type (tagC ⟨x, y, z, u, v⟩).toArray f0.offset).run Try.prog w = .ok (.int .i64 x) w := fun x y z u v => by rw [t0, o0]; exact run_part_plain (P := Try.prog) w (by kernel_rfl) (xs := (tagC ⟨x, y, z, u, v⟩).toArray) (off := 0) (v := .int .i64 x) rfl
  have p1 : ∀ (x y z u v : Int), (part f1.type (tagC ⟨x, y, z, u, v⟩).toArray f1.offset).run Try.prog w = .ok (.int .i64 y) w := fun x y z u v => by rw [t1, o1]; exact run_part_plain (P := Try.prog) w (by kernel_rfl) (xs := (tagC ⟨x, y, z, u, v⟩).toArray) (off := 1) (v := .int .i64 y) rfl
  have p2 : ∀ (x y z u v : Int), (part f2.type (tagC ⟨x, y, z, u, v⟩).toArray f2.offset).run Try.prog w = .ok (.int .i64 z) w := fun x y z u v => by rw [t2, o2]; exact run_part_plain (P := Try.prog) w (by kernel_rfl) (xs := (tagC ⟨x, y, z, u, v⟩).toArray) (off := 2) (v := .int .i64 z) rfl
  have p3 : ∀ (x y z u v : Int), (part f3.type (tagC ⟨x, y, z, u, v⟩).toArray f3.offset).run Try.prog w = .ok (.int .i64 u) w := fun x y z u v => by rw [t3, o3]; exact run_part_plain (P := Try.prog) w (by kernel_rfl) (xs := (tagC ⟨x, y, z, u, v⟩).toArray) (off := 3) (v := .int .i64 u) rfl
  have p4 : ∀ (x y z u v : Int), (part f4.type (tagC ⟨x, y, z, u, v⟩).toArray f4.offset).run Try.prog w = .ok (.int .i64 v) w := fun x y z u v => by rw [t4, o4]; exact run_part_plain (P := Try.prog) w (by kernel_rfl) (xs := (tagC ⟨x, y, z, u, v⟩).toArray) (off := 4) (v := .int .i64 v) rfl
  have e0 : ∀ x y : Int, (Op.equalIn 9999 f0.type (.int .i64 x) (.int .i64 y)).run Try.prog w = .ok (x == y) w := fun x y => by rw [t0]; exact run_equalIn_int (P := Try.prog) w 9998 3 .i64 .i64 x y Try.underlying3
  have e1 : ∀ x y : Int, (Op.equalIn 9999 f1.type (.int .i64 x) (.int .i64 y)).run Try.prog w = .ok (x == y) w := fun x y => by rw [t1]; exact run_equalIn_int (P := Try.prog) w 9998 3 .i64 .i64 x y Try.underlying3
  have e2 : ∀ x y : Int, (Op.equalIn 9999 f2.type (.int .i64 x) (.int .i64 y)).run Try.prog w = .ok (x == y) w := fun x y => by rw [t2]; exact run_equalIn_int (P := Try.prog) w 9998 3 .i64 .i64 x y Try.underlying3
  have e3 : ∀ x y : Int, (Op.equalIn 9999 f3.type (.int .i64 x) (.int .i64 y)).run Try.prog w = .ok (x == y) w := fun x y => by rw [t3]; exact run_equalIn_int (P := Try.prog) w 9998 3 .i64 .i64 x y Try.underlying3
  have e4 : ∀ x y : Int, (Op.equalIn 9999 f4.type (.int .i64 x) (.int .i64 y)).run Try.prog w = .ok (x == y) w := fun x y => by rw [t4]; exact run_equalIn_int (P := Try.prog) w 9998 3 .i64 .i64 x y Try.underlying3
  unfold tagV
  rw [run_neq_struct, h]
  simp only [Op.eqFields]
  by_cases h1 : a1 = b1 <;> by_cases h2 : a2 = b2 <;> by_cases h3 : a3 = b3 <;> by_cases h4 : a4 = b4 <;> by_cases h5 : a5 = b5 <;> simp [n0, n1, n2, n3, n4, p0, p1, p2, p3, p4, e0, e1, e2, e3, e4, h1, h2, h3, h4, h5, sameT]
#print axioms run_neq_tag
theorem when_neq_tag {ops : Array Oper} {rest : List Oper} {o : Oper} {a : Act} {w : World} {Q : Exit → Act → World → Prop} (hw : Region.wanted o (yielded ops a.tmps) = true) (p q : Operand) (tr : TypeId) (ho : o.op = .binOp .neq 105 p q tr)
    (x y : Tg) (hp : a.eval p = tagV x) (hq : a.eval q = tagV y) (r : Bool) (hr : (!sameT x y) = r) (h : wpList Try.prog ops Q rest (a.put o.dst (.bool r)) w) : wpList Try.prog ops Q (o :: rest) a w :=
  when_gives hw (.bool r) (by
    unfold execOp
    have hg := run_eqGuard_agg (P := Try.prog) w .neq 105 p q (tagC x).toArray (tagC y).toArray tag_guard
    have hn := run_neq_tag x y w
    unfold tagV at hp hq hn
    simp only [ho, hp, hq, Sem.run_bind, hg, Result.andThen_ok, hn, Sem.run_pure, hr]) h
theorem own_conv8 {P : Program} {w : World} {base n c : Nat} {A : Option Addr} {l : List UInt8} (src e dst : TypeId) (hs : P.underlying src = some (.slice e)) (he : P.underlying e = some (.int .u8)) (hd : P.underlying dst = some .string)
    (h : w.ownsRow base e 1 (.slice A n c) n (B8 l)) : (convert src dst (.slice A n c)).run P w = .ok (.string ⟨l.toArray⟩) w := run_conv_reads w src e dst hs he hd _ A n c l (Reads.of_own h)
theorem same_ok {gen nr : Int} {n i : Nat} {s : List UInt8} (h : partB s = true) : sameT (readT s) ⟨gen, nr, (i : Nat), (n : Nat), (readT s).len⟩ = okT gen nr n i s := by
  rw [okT, h, Bool.true_and, sameT]
  by_cases h1 : (readT s).gen = gen <;> by_cases h2 : (readT s).nr = nr <;> by_cases h3 : (readT s).part = i <;> by_cases h4 : (readT s).parts = n <;> simp [h1, h2, h3, h4]
theorem ok_nopart {gen nr : Int} {n i : Nat} {s : List UInt8} (h : partB s = false) : okT gen nr n i s = false := by rw [okT, h]; rfl
theorem AllOk.zero {gen nr : Int} {n : Nat} {bs : List UInt8} : AllOk gen nr n bs 0 := fun i hi => absurd hi (by omega)
theorem AllOk.succ {gen nr : Int} {n k : Nat} {bs : List UInt8} (h : AllOk gen nr n bs k) (hk : okT gen nr n k (secAt bs k) = true) : AllOk gen nr n bs (k + 1) := fun i hi => by
  by_cases h1 : i < k
  · exact h i h1
  · obtain rfl : i = k := by omega
    exact hk
theorem join_all {gen nr : Int} {n : Nat} {bs : List UInt8} (h : AllOk gen nr n bs n) : joinB gen nr n bs = decide (0 < n) ∧ joinL gen nr n bs = cat (contAt bs) n := by
  rcases Nat.eq_zero_or_pos n with rfl | h0
  · exact ⟨rfl, rfl⟩
  · have h1 := join_yes h0 h
    exact ⟨by rw [h1]; simp [h0], by rw [joinL, if_pos h1]⟩
/-- What Join answers. -/
def Joined (gen nr : Int) (n : Nat) (bs : List UInt8) (w : World) (e : Ending) (w' : World) : Prop :=
  ∃ (R : Option Addr) (k d : Nat), e = .returned (.tuple #[.slice R k d, .bool (joinB gen nr n bs)]) ∧ k ≤ d ∧ d ≤ maxLen ∧ w'.ownsRow w.heap.size 5 1 (.slice R k d) k (B8 (joinL gen nr n bs)) ∧ Below w.heap.size w w'
theorem joined_no {gen nr : Int} {n : Nat} {bs : List UInt8} {w w' : World} (h : joinB gen nr n bs = false) (hb : Below w.heap.size w w') : Joined gen nr n bs w (.returned (.tuple #[.slice none 0 0, .bool false])) w' :=
  ⟨none, 0, 0, by rw [h], Nat.le_refl _, Nat.zero_le _, by rw [joinL_no h]; exact World.ownsRow_nil _ _ _ _, hb⟩

set_option maxRecDepth 100000 in
set_option maxHeartbeats 4000000 in
theorem recJoin_any (gen nr : Int) (A : Option Addr) (n c : Nat) (bs : List UInt8) (B0 : Nat) (w : World) (hr : Reads w B0 64 A n (B8 bs)) (hB0 : B0 ≤ w.heap.size) (hn : n ≤ 9223372036854775807) :
    Calls Try.prog 43 #[.int .i64 gen, .int .i64 nr, .slice A n c] w (Joined gen nr n bs w) := by
  obtain ⟨i0, hi0, hz0, hz1, hz2⟩ := info_parts u8_parts
  have hlb : bs.length = n * 64 := by have := hr.1; rwa [B8_length] at this
  have HR := hide hr
  have LB := hide hlb
  clear hr hlb
  go_enter Try.func43, Try.ntmps43
  go_wp2
  go_loopw [8, 15] (fun b i wr => ∃ (k m d : Nat) (R : Option Addr), k ≤ n ∧ i = .int .i64 k ∧ b = .slice R m d ∧ m ≤ d ∧ d ≤ 9223372036854775807 ∧ m ≤ 2120 ∧ Hid (AllOk gen nr n bs k) ∧ Hid (wr.ownsRow w.heap.size 5 1 (.slice R m d) m (B8 (cat (contAt bs) k))) ∧ Hid (Below w.heap.size w wr)) (fun _ i _ => n - (intOf i).toNat)
  case atStart => exact ⟨0, 0, 0, none, Nat.zero_le _, rfl, rfl, Nat.le_refl _, by omega, by omega, hide AllOk.zero, hide (World.ownsRow_nil _ _ _ _), hide (Below.refl _ _)⟩
  case round =>
    obtain ⟨k, m, d, R, hk, rfl, rfl, hmd, hd, hm, HA, HO, HL⟩ := hrel
    by_cases hkn : k < n
    · obtain ⟨ad, rfl, hab, hca⟩ := (HR.out.below (HL.out.mono hB0)).sec_at hkn
      have hsa := secAt_length LB.out hkn
      obtain ⟨X, hX⟩ : ∃ X, X = secAt bs k := ⟨_, rfl⟩
      rw [← hX] at hca hsa
      have HX := hide hX
      obtain ⟨U, hU⟩ : ∃ U, U = B8 X := ⟨_, rfl⟩
      have HU := hide hU
      have HT := hide (tagOf_any X hsa)
      rw [← hU] at hca HT
      have HC := hide hca
      have HIU := hide (show (Try.prog.info? 51).map (·.size) = some U.length by rw [hU, B8_length, hsa]; kernel_rfl)
      have HUO := hide (show ∀ v ∈ U, v.oneCell' = true by rw [hU]; exact B8_one _)
      have HUL := hide (show U.length = Z64.toArray.size by rw [hU, B8_length, hsa, List.size_toArray, Z64_length])
      have HSA := hide hsa
      clear hX hca hsa hU
      cases hp : partB X with
      | false =>
        have HN := hide (join_no (gen := gen) (nr := nr) (n := n) hkn (ok_nopart (by rw [← HX.out]; exact hp)))
        rw [hp] at HT
        clear hp
        go_wp2_with (first
          | ((with_reducible refine at_slot 19 ?_); refine wpList_load_at rfl 51 (.tmp 18) rfl _ rfl U _ HC.out Try.underlying51 rfl HIU.out ?_)
          | ((with_reducible refine at_slot 10 ?_); refine wpList_alloc_blk rfl 51 rfl _ (sec_nought8 _) ?_; intro w1 hb1q hl1 hs1; clear hs1; have hb1 : Blk w1 wr.heap.size 51 Z64.toArray := hb1q; clear hb1q)
          | ((with_reducible refine at_store 10 ?_); refine wpList_store_all rfl 51 (.tmp 10) (.tmp 19) rfl wr.heap.size 51 _ hb1 rfl U rfl HIU.out HUL.out HUO.out ?_; intro w2 hb2 hg2 hs2; clear hs2)
          | ((with_reducible refine at_slot 21 ?_); refine wpList_load_blk rfl 51 (.tmp 10) rfl wr.heap.size 0 51 _ hb2 rfl U _ (fun j v hj => by rw [Nat.zero_add]; simpa using hj) Try.underlying51 rfl HIU.out ?_))
        have hl2 : Below wr.heap.size wr w2 := hl1.grown hg2 hl1.size (fun g e => by injection e with e; omega)
        have HL2 := hide (HL.out.trans (hl2.mono HL.out.size))
        clear hb1 hl1 hg2 hl2 hb2
        refine (HT.out w2).mono ?_
        rintro _ w3 ⟨rfl, hl3⟩
        have HL3 := hide (HL2.out.trans (hl3.mono HL2.out.size))
        clear hl3
        go_wp2_with (first
          | ((with_reducible refine at_slot 11 ?_); refine wpList_alloc_blk rfl 105 rfl _ (tag_nought _) ?_; intro w4 hb4q hl4 hs4; clear hs4; have hb4 : Blk w4 w3.heap.size 105 (tagC Tg.zero).toArray := hb4q; clear hb4q)
          | ((with_reducible refine at_store 11 ?_); refine wpList_store_all rfl 105 (.tmp 11) (.tmp 23) rfl w3.heap.size 105 _ hb4 rfl (tagC (tagT X)) rfl tag_info rfl (tagC_one _) ?_; intro w5 hb5 hg5 hs5; clear hs5))
        go_ret2
        exact joined_no HN.out ((HL3.out.trans (hl4.mono HL3.out.size)).grown hg5 (by have := HL3.out.size; have := hl4.size; omega) (fun g e => by injection e with e; have := HL3.out.size; omega))
      | true =>
        have HTX := hide (tagT_yes hp)
        have HSM := hide (same_ok (gen := gen) (nr := nr) (n := n) (i := k) hp)
        rw [hp, HTX.out] at HT
        have hto := readT_ok X
        have htl := ((right_iff _).1 (part_right hp)).2.2.2
        obtain ⟨t, ht⟩ : ∃ t, t = readT X := ⟨_, rfl⟩
        rw [← ht] at HT HSM hto htl
        have HTQ := hide ht
        have HTO := hide hto
        have HTL := hide htl
        clear hp ht hto htl HTX
        go_wp2_with (first
          | ((with_reducible refine at_slot 19 ?_); refine wpList_load_at rfl 51 (.tmp 18) rfl _ rfl U _ HC.out Try.underlying51 rfl HIU.out ?_)
          | ((with_reducible refine at_slot 10 ?_); refine wpList_alloc_blk rfl 51 rfl _ (sec_nought8 _) ?_; intro w1 hb1q hl1 hs1; clear hs1; have hb1 : Blk w1 wr.heap.size 51 Z64.toArray := hb1q; clear hb1q)
          | ((with_reducible refine at_store 10 ?_); refine wpList_store_all rfl 51 (.tmp 10) (.tmp 19) rfl wr.heap.size 51 _ hb1 rfl U rfl HIU.out HUL.out HUO.out ?_; intro w2 hb2 hg2 hs2; clear hs2)
          | ((with_reducible refine at_slot 21 ?_); refine wpList_load_blk rfl 51 (.tmp 10) rfl wr.heap.size 0 51 _ hb2 rfl U _ (fun j v hj => by rw [Nat.zero_add]; simpa using hj) Try.underlying51 rfl HIU.out ?_))
        have hl2 : Below wr.heap.size wr w2 := hl1.grown hg2 hl1.size (fun g e => by injection e with e; omega)
        have hx2 := hb2.lt
        have HB2 := hide hb2
        have HL2 := hide hl2
        clear hb1 hl1 hg2 hl2 hb2
        refine (HT.out w2).mono ?_
        rintro _ w3 ⟨rfl, hl3⟩
        have hx3 := hl3.size
        have HB3 := hide (HB2.out.below hl3 hx2)
        have HL3 := hide (HL2.out.trans (hl3.mono HL2.out.size))
        clear hl3 HB2 HL2
        cases hok : okT gen nr n k X with
        | false =>
          have HN := hide (join_no (gen := gen) (nr := nr) (n := n) hkn (by rw [← HX.out]; exact hok))
          have HNE := hide (show (!sameT t ⟨gen, nr, (k : Nat), (n : Nat), t.len⟩) = true by rw [HSM.out, hok]; rfl)
          clear hok
          go_wp2_with (first
            | ((with_reducible refine at_slot 11 ?_); refine wpList_alloc_blk rfl 105 rfl _ (tag_nought _) ?_; intro w4 hb4q hl4 hs4; clear hs4; have hb4 : Blk w4 w3.heap.size 105 (tagC Tg.zero).toArray := hb4q; clear hb4q)
            | ((with_reducible refine at_store 11 ?_); refine wpList_store_all rfl 105 (.tmp 11) (.tmp 23) rfl w3.heap.size 105 _ hb4 rfl (tagC t) rfl tag_info rfl (tagC_one _) ?_; intro w5 hb5 hg5 hs5; clear hs5; have hl35 : Below w3.heap.size w3 w5 := hl4.grown hg5 hl4.size (fun g e => by injection e with e; omega); have y4 := tag_c4 hb5; have HT5 := hide hb5; have HB5 := hide (HB3.out.below hl35 (by omega)); have HL5 := hide (HL3.out.trans (hl35.mono HL3.out.size)); clear hb4 hl4 hb5 hg5 hl35)
            | ((with_reducible refine at_slot 28 ?_); refine when_load rfl 105 (.tmp 11) rfl w3.heap.size 0 105 _ HT5.out rfl (tagC t) _ (fun j v hj => by rw [Nat.zero_add]; simpa using hj) Try.underlying105 rfl tag_info ?_)
            | ((with_reducible refine at_slot 36 ?_); refine when_build rfl 105 _ rfl _ rfl _ (built_tag _ _ _ _ _) ?_)
            | ((with_reducible refine at_slot 37 ?_); refine when_neq_tag rfl (.tmp 28) (.tmp 36) _ rfl t ⟨gen, nr, (k : Nat), (n : Nat), t.len⟩ rfl rfl true HNE.out ?_))
          go_ret2
          exact joined_no HN.out (HL.out.trans (HL5.out.mono HL.out.size))
        | true =>
          have HNE := hide (show (!sameT t ⟨gen, nr, (k : Nat), (n : Nat), t.len⟩) = false by rw [HSM.out, hok]; rfl)
          have h40 := (ok_parts hok).1
          have HA2 := hide (HA.out.succ (by rw [← HX.out]; exact hok))
          have hm2 := cat_cont_le HA2.out
          have hml := own_len8 HO.out
          have HCo := hide (content_any X t HTO.out HTL.out)
          rw [← HU.out] at HCo
          have hcl := cont_length X t HSA.out HTL.out
          have HCA := hide (show cat (contAt bs) (k + 1) = cat (contAt bs) k ++ contT X t by rw [cat_succ, contAt, ← HX.out, ← HTQ.out])
          rw [HCA.out, List.length_append, hcl, ← hml] at hm2
          obtain ⟨L, hL⟩ : ∃ L, L = t.len.toNat := ⟨_, rfl⟩
          rw [← hL] at hm2 hcl HCo
          have HRdC := hide (fun (w1 : World) (g : Nat) (hb : Blk w1 g 51 U.toArray) => (show Reads w1 w1.heap.size 1 (some ⟨g, 11, none⟩) L (B8 (contT X t)) by
            rw [HU.out] at hb
            have h1 := hb.reads (B := w1.heap.size) (off := 11) (n := 53) hb.lt (by rw [HSA.out])
            have h2 := h1.head (k := t.len.toNat) (by have := HTL.out; omega)
            rw [Nat.mul_one, B8_take] at h2
            rw [hL]
            exact h2))
          have HCL := hide hcl
          clear hok hcl hml hL
          go_wp2_with (first
            | ((with_reducible refine at_slot 11 ?_); refine wpList_alloc_blk rfl 105 rfl _ (tag_nought _) ?_; intro w4 hb4q hl4 hs4; clear hs4; have hb4 : Blk w4 w3.heap.size 105 (tagC Tg.zero).toArray := hb4q; clear hb4q)
            | ((with_reducible refine at_store 11 ?_); refine wpList_store_all rfl 105 (.tmp 11) (.tmp 23) rfl w3.heap.size 105 _ hb4 rfl (tagC t) rfl tag_info rfl (tagC_one _) ?_; intro w5 hb5 hg5 hs5; clear hs5; have hl35 : Below w3.heap.size w3 w5 := hl4.grown hg5 hl4.size (fun g e => by injection e with e; omega); have y4 := tag_c4 hb5; have HT5 := hide hb5; have HB5 := hide (HB3.out.below hl35 (by omega)); have HL5 := hide (HL3.out.trans (hl35.mono HL3.out.size)); clear hb4 hl4 hb5 hg5 hl35)
            | ((with_reducible refine at_slot 28 ?_); refine when_load rfl 105 (.tmp 11) rfl w3.heap.size 0 105 _ HT5.out rfl (tagC t) _ (fun j v hj => by rw [Nat.zero_add]; simpa using hj) Try.underlying105 rfl tag_info ?_)
            | ((with_reducible refine at_slot 36 ?_); refine when_build rfl 105 _ rfl _ rfl _ (built_tag _ _ _ _ _) ?_)
            | ((with_reducible refine at_slot 37 ?_); refine when_neq_tag rfl (.tmp 28) (.tmp 36) _ rfl t ⟨gen, nr, (k : Nat), (n : Nat), t.len⟩ rfl rfl false HNE.out ?_)
            | ((with_reducible refine at_slot 40 ?_); refine wpList_load_blk rfl 51 (.tmp 10) rfl wr.heap.size 0 51 _ HB5.out rfl U _ (fun j v hj => by rw [Nat.zero_add]; simpa using hj) Try.underlying51 rfl HIU.out ?_)
            | ((with_reducible refine at_slot 41 ?_); refine wpList_load_blk rfl 105 (.tmp 11) rfl w3.heap.size 0 105 _ HT5.out rfl (tagC t) _ (fun j v hj => by rw [Nat.zero_add]; simpa using hj) Try.underlying105 rfl tag_info ?_))
          refine (HCo.out w5).mono ?_
          rintro _ w6 ⟨rfl, hb6, hl6⟩
          have HR6 := hide (HRdC.out _ _ hb6)
          have hwr := HL.out.size
          have hq6 := HL5.out.trans (hl6.mono HL5.out.size)
          have hs6 := hq6.size
          have HO6 := hide (own_later HO.out hq6)
          have HL6 := hide (HL.out.trans (hq6.mono HL.out.size))
          have hc1 : m + L ≤ maxLen := by simp only [maxLen]; omega
          have hc2 : (m + L) * 1 ≤ 140737488355328 := by omega
          have hc3 : w.heap.size ≤ w6.heap.size := by omega
          clear hb6 hl6 hq6 HCo
          go_wp2_with (at_builtin; refine wpList_append_any _ rfl (.tmp 39) (.tmp 42) _ rfl w.heap.size 5 i0 _ 1 1 Try.underlying32 hi0 hz0 hz1 hz2 rfl (by omega) _ m _ rfl HO6.out w6.heap.size (some ⟨w5.heap.size, 11, none⟩) L 53 (B8 (contT X t)) rfl HR6.out (B8_one _) hc1 hc2 hc3 ?_; intro v7 w7 ho7 hl7)
          obtain ⟨R7, d7, hv7, hn7, hd7⟩ := own_shape ho7
          subst hv7
          rw [← B8_append, ← HCA.out] at ho7
          simp only [maxLen] at hd7
          have HO7 := hide ho7
          have HL7 := hide (HL6.out.trans hl7)
          clear ho7 hl7
          go_roundw
          case rel => exact ⟨k + 1, m + L, d7, R7, by omega, by go_num, rfl, hn7, by omega, by omega, HA2, HO7, HL7⟩
          case measure => simp [intOf]; omega
    · obtain rfl : k = n := by omega
      have HJ := hide (join_all HA.out)
      go_wp2
      go_ret2
      refine ⟨R, m, d, ?_, hmd, by simpa [maxLen] using hd, by rw [HJ.out.2]; exact HO.out, HL.out⟩
      rw [HJ.out.1]
      simp
#print axioms recJoin_any
end Go.Proofs.Ytmjdndhpnckeeaa
