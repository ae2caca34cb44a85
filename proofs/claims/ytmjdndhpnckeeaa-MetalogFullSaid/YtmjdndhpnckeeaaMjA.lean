/- What metalog's place, lost and partsOf's two questions answer; what is looked for on the members. -/
import Derived.Test.YtmjdndhpnckeeaaJouM
import Derived.Test.YtmjdndhpnckeeaaSpr
import Derived.Test.YtmjdndhpnckeeaaDisk
import Derived.Test.YtmjdndhpnckeeaaKeep
import Derived.Test.YtmjdndhpnckeeaaRecT
import Derived.Test.YtmjdndhpnckeeaaRecJ
namespace Go.Proofs.Ytmjdndhpnckeeaa
open Go.RowKit
/-- Members that may be asked for a journal. -/
def Askable (S : Bank) (live : List Nat) : Prop := S.down = false ∧ ∀ d ∈ live, d < S.n ∧ 50 ≤ S.size d
def findE (V : List View) (p : List UInt8 → Bool) (at_ : Nat) : Nat := if V = [] then 5 else if (hit V p at_).isSome then 0 else 8
def findS (V : List View) (p : List UInt8 → Bool) (at_ : Nat) : List UInt8 := (hit V p at_).getD (List.replicate 64 0)
theorem place_asked {S : Bank} {live : List Nat} (h : Askable S live) {d : Nat} (hd : d ∈ live) {k : Nat} (hk : k < 48) : S.place d (2 + k) = if S.dead d then 7 else 0 := by
  obtain ⟨h1, h2⟩ := h.2 d hd
  have hn : ¬ S.n ≤ d := by omega
  have hs : 2 + k < S.size d := by omega
  cases hx : S.dead d with
  | true => simp [Bank.place, Bank.may, hn, hx]
  | false => simp [Bank.place, Bank.may, hn, hx, h.1, hs]
theorem views_append (S : Bank) (l m : List Nat) : viewsOf S (l ++ m) = viewsOf S l ++ viewsOf S m := by
  unfold viewsOf
  rw [List.filter_append, List.map_append]
theorem views_dead {S : Bank} {live : List Nat} {k d : Nat} (h : live[k]? = some d) (hx : S.dead d = true) : viewsOf S (live.take (k + 1)) = viewsOf S (live.take k) := by
  rw [List.take_add_one, h, views_append]
  simp [viewsOf, hx]
theorem views_live {S : Bank} {live : List Nat} {k d : Nat} (h : live[k]? = some d) (hx : S.dead d = false) : viewsOf S (live.take (k + 1)) = viewsOf S (live.take k) ++ [fun j => (S.newest d (2 + j)).1] := by
  rw [List.take_add_one, h, views_append]
  simp [viewsOf, hx]
theorem hit_append (V W : List View) (p : List UInt8 → Bool) (at_ : Nat) : hit (V ++ W) p at_ = (hit V p at_).or (hit W p at_) := by
  unfold hit
  rw [List.map_append, List.find?_append]
theorem hit_one (v : View) (p : List UInt8 → Bool) (at_ : Nat) : hit [v] p at_ = if p (v at_) then some (v at_) else none := by
  unfold hit
  simp [List.find?_cons]
  cases p (v at_) <;> rfl
theorem hit_snoc {V : List View} {v : View} {p : List UInt8 → Bool} {at_ : Nat} (h : hit V p at_ = none) (hv : p (v at_) = false) : hit (V ++ [v]) p at_ = none := by
  rw [hit_append, h, hit_one, hv]
  rfl
theorem hit_found {S : Bank} {live : List Nat} {k d : Nat} {p : List UInt8 → Bool} {at_ : Nat} (hk : live[k]? = some d) (hx : S.dead d = false) (h : hit (viewsOf S (live.take k)) p at_ = none) (hp : p (S.newest d (2 + at_)).1 = true) :
    viewsOf S live ≠ [] ∧ hit (viewsOf S live) p at_ = some (S.newest d (2 + at_)).1 := by
  have e : viewsOf S live = viewsOf S (live.take (k + 1)) ++ viewsOf S (live.drop (k + 1)) := by rw [← views_append, List.take_append_drop]
  rw [e, views_live hk hx]
  refine ⟨by simp, ?_⟩
  rw [hit_append, hit_append, h, hit_one, hp]
  rfl
theorem find_yes {S : Bank} {live : List Nat} {k d : Nat} {p : List UInt8 → Bool} {at_ : Nat} (hk : live[k]? = some d) (hx : S.dead d = false) (h : hit (viewsOf S (live.take k)) p at_ = none) (hp : p (S.newest d (2 + at_)).1 = true) :
    findE (viewsOf S live) p at_ = 0 ∧ findS (viewsOf S live) p at_ = (S.newest d (2 + at_)).1 := by
  obtain ⟨h1, h2⟩ := hit_found hk hx h hp
  unfold findE findS
  rw [if_neg h1, h2]
  exact ⟨rfl, rfl⟩
theorem find_none {V : List View} {p : List UInt8 → Bool} {at_ : Nat} (h : hit V p at_ = none) : findE V p at_ = (if V = [] then 5 else 8) ∧ findS V p at_ = zeroSec.1 := by
  unfold findE findS
  rw [h]
  exact ⟨rfl, rfl⟩
theorem asks_dead {w : World} {b : Nat} {S : Bank} {live : List Nat} (h : AsksB w b S) (ha : Askable S live) {d k : Nat} (hd : d ∈ live) (hk : k < 48) (hx : S.dead d = true) (w1 : World) (hb : Below w.heap.size w w1) :
    Calls Try.prog 71 #[.pointer (some ⟨b, 0, none⟩), .agg #[.int .i64 (d : Int), .int .i64 ((2 + k : Nat) : Int)]] w1 fun e w2 => e = .returned (.tuple #[.agg (secL zeroSec).toArray, .int .i64 7]) ∧ Below w1.heap.size w1 w2 := by
  have e := place_asked ha hd hk
  rw [hx] at e
  have h1 := h w1 hb d (2 + k)
  rw [e] at h1
  exact h1
theorem asks_live {w : World} {b : Nat} {S : Bank} {live : List Nat} (h : AsksB w b S) (ha : Askable S live) {d k : Nat} (hd : d ∈ live) (hk : k < 48) (hx : S.dead d = false) (w1 : World) (hb : Below w.heap.size w w1) :
    Calls Try.prog 71 #[.pointer (some ⟨b, 0, none⟩), .agg #[.int .i64 (d : Int), .int .i64 ((2 + k : Nat) : Int)]] w1 fun e w2 => e = .returned (.tuple #[.agg (B8 (S.newest d (2 + k)).1).toArray, .int .i64 0]) ∧ Below w1.heap.size w1 w2 := by
  have e := place_asked ha hd hk
  rw [hx] at e
  have h1 := h w1 hb d (2 + k)
  rw [e] at h1
  exact h1
#print axioms find_yes
#print axioms asks_live
/-- Is this the first part of that record? -/
def askA (gen nr : Int) (t : Tg) : Bool := decide (t.gen = gen ∧ t.nr = nr ∧ t.part = 0)
theorem askA_any (t : Tg) (g gm : Nat) (gen nr : Int) (w : World) (h0 : w.cell? ⟨g, 0, none⟩ = some (.int .i64 gen)) (h1 : w.cell? ⟨gm, 0, none⟩ = some (.int .i64 nr)) (hg : g < w.heap.size) (hgm : gm < w.heap.size) :
    Calls Try.prog 62 #[tagV t, .pointer (some ⟨g, 0, none⟩), .pointer (some ⟨gm, 0, none⟩)] w fun e w' => e = .returned (.bool (askA gen nr t)) ∧ Below w.heap.size w w' := by
  have hcase : ∀ b : Bool, askA gen nr t = b → Calls Try.prog 62 #[tagV t, .pointer (some ⟨g, 0, none⟩), .pointer (some ⟨gm, 0, none⟩)] w fun e w' => e = .returned (.bool b) ∧ Below w.heap.size w w' := by
    intro b hb
    unfold askA at hb
    by_cases e1 : t.gen = gen
    · by_cases e2 : t.nr = nr
      · by_cases e3 : t.part = 0
        · rw [decide_eq_true ⟨e1, e2, e3⟩] at hb
          subst hb
          subst e1
          subst e2
          go_enter Try.func62, Try.ntmps62
          go_wp2_with ((with_reducible refine at_slot 3 ?_); refine wpList_box_blk rfl 105 _ rfl (tagV t) rfl ?_; intro w1 hb1q hl1 hs1; clear hs1; have hb1 : Blk w1 w.heap.size 105 (tagC t).toArray := hb1q; clear hb1q; have y0 := tag_c0 hb1; have y1 := tag_c1 hb1; have y2 := tag_c2 hb1; have h0' := (hl1.cell (p := ⟨g, 0, none⟩) hg).trans h0; have h1' := (hl1.cell (p := ⟨gm, 0, none⟩) hgm).trans h1; rw [e3] at y2)
          go_ret
          exact ⟨rfl, hl1⟩
        · rw [decide_eq_false (fun h => e3 h.2.2)] at hb
          subst hb
          subst e1
          subst e2
          go_enter Try.func62, Try.ntmps62
          go_wp2_with ((with_reducible refine at_slot 3 ?_); refine wpList_box_blk rfl 105 _ rfl (tagV t) rfl ?_; intro w1 hb1q hl1 hs1; clear hs1; have hb1 : Blk w1 w.heap.size 105 (tagC t).toArray := hb1q; clear hb1q; have y0 := tag_c0 hb1; have y1 := tag_c1 hb1; have y2 := tag_c2 hb1; have h0' := (hl1.cell (p := ⟨g, 0, none⟩) hg).trans h0; have h1' := (hl1.cell (p := ⟨gm, 0, none⟩) hgm).trans h1)
          go_ret
          exact ⟨by simp [e3], hl1⟩
      · rw [decide_eq_false (fun h => e2 h.2.1)] at hb
        subst hb
        subst e1
        have e2f : decide (t.nr = nr) = false := by simpa using e2
        go_enter Try.func62, Try.ntmps62
        go_wp2_with ((with_reducible refine at_slot 3 ?_); refine wpList_box_blk rfl 105 _ rfl (tagV t) rfl ?_; intro w1 hb1q hl1 hs1; clear hs1; have hb1 : Blk w1 w.heap.size 105 (tagC t).toArray := hb1q; clear hb1q; have y0 := tag_c0 hb1; have y1 := tag_c1 hb1; have y2 := tag_c2 hb1; have h0' := (hl1.cell (p := ⟨g, 0, none⟩) hg).trans h0; have h1' := (hl1.cell (p := ⟨gm, 0, none⟩) hgm).trans h1)
        go_ret
        exact ⟨rfl, hl1⟩
    · rw [decide_eq_false (fun h => e1 h.1)] at hb
      subst hb
      have e1f : decide (t.gen = gen) = false := by simpa using e1
      go_enter Try.func62, Try.ntmps62
      go_wp2_with ((with_reducible refine at_slot 3 ?_); refine wpList_box_blk rfl 105 _ rfl (tagV t) rfl ?_; intro w1 hb1q hl1 hs1; clear hs1; have hb1 : Blk w1 w.heap.size 105 (tagC t).toArray := hb1q; clear hb1q; have y0 := tag_c0 hb1; have y1 := tag_c1 hb1; have y2 := tag_c2 hb1; have h0' := (hl1.cell (p := ⟨g, 0, none⟩) hg).trans h0; have h1' := (hl1.cell (p := ⟨gm, 0, none⟩) hgm).trans h1)
      go_ret
      exact ⟨rfl, hl1⟩
  exact hcase _ rfl
set_option maxRecDepth 100000 in
set_option maxHeartbeats 1000000 in
theorem run_eql_tag (a b : Tg) (w : World) : (binOp .eql 105 (tagV a) (tagV b)).run Try.prog w = .ok (.bool (sameT a b)) w := by
  obtain ⟨a1, a2, a3, a4, a5⟩ := a
  obtain ⟨b1, b2, b3, b4, b5⟩ := b
  have h := run_equalIn_struct (P := Try.prog) w 9999 105 (tagC ⟨a1, a2, a3, a4, a5⟩).toArray (tagC ⟨b1, b2, b3, b4, b5⟩).toArray tag_fields tag_stood
  have hl := tag_fieldsL
  generalize (Try.prog.fieldsOf 105).toList = fs at h hl
  rcases fs with _ | ⟨f0, _ | ⟨f1, _ | ⟨f2, _ | ⟨f3, _ | ⟨f4, _ | ⟨f5, fs⟩⟩⟩⟩⟩⟩ <;> simp at hl
  obtain ⟨⟨n0, t0, o0⟩, ⟨n1, t1, o1⟩, ⟨n2, t2, o2⟩, ⟨n3, t3, o3⟩, n4, t4, o4⟩ := hl
  have p0 : ∀ (x y z u v : Int), (part f0.type (tagC ⟨x, y, z, u, v⟩).toArray f0.offset).run Try.prog w = .ok (.int .i64 x) w := fun x y z u v => by rw [t0, o0]; exact run_part_plain (P := Try.prog) w (by kernel_rfl) (xs := (tagC ⟨x, y, z, u, v⟩).toArray) (off := 0) (v := .int .i64 x) rfl
  have p1 : ∀ (x y z u v : Int), (part f1.type (tagC ⟨x, y, z, u, v⟩).toArray f1.offset).run Try.prog w = .ok (.int .i64 y) w := fun x y z u v => by rw [t1, o1]; exact run_part_plain (P := Try.prog) w (by kernel_rfl) (xs := (tagC ⟨x, y, z, u, v⟩).toArray) (off := 1) (v := .int .i64 y) rfl
  have p2 : ∀ (x y z u v : Int), (part f2.type (tagC ⟨x, y, z, u, v⟩).toArray f2.offset).run Try.prog w = .ok (.int .i64 z) w := fun x y z u v => by rw [t2, o2]; exact run_part_plain (P := Try.prog) w (by kernel_rfl) (xs := (tagC ⟨x, y, z, u, v⟩).toArray) (off := 2) (v := .int .i64 z) rfl
  have p3 : ∀ (x y z u v : Int), (part f3.type (tagC ⟨x, y, z, u, v⟩).toArray f3.offset).run Try.prog w = .ok (.int .i64 u) w := fun x y z u v => by rw [t3, o3]; exact run_part_plain (P := Try.prog) w (by kernel_rfl) (xs := (tagC ⟨x, y, z, u, v⟩).toArray) (off := 3) (v := .int .i64 u) rfl
  have p4 : ∀ (x y z u v : Int), (part f4.type (tagC ⟨x, y, z, u, v⟩).toArray f4.offset).run Try.prog w = .ok (.int .i64 v) w := fun x y z u v => by rw [t4, o4]; exact run_part_plain (P := Try.prog) w (by kernel_rfl) (xs := (tagC ⟨x, y, z, u, v⟩).toArray) (off := 4) (v := .int .i64 v) rfl
  have e0 : ∀ x y : Int, (Op.equalIn 9999 f0.type (.int .i64 x) (.int .i64 y)).run Try.prog w = .ok (x == y) w := fun x y => by rw [t0]; exact run_equalIn_int (P := Try.prog) w 9998 3 .i64 .i64 x y Try.underlying3
  have e1 : ∀ x y : Int, (Op.equalIn 9999 f1.type (.int .i64 x) (.int .i64 y)).run Try.prog w = .ok (x == y) w := fun x y => by rw [t1]; exact run_equalIn_int (P := Try.prog) w 9998 3 .i64 .i64 x y Try.underlying3
  have e2 : ∀ x y : Int, (Op.equalIn 9999 f2.type (.int .i64 x) (.int .i64 y)).run Try.prog w = .ok (x == y) w := fun x y => by rw [t2]; exact run_equalIn_int (P := Try.prog) w 9998 3 .i64 .i64 x y Try.underlying3
  have e3 : ∀ x y : Int, (Op.equalIn 9999 f3.type (.int .i64 x) (.int .i64 y)).run Try.prog w = .ok (x == y) w := fun x y => by rw [t3]; exact run_equalIn_int (P := Try.prog) w 9998 3 .i64 .i64 x y Try.underlying3
  have e4 : ∀ x y : Int, (Op.equalIn 9999 f4.type (.int .i64 x) (.int .i64 y)).run Try.prog w = .ok (x == y) w := fun x y => by rw [t4]; exact run_equalIn_int (P := Try.prog) w 9998 3 .i64 .i64 x y Try.underlying3
  unfold tagV
  rw [run_eql_struct, h]
  simp only [Op.eqFields]
  by_cases h1 : a1 = b1 <;> by_cases h2 : a2 = b2 <;> by_cases h3 : a3 = b3 <;> by_cases h4 : a4 = b4 <;> by_cases h5 : a5 = b5 <;> simp [n0, n1, n2, n3, n4, p0, p1, p2, p3, p4, e0, e1, e2, e3, e4, h1, h2, h3, h4, h5, sameT]
theorem when_eql_tag {ops : Array Oper} {rest : List Oper} {o : Oper} {a : Act} {w : World} {Q : Exit → Act → World → Prop} (hw : Region.wanted o (yielded ops a.tmps) = true) (p q : Operand) (tr : TypeId) (ho : o.op = .binOp .eql 105 p q tr)
    (x y : Tg) (hp : a.eval p = tagV x) (hq : a.eval q = tagV y) (r : Bool) (hr : sameT x y = r) (h : wpList Try.prog ops Q rest (a.put o.dst (.bool r)) w) : wpList Try.prog ops Q (o :: rest) a w :=
  when_gives hw (.bool r) (by
    unfold execOp
    have hg := run_eqGuard_agg (P := Try.prog) w .eql 105 p q (tagC x).toArray (tagC y).toArray tag_guard
    have hn := run_eql_tag x y w
    unfold tagV at hp hq hn
    simp only [ho, hp, hq, Sem.run_bind, hg, Result.andThen_ok, hn, Sem.run_pure, hr]) h
/-- Is this that part of that record? -/
def askB (gen nr : Int) (n i : Int) (t : Tg) : Bool := sameT t ⟨gen, nr, i, n, t.len⟩
set_option maxRecDepth 100000 in
set_option maxHeartbeats 4000000 in
theorem askB_any (t tf : Tg) (g gm gi gt : Nat) (gen nr i : Int) (w : World) (h0 : w.cell? ⟨g, 0, none⟩ = some (.int .i64 gen)) (h1 : w.cell? ⟨gm, 0, none⟩ = some (.int .i64 nr)) (h2 : w.cell? ⟨gi, 0, none⟩ = some (.int .i64 i)) (h3 : w.cell? ⟨gt, 3, none⟩ = some (.int .i64 tf.parts)) (hg : g < w.heap.size) (hgm : gm < w.heap.size) (hgi : gi < w.heap.size) (hgt : gt < w.heap.size) :
    Calls Try.prog 64 #[tagV t, .pointer (some ⟨g, 0, none⟩), .pointer (some ⟨gm, 0, none⟩), .pointer (some ⟨gi, 0, none⟩), .pointer (some ⟨gt, 0, none⟩)] w fun e w' => e = .returned (.bool (askB gen nr tf.parts i t)) ∧ Below w.heap.size w w' := by
  go_enter Try.func64, Try.ntmps64
  go_wp2_with (first
    | ((with_reducible refine at_slot 5 ?_); refine wpList_box_blk rfl 105 _ rfl (tagV t) rfl ?_; intro w1 hb1q hl1 hs1; clear hs1; have hb1 : Blk w1 w.heap.size 105 (tagC t).toArray := hb1q; clear hb1q; have y4 := tag_c4 hb1; have h0' := (hl1.cell (p := ⟨g, 0, none⟩) hg).trans h0; have h1' := (hl1.cell (p := ⟨gm, 0, none⟩) hgm).trans h1; have h2' := (hl1.cell (p := ⟨gi, 0, none⟩) hgi).trans h2; have h3' := (hl1.cell (p := ⟨gt, 3, none⟩) hgt).trans h3)
    | ((with_reducible refine at_slot 7 ?_); refine wpList_load_blk rfl 105 (.tmp 5) rfl w.heap.size 0 105 _ hb1 rfl (tagC t) _ (fun j v hj => by rw [Nat.zero_add]; simpa using hj) Try.underlying105 rfl tag_info ?_)
    | ((with_reducible refine at_slot 15 ?_); refine wpList_build_is rfl 105 _ rfl _ rfl _ (built_tag _ _ _ _ _) ?_)
    | ((with_reducible refine at_slot 16 ?_); refine when_eql_tag rfl (.tmp 7) (.tmp 15) _ rfl t ⟨gen, nr, i, tf.parts, t.len⟩ rfl rfl _ rfl ?_))
  go_ret
  exact ⟨rfl, hl1⟩
/-- The questions over a sector that is a part. -/
theorem askA_sec {gen nr : Int} {s : List UInt8} : (partB s && askA gen nr (tagT s)) = firstT gen nr s := by
  unfold firstT askA
  cases h : partB s with
  | false => rfl
  | true => rw [tagT_yes h]
theorem askB_sec {gen nr : Int} {n i : Nat} {s : List UInt8} : (partB s && askB gen nr (n : Nat) (i : Nat) (tagT s)) = okT gen nr n i s := by
  unfold askB
  cases h : partB s with
  | false => rw [ok_nopart h]; rfl
  | true => rw [tagT_yes h, Bool.true_and, same_ok h]
#print axioms askA_any
#print axioms askB_any
end Go.Proofs.Ytmjdndhpnckeeaa
