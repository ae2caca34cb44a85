/- The landed mirror's Alike; all its calls by their contracts (mirK). -/
import Derived.Test.YtgfbndmdndpelaaMirL
import Derived.Test.YtgfbndmdndpelaaPoke
namespace Go.Proofs.Ytgfbndmdndpelaa
open Go.RowKit
set_option linter.unusedVariables false
theorem rd_zero (w : World) : (zeroValue 73).run Try.prog w = .ok (.slice none 0 0) w := by kernel_rfl
theorem rd_parts : (Try.prog.info? 43).map (fun i => (i.zero, i.size, i.bytes)) = some (some (secV zeroSec), 64, 64) := by kernel_rfl
theorem rd_cell : (Try.prog.info? 73).map (·.size) = some 1 := by kernel_rfl
/-- Sectors, one behind the other. -/
def secsL (L : List Sec) : List Value := L.flatMap secL
theorem secsL_length : ∀ L : List Sec, (secsL L).length = L.length * 64
  | [] => rfl
  | s :: L => by
    have h := secsL_length L
    unfold secsL at h ⊢
    rw [List.flatMap_cons, List.length_append, h, secL_length, List.length_cons]
    omega
/-- The code's bank, variables of the call's own, and a row of sectors of its own. -/
structure Alk (w0 W : World) (b : Nat) (F : Nat → Prop) (S : Bank) (V : Vars) (A : Option Addr) (c : Nat) (L : List Sec) : Prop where
  cit : Cit w0 W b F S V
  low : ∀ x, F x → x < w0.heap.size
  row : W.ownsRow w0.heap.size 43 64 (.slice A L.length c) L.length (secsL L)
  off : ∀ g, (Value.slice A L.length c).ownBlock = some g → ∀ (i : Nat) (p : Nat × TypeId × List Value), V[i]? = some p → p.1 ≠ g
section
variable {w0 w W W' : World} {b : Nat} {F : Nat → Prop} {S S' : Bank} {V : Vars} {A : Option Addr} {c : Nat} {L : List Sec}
theorem Cit.apart {row : Option Nat} (h : Cit w0 W b F S V) (hg : W.grownBy W' row) (h1 : ∀ g, row = some g → w0.heap.size ≤ g ∧ ¬ F g) (h2 : ∀ g, row = some g → ∀ (i : Nat) (p : Nat × TypeId × List Value), V[i]? = some p → p.1 ≠ g) : Cit w0 W' b F S V :=
  ⟨h.bank.grown hg (fun g e => (h1 g e).2), h.turn.grown hg (fun g e => .inr (h1 g e).1), fun i p e => ⟨Nat.zero_le _, (h.own i p e).2.grown hg (fun e2 => h2 p.1 e2.symm i p e rfl)⟩, h.off, h.rise, h.past⟩
theorem Alk.begin (h : Cit w0 W b F S V) (hF : ∀ x, F x → x < w0.heap.size) : Alk w0 W b F S V none 0 [] := ⟨h, hF, World.ownsRow_nil _ _ _ _, fun g e => by simp [Value.ownBlock] at e⟩
theorem Alk.own (h : Alk w0 W b F S V A c L) : OwnV W 0 V := h.cit.own
theorem Alk.later (h : Alk w0 W b F S V A c L) (hb : Below W.heap.size W W') : Alk w0 W' b F S V A c L := ⟨h.cit.later hb, h.low, own_later h.row hb, h.off⟩
theorem Alk.var (h : Alk w0 W b F S V A c L) {g : Nat} {t : TypeId} {cs : List Value} (hb : Below W.heap.size W W') (hg : W.heap.size ≤ g) (hk : Blk W' g t cs.toArray) : Alk w0 W' b F S (V ++ [(g, t, cs)]) A c L :=
  ⟨h.cit.var hb hg hk, h.low, own_later h.row hb, fun x e => vars_add (p := fun y => y ≠ x) (h.off x e) (by have := (h.row.lt x e).2; show g ≠ x; omega)⟩
theorem Alk.new {Wa : World} (h : Alk w0 W b F S V A c L) {t : TypeId} {cs : List Value} (hl : Below W.heap.size W Wa) (hg : Wa.grownBy W' (some W.heap.size)) (hk : Blk W' W.heap.size t cs.toArray) : Alk w0 W' b F S (V ++ [(W.heap.size, t, cs)]) A c L :=
  h.var (hl.grown hg hl.size (fun g e => by injection e with e; omega)) (Nat.le_refl _) hk
theorem Alk.poke (h : Alk w0 W b F S V A c L) (k : Nat) {g : Nat} {t : TypeId} {cs cs' : List Value} (e : V[k]? = some (g, t, cs)) (hb : Blk W' g t cs'.toArray) (hg : W.grownBy W' (some g)) : Alk w0 W' b F S (V.set k (g, t, cs')) A c L :=
  ⟨h.cit.poke k e hb hg, h.low, h.row.kept hg (.inr fun e2 => h.off g e2 k _ e rfl), fun x ex => vars_set (p := fun y => y ≠ x) (h.off x ex) e⟩
theorem Alk.cut {U : Vars} (h : Alk w0 W b F S (V ++ U) A c L) : Alk w0 W b F S V A c L := ⟨h.cit.cut, h.low, h.row, fun g e i p hi => h.off g e i p (at_more hi)⟩
theorem Alk.read (h : Alk w0 W b F S V A c L) {di ki : Int} {d k : Nat} (hd : nI di = d) (hk : nI ki = k) :
    Calls Try.prog 17 #[.pointer (some ⟨b, 0, none⟩), .agg #[.int .i64 di, .int .i64 ki]] W fun e W' => e = .returned (.tuple #[secV (S.readS d k), .int .i64 (S.place d k : Int)]) ∧ Alk w0 W' b F S V A c L := by
  subst hd hk
  exact (onI_read h.cit.bank di ki).mono fun _ _ ⟨he, hb⟩ => ⟨he, h.later hb⟩
theorem row_turned {base : Nat} {e : TypeId} {size : Nat} {v : Value} {n : Nat} {xs : List Value} (h : W.ownsRow base e size v n xs) (hu : Turn F W W') (hF : ∀ g, v.ownBlock = some g → ¬ F g) : W'.ownsRow base e size v n xs := by
  refine ⟨h.1, ?_⟩
  rcases h.2 with ⟨h1, h2⟩ | ⟨g, cap, cur, rfl, hb, hh, hr⟩
  · exact .inl ⟨h1, h2⟩
  · exact .inr ⟨g, cap, cur, rfl, hb, (hu.block g (Array.getElem?_eq_some_iff.1 hh).1 (hF g rfl)).trans hh, hr⟩
theorem Alk.write (h : Alk w0 W b F S V A c L) (hw : S.writes < 4611686018427387904) {di ki : Int} {d k : Nat} (hd : nI di = d) (hk : nI ki = k) (s : Sec) :
    Calls Try.prog 29 #[.pointer (some ⟨b, 0, none⟩), .agg #[.int .i64 di, .int .i64 ki], secV s] W fun e W' => e = .returned (.int .i64 ((S.write d k s).1 : Int)) ∧ Alk w0 W' b F (S.write d k s).2 V A c L := by
  subst hd hk
  exact (onI_write h.cit.bank hw di ki s).mono fun _ _ ⟨he, hB, hT⟩ => ⟨he, ⟨hB, h.cit.turn.trans hT, h.own.turned hT h.cit.off, h.cit.off, h.cit.rise, h.cit.past⟩, h.low, row_turned h.row hT (fun g e hx => by have := h.low g hx; have := (h.row.lt g e).1; omega), h.off⟩
theorem secsL_push (L : List Sec) (u : Sec) : secsL (L ++ [u]) = secsL L ++ secL u := by unfold secsL; rw [List.flatMap_append]; simp
/-- One sector more behind the row. -/
theorem wpList_pushA {ops : Array Oper} {rest : List Oper} {o : Oper} {a : Act} {Q : Exit → Act → World → Prop} {w : World} (hgd : o.guard = none) (s x : Operand) (ho : o.op = .call { callee := .builtin .append, args := #[s, x], argTypes := #[73, 73] })
    (u : Sec) (h : Alk w0 W b F S V A c L) (hw : w = W.alloc (.cells (secL u).toArray 43)) (hs : a.eval s = .slice A L.length c) (hx : a.eval x = .slice (some ⟨W.heap.size, 0, none⟩) 1 1) (hn : L.length ≤ 1000)
    (hK : ∀ A' c' w', Alk w0 w' b F S V A' c' (L ++ [u]) → wpList Try.prog ops Q rest (a.put o.dst (.slice A' (L.length + 1) c')) w') : wpList Try.prog ops Q (o :: rest) a w := by
  obtain ⟨i0, hi0, hz0, hz1, hz2⟩ := info_parts rd_parts
  subst hw
  have hal : Below W.heap.size W (W.alloc (.cells (secL u).toArray 43)) := (Below.refl _ _).alloc (Nat.le_refl _) _
  have hba : w0.heap.size ≤ W.heap.size := h.cit.turn.size
  have hrow := own_later h.row hal
  obtain ⟨v', w', hrun, hown, hgb, hvb⟩ := run_append_any (P := Try.prog) (W.alloc (.cells (secL u).toArray 43)) w0.heap.size 73 o.type 43 i0 _ 64 64 Try.underlying73 hi0 hz0 hz1 hz2 (secL_length zeroSec) (by decide) _ _ _ hrow (W.heap.size + 1) (some ⟨W.heap.size, 0, none⟩) 1 1 (secL u) (Reads.lump _ (secL u) _ _ 64 (by omega) (by rw [secL_length])) (secL_one u) (by simp only [maxLen]; omega) (by omega) (le_alloc hba _)
  obtain ⟨A', c', rfl, _, _⟩ := own_shape hown
  refine wpList_plain hgd fun _ hK' => ?_
  unfold Oper.wp execOp
  simp only [ho, resolve, invoke, builtin, Sem.run_bind, Sem.run_pure, Result.andThen_ok, List.map_toArray, List.map_cons, List.map_nil, hs, hx, hrun]
  refine hK' _ _ (hK A' c' w' ⟨(h.cit.later hal).apart hgb (fun g e => ⟨(h.row.lt g e).1, fun hx => by have := h.low g hx; have := (h.row.lt g e).1; omega⟩) h.off, h.low, ?_, ?_⟩)
  · rw [secsL_push, List.length_append]
    exact hown
  · rw [List.length_append]
    intro g e i p hi
    rcases hvb with hv | hv
    · exact h.off g (hv ▸ e) i p hi
    · have hv' : some g = some (W.alloc (.cells (secL u).toArray 43)).heap.size := e.symm.trans hv
      injection hv' with hv'
      have hl := (h.own i p hi).2.lt
      have := World.size_alloc W (.cells (secL u).toArray 43)
      omega
theorem wpList_oneS {ops : Array Oper} {rest : List Oper} {o : Oper} {a : Act} {Q : Exit → Act → World → Prop} {w : World} (hgd : o.guard = none) (x : Operand) (ho : o.op = .buildSlice 73 1 #[(0, x)]) (u : Sec) (hx : a.eval x = .agg (secL u).toArray)
    (h : wpList Try.prog ops Q rest (a.put o.dst (.slice (some ⟨w.heap.size, 0, none⟩) 1 1)) (w.alloc (.cells (secL u).toArray 43))) : wpList Try.prog ops Q (o :: rest) a w := by
  obtain ⟨i0, hi0, hz0, hz1, hz2⟩ := info_parts rd_parts
  exact wpList_build_agg _ hgd x 73 ho 43 i0 _ 64 Try.underlying73 hi0 (sec_zero _) hz1 (by decide) (by decide) (secL u).toArray hx (by rw [List.size_toArray, secL_length]) h
/-- Alike's own variables: the bank, both places, the row; U: what is behind them. -/
abbrev V4 (gb b gx : Nat) (xd xk : Int) (gy : Nat) (yd yk : Int) (gr : Nat) (A : Option Addr) (k c : Nat) (U : Vars) : Vars := (gb, 24, [.pointer (some ⟨b, 0, none⟩)]) :: (gx, 33, plL xd xk) :: (gy, 33, plL yd yk) :: (gr, 73, [.slice A k c]) :: U
set_option maxRecDepth 100000 in
set_option maxHeartbeats 1000000 in
theorem closA_any {gb gx gy gr : Nat} {xd xk yd yk : Int} {U : Vars} (h : Alk w0 W b F S (V4 gb b gx xd xk gy yd yk gr A L.length c U) A c L) (hn : L.length ≤ 1000) (d k : Int) :
    Calls Try.prog 55 #[.agg #[.int .i64 d, .int .i64 k], .pointer (some ⟨gb, 0, none⟩), .pointer (some ⟨gr, 0, none⟩)] W fun e W' => e = .returned (.int .i64 (S.place (nI d) (nI k) : Int)) ∧
      ∃ A' c', Alk w0 W' b F S (V4 gb b gx xd xk gy yd yk gr A' (if S.place (nI d) (nI k) = 0 then L ++ [S.readS (nI d) (nI k)] else L).length c' U) A' c' (if S.place (nI d) (nI k) = 0 then L ++ [S.readS (nI d) (nI k)] else L) := by
  obtain ⟨e, he⟩ : ∃ e, S.place (nI d) (nI k) = e := ⟨_, rfl⟩
  obtain ⟨u, hu⟩ : ∃ u, S.readS (nI d) (nI k) = u := ⟨_, rfl⟩
  rw [he, hu]
  have HX := hide (And.intro hu he)
  have HS := hide h
  have HN := hide hn
  clear h hn he hu
  by_cases hz_e : e = 0
  · have HZ_e := hide hz_e
    clear hz_e
    go_enter Try.func55, Try.ntmps55
    go_wp2_with (first
      | ((with_reducible refine at_slot 3 ?_); refine wpList_box_blk rfl 33 _ rfl (.agg #[.int .i64 d, .int .i64 k]) rfl ?_; intro y1 hbq hl1 hs1; have HS1 : Hid (Alk w0 y1 b F S (V4 gb b gx xd xk gy yd yk gr A L.length c (U ++ [(W.heap.size, 33, plL d k)])) A c L) := hide (HS.out.var hl1 (Nat.le_refl _) hbq); have cb : y1.cell? ⟨gb, 0, none⟩ = some (.pointer (some ⟨b, 0, none⟩)) := ((HS1.out.own.blk 0 rfl).cell 0).trans rfl; have HQ : Hid ((V4 gb b gx xd xk gy yd yk gr A L.length c (U ++ [(W.heap.size, 33, plL d k)]))[4 + U.length]? = some (W.heap.size, 33, plL d k)) := hide (by rw [Nat.add_comm]; simp [V4]); clear hbq hl1 hs1)
      | ((with_reducible refine at_slot 9 ?_); refine when_own rfl (.tmp 3) rfl HS1.out.own (4 + U.length) HQ.out rfl Try.underlying33 rfl mplace_info ?_)
      | (go_at_call 17; (with_reducible refine (HS1.out.read (di := d) (ki := k) rfl rfl).mono ?_); rintro _ y2 ⟨rfl, hsq⟩; rw [HX.out.1, HX.out.2, HZ_e.out]; have HS2 := hide hsq; clear hsq)
      | ((with_reducible refine at_slot 5 ?_); refine wpList_alloc_blk rfl 43 rfl _ (sec_zero _) ?_; intro y3 hbq hl1 hs1; clear hs1)
      | ((with_reducible refine at_store 5 ?_); refine wpList_store_all rfl 43 (.tmp 5) (.tmp 11) rfl y2.heap.size 43 _ hbq rfl (secL u) rfl (msec_size _) (msec_len _ _) (secL_one _) ?_; intro y4 hbz hg hs; have HS4 : Hid (Alk w0 y4 b F S (V4 gb b gx xd xk gy yd yk gr A L.length c (U ++ [(W.heap.size, 33, plL d k)] ++ [(y2.heap.size, 43, secL u)])) A c L) := hide (HS2.out.new hl1 hg hbz); have cr : y4.cell? ⟨gr, 0, none⟩ = some (.slice A L.length c) := ((HS4.out.own.blk 3 rfl).cell 0).trans rfl; have HQ4 : Hid ((V4 gb b gx xd xk gy yd yk gr A L.length c (U ++ [(W.heap.size, 33, plL d k)] ++ [(y2.heap.size, 43, secL u)]))[4 + (U ++ [(W.heap.size, 33, plL d k)]).length]? = some (y2.heap.size, 43, secL u)) := hide (by rw [Nat.add_comm]; simp [V4]); clear hs hbq hl1 hg hbz)
      | ((with_reducible refine at_slot 16 ?_); refine when_own rfl (.tmp 5) rfl HS4.out.own (4 + (U ++ [(W.heap.size, 33, plL d k)]).length) HQ4.out rfl Try.underlying43 rfl (msec_size _) ?_)
      | ((with_reducible refine at_slot 17 ?_); refine wpList_oneS rfl (.tmp 16) rfl u rfl ?_)
      | ((with_reducible refine at_slot 18 ?_); refine wpList_pushA rfl (.tmp 15) (.tmp 17) rfl u HS4.out rfl rfl rfl HN.out ?_; intro A5 c5 y5 hsq; have HS5 := hide hsq; clear hsq)
      | ((with_reducible refine at_store 2 ?_); refine wpList_poke rfl 73 (.tmp 2) (.tmp 18) rfl gr 0 73 _ (HS5.out.own.blk 3 rfl) rfl (.slice A5 (L.length + 1) c5) rfl rfl rd_cell (by simp) ?_; intro y6 hbq hg hs; have hbz : Blk y6 gr 73 ([Value.slice A5 (L.length + 1) c5] : List Value).toArray := hbq; clear hbq; have HS6 : Hid (Alk w0 y6 b F S (V4 gb b gx xd xk gy yd yk gr A5 (L.length + 1) c5 (U ++ [(W.heap.size, 33, plL d k)] ++ [(y2.heap.size, 43, secL u)])) A5 c5 (L ++ [u])) := hide (HS5.out.poke 3 rfl hbz hg); clear hs hbz hg))
    go_ret
    refine ⟨rfl, A5, c5, ?_⟩
    exact Alk.cut (V := V4 gb b gx xd xk gy yd yk gr A5 (L.length + 1) c5 U) (Alk.cut (V := V4 gb b gx xd xk gy yd yk gr A5 (L.length + 1) c5 (U ++ [(W.heap.size, 33, plL d k)])) HS6.out)
  · have HN_e := hide hz_e
    clear hz_e
    have NE_e := neN HN_e.out
    obtain ⟨na_e, nb_e, nc_e⟩ := NE_e
    go_enter Try.func55, Try.ntmps55
    go_wp2_with (first
      | ((with_reducible refine at_slot 3 ?_); refine wpList_box_blk rfl 33 _ rfl (.agg #[.int .i64 d, .int .i64 k]) rfl ?_; intro y1 hbq hl1 hs1; have HS1 : Hid (Alk w0 y1 b F S (V4 gb b gx xd xk gy yd yk gr A L.length c (U ++ [(W.heap.size, 33, plL d k)])) A c L) := hide (HS.out.var hl1 (Nat.le_refl _) hbq); have cb : y1.cell? ⟨gb, 0, none⟩ = some (.pointer (some ⟨b, 0, none⟩)) := ((HS1.out.own.blk 0 rfl).cell 0).trans rfl; have HQ : Hid ((V4 gb b gx xd xk gy yd yk gr A L.length c (U ++ [(W.heap.size, 33, plL d k)]))[4 + U.length]? = some (W.heap.size, 33, plL d k)) := hide (by rw [Nat.add_comm]; simp [V4]); clear hbq hl1 hs1)
      | ((with_reducible refine at_slot 9 ?_); refine when_own rfl (.tmp 3) rfl HS1.out.own (4 + U.length) HQ.out rfl Try.underlying33 rfl mplace_info ?_)
      | (go_at_call 17; (with_reducible refine (HS1.out.read (di := d) (ki := k) rfl rfl).mono ?_); rintro _ y2 ⟨rfl, hsq⟩; rw [HX.out.1, HX.out.2]; have HS2 := hide hsq; clear hsq)
      | ((with_reducible refine at_slot 5 ?_); refine wpList_alloc_blk rfl 43 rfl _ (sec_zero _) ?_; intro y3 hbq hl1 hs1; clear hs1)
      | ((with_reducible refine at_store 5 ?_); refine wpList_store_all rfl 43 (.tmp 5) (.tmp 11) rfl y2.heap.size 43 _ hbq rfl (secL u) rfl (msec_size _) (msec_len _ _) (secL_one _) ?_; intro y4 hbz hg hs; have HS4 : Hid (Alk w0 y4 b F S (V4 gb b gx xd xk gy yd yk gr A L.length c (U ++ [(W.heap.size, 33, plL d k)] ++ [(y2.heap.size, 43, secL u)])) A c L) := hide (HS2.out.new hl1 hg hbz); have cr : y4.cell? ⟨gr, 0, none⟩ = some (.slice A L.length c) := ((HS4.out.own.blk 3 rfl).cell 0).trans rfl; clear hs hbq hl1 hg hbz))
    go_ret
    exact ⟨rfl, A, c, Alk.cut (V := V4 gb b gx xd xk gy yd yk gr A L.length c U) (Alk.cut (V := V4 gb b gx xd xk gy yd yk gr A L.length c (U ++ [(W.heap.size, 33, plL d k)])) HS4.out)⟩
/-- What Alike's closure does. -/
def stA (d k : Nat) (s : Bank × List Sec) : Nat × (Bank × List Sec) := (s.1.place d k, s.1, if s.1.place d k = 0 then s.2 ++ [s.1.readS d k] else s.2)
theorem doerA (w0 : World) (b : Nat) (F : Nat → Prop) (gb gx gy gr : Nat) (xd xk yd yk : Int) :
    Doer 55 [.pointer (some ⟨gb, 0, none⟩), .pointer (some ⟨gr, 0, none⟩)] stA (fun n W s V => s.2.length + n ≤ 1000 ∧ ∃ A c, Alk w0 W b F s.1 (V4 gb b gx xd xk gy yd yk gr A s.2.length c V) A c s.2) where
  var_ := fun {n W W' s V g t cs} ⟨h1, A, c, h⟩ hb hg hk => ⟨h1, A, c, h.var hb hg hk⟩
  own_ := fun {n W s V} ⟨_, A, c, h⟩ => OwnV.tail (V := [_, _, _, _]) h.own
  cut_ := fun {n W s V} ⟨h1, A, c, h⟩ => ⟨h1, A, c, Alk.cut (V := [_, _, _, _]) h⟩
  call_ := fun {n W s V} ⟨h1, A, c, h⟩ d k => (closA_any h (by omega) d k).mono fun _ _ ⟨he, A', c', hA⟩ => ⟨he, by
    show (if s.1.place (nI d) (nI k) = 0 then s.2 ++ [s.1.readS (nI d) (nI k)] else s.2).length + n ≤ 1000
    split
    · rw [List.length_append, List.length_singleton]; omega
    · omega, A', c', hA⟩
/-- What is left behind both, and what Alike makes of it. -/
theorem alike_ways (S : Bank) (d k d' k' : Nat) (r : Nat) (L : List Sec) (h : bothN stA d k d' k' (S, []) = (r, S, L)) :
    (r ≠ 0 ∧ S.malike d k d' k' = ((false, r), S)) ∨ (r = 0 ∧ (∃ u, L = [u]) ∧ S.malike d k d' k' = ((false, 0), S)) ∨
    (r = 0 ∧ L = [S.readS d k, S.readS d' k'] ∧ S.readS d k = S.readS d' k' ∧ S.malike d k d' k' = ((false, 0), S)) ∨
    (r = 0 ∧ L = [S.readS d k, S.readS d' k'] ∧ S.readS d k ≠ S.readS d' k' ∧ S.malike d k d' k' = ((decide ((S.write d' k' (S.readS d k)).1 = 0), if lostB (S.write d' k' (S.readS d k)).1 = true then 0 else (S.write d' k' (S.readS d k)).1), (S.write d' k' (S.readS d k)).2)) := by
  obtain ⟨e, he⟩ : ∃ e, S.place d k = e := ⟨_, rfl⟩
  obtain ⟨f, hf⟩ : ∃ f, S.place d' k' = f := ⟨_, rfl⟩
  have hm : S.malike d k d' k' = if e = 0 ∨ lostB e = true then (if f = 0 ∨ lostB f = true then (if e = 0 ∧ f = 0 then (if S.newest d k = S.newest d' k' then ((false, 0), S) else ((decide ((S.write d' k' (S.newest d k)).1 = 0), if lostB (S.write d' k' (S.newest d k)).1 = true then 0 else (S.write d' k' (S.newest d k)).1), (S.write d' k' (S.newest d k)).2)) else ((false, if e = 0 ∨ f = 0 then 0 else 5), S)) else ((false, f), S)) else ((false, e), S) := by
    unfold Bank.malike
    simp only [he, hf]
  unfold bothN stA at h
  simp only [he, hf] at h
  have l0 : lostB 0 = false := rfl
  by_cases h1 : e = 0
  · subst h1
    have hs : S.readS d k = S.newest d k := by unfold Bank.readS; rw [if_pos he]
    by_cases h2 : f = 0
    · subst h2
      have ht : S.readS d' k' = S.newest d' k' := by unfold Bank.readS; rw [if_pos hf]
      simp at h hm
      obtain ⟨h3, h4⟩ := h
      by_cases hq : S.newest d k = S.newest d' k'
      · rw [if_pos hq] at hm
        exact .inr (.inr (.inl ⟨h3.symm, h4.symm, by rw [hs, ht]; exact hq, hm⟩))
      · rw [if_neg hq] at hm
        refine .inr (.inr (.inr ⟨h3.symm, h4.symm, by rw [hs, ht]; exact hq, ?_⟩))
        rw [hs]
        simpa using hm
    · by_cases h3 : lostB f = true
      · simp [h2, h3] at h hm
        exact .inr (.inl ⟨h.1.symm, ⟨_, h.2.symm⟩, hm⟩)
      · simp [h2, h3] at h hm
        exact .inl ⟨by rw [← h.1]; exact h2, by rw [← h.1]; exact hm⟩
  · by_cases h4 : lostB e = true
    · by_cases h2 : f = 0
      · subst h2
        simp [h1, h4] at h hm
        exact .inr (.inl ⟨h.1.symm, ⟨_, h.2.symm⟩, hm⟩)
      · by_cases h3 : lostB f = true
        · simp [h1, h2, h3, h4] at h hm
          exact .inl ⟨by rw [← h.1]; decide, by rw [← h.1]; exact hm⟩
        · simp [h1, h2, h3, h4] at h hm
          exact .inl ⟨by rw [← h.1]; exact h2, by rw [← h.1]; exact hm⟩
    · simp [h1, h4] at h hm
      exact .inl ⟨by rw [← h.1]; exact h1, by rw [← h.1]; exact hm⟩
theorem both_bank (S : Bank) (d k d' k' : Nat) : ∃ r L, bothN stA d k d' k' (S, []) = (r, S, L) := by
  unfold bothN stA
  simp only
  split
  · split
    · exact ⟨_, _, rfl⟩
    · exact ⟨_, _, rfl⟩
  · exact ⟨_, _, rfl⟩
theorem both_alike {gb gx gy gr : Nat} {xd xk yd yk : Int} (h : Cit w0 W b F S (V4 gb b gx xd xk gy yd yk gr none 0 0 [])) (hF : ∀ x, F x → x < w0.heap.size) {r k : Nat} (hbn : bothN stA (nI xd) (nI xk) (nI yd) (nI yk) (S, []) = (r, S, L)) (hk : L.length = k) :
    Calls Try.prog 52 #[.agg #[.int .i64 xd, .int .i64 xk], .agg #[.int .i64 yd, .int .i64 yk], .func (.func 55) #[] #[.pointer (some ⟨gb, 0, none⟩), .pointer (some ⟨gr, 0, none⟩)]] W fun e W' => e = .returned (.int .i64 (r : Int)) ∧ ∃ A c, Alk w0 W' b F S (V4 gb b gx xd xk gy yd yk gr A k c []) A c L := by
  have h2 := bothA_any (s := (S, ([] : List Sec))) ⟨doerA w0 b F gb gx gy gr xd xk yd yk, ⟨show 0 + 2 ≤ 1000 by decide, none, 0, Alk.begin h hF⟩⟩ xd xk yd yk
  rw [hbn] at h2
  subst hk
  exact h2.mono fun _ _ ⟨he, n, _, A, c, hA⟩ => ⟨he, A, c, hA⟩
theorem Alk.two {s t : Sec} (h : Alk w0 W b F S V A c [s, t]) : ∃ g, A = some ⟨g, 0, none⟩ := by
  rcases h.row.2 with ⟨h1, h2⟩ | ⟨g, cap, cur, hv, _, _, _⟩
  · cases h2
  · injection hv with hv
    exact ⟨g, hv⟩
theorem Alk.ranges {g : Nat} {s t : Sec} (h : Alk w0 W b F S V (some ⟨g, 0, none⟩) c [s, t]) : W.rangeAt g 0 (secL s) ∧ W.rangeAt g 64 (secL t) := by
  rcases h.row.2 with ⟨h1, h2⟩ | ⟨g', cap, cur, hv, _, hh, _, _, _, hx⟩
  · cases h2
  · injection hv with hv
    injection hv with hv
    injection hv with hv
    subst hv
    have hb : Blk W g 43 cur := hh
    have hq : cur.toList.take 128 = secL s ++ secL t := by
      have : ([s, t] : List Sec).length * 64 = 128 := rfl
      rw [this] at hx
      rw [hx]
      show secsL [s, t] = _
      unfold secsL
      simp
    have hi : ∀ (i : Nat) (v : Value), (secL s ++ secL t)[i]? = some v → W.cell? ⟨g, i, none⟩ = some v := fun i v hv => by
      rw [hb.cell i]
      rw [← hq, List.getElem?_take] at hv
      split at hv
      · simpa using hv
      · cases hv
    refine ⟨fun j v hj => ?_, fun j v hj => ?_⟩
    · rw [Nat.zero_add]
      refine hi j v ?_
      rw [List.getElem?_append_left]
      · exact hj
      · rcases Nat.lt_or_ge j (secL s).length with hl | hl
        · exact hl
        · rw [List.getElem?_eq_none hl] at hj; cases hj
    · refine hi (64 + j) v ?_
      rw [List.getElem?_append_right (by rw [secL_length]; omega), secL_length, Nat.add_sub_cancel_left]
      exact hj
theorem Alk.cellR {gb gx gy gr k : Nat} {xd xk yd yk : Int} (h : Alk w0 W b F S (V4 gb b gx xd xk gy yd yk gr A k c []) A c L) : W.cell? ⟨gr, 0, none⟩ = some (.slice A k c) := ((h.own.blk 3 rfl).cell 0).trans rfl
theorem Alk.cellB {gb gx gy gr k : Nat} {xd xk yd yk : Int} (h : Alk w0 W b F S (V4 gb b gx xd xk gy yd yk gr A k c []) A c L) : W.cell? ⟨gb, 0, none⟩ = some (.pointer (some ⟨b, 0, none⟩)) := ((h.own.blk 0 rfl).cell 0).trans rfl
set_option maxRecDepth 100000 in
set_option maxHeartbeats 8000000 in
theorem malike_any (h : BankOn w b F S) (hw : S.writes < 4611686018427387000) (xd xk yd yk : Int) :
    Calls Try.prog 25 #[.pointer (some ⟨b, 0, none⟩), .agg #[.int .i64 xd, .int .i64 xk], .agg #[.int .i64 yd, .int .i64 yk]] w fun e w' => e = .returned (.tuple #[.bool (S.malike (nI xd) (nI xk) (nI yd) (nI yk)).1.1, .int .i64 ((S.malike (nI xd) (nI xk) (nI yd) (nI yk)).1.2 : Int)]) ∧ BankOn w' b F (S.malike (nI xd) (nI xk) (nI yd) (nI yk)).2 ∧ Turn F w w' := by
  have HL := hide h.1
  have HS_w : Hid (Cit w w b F S []) := hide (Cit.begin h)
  have HWR := hide hw
  clear h hw
  obtain ⟨r, L, hbn⟩ := both_bank S (nI xd) (nI xk) (nI yd) (nI yk)
  obtain ⟨s, hs⟩ : ∃ s, S.readS (nI xd) (nI xk) = s := ⟨_, rfl⟩
  obtain ⟨t, ht⟩ : ∃ s, S.readS (nI yd) (nI yk) = s := ⟨_, rfl⟩
  have hways := alike_ways S (nI xd) (nI xk) (nI yd) (nI yk) r L hbn
  rw [hs, ht] at hways
  obtain ⟨e3, he3⟩ : ∃ e, (S.write (nI yd) (nI yk) s).1 = e := ⟨_, rfl⟩
  obtain ⟨C, hC⟩ : ∃ A, (S.write (nI yd) (nI yk) s).2 = A := ⟨_, rfl⟩
  rw [he3, hC] at hways
  have HE3 := hide he3
  have HC := hide hC
  clear hs ht he3 hC
  rcases hways with ⟨hr, hm⟩ | ⟨hr, ⟨u, hu⟩, hm⟩ | ⟨hr, hu, hst, hm⟩ | ⟨hr, hu, hst, hm⟩
  · have HR := hide hm
    have HN_r := hide hr
    have HBN := hide hbn
    clear hr hm hbn
    have NE_r := neN HN_r.out
    obtain ⟨na_r, nb_r, nc_r⟩ := NE_r
    go_enter Try.func25, Try.ntmps25
    go_upto_region 3 with (first
      | ((with_reducible refine at_slot 3 ?_); refine wpList_box_blk rfl 24 _ rfl (.pointer (some ⟨b, 0, none⟩)) rfl ?_; intro y1 hbq hl1 hs1; have HS_y1 : Hid (Cit w y1 b F S [(w.heap.size, 24, [.pointer (some ⟨b, 0, none⟩)])]) := hide (HS_w.out.var hl1 (Nat.le_refl _) hbq); clear hbq hl1 hs1)
      | ((with_reducible refine at_slot 4 ?_); refine wpList_box_blk rfl 33 _ rfl (.agg #[.int .i64 xd, .int .i64 xk]) rfl ?_; intro y2 hbq hl1 hs1; have HS_y2 : Hid (Cit w y2 b F S [(w.heap.size, 24, [.pointer (some ⟨b, 0, none⟩)]), (y1.heap.size, 33, plL xd xk)]) := hide (HS_y1.out.var hl1 (Nat.le_refl _) hbq); clear hbq hl1 hs1)
      | ((with_reducible refine at_slot 5 ?_); refine wpList_box_blk rfl 33 _ rfl (.agg #[.int .i64 yd, .int .i64 yk]) rfl ?_; intro y3 hbq hl1 hs1; have HS_y3 : Hid (Cit w y3 b F S [(w.heap.size, 24, [.pointer (some ⟨b, 0, none⟩)]), (y1.heap.size, 33, plL xd xk), (y2.heap.size, 33, plL yd yk)]) := hide (HS_y2.out.var hl1 (Nat.le_refl _) hbq); clear hbq hl1 hs1)
      | ((with_reducible refine at_slot 8 ?_); refine wpList_alloc_blk rfl 73 rfl _ (rd_zero _) ?_; intro y4 hbq hl1 hs1; have HS_y4 : Hid (Cit w y4 b F S [(w.heap.size, 24, [.pointer (some ⟨b, 0, none⟩)]), (y1.heap.size, 33, plL xd xk), (y2.heap.size, 33, plL yd yk), (y3.heap.size, 73, [.slice none 0 0])]) := hide (HS_y3.out.var hl1 (Nat.le_refl _) hbq); clear hbq hl1 hs1)
      | ((with_reducible refine at_slot 10 ?_); refine when_own rfl (.tmp 4) rfl HS_y4.out.own 1 rfl rfl Try.underlying33 rfl mplace_info ?_)
      | ((with_reducible refine at_slot 11 ?_); refine when_own rfl (.tmp 5) rfl HS_y4.out.own 2 rfl rfl Try.underlying33 rfl mplace_info ?_)
      | (go_at_call 52; refine (both_alike (L := L) (k := L.length) HS_y4.out HL.out HBN.out rfl).mono ?_; rintro _ z ⟨rfl, A, c, hz⟩; have HZ := hide hz; clear hz))
    refine wp_region_held_drew (S := (fun _ => True)) (by kernel_rfl) ?_ (fun hHeld => ?_)
    · exact trivial
    refine heldTake (i := 0) (v := ?_) rfl (by kernel_rfl) (by kernel_rfl) (by kernel_rfl) (fun _ _ _ h => h) (Or.inl ⟨by rfl, ?_⟩) (by assumption) ?_
    rotate_left
    · intro w hSw; (try dsimp only at hSw); go_simp <;> (with_reducible rfl)
    try simp only [Act.put, List.setIfInBounds_toArray, List.set_cons_zero, List.set_cons_succ]
    refine heldTake (i := 1) (v := .bool true) rfl (by kernel_rfl) (by kernel_rfl) (by kernel_rfl) (fun _ _ _ h => h) (Or.inl ⟨by rfl, fun W hW => ?_⟩) (by assumption) ?_
    · dsimp only at hW
      go_split_ands
      go_simp <;> rfl
    try simp only [Act.put, List.setIfInBounds_toArray, List.set_cons_zero, List.set_cons_succ]
    refine heldTake (i := 2) (v := ?_) rfl (by kernel_rfl) (by kernel_rfl) (by kernel_rfl) (fun _ _ _ h => h) (Or.inl ⟨by rfl, ?_⟩) (by assumption) ?_
    rotate_left
    · intro w hSw; (try dsimp only at hSw); go_simp <;> (with_reducible rfl)
    try simp only [Act.put, List.setIfInBounds_toArray, List.set_cons_zero, List.set_cons_succ]
    refine heldTake (i := 3) (v := undef) rfl (by kernel_rfl) (by kernel_rfl) (by kernel_rfl) (fun _ _ _ h => h) (Or.inr ⟨by rfl, rfl⟩) (by assumption) ?_
    try simp only [Act.put, List.setIfInBounds_toArray, List.set_cons_zero, List.set_cons_succ]
    refine heldTake (i := 4) (v := undef) rfl (by kernel_rfl) (by kernel_rfl) (by kernel_rfl) (fun _ _ _ h => h) (Or.inr ⟨by rfl, rfl⟩) (by assumption) ?_
    try simp only [Act.put, List.setIfInBounds_toArray, List.set_cons_zero, List.set_cons_succ]
    refine heldTake (i := 5) (v := undef) rfl (by kernel_rfl) (by kernel_rfl) (by kernel_rfl) (fun _ _ _ h => h) (Or.inr ⟨by rfl, rfl⟩) (by assumption) ?_
    try simp only [Act.put, List.setIfInBounds_toArray, List.set_cons_zero, List.set_cons_succ]
    refine heldTake (i := 6) (v := ?_) rfl (by kernel_rfl) (by kernel_rfl) (by kernel_rfl) (fun _ _ _ h => h) (Or.inl ⟨by rfl, ?_⟩) (by assumption) ?_
    rotate_left
    · intro w hSw; (try dsimp only at hSw); go_simp <;> (with_reducible rfl)
    try simp only [Act.put, List.setIfInBounds_toArray, List.set_cons_zero, List.set_cons_succ]
    refine heldTake (i := 7) (v := ?_) rfl (by kernel_rfl) (by kernel_rfl) (by kernel_rfl) (fun _ _ _ h => h) (Or.inl ⟨by rfl, ?_⟩) (by assumption) ?_
    rotate_left
    · intro w hSw; (try dsimp only at hSw); go_simp <;> (with_reducible rfl)
    try simp only [Act.put, List.setIfInBounds_toArray, List.set_cons_zero, List.set_cons_succ]
    refine heldTake (i := 8) (v := undef) rfl (by kernel_rfl) (by kernel_rfl) (by kernel_rfl) (fun _ _ _ h => h) (Or.inr ⟨by rfl, rfl⟩) (by assumption) ?_
    try simp only [Act.put, List.setIfInBounds_toArray, List.set_cons_zero, List.set_cons_succ]
    refine heldTake (i := 9) (v := undef) rfl (by kernel_rfl) (by kernel_rfl) (by kernel_rfl) (fun _ _ _ h => h) (Or.inr ⟨by rfl, rfl⟩) (by assumption) ?_
    try simp only [Act.put, List.setIfInBounds_toArray, List.set_cons_zero, List.set_cons_succ]
    refine heldTake (i := 10) (v := undef) rfl (by kernel_rfl) (by kernel_rfl) (by kernel_rfl) (fun _ _ _ h => h) (Or.inr ⟨by rfl, rfl⟩) (by assumption) ?_
    try simp only [Act.put, List.setIfInBounds_toArray, List.set_cons_zero, List.set_cons_succ]
    refine heldTake (i := 11) (v := undef) rfl (by kernel_rfl) (by kernel_rfl) (by kernel_rfl) (fun _ _ _ h => h) (Or.inr ⟨by rfl, rfl⟩) (by assumption) ?_
    try simp only [Act.put, List.setIfInBounds_toArray, List.set_cons_zero, List.set_cons_succ]
    refine heldTake (i := 12) (v := undef) rfl (by kernel_rfl) (by kernel_rfl) (by kernel_rfl) (fun _ _ _ h => h) (Or.inr ⟨by rfl, rfl⟩) (by assumption) ?_
    try simp only [Act.put, List.setIfInBounds_toArray, List.set_cons_zero, List.set_cons_succ]
    refine heldTake (i := 13) (v := undef) rfl (by kernel_rfl) (by kernel_rfl) (by kernel_rfl) (fun _ _ _ h => h) (Or.inr ⟨by rfl, rfl⟩) (by assumption) ?_
    try simp only [Act.put, List.setIfInBounds_toArray, List.set_cons_zero, List.set_cons_succ]
    refine heldTake (i := 14) (v := undef) rfl (by kernel_rfl) (by kernel_rfl) (by kernel_rfl) (fun _ _ _ h => h) (Or.inr ⟨by rfl, rfl⟩) (by assumption) ?_
    try simp only [Act.put, List.setIfInBounds_toArray, List.set_cons_zero, List.set_cons_succ]
    refine heldTake (i := 15) (v := ?_) rfl (by kernel_rfl) (by kernel_rfl) (by kernel_rfl) (fun _ _ _ h => h) (Or.inl ⟨by rfl, ?_⟩) (by assumption) ?_
    rotate_left
    · intro w hSw; (try dsimp only at hSw); go_simp <;> (with_reducible rfl)
    try simp only [Act.put, List.setIfInBounds_toArray, List.set_cons_zero, List.set_cons_succ]
    refine wpAnyH_done (by kernel_rfl) ?_ _
    have HD := hide (HZ.out.later (Below.refl _ _).drew)
    go_wp2
    go_ret2
    rw [HR.out]
    exact ⟨rfl, HD.out.cit.fin⟩
  · subst hr hu
    have HR := hide hm
    have HBN := hide hbn
    clear hm hbn
    go_enter Try.func25, Try.ntmps25
    go_upto_region 3 with (first
      | ((with_reducible refine at_slot 3 ?_); refine wpList_box_blk rfl 24 _ rfl (.pointer (some ⟨b, 0, none⟩)) rfl ?_; intro y1 hbq hl1 hs1; have HS_y1 : Hid (Cit w y1 b F S [(w.heap.size, 24, [.pointer (some ⟨b, 0, none⟩)])]) := hide (HS_w.out.var hl1 (Nat.le_refl _) hbq); clear hbq hl1 hs1)
      | ((with_reducible refine at_slot 4 ?_); refine wpList_box_blk rfl 33 _ rfl (.agg #[.int .i64 xd, .int .i64 xk]) rfl ?_; intro y2 hbq hl1 hs1; have HS_y2 : Hid (Cit w y2 b F S [(w.heap.size, 24, [.pointer (some ⟨b, 0, none⟩)]), (y1.heap.size, 33, plL xd xk)]) := hide (HS_y1.out.var hl1 (Nat.le_refl _) hbq); clear hbq hl1 hs1)
      | ((with_reducible refine at_slot 5 ?_); refine wpList_box_blk rfl 33 _ rfl (.agg #[.int .i64 yd, .int .i64 yk]) rfl ?_; intro y3 hbq hl1 hs1; have HS_y3 : Hid (Cit w y3 b F S [(w.heap.size, 24, [.pointer (some ⟨b, 0, none⟩)]), (y1.heap.size, 33, plL xd xk), (y2.heap.size, 33, plL yd yk)]) := hide (HS_y2.out.var hl1 (Nat.le_refl _) hbq); clear hbq hl1 hs1)
      | ((with_reducible refine at_slot 8 ?_); refine wpList_alloc_blk rfl 73 rfl _ (rd_zero _) ?_; intro y4 hbq hl1 hs1; have HS_y4 : Hid (Cit w y4 b F S [(w.heap.size, 24, [.pointer (some ⟨b, 0, none⟩)]), (y1.heap.size, 33, plL xd xk), (y2.heap.size, 33, plL yd yk), (y3.heap.size, 73, [.slice none 0 0])]) := hide (HS_y3.out.var hl1 (Nat.le_refl _) hbq); clear hbq hl1 hs1)
      | ((with_reducible refine at_slot 10 ?_); refine when_own rfl (.tmp 4) rfl HS_y4.out.own 1 rfl rfl Try.underlying33 rfl mplace_info ?_)
      | ((with_reducible refine at_slot 11 ?_); refine when_own rfl (.tmp 5) rfl HS_y4.out.own 2 rfl rfl Try.underlying33 rfl mplace_info ?_)
      | (go_at_call 52; refine (both_alike (L := [u]) (k := 1) HS_y4.out HL.out HBN.out rfl).mono ?_; rintro _ z ⟨rfl, A, c, hz⟩; have HZ := hide hz; clear hz))
    refine wp_region_held_drew (S := (fun W => W.cell? ⟨y3.heap.size, 0, none⟩ = some (.slice A 1 c))) (by kernel_rfl) ?_ (fun hHeld => ?_)
    · exact (HZ.out.later (Below.refl _ _).drew).cellR
    refine heldTake (i := 0) (v := ?_) rfl (by kernel_rfl) (by kernel_rfl) (by kernel_rfl) (fun _ _ _ h => h) (Or.inl ⟨by rfl, ?_⟩) (by assumption) ?_
    rotate_left
    · intro w hSw; (try dsimp only at hSw); go_simp <;> (with_reducible rfl)
    try simp only [Act.put, List.setIfInBounds_toArray, List.set_cons_zero, List.set_cons_succ]
    refine heldTake (i := 1) (v := ?_) rfl (by kernel_rfl) (by kernel_rfl) (by kernel_rfl) (fun _ _ _ h => h) (Or.inl ⟨by rfl, ?_⟩) (by assumption) ?_
    rotate_left
    · intro w hSw; (try dsimp only at hSw); go_simp <;> (with_reducible rfl)
    try simp only [Act.put, List.setIfInBounds_toArray, List.set_cons_zero, List.set_cons_succ]
    refine heldTake (i := 2) (v := ?_) rfl (by kernel_rfl) (by kernel_rfl) (by kernel_rfl) (fun _ _ _ h => h) (Or.inl ⟨by rfl, ?_⟩) (by assumption) ?_
    rotate_left
    · intro w hSw; (try dsimp only at hSw); go_simp <;> (with_reducible rfl)
    try simp only [Act.put, List.setIfInBounds_toArray, List.set_cons_zero, List.set_cons_succ]
    refine heldTake (i := 3) (v := .slice A 1 c) rfl (by kernel_rfl) (by kernel_rfl) (by kernel_rfl) (fun _ _ _ h => h) (Or.inl ⟨by rfl, fun W hW => ?_⟩) (by assumption) ?_
    · dsimp only at hW
      go_split_ands
      go_simp <;> rfl
    try simp only [Act.put, List.setIfInBounds_toArray, List.set_cons_zero, List.set_cons_succ]
    refine heldTake (i := 4) (v := ?_) rfl (by kernel_rfl) (by kernel_rfl) (by kernel_rfl) (fun _ _ _ h => h) (Or.inl ⟨by rfl, ?_⟩) (by assumption) ?_
    rotate_left
    · intro w hSw; (try dsimp only at hSw); go_simp <;> (with_reducible rfl)
    try simp only [Act.put, List.setIfInBounds_toArray, List.set_cons_zero, List.set_cons_succ]
    refine heldTake (i := 5) (v := ?_) rfl (by kernel_rfl) (by kernel_rfl) (by kernel_rfl) (fun _ _ _ h => h) (Or.inl ⟨by rfl, ?_⟩) (by assumption) ?_
    rotate_left
    · intro w hSw; (try dsimp only at hSw); go_simp <;> (with_reducible rfl)
    try simp only [Act.put, List.setIfInBounds_toArray, List.set_cons_zero, List.set_cons_succ]
    refine heldTake (i := 6) (v := ?_) rfl (by kernel_rfl) (by kernel_rfl) (by kernel_rfl) (fun _ _ _ h => h) (Or.inl ⟨by rfl, ?_⟩) (by assumption) ?_
    rotate_left
    · intro w hSw; (try dsimp only at hSw); go_simp <;> (with_reducible rfl)
    try simp only [Act.put, List.setIfInBounds_toArray, List.set_cons_zero, List.set_cons_succ]
    refine heldTake (i := 7) (v := ?_) rfl (by kernel_rfl) (by kernel_rfl) (by kernel_rfl) (fun _ _ _ h => h) (Or.inl ⟨by rfl, ?_⟩) (by assumption) ?_
    rotate_left
    · intro w hSw; (try dsimp only at hSw); go_simp <;> (with_reducible rfl)
    try simp only [Act.put, List.setIfInBounds_toArray, List.set_cons_zero, List.set_cons_succ]
    refine heldTake (i := 8) (v := undef) rfl (by kernel_rfl) (by kernel_rfl) (by kernel_rfl) (fun _ _ _ h => h) (Or.inr ⟨by rfl, rfl⟩) (by assumption) ?_
    try simp only [Act.put, List.setIfInBounds_toArray, List.set_cons_zero, List.set_cons_succ]
    refine heldTake (i := 9) (v := undef) rfl (by kernel_rfl) (by kernel_rfl) (by kernel_rfl) (fun _ _ _ h => h) (Or.inr ⟨by rfl, rfl⟩) (by assumption) ?_
    try simp only [Act.put, List.setIfInBounds_toArray, List.set_cons_zero, List.set_cons_succ]
    refine heldTake (i := 10) (v := undef) rfl (by kernel_rfl) (by kernel_rfl) (by kernel_rfl) (fun _ _ _ h => h) (Or.inr ⟨by rfl, rfl⟩) (by assumption) ?_
    try simp only [Act.put, List.setIfInBounds_toArray, List.set_cons_zero, List.set_cons_succ]
    refine heldTake (i := 11) (v := undef) rfl (by kernel_rfl) (by kernel_rfl) (by kernel_rfl) (fun _ _ _ h => h) (Or.inr ⟨by rfl, rfl⟩) (by assumption) ?_
    try simp only [Act.put, List.setIfInBounds_toArray, List.set_cons_zero, List.set_cons_succ]
    refine heldTake (i := 12) (v := undef) rfl (by kernel_rfl) (by kernel_rfl) (by kernel_rfl) (fun _ _ _ h => h) (Or.inr ⟨by rfl, rfl⟩) (by assumption) ?_
    try simp only [Act.put, List.setIfInBounds_toArray, List.set_cons_zero, List.set_cons_succ]
    refine heldTake (i := 13) (v := undef) rfl (by kernel_rfl) (by kernel_rfl) (by kernel_rfl) (fun _ _ _ h => h) (Or.inr ⟨by rfl, rfl⟩) (by assumption) ?_
    try simp only [Act.put, List.setIfInBounds_toArray, List.set_cons_zero, List.set_cons_succ]
    refine heldTake (i := 14) (v := undef) rfl (by kernel_rfl) (by kernel_rfl) (by kernel_rfl) (fun _ _ _ h => h) (Or.inr ⟨by rfl, rfl⟩) (by assumption) ?_
    try simp only [Act.put, List.setIfInBounds_toArray, List.set_cons_zero, List.set_cons_succ]
    refine heldTake (i := 15) (v := ?_) rfl (by kernel_rfl) (by kernel_rfl) (by kernel_rfl) (fun _ _ _ h => h) (Or.inl ⟨by rfl, ?_⟩) (by assumption) ?_
    rotate_left
    · intro w hSw; (try dsimp only at hSw); go_simp <;> (with_reducible rfl)
    try simp only [Act.put, List.setIfInBounds_toArray, List.set_cons_zero, List.set_cons_succ]
    refine wpAnyH_done (by kernel_rfl) ?_ _
    have HD := hide (HZ.out.later (Below.refl _ _).drew)
    go_wp2
    go_ret2
    rw [HR.out]
    exact ⟨rfl, HD.out.cit.fin⟩
  · subst hr hu
    have HR := hide hm
    have HBN := hide hbn
    have HST := hide hst
    clear hm hbn hst
    go_enter Try.func25, Try.ntmps25
    go_upto_region 3 with (first
      | ((with_reducible refine at_slot 3 ?_); refine wpList_box_blk rfl 24 _ rfl (.pointer (some ⟨b, 0, none⟩)) rfl ?_; intro y1 hbq hl1 hs1; have HS_y1 : Hid (Cit w y1 b F S [(w.heap.size, 24, [.pointer (some ⟨b, 0, none⟩)])]) := hide (HS_w.out.var hl1 (Nat.le_refl _) hbq); clear hbq hl1 hs1)
      | ((with_reducible refine at_slot 4 ?_); refine wpList_box_blk rfl 33 _ rfl (.agg #[.int .i64 xd, .int .i64 xk]) rfl ?_; intro y2 hbq hl1 hs1; have HS_y2 : Hid (Cit w y2 b F S [(w.heap.size, 24, [.pointer (some ⟨b, 0, none⟩)]), (y1.heap.size, 33, plL xd xk)]) := hide (HS_y1.out.var hl1 (Nat.le_refl _) hbq); clear hbq hl1 hs1)
      | ((with_reducible refine at_slot 5 ?_); refine wpList_box_blk rfl 33 _ rfl (.agg #[.int .i64 yd, .int .i64 yk]) rfl ?_; intro y3 hbq hl1 hs1; have HS_y3 : Hid (Cit w y3 b F S [(w.heap.size, 24, [.pointer (some ⟨b, 0, none⟩)]), (y1.heap.size, 33, plL xd xk), (y2.heap.size, 33, plL yd yk)]) := hide (HS_y2.out.var hl1 (Nat.le_refl _) hbq); clear hbq hl1 hs1)
      | ((with_reducible refine at_slot 8 ?_); refine wpList_alloc_blk rfl 73 rfl _ (rd_zero _) ?_; intro y4 hbq hl1 hs1; have HS_y4 : Hid (Cit w y4 b F S [(w.heap.size, 24, [.pointer (some ⟨b, 0, none⟩)]), (y1.heap.size, 33, plL xd xk), (y2.heap.size, 33, plL yd yk), (y3.heap.size, 73, [.slice none 0 0])]) := hide (HS_y3.out.var hl1 (Nat.le_refl _) hbq); clear hbq hl1 hs1)
      | ((with_reducible refine at_slot 10 ?_); refine when_own rfl (.tmp 4) rfl HS_y4.out.own 1 rfl rfl Try.underlying33 rfl mplace_info ?_)
      | ((with_reducible refine at_slot 11 ?_); refine when_own rfl (.tmp 5) rfl HS_y4.out.own 2 rfl rfl Try.underlying33 rfl mplace_info ?_)
      | (go_at_call 52; refine (both_alike (L := [s, t]) (k := 2) HS_y4.out HL.out HBN.out rfl).mono ?_; rintro _ z ⟨rfl, A, c, hz⟩; have HZ := hide hz; clear hz))
    obtain ⟨g, rfl⟩ := HZ.out.two
    refine wp_region_held_drew (S := (fun W => W.cell? ⟨y3.heap.size, 0, none⟩ = some (.slice (some ⟨g, 0, none⟩) 2 c) ∧ W.rangeAt g 0 (secL s) ∧ W.rangeAt g 64 (secL t))) (by kernel_rfl) ?_ (fun hHeld => ?_)
    · exact ⟨(HZ.out.later (Below.refl _ _).drew).cellR, (HZ.out.later (Below.refl _ _).drew).ranges⟩
    refine heldTake (i := 0) (v := ?_) rfl (by kernel_rfl) (by kernel_rfl) (by kernel_rfl) (fun _ _ _ h => h) (Or.inl ⟨by rfl, ?_⟩) (by assumption) ?_
    rotate_left
    · intro w hSw; (try dsimp only at hSw); go_simp <;> (with_reducible rfl)
    try simp only [Act.put, List.setIfInBounds_toArray, List.set_cons_zero, List.set_cons_succ]
    refine heldTake (i := 1) (v := ?_) rfl (by kernel_rfl) (by kernel_rfl) (by kernel_rfl) (fun _ _ _ h => h) (Or.inl ⟨by rfl, ?_⟩) (by assumption) ?_
    rotate_left
    · intro w hSw; (try dsimp only at hSw); go_simp <;> (with_reducible rfl)
    try simp only [Act.put, List.setIfInBounds_toArray, List.set_cons_zero, List.set_cons_succ]
    refine heldTake (i := 2) (v := ?_) rfl (by kernel_rfl) (by kernel_rfl) (by kernel_rfl) (fun _ _ _ h => h) (Or.inl ⟨by rfl, ?_⟩) (by assumption) ?_
    rotate_left
    · intro w hSw; (try dsimp only at hSw); go_simp <;> (with_reducible rfl)
    try simp only [Act.put, List.setIfInBounds_toArray, List.set_cons_zero, List.set_cons_succ]
    refine heldTake (i := 3) (v := .slice (some ⟨g, 0, none⟩) 2 c) rfl (by kernel_rfl) (by kernel_rfl) (by kernel_rfl) (fun _ _ _ h => h) (Or.inl ⟨by rfl, fun W hW => ?_⟩) (by assumption) ?_
    · dsimp only at hW
      go_split_ands
      go_simp <;> rfl
    try simp only [Act.put, List.setIfInBounds_toArray, List.set_cons_zero, List.set_cons_succ]
    refine heldTake (i := 4) (v := ?_) rfl (by kernel_rfl) (by kernel_rfl) (by kernel_rfl) (fun _ _ _ h => h) (Or.inl ⟨by rfl, ?_⟩) (by assumption) ?_
    rotate_left
    · intro w hSw; (try dsimp only at hSw); go_simp <;> (with_reducible rfl)
    try simp only [Act.put, List.setIfInBounds_toArray, List.set_cons_zero, List.set_cons_succ]
    refine heldTake (i := 5) (v := ?_) rfl (by kernel_rfl) (by kernel_rfl) (by kernel_rfl) (fun _ _ _ h => h) (Or.inl ⟨by rfl, ?_⟩) (by assumption) ?_
    rotate_left
    · intro w hSw; (try dsimp only at hSw); go_simp <;> (with_reducible rfl)
    try simp only [Act.put, List.setIfInBounds_toArray, List.set_cons_zero, List.set_cons_succ]
    refine heldTake (i := 6) (v := ?_) rfl (by kernel_rfl) (by kernel_rfl) (by kernel_rfl) (fun _ _ _ h => h) (Or.inl ⟨by rfl, ?_⟩) (by assumption) ?_
    rotate_left
    · intro w hSw; (try dsimp only at hSw); go_simp <;> (with_reducible rfl)
    try simp only [Act.put, List.setIfInBounds_toArray, List.set_cons_zero, List.set_cons_succ]
    refine heldTake (i := 7) (v := ?_) rfl (by kernel_rfl) (by kernel_rfl) (by kernel_rfl) (fun _ _ _ h => h) (Or.inl ⟨by rfl, ?_⟩) (by assumption) ?_
    rotate_left
    · intro w hSw; (try dsimp only at hSw); go_simp <;> (with_reducible rfl)
    try simp only [Act.put, List.setIfInBounds_toArray, List.set_cons_zero, List.set_cons_succ]
    refine heldTake (i := 8) (v := .slice (some ⟨g, 0, none⟩) 2 c) rfl (by kernel_rfl) (by kernel_rfl) (by kernel_rfl) (fun _ _ _ h => h) (Or.inl ⟨by rfl, fun W hW => ?_⟩) (by assumption) ?_
    · dsimp only at hW
      go_split_ands
      go_simp <;> rfl
    try simp only [Act.put, List.setIfInBounds_toArray, List.set_cons_zero, List.set_cons_succ]
    refine heldTake (i := 9) (v := ?_) rfl (by kernel_rfl) (by kernel_rfl) (by kernel_rfl) (fun _ _ _ h => h) (Or.inl ⟨by rfl, ?_⟩) (by assumption) ?_
    rotate_left
    · intro w hSw; (try dsimp only at hSw); go_simp <;> (with_reducible rfl)
    try simp only [Act.put, List.setIfInBounds_toArray, List.set_cons_zero, List.set_cons_succ]
    refine heldTake (i := 10) (v := .agg (secL s).toArray) rfl (by kernel_rfl) (by kernel_rfl) (by kernel_rfl) (fun _ _ _ h => h) (yieldsIf_load_mid (by rfl) _ _ rfl _ _ rfl (secL s) _ (fun W hW => hW.2.1) Try.underlying43 rfl (msec_size _)) (by assumption) ?_
    try simp only [Act.put, List.setIfInBounds_toArray, List.set_cons_zero, List.set_cons_succ]
    refine heldTake (i := 11) (v := .slice (some ⟨g, 0, none⟩) 2 c) rfl (by kernel_rfl) (by kernel_rfl) (by kernel_rfl) (fun _ _ _ h => h) (Or.inl ⟨by rfl, fun W hW => ?_⟩) (by assumption) ?_
    · dsimp only at hW
      go_split_ands
      go_simp <;> rfl
    try simp only [Act.put, List.setIfInBounds_toArray, List.set_cons_zero, List.set_cons_succ]
    refine heldTake (i := 12) (v := ?_) rfl (by kernel_rfl) (by kernel_rfl) (by kernel_rfl) (fun _ _ _ h => h) (Or.inl ⟨by rfl, ?_⟩) (by assumption) ?_
    rotate_left
    · intro w hSw; (try dsimp only at hSw); go_simp <;> (with_reducible rfl)
    try simp only [Act.put, List.setIfInBounds_toArray, List.set_cons_zero, List.set_cons_succ]
    refine heldTake (i := 13) (v := .agg (secL t).toArray) rfl (by kernel_rfl) (by kernel_rfl) (by kernel_rfl) (fun _ _ _ h => h) (yieldsIf_load_mid (by rfl) _ _ rfl _ _ rfl (secL t) _ (fun W hW => hW.2.2) Try.underlying43 rfl (msec_size _)) (by assumption) ?_
    try simp only [Act.put, List.setIfInBounds_toArray, List.set_cons_zero, List.set_cons_succ]
    refine heldTake (i := 14) (v := .bool true) rfl (by kernel_rfl) (by kernel_rfl) (by kernel_rfl) (fun _ _ _ h => h) (Or.inl ⟨by rfl, fun W hW => run_eqS W _ (.tmp 24) (.tmp 27) _ rfl s t rfl rfl true (by simp [HST.out])⟩) (by assumption) ?_
    try simp only [Act.put, List.setIfInBounds_toArray, List.set_cons_zero, List.set_cons_succ]
    refine heldTake (i := 15) (v := ?_) rfl (by kernel_rfl) (by kernel_rfl) (by kernel_rfl) (fun _ _ _ h => h) (Or.inl ⟨by rfl, ?_⟩) (by assumption) ?_
    rotate_left
    · intro w hSw; (try dsimp only at hSw); go_simp <;> (with_reducible rfl)
    try simp only [Act.put, List.setIfInBounds_toArray, List.set_cons_zero, List.set_cons_succ]
    refine wpAnyH_done (by kernel_rfl) ?_ _
    have HD := hide (HZ.out.later (Below.refl _ _).drew)
    go_wp2
    go_ret2
    rw [HR.out]
    exact ⟨rfl, HD.out.cit.fin⟩
  · subst hr hu
    have HBN := hide hbn
    have HST := hide hst
    have HM := hide hm
    clear hm hbn hst
    by_cases hz_e3 : e3 = 0
    · have HZ_e3 := hide hz_e3
      have HR := hide (show S.malike (nI xd) (nI xk) (nI yd) (nI yk) = ((true, 0), C) by rw [HM.out, decide_eq_true hz_e3, hz_e3]; rfl)
      clear hz_e3
      go_enter Try.func25, Try.ntmps25
      go_upto_region 3 with (first
        | ((with_reducible refine at_slot 3 ?_); refine wpList_box_blk rfl 24 _ rfl (.pointer (some ⟨b, 0, none⟩)) rfl ?_; intro y1 hbq hl1 hs1; have HS_y1 : Hid (Cit w y1 b F S [(w.heap.size, 24, [.pointer (some ⟨b, 0, none⟩)])]) := hide (HS_w.out.var hl1 (Nat.le_refl _) hbq); clear hbq hl1 hs1)
        | ((with_reducible refine at_slot 4 ?_); refine wpList_box_blk rfl 33 _ rfl (.agg #[.int .i64 xd, .int .i64 xk]) rfl ?_; intro y2 hbq hl1 hs1; have HS_y2 : Hid (Cit w y2 b F S [(w.heap.size, 24, [.pointer (some ⟨b, 0, none⟩)]), (y1.heap.size, 33, plL xd xk)]) := hide (HS_y1.out.var hl1 (Nat.le_refl _) hbq); clear hbq hl1 hs1)
        | ((with_reducible refine at_slot 5 ?_); refine wpList_box_blk rfl 33 _ rfl (.agg #[.int .i64 yd, .int .i64 yk]) rfl ?_; intro y3 hbq hl1 hs1; have HS_y3 : Hid (Cit w y3 b F S [(w.heap.size, 24, [.pointer (some ⟨b, 0, none⟩)]), (y1.heap.size, 33, plL xd xk), (y2.heap.size, 33, plL yd yk)]) := hide (HS_y2.out.var hl1 (Nat.le_refl _) hbq); clear hbq hl1 hs1)
        | ((with_reducible refine at_slot 8 ?_); refine wpList_alloc_blk rfl 73 rfl _ (rd_zero _) ?_; intro y4 hbq hl1 hs1; have HS_y4 : Hid (Cit w y4 b F S [(w.heap.size, 24, [.pointer (some ⟨b, 0, none⟩)]), (y1.heap.size, 33, plL xd xk), (y2.heap.size, 33, plL yd yk), (y3.heap.size, 73, [.slice none 0 0])]) := hide (HS_y3.out.var hl1 (Nat.le_refl _) hbq); clear hbq hl1 hs1)
        | ((with_reducible refine at_slot 10 ?_); refine when_own rfl (.tmp 4) rfl HS_y4.out.own 1 rfl rfl Try.underlying33 rfl mplace_info ?_)
        | ((with_reducible refine at_slot 11 ?_); refine when_own rfl (.tmp 5) rfl HS_y4.out.own 2 rfl rfl Try.underlying33 rfl mplace_info ?_)
        | (go_at_call 52; refine (both_alike (L := [s, t]) (k := 2) HS_y4.out HL.out HBN.out rfl).mono ?_; rintro _ z ⟨rfl, A, c, hz⟩; have HZ := hide hz; clear hz))
      obtain ⟨g, rfl⟩ := HZ.out.two
      refine wp_region_held_drew (S := (fun W => W.cell? ⟨y3.heap.size, 0, none⟩ = some (.slice (some ⟨g, 0, none⟩) 2 c) ∧ W.rangeAt g 0 (secL s) ∧ W.rangeAt g 64 (secL t))) (by kernel_rfl) ?_ (fun hHeld => ?_)
      · exact ⟨(HZ.out.later (Below.refl _ _).drew).cellR, (HZ.out.later (Below.refl _ _).drew).ranges⟩
      refine heldTake (i := 0) (v := ?_) rfl (by kernel_rfl) (by kernel_rfl) (by kernel_rfl) (fun _ _ _ h => h) (Or.inl ⟨by rfl, ?_⟩) (by assumption) ?_
      rotate_left
      · intro w hSw; (try dsimp only at hSw); go_simp <;> (with_reducible rfl)
      try simp only [Act.put, List.setIfInBounds_toArray, List.set_cons_zero, List.set_cons_succ]
      refine heldTake (i := 1) (v := ?_) rfl (by kernel_rfl) (by kernel_rfl) (by kernel_rfl) (fun _ _ _ h => h) (Or.inl ⟨by rfl, ?_⟩) (by assumption) ?_
      rotate_left
      · intro w hSw; (try dsimp only at hSw); go_simp <;> (with_reducible rfl)
      try simp only [Act.put, List.setIfInBounds_toArray, List.set_cons_zero, List.set_cons_succ]
      refine heldTake (i := 2) (v := ?_) rfl (by kernel_rfl) (by kernel_rfl) (by kernel_rfl) (fun _ _ _ h => h) (Or.inl ⟨by rfl, ?_⟩) (by assumption) ?_
      rotate_left
      · intro w hSw; (try dsimp only at hSw); go_simp <;> (with_reducible rfl)
      try simp only [Act.put, List.setIfInBounds_toArray, List.set_cons_zero, List.set_cons_succ]
      refine heldTake (i := 3) (v := .slice (some ⟨g, 0, none⟩) 2 c) rfl (by kernel_rfl) (by kernel_rfl) (by kernel_rfl) (fun _ _ _ h => h) (Or.inl ⟨by rfl, fun W hW => ?_⟩) (by assumption) ?_
      · dsimp only at hW
        go_split_ands
        go_simp <;> rfl
      try simp only [Act.put, List.setIfInBounds_toArray, List.set_cons_zero, List.set_cons_succ]
      refine heldTake (i := 4) (v := ?_) rfl (by kernel_rfl) (by kernel_rfl) (by kernel_rfl) (fun _ _ _ h => h) (Or.inl ⟨by rfl, ?_⟩) (by assumption) ?_
      rotate_left
      · intro w hSw; (try dsimp only at hSw); go_simp <;> (with_reducible rfl)
      try simp only [Act.put, List.setIfInBounds_toArray, List.set_cons_zero, List.set_cons_succ]
      refine heldTake (i := 5) (v := ?_) rfl (by kernel_rfl) (by kernel_rfl) (by kernel_rfl) (fun _ _ _ h => h) (Or.inl ⟨by rfl, ?_⟩) (by assumption) ?_
      rotate_left
      · intro w hSw; (try dsimp only at hSw); go_simp <;> (with_reducible rfl)
      try simp only [Act.put, List.setIfInBounds_toArray, List.set_cons_zero, List.set_cons_succ]
      refine heldTake (i := 6) (v := ?_) rfl (by kernel_rfl) (by kernel_rfl) (by kernel_rfl) (fun _ _ _ h => h) (Or.inl ⟨by rfl, ?_⟩) (by assumption) ?_
      rotate_left
      · intro w hSw; (try dsimp only at hSw); go_simp <;> (with_reducible rfl)
      try simp only [Act.put, List.setIfInBounds_toArray, List.set_cons_zero, List.set_cons_succ]
      refine heldTake (i := 7) (v := ?_) rfl (by kernel_rfl) (by kernel_rfl) (by kernel_rfl) (fun _ _ _ h => h) (Or.inl ⟨by rfl, ?_⟩) (by assumption) ?_
      rotate_left
      · intro w hSw; (try dsimp only at hSw); go_simp <;> (with_reducible rfl)
      try simp only [Act.put, List.setIfInBounds_toArray, List.set_cons_zero, List.set_cons_succ]
      refine heldTake (i := 8) (v := .slice (some ⟨g, 0, none⟩) 2 c) rfl (by kernel_rfl) (by kernel_rfl) (by kernel_rfl) (fun _ _ _ h => h) (Or.inl ⟨by rfl, fun W hW => ?_⟩) (by assumption) ?_
      · dsimp only at hW
        go_split_ands
        go_simp <;> rfl
      try simp only [Act.put, List.setIfInBounds_toArray, List.set_cons_zero, List.set_cons_succ]
      refine heldTake (i := 9) (v := ?_) rfl (by kernel_rfl) (by kernel_rfl) (by kernel_rfl) (fun _ _ _ h => h) (Or.inl ⟨by rfl, ?_⟩) (by assumption) ?_
      rotate_left
      · intro w hSw; (try dsimp only at hSw); go_simp <;> (with_reducible rfl)
      try simp only [Act.put, List.setIfInBounds_toArray, List.set_cons_zero, List.set_cons_succ]
      refine heldTake (i := 10) (v := .agg (secL s).toArray) rfl (by kernel_rfl) (by kernel_rfl) (by kernel_rfl) (fun _ _ _ h => h) (yieldsIf_load_mid (by rfl) _ _ rfl _ _ rfl (secL s) _ (fun W hW => hW.2.1) Try.underlying43 rfl (msec_size _)) (by assumption) ?_
      try simp only [Act.put, List.setIfInBounds_toArray, List.set_cons_zero, List.set_cons_succ]
      refine heldTake (i := 11) (v := .slice (some ⟨g, 0, none⟩) 2 c) rfl (by kernel_rfl) (by kernel_rfl) (by kernel_rfl) (fun _ _ _ h => h) (Or.inl ⟨by rfl, fun W hW => ?_⟩) (by assumption) ?_
      · dsimp only at hW
        go_split_ands
        go_simp <;> rfl
      try simp only [Act.put, List.setIfInBounds_toArray, List.set_cons_zero, List.set_cons_succ]
      refine heldTake (i := 12) (v := ?_) rfl (by kernel_rfl) (by kernel_rfl) (by kernel_rfl) (fun _ _ _ h => h) (Or.inl ⟨by rfl, ?_⟩) (by assumption) ?_
      rotate_left
      · intro w hSw; (try dsimp only at hSw); go_simp <;> (with_reducible rfl)
      try simp only [Act.put, List.setIfInBounds_toArray, List.set_cons_zero, List.set_cons_succ]
      refine heldTake (i := 13) (v := .agg (secL t).toArray) rfl (by kernel_rfl) (by kernel_rfl) (by kernel_rfl) (fun _ _ _ h => h) (yieldsIf_load_mid (by rfl) _ _ rfl _ _ rfl (secL t) _ (fun W hW => hW.2.2) Try.underlying43 rfl (msec_size _)) (by assumption) ?_
      try simp only [Act.put, List.setIfInBounds_toArray, List.set_cons_zero, List.set_cons_succ]
      refine heldTake (i := 14) (v := .bool false) rfl (by kernel_rfl) (by kernel_rfl) (by kernel_rfl) (fun _ _ _ h => h) (Or.inl ⟨by rfl, fun W hW => run_eqS W _ (.tmp 24) (.tmp 27) _ rfl s t rfl rfl false (by simp [HST.out])⟩) (by assumption) ?_
      try simp only [Act.put, List.setIfInBounds_toArray, List.set_cons_zero, List.set_cons_succ]
      refine heldTake (i := 15) (v := ?_) rfl (by kernel_rfl) (by kernel_rfl) (by kernel_rfl) (fun _ _ _ h => h) (Or.inl ⟨by rfl, ?_⟩) (by assumption) ?_
      rotate_left
      · intro w hSw; (try dsimp only at hSw); go_simp <;> (with_reducible rfl)
      try simp only [Act.put, List.setIfInBounds_toArray, List.set_cons_zero, List.set_cons_succ]
      refine wpAnyH_done (by kernel_rfl) ?_ _
      have HD := hide (HZ.out.later (Below.refl _ _).drew)
      go_upto_region 5 with fail
      refine wp_region_held_drew (S := (fun W => W.cell? ⟨w.heap.size, 0, none⟩ = some (.pointer (some ⟨b, 0, none⟩)) ∧ W.rangeAt (y2.heap.size) 0 (plL yd yk) ∧ W.cell? ⟨y3.heap.size, 0, none⟩ = some (.slice (some ⟨g, 0, none⟩) 2 c) ∧ W.rangeAt g 0 (secL s))) (by kernel_rfl) ?_ (fun hHeld => ?_)
      · exact ⟨(HD.out.later (Below.refl _ _).drew).cellB, (HD.out.later (Below.refl _ _).drew).own.range 2 rfl, (HD.out.later (Below.refl _ _).drew).cellR, (HD.out.later (Below.refl _ _).drew).ranges.1⟩
      have HD2 := hide (HD.out.later (Below.refl _ _).drew)
      refine heldTake (i := 0) (v := .pointer (some ⟨b, 0, none⟩)) rfl (by kernel_rfl) (by kernel_rfl) (by kernel_rfl) (fun _ _ _ h => h) (Or.inl ⟨by rfl, fun W hW => ?_⟩) (by assumption) ?_
      · dsimp only at hW
        go_split_ands
        go_simp <;> rfl
      try simp only [Act.put, List.setIfInBounds_toArray, List.set_cons_zero, List.set_cons_succ]
      refine heldTake (i := 1) (v := .agg (plL yd yk).toArray) rfl (by kernel_rfl) (by kernel_rfl) (by kernel_rfl) (fun _ _ _ h => h) (yieldsIf_load_mid (by rfl) _ _ rfl _ _ rfl (plL yd yk) _ (fun W hW => hW.2.1) Try.underlying33 rfl mplace_info) (by assumption) ?_
      try simp only [Act.put, List.setIfInBounds_toArray, List.set_cons_zero, List.set_cons_succ]
      refine heldTake (i := 2) (v := .slice (some ⟨g, 0, none⟩) 2 c) rfl (by kernel_rfl) (by kernel_rfl) (by kernel_rfl) (fun _ _ _ h => h) (Or.inl ⟨by rfl, fun W hW => ?_⟩) (by assumption) ?_
      · dsimp only at hW
        go_split_ands
        go_simp <;> rfl
      try simp only [Act.put, List.setIfInBounds_toArray, List.set_cons_zero, List.set_cons_succ]
      refine heldTake (i := 3) (v := ?_) rfl (by kernel_rfl) (by kernel_rfl) (by kernel_rfl) (fun _ _ _ h => h) (Or.inl ⟨by rfl, ?_⟩) (by assumption) ?_
      rotate_left
      · intro w hSw; (try dsimp only at hSw); go_simp <;> (with_reducible rfl)
      try simp only [Act.put, List.setIfInBounds_toArray, List.set_cons_zero, List.set_cons_succ]
      refine heldTake (i := 4) (v := .agg (secL s).toArray) rfl (by kernel_rfl) (by kernel_rfl) (by kernel_rfl) (fun _ _ _ h => h) (yieldsIf_load_mid (by rfl) _ _ rfl _ _ rfl (secL s) _ (fun W hW => hW.2.2.2) Try.underlying43 rfl (msec_size _)) (by assumption) ?_
      try simp only [Act.put, List.setIfInBounds_toArray, List.set_cons_zero, List.set_cons_succ]
      refine wpAnyH_ready (rs := [5]) (by kernel_rfl) (by simp) ?_
      refine heldCons (i := 5) rfl (fun Kq hKq => ?_) AllReadyH.nil
      go_simp
      go_at_call 29
      refine (HD2.out.write (by have := HWR.out; omega) (di := yd) (ki := yk) rfl rfl s).mono ?_
      rintro _ q ⟨rfl, hsq⟩
      rw [HC.out] at hsq
      rw [HE3.out, HZ_e3.out]
      have HW5 := hide hsq
      clear hsq
      first | (refine hKq.out _ _ ⟨HW5.out.cellB, HW5.out.own.range 2 rfl, HW5.out.cellR, HW5.out.ranges.1⟩ (fun hHeld => ?_)) | (go_wp2_with fail; refine hKq.out _ _ ⟨HW5.out.cellB, HW5.out.own.range 2 rfl, HW5.out.cellR, HW5.out.ranges.1⟩ (fun hHeld => ?_))
      clear hKq Kq
      try simp only [Act.put, List.setIfInBounds_toArray, List.set_cons_zero, List.set_cons_succ]
      refine heldTake (i := 6) (v := ?_) rfl (by kernel_rfl) (by kernel_rfl) (by kernel_rfl) (fun _ _ _ h => h) (Or.inl ⟨by rfl, ?_⟩) (by assumption) ?_
      rotate_left
      · intro w hSw; (try dsimp only at hSw); go_simp <;> (with_reducible rfl)
      try simp only [Act.put, List.setIfInBounds_toArray, List.set_cons_zero, List.set_cons_succ]
      refine wpAnyH_done (by kernel_rfl) ?_ _
      go_wp2_with (first
        | (go_at_call 54; refine (lost_any 0 _).mono ?_; rintro _ _ ⟨rfl, rfl⟩))
      go_ret2
      rw [HR.out]
      exact ⟨rfl, HW5.out.cit.fin⟩
    · have HN_e3 := hide hz_e3
      by_cases hl_e3 : lostB e3 = true
      · have HLO_e3 := hide (fun w => hl_e3 ▸ lost_any e3 w)
        have HR := hide (show S.malike (nI xd) (nI xk) (nI yd) (nI yk) = ((false, 0), C) by rw [HM.out, decide_eq_false hz_e3, if_pos hl_e3])
        clear hz_e3 hl_e3
        have NE_e3 := neN HN_e3.out
        obtain ⟨na_e3, nb_e3, nc_e3⟩ := NE_e3
        go_enter Try.func25, Try.ntmps25
        go_upto_region 3 with (first
          | ((with_reducible refine at_slot 3 ?_); refine wpList_box_blk rfl 24 _ rfl (.pointer (some ⟨b, 0, none⟩)) rfl ?_; intro y1 hbq hl1 hs1; have HS_y1 : Hid (Cit w y1 b F S [(w.heap.size, 24, [.pointer (some ⟨b, 0, none⟩)])]) := hide (HS_w.out.var hl1 (Nat.le_refl _) hbq); clear hbq hl1 hs1)
          | ((with_reducible refine at_slot 4 ?_); refine wpList_box_blk rfl 33 _ rfl (.agg #[.int .i64 xd, .int .i64 xk]) rfl ?_; intro y2 hbq hl1 hs1; have HS_y2 : Hid (Cit w y2 b F S [(w.heap.size, 24, [.pointer (some ⟨b, 0, none⟩)]), (y1.heap.size, 33, plL xd xk)]) := hide (HS_y1.out.var hl1 (Nat.le_refl _) hbq); clear hbq hl1 hs1)
          | ((with_reducible refine at_slot 5 ?_); refine wpList_box_blk rfl 33 _ rfl (.agg #[.int .i64 yd, .int .i64 yk]) rfl ?_; intro y3 hbq hl1 hs1; have HS_y3 : Hid (Cit w y3 b F S [(w.heap.size, 24, [.pointer (some ⟨b, 0, none⟩)]), (y1.heap.size, 33, plL xd xk), (y2.heap.size, 33, plL yd yk)]) := hide (HS_y2.out.var hl1 (Nat.le_refl _) hbq); clear hbq hl1 hs1)
          | ((with_reducible refine at_slot 8 ?_); refine wpList_alloc_blk rfl 73 rfl _ (rd_zero _) ?_; intro y4 hbq hl1 hs1; have HS_y4 : Hid (Cit w y4 b F S [(w.heap.size, 24, [.pointer (some ⟨b, 0, none⟩)]), (y1.heap.size, 33, plL xd xk), (y2.heap.size, 33, plL yd yk), (y3.heap.size, 73, [.slice none 0 0])]) := hide (HS_y3.out.var hl1 (Nat.le_refl _) hbq); clear hbq hl1 hs1)
          | ((with_reducible refine at_slot 10 ?_); refine when_own rfl (.tmp 4) rfl HS_y4.out.own 1 rfl rfl Try.underlying33 rfl mplace_info ?_)
          | ((with_reducible refine at_slot 11 ?_); refine when_own rfl (.tmp 5) rfl HS_y4.out.own 2 rfl rfl Try.underlying33 rfl mplace_info ?_)
          | (go_at_call 52; refine (both_alike (L := [s, t]) (k := 2) HS_y4.out HL.out HBN.out rfl).mono ?_; rintro _ z ⟨rfl, A, c, hz⟩; have HZ := hide hz; clear hz))
        obtain ⟨g, rfl⟩ := HZ.out.two
        refine wp_region_held_drew (S := (fun W => W.cell? ⟨y3.heap.size, 0, none⟩ = some (.slice (some ⟨g, 0, none⟩) 2 c) ∧ W.rangeAt g 0 (secL s) ∧ W.rangeAt g 64 (secL t))) (by kernel_rfl) ?_ (fun hHeld => ?_)
        · exact ⟨(HZ.out.later (Below.refl _ _).drew).cellR, (HZ.out.later (Below.refl _ _).drew).ranges⟩
        refine heldTake (i := 0) (v := ?_) rfl (by kernel_rfl) (by kernel_rfl) (by kernel_rfl) (fun _ _ _ h => h) (Or.inl ⟨by rfl, ?_⟩) (by assumption) ?_
        rotate_left
        · intro w hSw; (try dsimp only at hSw); go_simp <;> (with_reducible rfl)
        try simp only [Act.put, List.setIfInBounds_toArray, List.set_cons_zero, List.set_cons_succ]
        refine heldTake (i := 1) (v := ?_) rfl (by kernel_rfl) (by kernel_rfl) (by kernel_rfl) (fun _ _ _ h => h) (Or.inl ⟨by rfl, ?_⟩) (by assumption) ?_
        rotate_left
        · intro w hSw; (try dsimp only at hSw); go_simp <;> (with_reducible rfl)
        try simp only [Act.put, List.setIfInBounds_toArray, List.set_cons_zero, List.set_cons_succ]
        refine heldTake (i := 2) (v := ?_) rfl (by kernel_rfl) (by kernel_rfl) (by kernel_rfl) (fun _ _ _ h => h) (Or.inl ⟨by rfl, ?_⟩) (by assumption) ?_
        rotate_left
        · intro w hSw; (try dsimp only at hSw); go_simp <;> (with_reducible rfl)
        try simp only [Act.put, List.setIfInBounds_toArray, List.set_cons_zero, List.set_cons_succ]
        refine heldTake (i := 3) (v := .slice (some ⟨g, 0, none⟩) 2 c) rfl (by kernel_rfl) (by kernel_rfl) (by kernel_rfl) (fun _ _ _ h => h) (Or.inl ⟨by rfl, fun W hW => ?_⟩) (by assumption) ?_
        · dsimp only at hW
          go_split_ands
          go_simp <;> rfl
        try simp only [Act.put, List.setIfInBounds_toArray, List.set_cons_zero, List.set_cons_succ]
        refine heldTake (i := 4) (v := ?_) rfl (by kernel_rfl) (by kernel_rfl) (by kernel_rfl) (fun _ _ _ h => h) (Or.inl ⟨by rfl, ?_⟩) (by assumption) ?_
        rotate_left
        · intro w hSw; (try dsimp only at hSw); go_simp <;> (with_reducible rfl)
        try simp only [Act.put, List.setIfInBounds_toArray, List.set_cons_zero, List.set_cons_succ]
        refine heldTake (i := 5) (v := ?_) rfl (by kernel_rfl) (by kernel_rfl) (by kernel_rfl) (fun _ _ _ h => h) (Or.inl ⟨by rfl, ?_⟩) (by assumption) ?_
        rotate_left
        · intro w hSw; (try dsimp only at hSw); go_simp <;> (with_reducible rfl)
        try simp only [Act.put, List.setIfInBounds_toArray, List.set_cons_zero, List.set_cons_succ]
        refine heldTake (i := 6) (v := ?_) rfl (by kernel_rfl) (by kernel_rfl) (by kernel_rfl) (fun _ _ _ h => h) (Or.inl ⟨by rfl, ?_⟩) (by assumption) ?_
        rotate_left
        · intro w hSw; (try dsimp only at hSw); go_simp <;> (with_reducible rfl)
        try simp only [Act.put, List.setIfInBounds_toArray, List.set_cons_zero, List.set_cons_succ]
        refine heldTake (i := 7) (v := ?_) rfl (by kernel_rfl) (by kernel_rfl) (by kernel_rfl) (fun _ _ _ h => h) (Or.inl ⟨by rfl, ?_⟩) (by assumption) ?_
        rotate_left
        · intro w hSw; (try dsimp only at hSw); go_simp <;> (with_reducible rfl)
        try simp only [Act.put, List.setIfInBounds_toArray, List.set_cons_zero, List.set_cons_succ]
        refine heldTake (i := 8) (v := .slice (some ⟨g, 0, none⟩) 2 c) rfl (by kernel_rfl) (by kernel_rfl) (by kernel_rfl) (fun _ _ _ h => h) (Or.inl ⟨by rfl, fun W hW => ?_⟩) (by assumption) ?_
        · dsimp only at hW
          go_split_ands
          go_simp <;> rfl
        try simp only [Act.put, List.setIfInBounds_toArray, List.set_cons_zero, List.set_cons_succ]
        refine heldTake (i := 9) (v := ?_) rfl (by kernel_rfl) (by kernel_rfl) (by kernel_rfl) (fun _ _ _ h => h) (Or.inl ⟨by rfl, ?_⟩) (by assumption) ?_
        rotate_left
        · intro w hSw; (try dsimp only at hSw); go_simp <;> (with_reducible rfl)
        try simp only [Act.put, List.setIfInBounds_toArray, List.set_cons_zero, List.set_cons_succ]
        refine heldTake (i := 10) (v := .agg (secL s).toArray) rfl (by kernel_rfl) (by kernel_rfl) (by kernel_rfl) (fun _ _ _ h => h) (yieldsIf_load_mid (by rfl) _ _ rfl _ _ rfl (secL s) _ (fun W hW => hW.2.1) Try.underlying43 rfl (msec_size _)) (by assumption) ?_
        try simp only [Act.put, List.setIfInBounds_toArray, List.set_cons_zero, List.set_cons_succ]
        refine heldTake (i := 11) (v := .slice (some ⟨g, 0, none⟩) 2 c) rfl (by kernel_rfl) (by kernel_rfl) (by kernel_rfl) (fun _ _ _ h => h) (Or.inl ⟨by rfl, fun W hW => ?_⟩) (by assumption) ?_
        · dsimp only at hW
          go_split_ands
          go_simp <;> rfl
        try simp only [Act.put, List.setIfInBounds_toArray, List.set_cons_zero, List.set_cons_succ]
        refine heldTake (i := 12) (v := ?_) rfl (by kernel_rfl) (by kernel_rfl) (by kernel_rfl) (fun _ _ _ h => h) (Or.inl ⟨by rfl, ?_⟩) (by assumption) ?_
        rotate_left
        · intro w hSw; (try dsimp only at hSw); go_simp <;> (with_reducible rfl)
        try simp only [Act.put, List.setIfInBounds_toArray, List.set_cons_zero, List.set_cons_succ]
        refine heldTake (i := 13) (v := .agg (secL t).toArray) rfl (by kernel_rfl) (by kernel_rfl) (by kernel_rfl) (fun _ _ _ h => h) (yieldsIf_load_mid (by rfl) _ _ rfl _ _ rfl (secL t) _ (fun W hW => hW.2.2) Try.underlying43 rfl (msec_size _)) (by assumption) ?_
        try simp only [Act.put, List.setIfInBounds_toArray, List.set_cons_zero, List.set_cons_succ]
        refine heldTake (i := 14) (v := .bool false) rfl (by kernel_rfl) (by kernel_rfl) (by kernel_rfl) (fun _ _ _ h => h) (Or.inl ⟨by rfl, fun W hW => run_eqS W _ (.tmp 24) (.tmp 27) _ rfl s t rfl rfl false (by simp [HST.out])⟩) (by assumption) ?_
        try simp only [Act.put, List.setIfInBounds_toArray, List.set_cons_zero, List.set_cons_succ]
        refine heldTake (i := 15) (v := ?_) rfl (by kernel_rfl) (by kernel_rfl) (by kernel_rfl) (fun _ _ _ h => h) (Or.inl ⟨by rfl, ?_⟩) (by assumption) ?_
        rotate_left
        · intro w hSw; (try dsimp only at hSw); go_simp <;> (with_reducible rfl)
        try simp only [Act.put, List.setIfInBounds_toArray, List.set_cons_zero, List.set_cons_succ]
        refine wpAnyH_done (by kernel_rfl) ?_ _
        have HD := hide (HZ.out.later (Below.refl _ _).drew)
        go_upto_region 5 with fail
        refine wp_region_held_drew (S := (fun W => W.cell? ⟨w.heap.size, 0, none⟩ = some (.pointer (some ⟨b, 0, none⟩)) ∧ W.rangeAt (y2.heap.size) 0 (plL yd yk) ∧ W.cell? ⟨y3.heap.size, 0, none⟩ = some (.slice (some ⟨g, 0, none⟩) 2 c) ∧ W.rangeAt g 0 (secL s))) (by kernel_rfl) ?_ (fun hHeld => ?_)
        · exact ⟨(HD.out.later (Below.refl _ _).drew).cellB, (HD.out.later (Below.refl _ _).drew).own.range 2 rfl, (HD.out.later (Below.refl _ _).drew).cellR, (HD.out.later (Below.refl _ _).drew).ranges.1⟩
        have HD2 := hide (HD.out.later (Below.refl _ _).drew)
        refine heldTake (i := 0) (v := .pointer (some ⟨b, 0, none⟩)) rfl (by kernel_rfl) (by kernel_rfl) (by kernel_rfl) (fun _ _ _ h => h) (Or.inl ⟨by rfl, fun W hW => ?_⟩) (by assumption) ?_
        · dsimp only at hW
          go_split_ands
          go_simp <;> rfl
        try simp only [Act.put, List.setIfInBounds_toArray, List.set_cons_zero, List.set_cons_succ]
        refine heldTake (i := 1) (v := .agg (plL yd yk).toArray) rfl (by kernel_rfl) (by kernel_rfl) (by kernel_rfl) (fun _ _ _ h => h) (yieldsIf_load_mid (by rfl) _ _ rfl _ _ rfl (plL yd yk) _ (fun W hW => hW.2.1) Try.underlying33 rfl mplace_info) (by assumption) ?_
        try simp only [Act.put, List.setIfInBounds_toArray, List.set_cons_zero, List.set_cons_succ]
        refine heldTake (i := 2) (v := .slice (some ⟨g, 0, none⟩) 2 c) rfl (by kernel_rfl) (by kernel_rfl) (by kernel_rfl) (fun _ _ _ h => h) (Or.inl ⟨by rfl, fun W hW => ?_⟩) (by assumption) ?_
        · dsimp only at hW
          go_split_ands
          go_simp <;> rfl
        try simp only [Act.put, List.setIfInBounds_toArray, List.set_cons_zero, List.set_cons_succ]
        refine heldTake (i := 3) (v := ?_) rfl (by kernel_rfl) (by kernel_rfl) (by kernel_rfl) (fun _ _ _ h => h) (Or.inl ⟨by rfl, ?_⟩) (by assumption) ?_
        rotate_left
        · intro w hSw; (try dsimp only at hSw); go_simp <;> (with_reducible rfl)
        try simp only [Act.put, List.setIfInBounds_toArray, List.set_cons_zero, List.set_cons_succ]
        refine heldTake (i := 4) (v := .agg (secL s).toArray) rfl (by kernel_rfl) (by kernel_rfl) (by kernel_rfl) (fun _ _ _ h => h) (yieldsIf_load_mid (by rfl) _ _ rfl _ _ rfl (secL s) _ (fun W hW => hW.2.2.2) Try.underlying43 rfl (msec_size _)) (by assumption) ?_
        try simp only [Act.put, List.setIfInBounds_toArray, List.set_cons_zero, List.set_cons_succ]
        refine wpAnyH_ready (rs := [5]) (by kernel_rfl) (by simp) ?_
        refine heldCons (i := 5) rfl (fun Kq hKq => ?_) AllReadyH.nil
        go_simp
        go_at_call 29
        refine (HD2.out.write (by have := HWR.out; omega) (di := yd) (ki := yk) rfl rfl s).mono ?_
        rintro _ q ⟨rfl, hsq⟩
        rw [HC.out] at hsq
        rw [HE3.out]
        have HW5 := hide hsq
        clear hsq
        first | (refine hKq.out _ _ ⟨HW5.out.cellB, HW5.out.own.range 2 rfl, HW5.out.cellR, HW5.out.ranges.1⟩ (fun hHeld => ?_)) | (go_wp2_with fail; refine hKq.out _ _ ⟨HW5.out.cellB, HW5.out.own.range 2 rfl, HW5.out.cellR, HW5.out.ranges.1⟩ (fun hHeld => ?_))
        clear hKq Kq
        try simp only [Act.put, List.setIfInBounds_toArray, List.set_cons_zero, List.set_cons_succ]
        refine heldTake (i := 6) (v := ?_) rfl (by kernel_rfl) (by kernel_rfl) (by kernel_rfl) (fun _ _ _ h => h) (Or.inl ⟨by rfl, ?_⟩) (by assumption) ?_
        rotate_left
        · intro w hSw; (try dsimp only at hSw); go_simp <;> (with_reducible rfl)
        try simp only [Act.put, List.setIfInBounds_toArray, List.set_cons_zero, List.set_cons_succ]
        refine wpAnyH_done (by kernel_rfl) ?_ _
        go_wp2_with (first
          | (go_at_call 54; (with_reducible refine (HLO_e3.out _).mono ?_); rintro _ _ ⟨rfl, rfl⟩))
        go_ret2
        rw [HR.out]
        exact ⟨rfl, HW5.out.cit.fin⟩
      · have hf_e3 : lostB e3 = false := by simpa using hl_e3
        have HLO_e3 := hide (fun w => hf_e3 ▸ lost_any e3 w)
        have HR := hide (show S.malike (nI xd) (nI xk) (nI yd) (nI yk) = ((false, e3), C) by rw [HM.out, decide_eq_false hz_e3, if_neg hl_e3])
        clear hz_e3 hl_e3 hf_e3
        have NE_e3 := neN HN_e3.out
        obtain ⟨na_e3, nb_e3, nc_e3⟩ := NE_e3
        go_enter Try.func25, Try.ntmps25
        go_upto_region 3 with (first
          | ((with_reducible refine at_slot 3 ?_); refine wpList_box_blk rfl 24 _ rfl (.pointer (some ⟨b, 0, none⟩)) rfl ?_; intro y1 hbq hl1 hs1; have HS_y1 : Hid (Cit w y1 b F S [(w.heap.size, 24, [.pointer (some ⟨b, 0, none⟩)])]) := hide (HS_w.out.var hl1 (Nat.le_refl _) hbq); clear hbq hl1 hs1)
          | ((with_reducible refine at_slot 4 ?_); refine wpList_box_blk rfl 33 _ rfl (.agg #[.int .i64 xd, .int .i64 xk]) rfl ?_; intro y2 hbq hl1 hs1; have HS_y2 : Hid (Cit w y2 b F S [(w.heap.size, 24, [.pointer (some ⟨b, 0, none⟩)]), (y1.heap.size, 33, plL xd xk)]) := hide (HS_y1.out.var hl1 (Nat.le_refl _) hbq); clear hbq hl1 hs1)
          | ((with_reducible refine at_slot 5 ?_); refine wpList_box_blk rfl 33 _ rfl (.agg #[.int .i64 yd, .int .i64 yk]) rfl ?_; intro y3 hbq hl1 hs1; have HS_y3 : Hid (Cit w y3 b F S [(w.heap.size, 24, [.pointer (some ⟨b, 0, none⟩)]), (y1.heap.size, 33, plL xd xk), (y2.heap.size, 33, plL yd yk)]) := hide (HS_y2.out.var hl1 (Nat.le_refl _) hbq); clear hbq hl1 hs1)
          | ((with_reducible refine at_slot 8 ?_); refine wpList_alloc_blk rfl 73 rfl _ (rd_zero _) ?_; intro y4 hbq hl1 hs1; have HS_y4 : Hid (Cit w y4 b F S [(w.heap.size, 24, [.pointer (some ⟨b, 0, none⟩)]), (y1.heap.size, 33, plL xd xk), (y2.heap.size, 33, plL yd yk), (y3.heap.size, 73, [.slice none 0 0])]) := hide (HS_y3.out.var hl1 (Nat.le_refl _) hbq); clear hbq hl1 hs1)
          | ((with_reducible refine at_slot 10 ?_); refine when_own rfl (.tmp 4) rfl HS_y4.out.own 1 rfl rfl Try.underlying33 rfl mplace_info ?_)
          | ((with_reducible refine at_slot 11 ?_); refine when_own rfl (.tmp 5) rfl HS_y4.out.own 2 rfl rfl Try.underlying33 rfl mplace_info ?_)
          | (go_at_call 52; refine (both_alike (L := [s, t]) (k := 2) HS_y4.out HL.out HBN.out rfl).mono ?_; rintro _ z ⟨rfl, A, c, hz⟩; have HZ := hide hz; clear hz))
        obtain ⟨g, rfl⟩ := HZ.out.two
        refine wp_region_held_drew (S := (fun W => W.cell? ⟨y3.heap.size, 0, none⟩ = some (.slice (some ⟨g, 0, none⟩) 2 c) ∧ W.rangeAt g 0 (secL s) ∧ W.rangeAt g 64 (secL t))) (by kernel_rfl) ?_ (fun hHeld => ?_)
        · exact ⟨(HZ.out.later (Below.refl _ _).drew).cellR, (HZ.out.later (Below.refl _ _).drew).ranges⟩
        refine heldTake (i := 0) (v := ?_) rfl (by kernel_rfl) (by kernel_rfl) (by kernel_rfl) (fun _ _ _ h => h) (Or.inl ⟨by rfl, ?_⟩) (by assumption) ?_
        rotate_left
        · intro w hSw; (try dsimp only at hSw); go_simp <;> (with_reducible rfl)
        try simp only [Act.put, List.setIfInBounds_toArray, List.set_cons_zero, List.set_cons_succ]
        refine heldTake (i := 1) (v := ?_) rfl (by kernel_rfl) (by kernel_rfl) (by kernel_rfl) (fun _ _ _ h => h) (Or.inl ⟨by rfl, ?_⟩) (by assumption) ?_
        rotate_left
        · intro w hSw; (try dsimp only at hSw); go_simp <;> (with_reducible rfl)
        try simp only [Act.put, List.setIfInBounds_toArray, List.set_cons_zero, List.set_cons_succ]
        refine heldTake (i := 2) (v := ?_) rfl (by kernel_rfl) (by kernel_rfl) (by kernel_rfl) (fun _ _ _ h => h) (Or.inl ⟨by rfl, ?_⟩) (by assumption) ?_
        rotate_left
        · intro w hSw; (try dsimp only at hSw); go_simp <;> (with_reducible rfl)
        try simp only [Act.put, List.setIfInBounds_toArray, List.set_cons_zero, List.set_cons_succ]
        refine heldTake (i := 3) (v := .slice (some ⟨g, 0, none⟩) 2 c) rfl (by kernel_rfl) (by kernel_rfl) (by kernel_rfl) (fun _ _ _ h => h) (Or.inl ⟨by rfl, fun W hW => ?_⟩) (by assumption) ?_
        · dsimp only at hW
          go_split_ands
          go_simp <;> rfl
        try simp only [Act.put, List.setIfInBounds_toArray, List.set_cons_zero, List.set_cons_succ]
        refine heldTake (i := 4) (v := ?_) rfl (by kernel_rfl) (by kernel_rfl) (by kernel_rfl) (fun _ _ _ h => h) (Or.inl ⟨by rfl, ?_⟩) (by assumption) ?_
        rotate_left
        · intro w hSw; (try dsimp only at hSw); go_simp <;> (with_reducible rfl)
        try simp only [Act.put, List.setIfInBounds_toArray, List.set_cons_zero, List.set_cons_succ]
        refine heldTake (i := 5) (v := ?_) rfl (by kernel_rfl) (by kernel_rfl) (by kernel_rfl) (fun _ _ _ h => h) (Or.inl ⟨by rfl, ?_⟩) (by assumption) ?_
        rotate_left
        · intro w hSw; (try dsimp only at hSw); go_simp <;> (with_reducible rfl)
        try simp only [Act.put, List.setIfInBounds_toArray, List.set_cons_zero, List.set_cons_succ]
        refine heldTake (i := 6) (v := ?_) rfl (by kernel_rfl) (by kernel_rfl) (by kernel_rfl) (fun _ _ _ h => h) (Or.inl ⟨by rfl, ?_⟩) (by assumption) ?_
        rotate_left
        · intro w hSw; (try dsimp only at hSw); go_simp <;> (with_reducible rfl)
        try simp only [Act.put, List.setIfInBounds_toArray, List.set_cons_zero, List.set_cons_succ]
        refine heldTake (i := 7) (v := ?_) rfl (by kernel_rfl) (by kernel_rfl) (by kernel_rfl) (fun _ _ _ h => h) (Or.inl ⟨by rfl, ?_⟩) (by assumption) ?_
        rotate_left
        · intro w hSw; (try dsimp only at hSw); go_simp <;> (with_reducible rfl)
        try simp only [Act.put, List.setIfInBounds_toArray, List.set_cons_zero, List.set_cons_succ]
        refine heldTake (i := 8) (v := .slice (some ⟨g, 0, none⟩) 2 c) rfl (by kernel_rfl) (by kernel_rfl) (by kernel_rfl) (fun _ _ _ h => h) (Or.inl ⟨by rfl, fun W hW => ?_⟩) (by assumption) ?_
        · dsimp only at hW
          go_split_ands
          go_simp <;> rfl
        try simp only [Act.put, List.setIfInBounds_toArray, List.set_cons_zero, List.set_cons_succ]
        refine heldTake (i := 9) (v := ?_) rfl (by kernel_rfl) (by kernel_rfl) (by kernel_rfl) (fun _ _ _ h => h) (Or.inl ⟨by rfl, ?_⟩) (by assumption) ?_
        rotate_left
        · intro w hSw; (try dsimp only at hSw); go_simp <;> (with_reducible rfl)
        try simp only [Act.put, List.setIfInBounds_toArray, List.set_cons_zero, List.set_cons_succ]
        refine heldTake (i := 10) (v := .agg (secL s).toArray) rfl (by kernel_rfl) (by kernel_rfl) (by kernel_rfl) (fun _ _ _ h => h) (yieldsIf_load_mid (by rfl) _ _ rfl _ _ rfl (secL s) _ (fun W hW => hW.2.1) Try.underlying43 rfl (msec_size _)) (by assumption) ?_
        try simp only [Act.put, List.setIfInBounds_toArray, List.set_cons_zero, List.set_cons_succ]
        refine heldTake (i := 11) (v := .slice (some ⟨g, 0, none⟩) 2 c) rfl (by kernel_rfl) (by kernel_rfl) (by kernel_rfl) (fun _ _ _ h => h) (Or.inl ⟨by rfl, fun W hW => ?_⟩) (by assumption) ?_
        · dsimp only at hW
          go_split_ands
          go_simp <;> rfl
        try simp only [Act.put, List.setIfInBounds_toArray, List.set_cons_zero, List.set_cons_succ]
        refine heldTake (i := 12) (v := ?_) rfl (by kernel_rfl) (by kernel_rfl) (by kernel_rfl) (fun _ _ _ h => h) (Or.inl ⟨by rfl, ?_⟩) (by assumption) ?_
        rotate_left
        · intro w hSw; (try dsimp only at hSw); go_simp <;> (with_reducible rfl)
        try simp only [Act.put, List.setIfInBounds_toArray, List.set_cons_zero, List.set_cons_succ]
        refine heldTake (i := 13) (v := .agg (secL t).toArray) rfl (by kernel_rfl) (by kernel_rfl) (by kernel_rfl) (fun _ _ _ h => h) (yieldsIf_load_mid (by rfl) _ _ rfl _ _ rfl (secL t) _ (fun W hW => hW.2.2) Try.underlying43 rfl (msec_size _)) (by assumption) ?_
        try simp only [Act.put, List.setIfInBounds_toArray, List.set_cons_zero, List.set_cons_succ]
        refine heldTake (i := 14) (v := .bool false) rfl (by kernel_rfl) (by kernel_rfl) (by kernel_rfl) (fun _ _ _ h => h) (Or.inl ⟨by rfl, fun W hW => run_eqS W _ (.tmp 24) (.tmp 27) _ rfl s t rfl rfl false (by simp [HST.out])⟩) (by assumption) ?_
        try simp only [Act.put, List.setIfInBounds_toArray, List.set_cons_zero, List.set_cons_succ]
        refine heldTake (i := 15) (v := ?_) rfl (by kernel_rfl) (by kernel_rfl) (by kernel_rfl) (fun _ _ _ h => h) (Or.inl ⟨by rfl, ?_⟩) (by assumption) ?_
        rotate_left
        · intro w hSw; (try dsimp only at hSw); go_simp <;> (with_reducible rfl)
        try simp only [Act.put, List.setIfInBounds_toArray, List.set_cons_zero, List.set_cons_succ]
        refine wpAnyH_done (by kernel_rfl) ?_ _
        have HD := hide (HZ.out.later (Below.refl _ _).drew)
        go_upto_region 5 with fail
        refine wp_region_held_drew (S := (fun W => W.cell? ⟨w.heap.size, 0, none⟩ = some (.pointer (some ⟨b, 0, none⟩)) ∧ W.rangeAt (y2.heap.size) 0 (plL yd yk) ∧ W.cell? ⟨y3.heap.size, 0, none⟩ = some (.slice (some ⟨g, 0, none⟩) 2 c) ∧ W.rangeAt g 0 (secL s))) (by kernel_rfl) ?_ (fun hHeld => ?_)
        · exact ⟨(HD.out.later (Below.refl _ _).drew).cellB, (HD.out.later (Below.refl _ _).drew).own.range 2 rfl, (HD.out.later (Below.refl _ _).drew).cellR, (HD.out.later (Below.refl _ _).drew).ranges.1⟩
        have HD2 := hide (HD.out.later (Below.refl _ _).drew)
        refine heldTake (i := 0) (v := .pointer (some ⟨b, 0, none⟩)) rfl (by kernel_rfl) (by kernel_rfl) (by kernel_rfl) (fun _ _ _ h => h) (Or.inl ⟨by rfl, fun W hW => ?_⟩) (by assumption) ?_
        · dsimp only at hW
          go_split_ands
          go_simp <;> rfl
        try simp only [Act.put, List.setIfInBounds_toArray, List.set_cons_zero, List.set_cons_succ]
        refine heldTake (i := 1) (v := .agg (plL yd yk).toArray) rfl (by kernel_rfl) (by kernel_rfl) (by kernel_rfl) (fun _ _ _ h => h) (yieldsIf_load_mid (by rfl) _ _ rfl _ _ rfl (plL yd yk) _ (fun W hW => hW.2.1) Try.underlying33 rfl mplace_info) (by assumption) ?_
        try simp only [Act.put, List.setIfInBounds_toArray, List.set_cons_zero, List.set_cons_succ]
        refine heldTake (i := 2) (v := .slice (some ⟨g, 0, none⟩) 2 c) rfl (by kernel_rfl) (by kernel_rfl) (by kernel_rfl) (fun _ _ _ h => h) (Or.inl ⟨by rfl, fun W hW => ?_⟩) (by assumption) ?_
        · dsimp only at hW
          go_split_ands
          go_simp <;> rfl
        try simp only [Act.put, List.setIfInBounds_toArray, List.set_cons_zero, List.set_cons_succ]
        refine heldTake (i := 3) (v := ?_) rfl (by kernel_rfl) (by kernel_rfl) (by kernel_rfl) (fun _ _ _ h => h) (Or.inl ⟨by rfl, ?_⟩) (by assumption) ?_
        rotate_left
        · intro w hSw; (try dsimp only at hSw); go_simp <;> (with_reducible rfl)
        try simp only [Act.put, List.setIfInBounds_toArray, List.set_cons_zero, List.set_cons_succ]
        refine heldTake (i := 4) (v := .agg (secL s).toArray) rfl (by kernel_rfl) (by kernel_rfl) (by kernel_rfl) (fun _ _ _ h => h) (yieldsIf_load_mid (by rfl) _ _ rfl _ _ rfl (secL s) _ (fun W hW => hW.2.2.2) Try.underlying43 rfl (msec_size _)) (by assumption) ?_
        try simp only [Act.put, List.setIfInBounds_toArray, List.set_cons_zero, List.set_cons_succ]
        refine wpAnyH_ready (rs := [5]) (by kernel_rfl) (by simp) ?_
        refine heldCons (i := 5) rfl (fun Kq hKq => ?_) AllReadyH.nil
        go_simp
        go_at_call 29
        refine (HD2.out.write (by have := HWR.out; omega) (di := yd) (ki := yk) rfl rfl s).mono ?_
        rintro _ q ⟨rfl, hsq⟩
        rw [HC.out] at hsq
        rw [HE3.out]
        have HW5 := hide hsq
        clear hsq
        first | (refine hKq.out _ _ ⟨HW5.out.cellB, HW5.out.own.range 2 rfl, HW5.out.cellR, HW5.out.ranges.1⟩ (fun hHeld => ?_)) | (go_wp2_with fail; refine hKq.out _ _ ⟨HW5.out.cellB, HW5.out.own.range 2 rfl, HW5.out.cellR, HW5.out.ranges.1⟩ (fun hHeld => ?_))
        clear hKq Kq
        try simp only [Act.put, List.setIfInBounds_toArray, List.set_cons_zero, List.set_cons_succ]
        refine heldTake (i := 6) (v := ?_) rfl (by kernel_rfl) (by kernel_rfl) (by kernel_rfl) (fun _ _ _ h => h) (Or.inl ⟨by rfl, ?_⟩) (by assumption) ?_
        rotate_left
        · intro w hSw; (try dsimp only at hSw); go_simp <;> (with_reducible rfl)
        try simp only [Act.put, List.setIfInBounds_toArray, List.set_cons_zero, List.set_cons_succ]
        refine wpAnyH_done (by kernel_rfl) ?_ _
        go_wp2_with (first
          | (go_at_call 54; (with_reducible refine (HLO_e3.out _).mono ?_); rintro _ _ ⟨rfl, rfl⟩))
        go_ret2
        rw [HR.out]
        exact ⟨rfl, HW5.out.cit.fin⟩
end
theorem mirK : MirK where
  home_any := home_any
  write_any := fun _ _ _ _ h hw xd xk yd yk s => mwrite_any h hw xd xk yd yk s
  read_any := fun _ _ _ _ h xd xk yd yk => mread_any h xd xk yd yk
  alike_any := fun _ _ _ _ h hw xd xk yd yk => malike_any h hw xd xk yd yk
  copy_any := fun _ _ _ _ h hw xd xk yd yk => mcopy_any h hw xd xk yd yk
#print axioms mirK
end Go.Proofs.Ytgfbndmdndpelaa
