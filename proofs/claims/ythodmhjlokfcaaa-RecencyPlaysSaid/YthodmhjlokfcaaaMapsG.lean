/- Maps in memory keyed by whatever may be coded: by ints, by structs of two ints, ..: which value stands at which key, in whatever order the entries lie. (Not beside XMaps, XMapsN.) -/
import Derived.Test.YthodmhjlokfcaaaMem
import Derived.Test.YthodmhjlokfcaaaChecked
import Derived.Maps.RangeWalk
import Derived.DeepKeys4
namespace Go.Proofs.Ythodmhjlokfcaaa
open Go.RowKit Go.Maps Go.MapKept Go.ChangeMaps

/-- An element reads as itself. -/
def RH (v : Value) : Option (DataW Value × List MemPlace) := some (.held v, [])
/-- How keys of one type are written: which may be, the value in memory, what it reads as. -/
structure Coded (ι : Type) where
  kt : TypeId
  ok : ι → Prop
  enc : ι → Value
  lit : ι → Lit
  keyed : Keyed Try.prog kt
  key : ∀ i, ok i → keyOf Try.prog kt (enc i) = some (lit i)
  inj : ∀ i j, enc i = enc j → i = j
section
variable {ι : Type} [DecidableEq ι] (C : Coded ι)
omit [DecidableEq ι] in
theorem Coded.lit_inj {i j : ι} (hi : C.ok i) (hj : C.ok j) (h : C.lit i = C.lit j) : i = j :=
  C.inj i j (C.keyed.inj (C.key i hi) (by rw [h]; exact C.key j hj))
omit [DecidableEq ι] in
theorem Coded.lit_key {i : ι} (hi : C.ok i) : WideAt.IsKeyLit (C.lit i) := C.keyed.key (C.key i hi)
omit [DecidableEq ι] in
theorem Coded.lit_ne {i j : ι} (hi : C.ok i) (hj : C.ok j) (h : i ≠ j) : C.lit i ≠ C.lit j := fun e => h (C.lit_inj hi hj e)
def upd {α : Type} (f : ι → α) (k : ι) (v : α) : ι → α := fun j => if j = k then v else f j
theorem upd_self {α : Type} (f : ι → α) (k : ι) (v : α) : upd f k v k = v := by simp [upd]
theorem upd_ne {α : Type} (f : ι → α) {j k : ι} (v : α) (h : j ≠ k) : upd f k v j = f j := by simp [upd, h]

/-- The map as read holds just what f says. -/
structure Sees (D : DataW Value) (f : ι → Option Value) : Prop where
  form : ∃ es, D = .map es ∧ es.Pairwise (fun p q => p.1 ≠ q.1) ∧ ∀ p ∈ es, ∃ k, C.ok k ∧ p.1 = C.lit k
  fits : ∀ k v, f k = some v → C.ok k
  some_ : ∀ k v, f k = some v → ∀ z, D.atKey (C.lit k) z = .held v
  none_ : ∀ k, C.ok k → f k = none → Maps.has D (C.lit k) = false
section
variable {C} {D : DataW Value} {f : ι → Option Value}
omit [DecidableEq ι] in
theorem Sees.tidy (h : Sees C D f) : Tidy D := by
  obtain ⟨es, e, hp, _⟩ := h.form
  exact ⟨es, e, hp⟩
omit [DecidableEq ι] in
theorem Sees.has_ (h : Sees C D f) (k : ι) (hk : C.ok k) : Maps.has D (C.lit k) = (f k).isSome := by
  cases hf : f k with
  | none => exact h.none_ k hk hf
  | some v => exact has_true_of_atKey (h.some_ k v hf)
omit [DecidableEq ι] in
theorem sees_empty : Sees C (.map []) (fun _ => none) := ⟨⟨[], rfl, List.Pairwise.nil, by simp⟩, (fun _ _ h => by injection h), (fun _ _ h => by injection h), fun _ _ _ => rfl⟩
theorem Sees.put (h : Sees C D f) {k : ι} (hk : C.ok k) (v : Value) : Sees C (D.put (C.lit k) (.held v)) (upd f k (some v)) := by
  refine ⟨?_, fun j u hj => ?_, fun j u hj z => ?_, fun j hjo hj => ?_⟩
  · have ht := h.tidy.put (C.lit_key hk) (.held v)
    obtain ⟨es, rfl, hp, hks⟩ := h.form
    obtain ⟨es', e', hp'⟩ := ht
    refine ⟨es', e', hp', fun p hpm => ?_⟩
    have e2 : es' = DataW.insert (C.lit k, .held v) (es.filter fun p => !p.1.sameKey (C.lit k)) := by
      have : DataW.map es' = DataW.map (DataW.insert (C.lit k, .held v) (es.filter fun p => !p.1.sameKey (C.lit k))) := e'.symm
      injection this
    rw [e2] at hpm
    rcases ChangeMaps.mem_insert_iff.1 hpm with rfl | hpm
    · exact ⟨k, hk, rfl⟩
    · exact hks p (List.mem_filter.1 hpm).1
  · by_cases e : j = k
    · subst e
      exact hk
    · rw [upd_ne _ _ e] at hj
      exact h.fits j u hj
  · by_cases e : j = k
    · subst e
      rw [upd_self] at hj
      rw [atKey_put_same h.tidy.isMap (C.lit_key hk)]
      injection hj with hj
      rw [hj]
    · rw [upd_ne _ _ e] at hj
      rw [atKey_put_other (C.lit_ne (h.fits j u hj) hk e)]
      exact h.some_ j u hj z
  · by_cases e : j = k
    · subst e
      rw [upd_self] at hj
      cases hj
    · rw [upd_ne _ _ e] at hj
      rw [has_put_other (C.lit_ne hjo hk e)]
      exact h.none_ j hjo hj
theorem Sees.del (h : Sees C D f) {k : ι} (hk : C.ok k) : Sees C (D.del (C.lit k)) (upd f k none) := by
  refine ⟨?_, fun j u hj => ?_, fun j u hj z => ?_, fun j hjo hj => ?_⟩
  · obtain ⟨es, rfl, hp, hks⟩ := h.form
    exact ⟨es.filter fun p => !p.1.sameKey (C.lit k), rfl, hp.filter _, fun p hpm => hks p (List.mem_filter.1 hpm).1⟩
  · by_cases e : j = k
    · subst e
      exact hk
    · rw [upd_ne _ _ e] at hj
      exact h.fits j u hj
  · by_cases e : j = k
    · subst e
      rw [upd_self] at hj
      cases hj
    · rw [upd_ne _ _ e] at hj
      rw [atKey_del_other (C.lit_ne (h.fits j u hj) hk e)]
      exact h.some_ j u hj z
  · by_cases e : j = k
    · subst e
      exact has_del_same
    · rw [upd_ne _ _ e] at hj
      rw [has_del_other (C.lit_ne hjo hk e)]
      exact h.none_ j hjo hj
omit [DecidableEq ι] in
/-- The keys as read: those of any list of the keys that f has, in some order. -/
theorem Sees.keys_perm (h : Sees C D f) {l : List ι} (hl : l.Nodup) (hm : ∀ k, k ∈ l ↔ (f k).isSome = true) : ∃ es, D = .map es ∧ (es.map (·.1)).Perm (l.map C.lit) := by
  have hh := h.has_
  have hfit : ∀ k ∈ l, C.ok k := fun k hk => by
    obtain ⟨v, hv⟩ := Option.isSome_iff_exists.1 ((hm k).1 hk)
    exact h.fits k v hv
  obtain ⟨es, rfl, hp, hk⟩ := h.form
  refine ⟨es, rfl, ?_⟩
  have h1 : (es.map (·.1)).Nodup := by
    rw [List.Nodup, List.pairwise_map]
    exact hp
  have h2 : (l.map C.lit).Nodup := by
    rw [List.Nodup, List.pairwise_map]
    exact hl.imp_of_mem fun {a b} ha hb hab => C.lit_ne (hfit a ha) (hfit b hb) hab
  refine (List.perm_ext_iff_of_nodup h1 h2).2 fun kl => ?_
  constructor
  · intro hkl
    obtain ⟨p, hpm, rfl⟩ := List.mem_map.1 hkl
    obtain ⟨k, hko, e⟩ := hk p hpm
    refine List.mem_map.2 ⟨k, (hm k).2 ?_, e.symm⟩
    rw [← hh k hko]
    exact List.any_eq_true.2 ⟨p, hpm, by rw [e]; exact WideAt.sameKey_self (C.lit_key hko)⟩
  · intro hkl
    obtain ⟨k, hkm, rfl⟩ := List.mem_map.1 hkl
    have := (hm k).1 hkm
    rw [← hh k (hfit k hkm)] at this
    obtain ⟨p, hpm, hpk⟩ := List.any_eq_true.1 this
    exact List.mem_map.2 ⟨p, hpm, WideAt.sameKey_eq hpk⟩
omit [DecidableEq ι] in
/-- How many entries: as many as keys on any list of those that f has. -/
theorem Sees.size_of (h : Sees C D f) {l : List ι} (hl : l.Nodup) (hm : ∀ k, k ∈ l ↔ (f k).isSome = true) : Maps.size D = l.length := by
  obtain ⟨es, rfl, h3⟩ := h.keys_perm hl hm
  have := h3.length_eq
  simpa [Maps.size] using this
end

/-- Block b is a map that holds just what f says. -/
def MapIs (w : World) (b : Nat) (f : ι → Option Value) : Prop := ∃ D, w.ownsMap Try.prog C.kt RH b (Maps.size D) D ∧ Sees C D f
theorem own_tight {kt : TypeId} {w : World} {b n : Nat} {D : DataW Value} (h : w.ownsMap Try.prog kt RH b n D) : w.ownsMap Try.prog kt RH b (Maps.size D) D := by
  obtain ⟨es, clock, hb, F, _, hD⟩ := h
  refine ⟨es, clock, hb, F, ?_, hD⟩
  rw [hD]
  simp [Maps.size, length_sorted]
theorem RH_inj {v u : Value} {y : DataW Value × List MemPlace} (h : RH v = some y) (hy : y.1 = .held u) : v = u := by
  have e : y = (.held v, []) := (Option.some.inj h).symm
  rw [e] at hy
  exact DataW.held.inj hy
section
variable {C} {w w' : World} {b : Nat} {f : ι → Option Value}
omit [DecidableEq ι]
theorem MapIs.lt (h : MapIs C w b f) : b < w.heap.size := by
  obtain ⟨D, ho, _⟩ := h
  exact ho.lt
theorem MapIs.of_block (h : MapIs C w b f) (hb : w'.heap[b]? = w.heap[b]?) : MapIs C w' b f := by
  obtain ⟨D, ⟨es, clock, h1, h2⟩, hs⟩ := h
  exact ⟨D, ⟨es, clock, hb.trans h1, h2⟩, hs⟩
theorem MapIs.drew (h : MapIs C w b f) : MapIs C w.drew b f := h
theorem MapIs.drewN (h : MapIs C w b f) (n : Nat) : MapIs C (w.drewN n) b f := h
theorem MapIs.alloc (h : MapIs C w b f) (o : Obj) : MapIs C (w.alloc o) b f := h.of_block (Below.heap_alloc w o b h.lt)
theorem MapIs.set (h : MapIs C w b f) {p : Addr} {x : Value} (hp : w.cell? p = some x) (u : Value) : MapIs C (w.setCell p u) b f := by
  refine h.of_block (Below.heap_setCell w p u b fun e => ?_)
  obtain ⟨D, ⟨es, clock, h1, _⟩, _⟩ := h
  rw [e] at h1
  simp [World.cell?, h1] at hp
theorem MapIs.grown {row : Option Nat} (h : MapIs C w b f) (hg : w.grownBy w' row) (hr : some b ≠ row) : MapIs C w' b f := h.of_block (hg.block b h.lt hr)
theorem MapIs.below {B : Nat} (h : MapIs C w b f) (hb : Below B w w') (hB : b < B) : MapIs C w' b f := h.of_block (hb.block b hB)
theorem MapIs.congr {g : ι → Option Value} (h : MapIs C w b f) (e : ∀ k, f k = g k) : MapIs C w b g := by
  rw [← funext e]
  exact h
theorem MapIs.new (w : World) : MapIs C (w.alloc (.map #[] 0)) w.heap.size (fun _ => none) :=
  ⟨_, own_tight (World.ownsMap_made w _ _ _), sees_empty⟩
/-- 'm[k]': it is there. -/
theorem MapIs.look_some (h : MapIs C w b f) {t e : TypeId} (ht : Try.prog.underlying t = some (.map C.kt e)) {z : Value} (hz : (zeroValue e).run Try.prog w = .ok z w) {k : ι} {v : Value} (hk : f k = some v) (c : Bool) :
    (Instr.lookup t (.map (some b)) (C.enc k) c).run Try.prog w = .ok (if c then .tuple #[v, .bool true] else v) w := by
  obtain ⟨D, ⟨es, clock, hb, F, _, rfl⟩, hs⟩ := h
  rcases Maps.fit_look c C.keyed ht hz hb F (C.key k (hs.fits k v hk)) with ⟨hrun, _, hat⟩ | ⟨e0, y, _, _, hrun, hRv, hat, _⟩
  · exact absurd ((hat .nil).symm.trans (hs.some_ k v hk .nil)) (by simp)
  · rw [hrun, RH_inj hRv ((hat .nil).symm.trans (hs.some_ k v hk .nil))]
/-- 'm[k]': it is not. -/
theorem MapIs.look_none (h : MapIs C w b f) {t e : TypeId} (ht : Try.prog.underlying t = some (.map C.kt e)) {z : Value} (hz : (zeroValue e).run Try.prog w = .ok z w) {k : ι} (hk : f k = none) (hko : C.ok k) (c : Bool) :
    (Instr.lookup t (.map (some b)) (C.enc k) c).run Try.prog w = .ok (if c then .tuple #[z, .bool false] else z) w := by
  obtain ⟨D, ⟨es, clock, hb, F, _, rfl⟩, hs⟩ := h
  rcases Maps.fit_look c C.keyed ht hz hb F (C.key k hko) with ⟨hrun, _, hat⟩ | ⟨e0, y, _, _, hrun, hRv, hat, _⟩
  · exact hrun
  · have h1 := hs.none_ k hko hk
    rw [has_true_of_atKey hat] at h1
    cases h1
/-- 'm[k]', whether it is there or not. -/
theorem MapIs.look (h : MapIs C w b f) {t e : TypeId} (ht : Try.prog.underlying t = some (.map C.kt e)) {z : Value} (hz : (zeroValue e).run Try.prog w = .ok z w) {k : ι} (hko : C.ok k) (c : Bool) :
    (Instr.lookup t (.map (some b)) (C.enc k) c).run Try.prog w = .ok (if c then .tuple #[(f k).getD z, .bool (f k).isSome] else (f k).getD z) w := by
  cases hf : f k with
  | none => exact h.look_none ht hz hf hko c
  | some v => exact h.look_some ht hz hf c
/-- 'len(m)'. -/
theorem MapIs.len (h : MapIs C w b f) {t e : TypeId} (ht : Try.prog.underlying t = some (.map C.kt e)) (ty : TypeId) {l : List ι} (hl : l.Nodup) (hm : ∀ k, k ∈ l ↔ (f k).isSome = true) :
    (Builtin.len_ #[t] ty #[.map (some b)]).run Try.prog w = .ok (.int .i64 (l.length : Int)) w := by
  obtain ⟨D, ho, hs⟩ := h
  rw [ho.len ht ty, hs.size_of hl hm]
end
section
variable {C} {w w' : World} {b : Nat} {f : ι → Option Value}
/-- 'm[k] = v'. -/
theorem MapIs.put (h : MapIs C w b f) {t e : TypeId} (ht : Try.prog.underlying t = some (.map C.kt e)) {k : ι} (hk : C.ok k) (v : Value) {ks : List ι} (hks : ks.Nodup) (hkm : ∀ k, k ∈ ks ↔ (f k).isSome = true) (hkl : ks.length < 1073741824) :
    ∃ w', (Instr.mapUpdate t (.map (some b)) (C.enc k) v).run Try.prog w = .ok () w' ∧ MapIs C w' b (upd f k (some v)) ∧ w.grownBy w' (some b) := by
  obtain ⟨D, ho, hs⟩ := h
  have hle := hs.size_of hks hkm
  obtain ⟨w', hrun, ho', hg⟩ := ho.update C.keyed ht (by unfold maxLen; omega) (C.key k hk) (d := .held v) (ps := []) rfl
  exact ⟨w', hrun, ⟨_, own_tight ho', hs.put hk v⟩, hg⟩
/-- 'delete(m, k)'. -/
theorem MapIs.del (h : MapIs C w b f) {t e : TypeId} (ht : Try.prog.underlying t = some (.map C.kt e)) {k : ι} (hk : C.ok k) (ty : TypeId) :
    ∃ w', (Builtin.delete_ #[t, C.kt] ty #[.map (some b), C.enc k]).run Try.prog w = .ok (.tuple #[]) w' ∧ MapIs C w' b (upd f k none) ∧ w.grownBy w' (some b) := by
  obtain ⟨D, ho, hs⟩ := h
  obtain ⟨w', hrun, ho', hg⟩ := ho.drop C.keyed ht (C.key k hk) ty
  exact ⟨w', hrun, ⟨_, own_tight ho', hs.del hk⟩, hg.grown⟩
end

/-! ### At the operation -/
section
variable {C} {ops : Array Oper} {rest : List Oper} {o : Oper} {a : Act} {w : World} {Q : Exit → Act → World → Prop}
omit [DecidableEq ι] in
/-- 'm[k]', with 'ok' or without. -/
theorem wpList_look (hgd : o.guard = none) (m x : Operand) (t e : TypeId) (c : Bool) (hop : o.op = Op.lookup t m x c) (ht : Try.prog.underlying t = some (.map C.kt e)) (z : Value) (hz : (zeroValue e).run Try.prog w = .ok z w) (b : Nat) (f : ι → Option Value)
    (hm : a.eval m = .map (some b)) (h : MapIs C w b f) (k : ι) (hx : a.eval x = C.enc k) (hko : C.ok k) (u : Value) (hu : (if c then .tuple #[(f k).getD z, .bool (f k).isSome] else (f k).getD z) = u)
    (hK : wpList Try.prog ops Q rest (a.put o.dst u) w) : wpList Try.prog ops Q (o :: rest) a w :=
  wpList_plain hgd fun _ hK' => by
    have hrun := h.look ht hz hko c
    rw [hu] at hrun
    unfold Oper.wp
    simp [execOp, hop, hm, hx, hrun, Result.andThen]
    exact hK' _ _ hK
theorem wpList_put (hgd : o.guard = none) (m x v : Operand) (t e : TypeId) (hop : o.op = Op.mapUpdate t m x v) (ht : Try.prog.underlying t = some (.map C.kt e)) (b : Nat) (f : ι → Option Value) (hm : a.eval m = .map (some b)) (h : MapIs C w b f)
    (k : ι) (hk : C.ok k) (val : Value) (hx : a.eval x = C.enc k) (hv : a.eval v = val) (ks : List ι) (hks : ks.Nodup) (hkm : ∀ k, k ∈ ks ↔ (f k).isSome = true) (hkl : ks.length < 1073741824)
    (hK : ∀ w', MapIs C w' b (upd f k (some val)) → w.grownBy w' (some b) → wpList Try.prog ops Q rest (a.put o.dst undef) w') : wpList Try.prog ops Q (o :: rest) a w :=
  wpList_plain hgd fun _ hK' => by
    obtain ⟨w', hrun, h1, h2⟩ := h.put ht hk val hks hkm hkl
    unfold Oper.wp
    simp [execOp, hop, hm, hx, hv, hrun, Result.andThen]
    exact hK' _ _ (hK w' h1 h2)
theorem wpList_del (hgd : o.guard = none) (m x : Operand) (t e : TypeId) (hop : o.op = Op.call { callee := Callee.builtin Builtin.delete, args := #[m, x], argTypes := #[t, C.kt] }) (ht : Try.prog.underlying t = some (.map C.kt e)) (b : Nat) (f : ι → Option Value)
    (hm : a.eval m = .map (some b)) (h : MapIs C w b f) (k : ι) (hk : C.ok k) (hx : a.eval x = C.enc k)
    (hK : ∀ w', MapIs C w' b (upd f k none) → w.grownBy w' (some b) → wpList Try.prog ops Q rest (a.put o.dst (.tuple #[])) w') : wpList Try.prog ops Q (o :: rest) a w :=
  wpList_plain hgd fun _ hK' => by
    obtain ⟨w', hrun, h1, h2⟩ := h.del ht hk o.type
    unfold Oper.wp
    simp [execOp, hop, resolve, invoke, builtin, hm, hx, hrun, Result.andThen]
    exact hK' _ _ (hK w' h1 h2)
end
end

/-! ### Keys that are ints -/
def okI64 (i : Int) : Prop := -9223372036854775808 ≤ i ∧ i < 9223372036854775808
def intKey : Coded Int where
  kt := 3
  ok := okI64
  enc i := .int .i64 i
  lit i := .int .i64 i
  keyed := int_keyed Try.underlying3
  key i h := keyOf_int_mk Try.underlying3 (WalkArith.wf_i64 (by unfold okI64 at h; omega))
  inj i j h := by injection h
#print axioms wpList_put
#print axioms intKey
end Go.Proofs.Ythodmhjlokfcaaa
