/- Maps in memory keyed by places: which value stands at which place, in whatever order the entries lie; nil maps too. The one number named here is the type int's. -/
import Derived.Test.YtmjjnbabfldbcaaGreatMem
import Derived.Test.YtmjjnbabfldbcaaGreatChecked
import Derived.Maps.RangeWalk
namespace Go.Proofs.YtmjjnbabfldbcaaGreat
open Go.RowKit Go.Maps Go.MapKept Go.ChangeMaps

/-- An element reads as itself. -/
def RH (v : Value) : Option (DataW Value × List MemPlace) := some (.held v, [])
def K64 (k : Nat) : Lit := .int .i64 (k : Int)
theorem K64_inj {j k : Nat} (h : K64 j = K64 k) : j = k := by
  unfold K64 at h
  injection h with _ h
  omega
theorem K64_key (k : Nat) : WideAt.IsKeyLit (K64 k) := trivial
theorem K64_ne {j k : Nat} (h : j ≠ k) : K64 j ≠ K64 k := fun e => h (K64_inj e)
def upd {α : Type} (f : Nat → α) (k : Nat) (v : α) : Nat → α := fun j => if j = k then v else f j
theorem upd_self {α : Type} (f : Nat → α) (k : Nat) (v : α) : upd f k v k = v := by simp [upd]
theorem upd_ne {α : Type} (f : Nat → α) {j k : Nat} (v : α) (h : j ≠ k) : upd f k v j = f j := by simp [upd, h]

/-- The map as read holds just what f says. -/
structure Sees (D : DataW Value) (f : Nat → Option Value) : Prop where
  form : ∃ es, D = .map es ∧ es.Pairwise (fun p q => p.1 ≠ q.1) ∧ ∀ p ∈ es, ∃ k : Nat, k < 4096 ∧ p.1 = K64 k
  some_ : ∀ k v, f k = some v → ∀ z, D.atKey (K64 k) z = .held v
  none_ : ∀ k, f k = none → Maps.has D (K64 k) = false
section
variable {D : DataW Value} {f : Nat → Option Value}
theorem Sees.tidy (h : Sees D f) : Tidy D := by
  obtain ⟨es, e, hp, _⟩ := h.form
  exact ⟨es, e, hp⟩
theorem Sees.keys (h : Sees D f) : ∀ kl, Maps.has D kl = true → ∃ k : Nat, k < 4096 ∧ kl = K64 k := by
  obtain ⟨es, rfl, _, hk⟩ := h.form
  intro kl hkl
  obtain ⟨p, hp, hpk⟩ := List.any_eq_true.1 hkl
  obtain ⟨k, hlt, e⟩ := hk p hp
  exact ⟨k, hlt, by rw [← e, WideAt.sameKey_eq hpk]⟩
theorem Sees.has_ (h : Sees D f) (k : Nat) : Maps.has D (K64 k) = (f k).isSome := by
  cases hf : f k with
  | none => exact h.none_ k hf
  | some v => exact has_true_of_atKey (h.some_ k v hf)
theorem Sees.lt (h : Sees D f) {k : Nat} {v : Value} (hk : f k = some v) : k < 4096 := by
  obtain ⟨j, hj, e⟩ := h.keys (K64 k) (by rw [h.has_, hk]; rfl)
  rw [K64_inj e]
  exact hj
theorem Sees.of_at (h : Sees D f) {k : Nat} {y : DataW Value} (hy : ∀ z, D.atKey (K64 k) z = y) : ∃ v, f k = some v ∧ y = .held v := by
  cases hf : f k with
  | none =>
    have h1 := h.none_ k hf
    rw [has_true_of_atKey hy] at h1
    cases h1
  | some v => exact ⟨v, rfl, (hy .nil).symm.trans (h.some_ k v hf .nil)⟩
theorem sees_empty : Sees (.map []) (fun _ => none) := ⟨⟨[], rfl, List.Pairwise.nil, by simp⟩, (fun _ _ h => by injection h), fun _ _ => rfl⟩
theorem Sees.put (h : Sees D f) {k : Nat} (hk : k < 4096) (v : Value) : Sees (D.put (K64 k) (.held v)) (upd f k (some v)) := by
  refine ⟨?_, fun j u hj z => ?_, fun j hj => ?_⟩
  · have ht := h.tidy.put (K64_key k) (.held v)
    obtain ⟨es, rfl, hp, hks⟩ := h.form
    obtain ⟨es', e', hp'⟩ := ht
    refine ⟨es', e', hp', fun p hpm => ?_⟩
    have e2 : es' = DataW.insert (K64 k, .held v) (es.filter fun p => !p.1.sameKey (K64 k)) := by
      have : DataW.map es' = DataW.map (DataW.insert (K64 k, .held v) (es.filter fun p => !p.1.sameKey (K64 k))) := e'.symm
      injection this
    rw [e2] at hpm
    rcases ChangeMaps.mem_insert_iff.1 hpm with rfl | hpm
    · exact ⟨k, hk, rfl⟩
    · exact hks p (List.mem_filter.1 hpm).1
  · by_cases e : j = k
    · subst e
      rw [upd_self] at hj
      rw [atKey_put_same h.tidy.isMap (K64_key j)]
      injection hj with hj
      rw [hj]
    · rw [upd_ne _ _ e] at hj
      rw [atKey_put_other (K64_ne e)]
      exact h.some_ j u hj z
  · by_cases e : j = k
    · subst e
      rw [upd_self] at hj
      cases hj
    · rw [upd_ne _ _ e] at hj
      rw [has_put_other (K64_ne e)]
      exact h.none_ j hj
theorem Sees.del (h : Sees D f) (k : Nat) : Sees (D.del (K64 k)) (upd f k none) := by
  refine ⟨?_, fun j u hj z => ?_, fun j hj => ?_⟩
  · obtain ⟨es, rfl, hp, hks⟩ := h.form
    exact ⟨es.filter fun p => !p.1.sameKey (K64 k), rfl, hp.filter _, fun p hpm => hks p (List.mem_filter.1 hpm).1⟩
  · by_cases e : j = k
    · subst e
      rw [upd_self] at hj
      cases hj
    · rw [upd_ne _ _ e] at hj
      rw [atKey_del_other (K64_ne e)]
      exact h.some_ j u hj z
  · by_cases e : j = k
    · subst e
      exact has_del_same
    · rw [upd_ne _ _ e] at hj
      rw [has_del_other (K64_ne e)]
      exact h.none_ j hj
/-- How many entries: as many as places on any list of those that f has. -/
theorem Sees.size_of (h : Sees D f) {l : List Nat} (hl : l.Nodup) (hm : ∀ k, k ∈ l ↔ (f k).isSome = true) : Maps.size D = l.length := by
  have hh := h.has_
  obtain ⟨es, rfl, hp, hk⟩ := h.form
  have h1 : (es.map (·.1)).Nodup := by
    rw [List.Nodup, List.pairwise_map]
    exact hp
  have h2 : (l.map K64).Nodup := by
    rw [List.Nodup, List.pairwise_map]
    exact hl.imp fun {a b} hab => K64_ne hab
  have h3 : (es.map (·.1)).Perm (l.map K64) := by
    refine (List.perm_ext_iff_of_nodup h1 h2).2 fun kl => ?_
    constructor
    · intro hkl
      obtain ⟨p, hpm, rfl⟩ := List.mem_map.1 hkl
      obtain ⟨k, _, e⟩ := hk p hpm
      refine List.mem_map.2 ⟨k, (hm k).2 ?_, e.symm⟩
      rw [← hh k]
      exact List.any_eq_true.2 ⟨p, hpm, by rw [e]; exact WideAt.sameKey_self (K64_key k)⟩
    · intro hkl
      obtain ⟨k, hkm, rfl⟩ := List.mem_map.1 hkl
      have := (hm k).1 hkm
      rw [← hh k] at this
      obtain ⟨p, hpm, hpk⟩ := List.any_eq_true.1 this
      exact List.mem_map.2 ⟨p, hpm, WideAt.sameKey_eq hpk⟩
  have := h3.length_eq
  simpa [Maps.size] using this
theorem Sees.size_le (h : Sees D f) : Maps.size D ≤ 4096 := by
  obtain ⟨es, rfl, hp, hk⟩ := h.form
  have h1 : (es.map (·.1)).Nodup := by
    rw [List.Nodup, List.pairwise_map]
    exact hp
  have h2 : es.map (·.1) ⊆ (List.range 4096).map K64 := by
    intro kl hkl
    obtain ⟨p, hpm, rfl⟩ := List.mem_map.1 hkl
    obtain ⟨k, hlt, e⟩ := hk p hpm
    exact List.mem_map.2 ⟨k, List.mem_range.2 hlt, e.symm⟩
  have := List.Nodup.length_le_of_subset h1 h2
  simpa [Maps.size] using this
end

/-- Block b is a map that holds just what f says. -/
def MapIs (w : World) (b : Nat) (f : Nat → Option Value) : Prop := ∃ D, w.ownsMap Tryz.prog 3 RH b (Maps.size D) D ∧ Sees D f
/-- .. or there is none (nil), and f says nothing. -/
def OMap (w : World) : Option Nat → (Nat → Option Value) → Prop
  | none, f => ∀ k, f k = none
  | some b, f => MapIs w b f

theorem own_tight {w : World} {b n : Nat} {D : DataW Value} (h : w.ownsMap Tryz.prog 3 RH b n D) : w.ownsMap Tryz.prog 3 RH b (Maps.size D) D := by
  obtain ⟨es, clock, hb, F, _, hD⟩ := h
  refine ⟨es, clock, hb, F, ?_, hD⟩
  rw [hD]
  simp [Maps.size, length_sorted]
theorem key_int {k : Nat} (hk : k < 9223372036854775808) : keyOf Tryz.prog 3 (.int .i64 (k : Int)) = some (K64 k) :=
  keyOf_int_mk Tryz.underlying3 (WalkArith.wf_i64 (by omega))
theorem keyed : Keyed Tryz.prog 3 := int_keyed Tryz.underlying3
section
variable {w w' : World} {b : Nat} {f : Nat → Option Value}
theorem MapIs.lt (h : MapIs w b f) : b < w.heap.size := by
  obtain ⟨D, ho, _⟩ := h
  exact ho.lt
theorem MapIs.sees_lt (h : MapIs w b f) {k : Nat} {v : Value} (hk : f k = some v) : k < 4096 := by
  obtain ⟨D, _, hs⟩ := h
  exact hs.lt hk
theorem MapIs.of_block (h : MapIs w b f) (hb : w'.heap[b]? = w.heap[b]?) : MapIs w' b f := by
  obtain ⟨D, ⟨es, clock, h1, h2⟩, hs⟩ := h
  exact ⟨D, ⟨es, clock, hb.trans h1, h2⟩, hs⟩
theorem MapIs.drew (h : MapIs w b f) : MapIs w.drew b f := h
theorem MapIs.alloc (h : MapIs w b f) (o : Obj) : MapIs (w.alloc o) b f := h.of_block (Below.heap_alloc w o b h.lt)
theorem MapIs.grown {row : Option Nat} (h : MapIs w b f) (hg : w.grownBy w' row) (hr : some b ≠ row) : MapIs w' b f := h.of_block (hg.block b h.lt hr)
theorem MapIs.below {B : Nat} (h : MapIs w b f) (hb : Below B w w') (hB : b < B) : MapIs w' b f := h.of_block (hb.block b hB)
theorem MapIs.congr {g : Nat → Option Value} (h : MapIs w b f) (e : ∀ k, f k = g k) : MapIs w b g := by
  rw [← funext e]
  exact h
theorem MapIs.new (w : World) : MapIs (w.alloc (.map #[] 0)) w.heap.size (fun _ => none) :=
  ⟨_, own_tight (World.ownsMap_made w _ _ _), sees_empty⟩
theorem RH_inj {v u : Value} {y : DataW Value × List MemPlace} (h : RH v = some y) (hy : y.1 = .held u) : v = u := by
  have e : y = (.held v, []) := (Option.some.inj h).symm
  rw [e] at hy
  exact DataW.held.inj hy
/-- 'm[k]': it is there. -/
theorem MapIs.look_some (h : MapIs w b f) {t e : TypeId} (ht : Tryz.prog.underlying t = some (.map 3 e)) {z : Value} (hz : (zeroValue e).run Tryz.prog w = .ok z w) {k : Nat} {v : Value} (hk : f k = some v) (c : Bool) :
    (Instr.lookup t (.map (some b)) (.int .i64 (k : Int)) c).run Tryz.prog w = .ok (if c then .tuple #[v, .bool true] else v) w := by
  have hlt := h.sees_lt hk
  obtain ⟨D, ⟨es, clock, hb, F, _, rfl⟩, hs⟩ := h
  rcases Maps.fit_look c keyed ht hz hb F (key_int (k := k) (by omega)) with ⟨hrun, _, hat⟩ | ⟨e0, y, _, _, hrun, hRv, hat, _⟩
  · exact absurd ((hat .nil).symm.trans (hs.some_ k v hk .nil)) (by simp)
  · rw [hrun, RH_inj hRv ((hat .nil).symm.trans (hs.some_ k v hk .nil))]
/-- 'm[k]': it is not. -/
theorem MapIs.look_none (h : MapIs w b f) {t e : TypeId} (ht : Tryz.prog.underlying t = some (.map 3 e)) {z : Value} (hz : (zeroValue e).run Tryz.prog w = .ok z w) {k : Nat} (hk : f k = none) (hk63 : k < 9223372036854775808) (c : Bool) :
    (Instr.lookup t (.map (some b)) (.int .i64 (k : Int)) c).run Tryz.prog w = .ok (if c then .tuple #[z, .bool false] else z) w := by
  obtain ⟨D, ⟨es, clock, hb, F, _, rfl⟩, hs⟩ := h
  rcases Maps.fit_look c keyed ht hz hb F (key_int (k := k) hk63) with ⟨hrun, _, hat⟩ | ⟨e0, y, _, _, hrun, hRv, hat, _⟩
  · exact hrun
  · have h1 := hs.none_ k hk
    rw [has_true_of_atKey hat] at h1
    cases h1
/-- 'm[k] = v'. -/
theorem MapIs.put (h : MapIs w b f) {t e : TypeId} (ht : Tryz.prog.underlying t = some (.map 3 e)) {k : Nat} (hk : k < 4096) (v : Value) :
    ∃ w', (Instr.mapUpdate t (.map (some b)) (.int .i64 (k : Int)) v).run Tryz.prog w = .ok () w' ∧ MapIs w' b (upd f k (some v)) ∧ w.grownBy w' (some b) := by
  obtain ⟨D, ho, hs⟩ := h
  have hle := hs.size_le
  obtain ⟨w', hrun, ho', hg⟩ := ho.update keyed ht (by unfold maxLen; omega) (key_int (k := k) (by omega)) (d := .held v) (ps := []) rfl
  exact ⟨w', hrun, ⟨_, own_tight ho', hs.put hk v⟩, hg⟩
/-- 'delete(m, k)'. -/
theorem MapIs.del (h : MapIs w b f) {t e : TypeId} (ht : Tryz.prog.underlying t = some (.map 3 e)) {k : Nat} (hk : k < 9223372036854775808) (ty : TypeId) :
    ∃ w', (Builtin.delete_ #[t, 3] ty #[.map (some b), .int .i64 (k : Int)]).run Tryz.prog w = .ok (.tuple #[]) w' ∧ MapIs w' b (upd f k none) ∧ w.grownBy w' (some b) := by
  obtain ⟨D, ho, hs⟩ := h
  obtain ⟨w', hrun, ho', hg⟩ := ho.drop keyed ht (key_int (k := k) hk) ty
  exact ⟨w', hrun, ⟨_, own_tight ho', hs.del k⟩, hg.grown⟩
/-- 'clear(m)'. -/
theorem MapIs.clear_ (h : MapIs w b f) {t e : TypeId} (ht : Tryz.prog.underlying t = some (.map 3 e)) (ty : TypeId) :
    ∃ w', (Builtin.clear_ #[t] ty #[.map (some b)]).run Tryz.prog w = .ok (.tuple #[]) w' ∧ MapIs w' b (fun _ => none) ∧ w.grownBy w' (some b) := by
  obtain ⟨D, ⟨es, clock, hb, F, _, _⟩, hs⟩ := h
  refine ⟨setBlock w b (.map #[] clock), ?_, ⟨.map [], ⟨#[], clock, heap_setBlock_same hb _, ⟨by simp, stamped_empty _, by simp⟩, Nat.le_refl _, rfl⟩, sees_empty⟩, ⟨rfl, rfl, rfl, by simp [setBlock], fun i _ hi => heap_setBlock_other hb _ (fun e1 => hi (by rw [e1]))⟩⟩
  simp [Builtin.clear_, run_underlying ht, MapKept.run_getObj_map hb, MapKept.run_setObj_map _ hb, Result.andThen, setBlock]
/-- 'len(m)'. -/
theorem MapIs.len (h : MapIs w b f) {t e : TypeId} (ht : Tryz.prog.underlying t = some (.map 3 e)) (ty : TypeId) {l : List Nat} (hl : l.Nodup) (hm : ∀ k, k ∈ l ↔ (f k).isSome = true) :
    (Builtin.len_ #[t] ty #[.map (some b)]).run Tryz.prog w = .ok (.int .i64 (l.length : Int)) w := by
  obtain ⟨D, ho, hs⟩ := h
  rw [ho.len ht ty, hs.size_of hl hm]
end

/-! ### A map or nil; ranging -/
section
variable {w w' : World} {b : Nat} {o : Option Nat} {f : Nat → Option Value}
theorem OMap.len (h : OMap w o f) {t e : TypeId} (ht : Tryz.prog.underlying t = some (.map 3 e)) (ty : TypeId) {l : List Nat} (hl : l.Nodup) (hm : ∀ k, k ∈ l ↔ (f k).isSome = true) :
    (Builtin.len_ #[t] ty #[.map o]).run Tryz.prog w = .ok (.int .i64 (l.length : Int)) w := by
  cases o with
  | none =>
    have hnil : l = [] := List.eq_nil_iff_forall_not_mem.2 fun k hk => by
      have := (hm k).1 hk
      rw [h k] at this
      cases this
    subst hnil
    exact Maps.len_nil ht ty
  | some b => exact MapIs.len h ht ty hl hm
/-- A loop over map o under way, its iterator in block r: 'left' are the places still to come. -/
def Going (w : World) (o : Option Nat) (r : Nat) (f : Nat → Option Value) (left : Nat → Bool) : Prop :=
  match o with
  | none => (∃ s, w.heap[r]? = some (.mapIter none 0 s 0)) ∧ (∀ k, left k = false) ∧ (∀ k, f k = none)
  | some b => ∃ D lt cnt, w.ranges Tryz.prog 3 RH b r (Maps.size D) D lt cnt ∧ Sees D f ∧ (∀ k, lt (K64 k) = left k) ∧ ∀ kl, lt kl = true → ∃ k : Nat, k < 4096 ∧ kl = K64 k
/-- How many are still to come, for a loop's measure. -/
def goingLeft (w : World) (o : Option Nat) (r : Nat) : Nat :=
  match o with
  | none => 0
  | some b => w.rangeLeft b r
theorem Going.lt {r : Nat} {left : Nat → Bool} (h : Going w o r f left) : r < w.heap.size := by
  cases o with
  | none =>
    obtain ⟨⟨s, hs⟩, _⟩ := h
    exact (Array.getElem?_eq_some_iff.1 hs).1
  | some b =>
    obtain ⟨D, lt, cnt, hr, _⟩ := h
    exact hr.lt
theorem Going.map {r : Nat} {left : Nat → Bool} (h : Going w o r f left) : OMap w o f := by
  cases o with
  | none => exact h.2.2
  | some b =>
    obtain ⟨D, lt, cnt, hr, hs, _⟩ := h
    exact ⟨D, hr.owns, hs⟩
theorem Going.kept {r : Nat} {left : Nat → Bool} {row : Option Nat} (h : Going w o r f left) (hg : w.grownBy w' row) (h1 : ∀ b, o = some b → some b ≠ row) (h2 : some r ≠ row) : Going w' o r f left := by
  have hlt := h.lt
  cases o with
  | none =>
    obtain ⟨⟨s, hs⟩, h3⟩ := h
    exact ⟨⟨s, (hg.block r hlt h2).trans hs⟩, h3⟩
  | some b =>
    obtain ⟨D, lt, cnt, hr, h3⟩ := h
    exact ⟨D, lt, cnt, hr.kept hg (h1 b rfl) h2, h3⟩
theorem goingLeft_kept {r : Nat} {left : Nat → Bool} {row : Option Nat} (h : Going w o r f left) (hg : w.grownBy w' row) (h1 : ∀ b, o = some b → some b ≠ row) (h2 : some r ≠ row) : goingLeft w' o r = goingLeft w o r := by
  cases o with
  | none => rfl
  | some b =>
    obtain ⟨D, lt, cnt, hr, h3⟩ := h
    exact (hr.kept hg (h1 b rfl) h2).left_eq.trans hr.left_eq.symm
/-- 'range m'. -/
theorem OMap.range (h : OMap w o f) {t e : TypeId} (ht : Tryz.prog.underlying t = some (.map 3 e)) :
    ∃ w', (Instr.range t (.map o)).run Tryz.prog w = .ok (.pointer (some ⟨w.heap.size, 0, none⟩)) w' ∧ Going w' o w.heap.size f (fun k => (f k).isSome) ∧ w.grownBy w' none ∧ w'.heap.size = w.heap.size + 1 := by
  cases o with
  | none =>
    refine ⟨_, run_range_nilMap w t _ _ ht, ⟨⟨_, heap_alloc_new w _⟩, fun k => by show (f k).isSome = false; rw [h k]; rfl, h⟩, World.grownBy_alloc w _ none, by simp⟩
  | some b =>
    obtain ⟨D, ho, hs⟩ := h
    obtain ⟨w', hrun, hr, hg, hsz⟩ := ho.range keyed ht
    exact ⟨w', hrun, ⟨D, _, _, hr, hs, fun k => hs.has_ k, hs.keys⟩, hg, hsz⟩
/-- The step. -/
theorem Going.next {r : Nat} {left : Nat → Bool} (h : Going w o r f left) (ty : TypeId) :
    ((∀ k, left k = false) ∧ (Instr.next (.pointer (some ⟨r, 0, none⟩)) false ty).run Tryz.prog w = .ok (.tuple #[.bool false]) w) ∨
    ∃ k v w', left k = true ∧ f k = some v ∧ k < 4096 ∧ (Instr.next (.pointer (some ⟨r, 0, none⟩)) false ty).run Tryz.prog w = .ok (.tuple #[.bool true, .int .i64 (k : Int), v]) w' ∧
      Going w' o r f (fun j => left j && !decide (j = k)) ∧ goingLeft w' o r < goingLeft w o r ∧ w.grownBy w' (some r) ∧ w'.heap.size = w.heap.size ∧
      (Instr.entry (.pointer (some ⟨r, 0, none⟩))).run Tryz.prog w' = .ok (.tuple #[.int .i64 (k : Int), v]) w' := by
  cases o with
  | none =>
    obtain ⟨⟨s, hs⟩, hl, hf⟩ := h
    refine .inl ⟨hl, ?_⟩
    simp only [Instr.next, getObj, Sem.run_bind, Sem.run, hs, Result.andThen]
    rfl
  | some b =>
    obtain ⟨D, lt, cnt, hr, hs, hlt, hks⟩ := h
    rcases hr.next keyed ty with ⟨_, hl, hrun⟩ | ⟨key, v, kl, y, w', cnt', hkey, hlk, hv, hat, hrun, hr', hc, hg, hsz, hen⟩
    · exact .inl ⟨fun k => by rw [← hlt k]; exact hl _, hrun⟩
    · obtain ⟨k, hk4, rfl⟩ := hks kl hlk
      obtain ⟨x, rfl, hx, _⟩ := Maps.keyOf_int_inv Tryz.underlying3 hkey
      have hxk : x = (k : Int) := (Lit.int.inj hx).2.symm
      subst hxk
      obtain ⟨u, hu, hyu⟩ := hs.of_at hat
      have huv : v = u := RH_inj hv hyu
      subst huv
      refine .inr ⟨k, v, w', by rw [← hlt k]; exact hlk, hu, hk4, hrun, ⟨D, _, cnt', hr', hs, fun j => ?_, fun kl hkl => hks kl ?_⟩, ?_, hg, hsz, hen⟩
      · show (lt (K64 j) && !(K64 j).sameKey (K64 k)) = _
        rw [hlt j]
        by_cases e : j = k
        · subst e
          rw [WideAt.sameKey_self (K64_key j)]
          simp
        · rw [Maps.sameKey_ne (K64_ne e)]
          simp [e]
      · simp only [Bool.and_eq_true] at hkl
        exact hkl.1
      · show w'.rangeLeft b r < w.rangeLeft b r
        rw [hr'.left_eq, hr.left_eq]
        exact hc
end

/-! ### At the operation -/
section
variable {ops : Array Oper} {rest : List Oper} {o : Oper} {a : Act} {w : World} {Q : Exit → Act → World → Prop}
theorem wpList_look_some (hgd : o.guard = none) (m x : Operand) (t e : TypeId) (c : Bool) (hop : o.op = Op.lookup t m x c) (ht : Tryz.prog.underlying t = some (.map 3 e)) (z : Value) (hz : (zeroValue e).run Tryz.prog w = .ok z w) (b : Nat) (f : Nat → Option Value)
    (hm : a.eval m = .map (some b)) (h : MapIs w b f) (k : Nat) (hx : a.eval x = .int .i64 (k : Int)) (v : Value) (hk : f k = some v) (u : Value) (hu : (if c then .tuple #[v, .bool true] else v) = u)
    (hK : wpList Tryz.prog ops Q rest (a.put o.dst u) w) : wpList Tryz.prog ops Q (o :: rest) a w :=
  wpList_plain hgd fun _ hK' => by
    have hrun := h.look_some ht hz hk c
    rw [hu] at hrun
    unfold Oper.wp
    simp [execOp, hop, hm, hx, hrun, Result.andThen]
    exact hK' _ _ hK
theorem wpList_look_none (hgd : o.guard = none) (m x : Operand) (t e : TypeId) (c : Bool) (hop : o.op = Op.lookup t m x c) (ht : Tryz.prog.underlying t = some (.map 3 e)) (z : Value) (hz : (zeroValue e).run Tryz.prog w = .ok z w) (b : Nat) (f : Nat → Option Value)
    (hm : a.eval m = .map (some b)) (h : MapIs w b f) (k : Nat) (hx : a.eval x = .int .i64 (k : Int)) (hk : f k = none) (hk63 : k < 9223372036854775808) (u : Value) (hu : (if c then .tuple #[z, .bool false] else z) = u)
    (hK : wpList Tryz.prog ops Q rest (a.put o.dst u) w) : wpList Tryz.prog ops Q (o :: rest) a w :=
  wpList_plain hgd fun _ hK' => by
    have hrun := h.look_none ht hz hk hk63 c
    rw [hu] at hrun
    unfold Oper.wp
    simp [execOp, hop, hm, hx, hrun, Result.andThen]
    exact hK' _ _ hK
/-- 'm[k]', without 'ok': what is there, or the zero value. -/
theorem wpList_look_plain (hgd : o.guard = none) (m x : Operand) (t e : TypeId) (hop : o.op = Op.lookup t m x false) (ht : Tryz.prog.underlying t = some (.map 3 e)) (z : Value) (hz : (zeroValue e).run Tryz.prog w = .ok z w) (b : Nat) (f : Nat → Option Value)
    (hm : a.eval m = .map (some b)) (h : MapIs w b f) (k : Nat) (hx : a.eval x = .int .i64 (k : Int)) (u : Value) (hk : f k = some u ∨ (f k = none ∧ z = u)) (hk63 : k < 9223372036854775808)
    (hK : wpList Tryz.prog ops Q rest (a.put o.dst u) w) : wpList Tryz.prog ops Q (o :: rest) a w := by
  rcases hk with hk | ⟨hk, rfl⟩
  · exact wpList_look_some hgd m x t e false hop ht z hz b f hm h k hx u hk u rfl hK
  · exact wpList_look_none hgd m x t e false hop ht z hz b f hm h k hx hk hk63 z rfl hK
theorem wpList_put (hgd : o.guard = none) (m x v : Operand) (t e : TypeId) (hop : o.op = Op.mapUpdate t m x v) (ht : Tryz.prog.underlying t = some (.map 3 e)) (b : Nat) (f : Nat → Option Value) (hm : a.eval m = .map (some b)) (h : MapIs w b f)
    (k : Nat) (hk : k < 4096) (val : Value) (hx : a.eval x = .int .i64 (k : Int)) (hv : a.eval v = val)
    (hK : ∀ w', MapIs w' b (upd f k (some val)) → w.grownBy w' (some b) → wpList Tryz.prog ops Q rest (a.put o.dst undef) w') : wpList Tryz.prog ops Q (o :: rest) a w :=
  wpList_plain hgd fun _ hK' => by
    obtain ⟨w', hrun, h1, h2⟩ := h.put ht hk val
    unfold Oper.wp
    simp [execOp, hop, hm, hx, hv, hrun, Result.andThen]
    exact hK' _ _ (hK w' h1 h2)
theorem wpList_del (hgd : o.guard = none) (m x : Operand) (t e : TypeId) (hop : o.op = Op.call { callee := Callee.builtin Builtin.delete, args := #[m, x], argTypes := #[t, 3] }) (ht : Tryz.prog.underlying t = some (.map 3 e)) (b : Nat) (f : Nat → Option Value)
    (hm : a.eval m = .map (some b)) (h : MapIs w b f) (k : Nat) (hk : k < 9223372036854775808) (hx : a.eval x = .int .i64 (k : Int))
    (hK : ∀ w', MapIs w' b (upd f k none) → w.grownBy w' (some b) → wpList Tryz.prog ops Q rest (a.put o.dst (.tuple #[])) w') : wpList Tryz.prog ops Q (o :: rest) a w :=
  wpList_plain hgd fun _ hK' => by
    obtain ⟨w', hrun, h1, h2⟩ := h.del ht hk o.type
    unfold Oper.wp
    simp [execOp, hop, resolve, invoke, builtin, hm, hx, hrun, Result.andThen]
    exact hK' _ _ (hK w' h1 h2)
theorem wpList_clear (hgd : o.guard = none) (m : Operand) (t e : TypeId) (hop : o.op = Op.call { callee := Callee.builtin Builtin.clear, args := #[m], argTypes := #[t] }) (ht : Tryz.prog.underlying t = some (.map 3 e)) (b : Nat) (f : Nat → Option Value)
    (hm : a.eval m = .map (some b)) (h : MapIs w b f)
    (hK : ∀ w', MapIs w' b (fun _ => none) → w.grownBy w' (some b) → wpList Tryz.prog ops Q rest (a.put o.dst (.tuple #[])) w') : wpList Tryz.prog ops Q (o :: rest) a w :=
  wpList_plain hgd fun _ hK' => by
    obtain ⟨w', hrun, h1, h2⟩ := h.clear_ ht o.type
    unfold Oper.wp
    simp [execOp, hop, resolve, invoke, builtin, hm, hrun, Result.andThen]
    exact hK' _ _ (hK w' h1 h2)
theorem wpList_range (hgd : o.guard = none) (m : Operand) (t e : TypeId) (hop : o.op = Op.range t m) (ht : Tryz.prog.underlying t = some (.map 3 e)) (p : Option Nat) (f : Nat → Option Value) (hm : a.eval m = .map p) (h : OMap w p f)
    (hK : ∀ w', Going w' p w.heap.size f (fun k => (f k).isSome) → w.grownBy w' none → w'.heap.size = w.heap.size + 1 → wpList Tryz.prog ops Q rest (a.put o.dst (.pointer (some ⟨w.heap.size, 0, none⟩))) w') : wpList Tryz.prog ops Q (o :: rest) a w :=
  wpList_plain hgd fun _ hK' => by
    obtain ⟨w', hrun, h1, h2, h3⟩ := h.range ht
    unfold Oper.wp
    simp [execOp, hop, hm, hrun, Result.andThen]
    exact hK' _ _ (hK w' h1 h2 h3)
theorem wpList_next (hgd : o.guard = none) (it : Operand) (hop : o.op = Op.next it false) (p : Option Nat) (r : Nat) (f : Nat → Option Value) (left : Nat → Bool) (hit : a.eval it = .pointer (some ⟨r, 0, none⟩)) (h : Going w p r f left)
    (hDone : (∀ k, left k = false) → wpList Tryz.prog ops Q rest (a.put o.dst (.tuple #[.bool false])) w)
    (hMore : ∀ (k : Nat) (v : Value) (w' : World), left k = true → f k = some v → k < 4096 → Going w' p r f (fun j => left j && !decide (j = k)) → goingLeft w' p r < goingLeft w p r → w.grownBy w' (some r) → w'.heap.size = w.heap.size →
      (Instr.entry (.pointer (some ⟨r, 0, none⟩))).run Tryz.prog w' = .ok (.tuple #[.int .i64 (k : Int), v]) w' → wpList Tryz.prog ops Q rest (a.put o.dst (.tuple #[.bool true, .int .i64 (k : Int), v])) w') : wpList Tryz.prog ops Q (o :: rest) a w :=
  wpList_plain hgd fun _ hK' => by
    unfold Oper.wp
    rcases h.next o.type with ⟨hl, hrun⟩ | ⟨k, v, w', h1, h2, h3, hrun, h4, h5, h6, h7, h8⟩
    · simp [execOp, hop, hit, hrun, Result.andThen]
      exact hK' _ _ (hDone hl)
    · simp [execOp, hop, hit, hrun, Result.andThen]
      exact hK' _ _ (hMore k v w' h1 h2 h3 h4 h5 h6 h7 h8)
end
end Go.Proofs.YtmjjnbabfldbcaaGreat
