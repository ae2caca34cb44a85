/- The reference's map of members in memory, and what at, Used, Room and Has of it answer. -/
import Derived.Test.YtmaiikmgpeafkabDoorExtL
import Derived.Test.YtmaiikmgpeafkabDoorExtR
import Derived.Deep.DeepCutAuto
namespace Go.Proofs.YtmaiikmgpeafkabDoor
open Go.RowKit

/-- A member as it lies: its number, and its row of booleans. -/
def mbE (vt : Nat → Value) (d : Nat) : List Value := [.int .i64 (d : Int), vt d]
def mbsE (vt : Nat → Value) (ks : List Nat) : List Value := ks.flatMap (mbE vt)
theorem mbsE_cons (vt : Nat → Value) (d : Nat) (ks : List Nat) : mbsE vt (d :: ks) = mbE vt d ++ mbsE vt ks := rfl
theorem mbsE_length (vt : Nat → Value) (ks : List Nat) : (mbsE vt ks).length = ks.length * 2 := by
  induction ks with
  | nil => rfl
  | cons x l ih => rw [mbsE_cons, List.length_append, ih, List.length_cons]; show 2 + _ = _; omega
theorem mbsE_append (vt : Nat → Value) (l r : List Nat) : mbsE vt (l ++ r) = mbsE vt l ++ mbsE vt r := by simp [mbsE]
theorem mbsE_at (vt : Nat → Value) (l : List Nat) : ∀ (i c : Nat) (x : Nat), l[i]? = some x → c < 2 → (mbsE vt l)[i * 2 + c]? = (mbE vt x)[c]? := by
  induction l with
  | nil => intro i c x h; simp at h
  | cons y l ih =>
    intro i c x h hc
    rw [mbsE_cons]
    cases i with
    | zero =>
      simp at h
      subst h
      rw [List.getElem?_append_left (by show 0 * 2 + c < 2; omega)]
      congr 1
      omega
    | succ i =>
      rw [List.getElem?_append_right (by show 2 ≤ (i + 1) * 2 + c; omega)]
      have h2 : (i + 1) * 2 + c - (mbE vt y).length = i * 2 + c := by show (i + 1) * 2 + c - 2 = _; omega
      rw [h2]
      exact ih i c x (by simpa using h) hc
theorem mbsE_congr {vt vu : Nat → Value} {ks : List Nat} (h : ∀ d ∈ ks, vt d = vu d) : mbsE vt ks = mbsE vu ks := by
  induction ks with
  | nil => rfl
  | cons x l ih =>
    rw [mbsE_cons, mbsE_cons, ih (fun d hd => h d (List.mem_cons_of_mem _ hd))]
    unfold mbE
    rw [h x (List.mem_cons_self ..)]
/-- Block r is the reference's map S: its members' row, and theirs. -/
structure RefE (w : World) (r : Nat) (vm : Value) (vt : Nat → Value) (S : Ext) : Prop where
  head : Blk w r 47 #[vm]
  row : w.ownsRow 0 50 2 vm S.ks.length (mbsE vt S.ks)
  mem : ∀ d ∈ S.ks, w.ownsRow 0 4 1 (vt d) (S.n d) (BL (S.n d) (S.t d))
  inj : ∀ d ∈ S.ks, ∀ e ∈ S.ks, ∀ g, (vt d).ownBlock = some g → (vt e).ownBlock = some g → d = e
/-- The blocks that it takes. -/
def RFootE (r : Nat) (vm : Value) (vt : Nat → Value) (S : Ext) : Nat → Prop := fun y => y = r ∨ vm.ownBlock = some y ∨ ∃ d ∈ S.ks, (vt d).ownBlock = some y
theorem own_kind {w : World} {base : Nat} {e : TypeId} {size : Nat} {v : Value} {n : Nat} {xs : List Value} (h : w.ownsRow base e size v n xs) {g : Nat} (hg : v.ownBlock = some g) : ∃ cs, Blk w g e cs := by
  rcases h.2 with ⟨rfl, _⟩ | ⟨g', cap, cur, rfl, _, hh, _⟩
  · cases hg
  · simp only [Value.ownBlock] at hg
    injection hg with hg
    subst hg
    exact ⟨cur, hh⟩
section
variable {w w' : World} {r : Nat} {vm : Value} {vt : Nat → Value} {S : Ext}
theorem RefE.c0 (h : RefE w r vm vt S) : w.cell? ⟨r, 0, none⟩ = some vm := h.head.cell 0
theorem RefE.foot_lt (h : RefE w r vm vt S) : ∀ y, RFootE r vm vt S y → y < w.heap.size := by
  rintro y (rfl | hy | ⟨d, hd, hy⟩)
  · exact h.head.lt
  · exact (World.ownsRow.lt h.row y hy).2
  · exact (World.ownsRow.lt (h.mem d hd) y hy).2
theorem own_of_block {base : Nat} {e : TypeId} {size : Nat} {v : Value} {n : Nat} {xs : List Value} (h : w.ownsRow base e size v n xs) (hk : ∀ g, v.ownBlock = some g → w'.heap[g]? = w.heap[g]?) : w'.ownsRow base e size v n xs := by
  refine ⟨h.1, ?_⟩
  rcases h.2 with ⟨h1, h2⟩ | ⟨g, cap, cur, rfl, hb, hh, hr⟩
  · exact .inl ⟨h1, h2⟩
  · exact .inr ⟨g, cap, cur, rfl, hb, (hk g rfl).trans hh, hr⟩
theorem RefE.kept (h : RefE w r vm vt S) (hk : ∀ y, RFootE r vm vt S y → w'.heap[y]? = w.heap[y]?) : RefE w' r vm vt S :=
  ⟨h.head.of_block (hk r (.inl rfl)), own_of_block h.row fun g hg => hk g (.inr (.inl hg)), fun d hd => own_of_block (h.mem d hd) fun g hg => hk g (.inr (.inr ⟨d, hd, hg⟩)), h.inj⟩
theorem RefE.later (h : RefE w r vm vt S) (hb : Below w.heap.size w w') : RefE w' r vm vt S := h.kept fun y hy => hb.block y (h.foot_lt y hy)
theorem RefE.drewN (h : RefE w r vm vt S) (n : Nat) : RefE (w.drewN n) r vm vt S := h.kept fun _ _ => rfl
/-- Member i of the row. -/
theorem RefE.cell (h : RefE w r vm vt S) {i d : Nat} (hx : S.ks[i]? = some d) : ∃ ad c, vm = .slice (some ad) S.ks.length c ∧ S.ks.length ≤ c ∧ c ≤ maxLen ∧
    w.cell? (ad.add (i * 2)) = some (.int .i64 (d : Int)) ∧ w.cell? ⟨(ad.add (i * 2)).block, (ad.add (i * 2)).off + 1, none⟩ = some (vt d) := by
  have hi : i < S.ks.length := (List.getElem?_eq_some_iff.1 hx).1
  obtain ⟨g, c, hv, _, hlt⟩ := World.ownsRow.form h.row (by omega)
  have hg : vm.ownBlock = some g := by rw [hv]; rfl
  have hc := World.ownsRow.cells h.row hg
  obtain ⟨A2, c2, hv2, h1, h2⟩ := own_shape h.row
  have hcc : c = c2 := by rw [hv] at hv2; injection hv2
  have hadd : ∀ n, (⟨g, 0, none⟩ : Addr).add n = ⟨g, n, none⟩ := fun n => by unfold Addr.add; split <;> simp_all
  refine ⟨⟨g, 0, none⟩, c, hv, by omega, by omega, ?_, ?_⟩
  · have := hc (i * 2) (.int .i64 (d : Int)) (mbsE_at vt S.ks i 0 d hx (by decide))
    exact this
  · have := hc (i * 2 + 1) (vt d) (mbsE_at vt S.ks i 1 d hx (by decide))
    rw [hadd] at this
    rw [hadd]
    exact this
end
/-- Which member has this number. -/
def atE (S : Ext) (d : Int) : Int := if inE S d then (S.ks.idxOf d.toNat : Int) else -1
theorem atE_in {S : Ext} {m : Nat} (h : m ∈ S.ks) : ∃ k : Nat, atE S (m : Int) = (k : Int) ∧ S.ks[k]? = some m := by
  refine ⟨S.ks.idxOf m, by unfold atE; rw [if_pos (inE_of h)]; rfl, ?_⟩
  have hlt : S.ks.idxOf m < S.ks.length := List.idxOf_lt_length_of_mem h
  rw [List.getElem?_eq_getElem hlt, List.getElem_idxOf]
theorem atE_out {S : Ext} {d : Int} (h : inE S d = false) : atE S d = -1 := by unfold atE; rw [h]; rfl
theorem idx_first {l : List Nat} {m k : Nat} (hk : l[k]? = some m) (hf : ∀ i, i < k → l[i]? ≠ some m) : l.idxOf m = k := by
  have hklt : k < l.length := (List.getElem?_eq_some_iff.1 hk).1
  have hmem : m ∈ l := List.mem_iff_getElem?.2 ⟨k, hk⟩
  have hlt : l.idxOf m < l.length := List.idxOf_lt_length_of_mem hmem
  have hat : l[l.idxOf m]? = some m := by rw [List.getElem?_eq_getElem hlt, List.getElem_idxOf]
  rcases Nat.lt_trichotomy (l.idxOf m) k with h | h | h
  · exact absurd hat (hf _ h)
  · exact h
  · have := List.not_of_lt_findIdx (xs := l) (p := (· == m)) (i := k) (by exact h)
    have h2 := (List.getElem?_eq_some_iff.1 hk).2
    simp [h2] at this
section
variable {w : World} {r : Nat} {vm : Value} {vt : Nat → Value} {S : Ext}
set_option maxRecDepth 100000 in
theorem refAt_any (h : RefE w r vm vt S) (hok : S.Ok) (d : Int) (g1 : -9223372036854775808 ≤ d) (g2 : d < 9223372036854775808) :
    Calls Tryd.prog 33 #[.pointer (some ⟨r, 0, none⟩), .int .i64 d] w fun e w' => e = .returned (.int .i64 (atE S d)) ∧ w = w' := by
  have k0 := h.c0
  have hf := hok.few
  obtain ⟨A, c, rfl, hlc, hcm⟩ := own_shape h.row
  have HH := hide h
  clear h
  go_enter Tryd.func33, Tryd.ntmps33
  go_wp2_with fail
  go_loop [5] (fun a => ∃ k : Nat, k ≤ S.ks.length ∧ a = .int .i64 (k : Int) ∧ Hid (∀ (i m : Nat), i < k → S.ks[i]? = some m → (m : Int) ≠ d)) (fun a => S.ks.length - (intOf a).toNat)
  case atStart => exact ⟨0, Nat.zero_le _, rfl, hide (fun i m h => by omega)⟩
  case round =>
    obtain ⟨k, hk, rfl, HN⟩ := hrel
    by_cases hkl : k < S.ks.length
    · have hkk : (k : Int) < (S.ks.length : Int) := by omega
      obtain ⟨m, hm⟩ : ∃ m, S.ks[k]? = some m := ⟨S.ks[k], List.getElem?_eq_getElem hkl⟩
      obtain ⟨ad, c', hv, _, _, hc0, _⟩ := HH.out.cell hm
      injection hv with hA _ hcc
      subst hA
      subst hcc
      have HM := hide hm
      by_cases hmd : (m : Int) = d
      · subst hmd
        have hme : ((m : Int) == (m : Int)) = true := beq_self_eq_true _
        have HA : Hid (atE S (m : Int) = (k : Int)) := by
          refine hide ?_
          unfold atE
          rw [if_pos (inE_of (List.mem_iff_getElem?.2 ⟨k, hm⟩)), Int.toNat_natCast, idx_first hm (fun i hi hx => HN.out i m hi hx rfl)]
        clear hm
        go_wp2_with fail
        go_ret
        exact ⟨ret_of HA.out.symm, rfl⟩
      · have hme : ((m : Int) == d) = false := by rw [beq_eq_false_iff_ne]; exact hmd
        have HN2 : Hid (∀ (i m : Nat), i < k + 1 → S.ks[i]? = some m → (m : Int) ≠ d) := by
          refine hide (fun i n hi hx => ?_)
          by_cases e : i = k
          · subst e
            rw [HM.out] at hx
            injection hx with hx
            subst hx
            exact hmd
          · exact HN.out i n (by omega) hx
        clear hm hmd
        go_wp2_with fail
        go_round
        case rel => exact ⟨k + 1, by omega, by go_num, HN2⟩
        case measure => simp [intOf]; omega
    · have hkk : ¬ ((k : Int) < (S.ks.length : Int)) := by omega
      have HA : Hid (atE S d = -1) := by
        refine hide (atE_out ?_)
        cases hd : inE S d with
        | false => rfl
        | true =>
          obtain ⟨m, rfl, hm⟩ := inE_nat hd
          obtain ⟨i, hi⟩ := List.mem_iff_getElem?.1 hm
          have := (List.getElem?_eq_some_iff.1 hi).1
          exact absurd rfl (HN.out i m (by omega) hi)
      go_wp2_with fail
      go_ret
      exact ⟨ret_of HA.out.symm, rfl⟩
end
#print axioms refAt_any
end Go.Proofs.YtmaiikmgpeafkabDoor
