/- The reference's map in memory: one cell that holds a slice of booleans; and what its calls that only read answer. -/
import Derived.Test.YtpakipacclmimaaDoorBools
namespace Go.Proofs.YtpakipacclmimaaDoor
open Go.RowKit

/-- Block p is a reference's map of n places of which t are taken; its row has the address A and the room c. -/
structure RefAt (w : World) (B p : Nat) (A : Option Addr) (c n : Nat) (t : Nat → Bool) : Prop where
  blk : Blk w p 41 #[.slice A n c]
  row : w.ownsRow B 4 1 (.slice A n c) n (BL n t)
  le : n ≤ 65536
  low : B ≤ p
theorem own_at {w : World} {B : Nat} {e : TypeId} {A : Option Addr} {n c : Nat} {xs : List Value} (h : w.ownsRow B e 1 (.slice A n c) n xs) (hn : 0 < n) : ∃ g, A = some ⟨g, 0, none⟩ := by
  obtain ⟨g, cap, hv, _⟩ := h.form hn
  injection hv with hv
  exact ⟨g, hv⟩
theorem own_mono {w : World} {B B' : Nat} {e : TypeId} {size n : Nat} {v : Value} {xs : List Value} (h : w.ownsRow B e size v n xs) (hB : B' ≤ B) : w.ownsRow B' e size v n xs := by
  refine ⟨h.1, ?_⟩
  rcases h.2 with h2 | ⟨g, cap, cur, h1, h2, h3⟩
  · exact .inl h2
  · exact .inr ⟨g, cap, cur, h1, Nat.le_trans hB h2, h3⟩
theorem own_map_ne {w : World} {base b n m : Nat} {e : TypeId} {v : Value} {xs : List Value} {t : Nat → Bool} (h : w.ownsRow base e 1 v n xs) (hm : MapAt w b m t) (hne : e ≠ 58) : some b ≠ v.ownBlock := by
  rcases h.2 with ⟨rfl, _⟩ | ⟨g', cap, cur, rfl, _, hh, _⟩
  · simp [Value.ownBlock]
  · intro he
    have hb : b = g' := by simpa [Value.ownBlock] using he
    subst hb
    have hb := hm.blk
    unfold Blk at hb
    rw [hb] at hh
    injection hh with hh
    injection hh with _ hh
    exact hne hh.symm
theorem own_blk_ne {base g : Nat} {w : World} {e t : TypeId} {cs : Array Value} {size n : Nat} {v : Value} {xs : List Value} (h : w.ownsRow base e size v n xs) (hg : Blk w g t cs) (hne : e ≠ t) : some g ≠ v.ownBlock := by
  rcases h.2 with ⟨rfl, _⟩ | ⟨g', cap, cur, rfl, _, hh, _⟩
  · simp [Value.ownBlock]
  · intro he
    have hb : g = g' := by simpa [Value.ownBlock] using he
    subst hb
    unfold Blk at hg
    rw [hg] at hh
    injection hh with hh
    injection hh with _ hh
    exact hne hh.symm
theorem map_blk_ne {w : World} {b n g : Nat} {t : Nat → Bool} {e : TypeId} {cs : Array Value} (hm : MapAt w b n t) (hg : Blk w g e cs) (hne : e ≠ 58) : g ≠ b := by
  rintro rfl
  have hb := hm.blk
  unfold Blk at hb hg
  rw [hb] at hg
  injection hg with hg
  injection hg with _ hg
  exact hne hg.symm
section
variable {w w' : World} {B p c n : Nat} {A : Option Addr} {t : Nat → Bool}
theorem RefAt.cell0 (h : RefAt w B p A c n t) : w.cell? ⟨p, 0, none⟩ = some (.slice A n c) := (h.blk.cell 0).trans rfl
theorem RefAt.drewN (h : RefAt w B p A c n t) (k : Nat) : RefAt (w.drewN k) B p A c n t := ⟨h.blk, h.row, h.le, h.low⟩
theorem RefAt.later (h : RefAt w B p A c n t) (hb : Below w.heap.size w w') : RefAt w' B p A c n t := ⟨h.blk.below hb h.blk.lt, own_later h.row hb, h.le, h.low⟩
theorem RefAt.grown {r : Option Nat} (h : RefAt w B p A c n t) (hg : w.grownBy w' r) (h1 : some p ≠ r) (h2 : (Value.slice A n c).ownBlock = none ∨ (Value.slice A n c).ownBlock ≠ r) : RefAt w' B p A c n t :=
  ⟨h.blk.grown hg h1, h.row.kept hg h2, h.le, h.low⟩
/-- A map of the program's own changes. -/
theorem RefAt.map {b m : Nat} {s : Nat → Bool} (h : RefAt w B p A c n t) (hm : MapAt w b m s) (hg : w.grownBy w' (some b)) : RefAt w' B p A c n t :=
  h.grown hg (fun e => map_blk_ne hm h.blk (by decide) (by injection e)) (.inr (fun e => own_map_ne h.row hm (by decide) e.symm))
theorem RefAt.mono {B' : Nat} (h : RefAt w B p A c n t) (hB : B' ≤ B) : RefAt w B' p A c n t := ⟨h.blk, own_mono h.row hB, h.le, Nat.le_trans hB h.low⟩
theorem RefAt.room (h : RefAt w B p A c n t) : n ≤ c ∧ c ≤ 9223372036854775807 := by
  obtain ⟨A', c', he, h1, h2⟩ := own_shape h.row
  injection he with _ _ h3
  subst h3
  unfold maxLen at h2
  exact ⟨h1, h2⟩
/-- Another row than that of a map that was there already. -/
theorem RefAt.apart {p' c' n' B' : Nat} {A' : Option Addr} {t' : Nat → Bool} (h : RefAt w B p A c n t) (h' : RefAt w' B' p' A' c' n' t') (hB : w.heap.size ≤ B') : (Value.slice A' n' c').ownBlock = none ∨ (Value.slice A' n' c').ownBlock ≠ (Value.slice A n c).ownBlock := by
  cases hb : (Value.slice A' n' c').ownBlock with
  | none => exact .inl rfl
  | some k =>
    refine .inr fun e => ?_
    have h1 := (h'.row.lt k hb).1
    have h2 := (h.row.lt k e.symm).2
    omega
end

section
variable {B p c n : Nat} {A : Option Addr} {t : Nat → Bool} {w : World}
theorem rhas_below (i : Int) (hi : i < 0) :
    Calls Tryd.prog 31 #[.pointer (some ⟨p, 0, none⟩), .int .i64 i] w fun e w' => e = .returned (.bool false) ∧ w = w' := by
  have hd : decide ((0 : Int) ≤ i) = false := by simp; omega
  go_enter Tryd.func31, Tryd.ntmps31
  go_wp2
  go_ret
  exact ⟨rfl, rfl⟩
theorem rhas_nat (i : Nat) (hm : RefAt w B p A c n t) (ho : ∀ i, n ≤ i → t i = false) :
    Calls Tryd.prog 31 #[.pointer (some ⟨p, 0, none⟩), .int .i64 (i : Int)] w fun e w' => e = .returned (.bool (t i)) ∧ w = w' := by
  have h0 := hm.cell0
  have hl := hm.le
  by_cases hi : i < n
  · have hd : decide (i < n) = true := by simpa using hi
    obtain ⟨g, rfl⟩ := own_at hm.row (by omega)
    have hc := (hm.row.cellAt i (by omega)).trans (BL_at n t hi)
    go_enter Tryd.func31, Tryd.ntmps31
    go_wp2
    go_ret
    exact ⟨rfl, rfl⟩
  · have hd : decide (i < n) = false := by simpa using hi
    rw [ho i (by omega)]
    go_enter Tryd.func31, Tryd.ntmps31
    go_wp2
    go_ret
    exact ⟨rfl, rfl⟩
set_option maxHeartbeats 400000 in
theorem rcount_any (hm : RefAt w B p A c n t) :
    Calls Tryd.prog 19 #[.pointer (some ⟨p, 0, none⟩)] w fun e w' => e = .returned (.int .i64 (cnt t n)) ∧ w = w' := by
  have h0 := hm.cell0
  have hl := hm.le
  go_enter Tryd.func19, Tryd.ntmps19
  go_wp2
  go_loop [3, 4] (fun s a => ∃ k v : Nat, k ≤ n ∧ v ≤ k ∧ a = .int .i64 (k : Int) ∧ s = .int .i64 (v : Int) ∧ Hid (v = cnt t k)) (fun _ a => n - (intOf a).toNat)
  case atStart => exact ⟨0, 0, by omega, by omega, rfl, rfl, hide rfl⟩
  case round =>
    obtain ⟨k, v, hk, hv, rfl, rfl, HR⟩ := hrel
    by_cases hlt : k < n
    · obtain ⟨g, rfl⟩ := own_at hm.row (by omega)
      have hc := (hm.row.cellAt k (by omega)).trans (BL_at n t hlt)
      cases htk : t k
      · have HV : Hid (v = cnt t (k + 1)) := by show _ = _; rw [cnt, htk, ← HR.out]; rfl
        rw [htk] at hc
        clear htk
        go_wp2
        go_round
        case rel => exact ⟨k + 1, v, by omega, by omega, by go_num, rfl, HV⟩
        case measure => simp [intOf]; omega
      · have HV : Hid (v + 1 = cnt t (k + 1)) := by show _ = _; rw [cnt, htk, ← HR.out]; rfl
        rw [htk] at hc
        clear htk
        go_wp2
        go_round
        case rel => exact ⟨k + 1, v + 1, by omega, by omega, by go_num, by go_num, HV⟩
        case measure => simp [intOf]; omega
    · have HV : Hid (v = cnt t n) := by show _ = _; rw [HR.out]; congr 1; omega
      go_wp2
      go_ret
      exact ⟨by rw [← HV.out]; rfl, rfl⟩
set_option maxHeartbeats 400000 in
theorem rnext_any (fi : Int) (hm : RefAt w B p A c n t) :
    Calls Tryd.prog 30 #[.pointer (some ⟨p, 0, none⟩), .int .i64 fi] w fun e w' => NextAns t n fi.toNat e ∧ w = w' := by
  have h0 := hm.cell0
  have hl := hm.le
  go_enter Tryd.func30, Tryd.ntmps30
  go_wp2
  go_loop [6] (fun a => ∃ k : Nat, k ≤ n ∧ a = .int .i64 (k : Int) ∧ Hid (∀ i, fi.toNat ≤ i → i < k → t i = true)) (fun a => n - (intOf a).toNat)
  case atStart => exact ⟨0, by omega, rfl, hide (fun i h1 h2 => by omega)⟩
  case round =>
    obtain ⟨k, hk, rfl, HR⟩ := hrel
    by_cases hlt : k < n
    · by_cases hge : fi ≤ (k : Int)
      · have hd : decide (fi ≤ (k : Int)) = true := by simpa using hge
        obtain ⟨g, rfl⟩ := own_at hm.row (by omega)
        have hc := (hm.row.cellAt k (by omega)).trans (BL_at n t hlt)
        cases htk : t k
        · have HA : Hid (NextIs t n fi.toNat k true) := .inl ⟨rfl, by omega, hlt, htk, HR.out⟩
          rw [htk] at hc
          clear htk
          go_wp2
          go_ret2
          exact ⟨⟨k, true, rfl, HA.out⟩, rfl⟩
        · have HV : Hid (∀ i, fi.toNat ≤ i → i < k + 1 → t i = true) := by
            intro i h1 h2
            by_cases e : i = k
            · subst e; exact htk
            · exact HR.out i h1 (by omega)
          rw [htk] at hc
          clear htk
          go_wp2
          go_round
          case rel => exact ⟨k + 1, by omega, by go_num, HV⟩
          case measure => simp [intOf]; omega
      · have hd : decide (fi ≤ (k : Int)) = false := by simpa using hge
        have HV : Hid (∀ i, fi.toNat ≤ i → i < k + 1 → t i = true) := fun i h1 h2 => by omega
        go_wp2
        go_round
        case rel => exact ⟨k + 1, by omega, by go_num, HV⟩
        case measure => simp [intOf]; omega
    · have HA : Hid (NextIs t n fi.toNat 0 false) := .inr ⟨rfl, rfl, fun i h1 h2 => HR.out i h1 (by omega)⟩
      go_wp2
      go_ret2
      exact ⟨⟨0, false, rfl, HA.out⟩, rfl⟩
end
#print axioms rnext_any
end Go.Proofs.YtpakipacclmimaaDoor
