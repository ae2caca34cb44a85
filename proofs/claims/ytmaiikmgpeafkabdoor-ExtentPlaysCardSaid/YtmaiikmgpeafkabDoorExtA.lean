/- What Add of extent does. -/
import Derived.Test.YtmaiikmgpeafkabDoorExtU
import Derived.Deep.RegionWith
namespace Go.Proofs.YtmaiikmgpeafkabDoor
open Go.RowKit

/-- What Add answers. -/
def addE (S : Ext) (d s : Int) : Int := if d < 0 ∨ s < 0 ∨ 4096 < s then 1 else if inE S d then 9 else 0
def Ext.more (S : Ext) (d s : Int) : Ext := if addE S d s = 0 then S.add d.toNat (countZ s) else S
section
variable {b x : Nat} {q : Nat → Nat} {S : Ext} {w : World}
theorem extF_add (ks : List Nat) (q : Nat → Nat) (d g : Nat) : ∀ k, upd (extF ks q) d (some (.pointer (some ⟨g, 0, none⟩))) k = extF (ks ++ [d]) (upd q d g) k := by
  intro k
  by_cases e : k = d
  · subst e
    rw [upd_self, extF_in (by simp), upd_self]
  · rw [upd_ne _ _ e]
    unfold extF
    rw [upd_ne _ _ e]
    simp [e]
/-- A new member is laid. -/
theorem ExtIn.add {w1 w2 : World} (h : ExtIn w b x q S) {d g n : Nat} (hd : d ∉ S.ks) (hg : w.heap.size ≤ g) (hb : Below w.heap.size w w1) (hm : MapAt w1 g n (fun _ => false)) (hx : MapIs w2 x (upd (extF S.ks q) d (some (.pointer (some ⟨g, 0, none⟩))))) (hgr : w1.grownBy w2 (some x)) :
    ExtIn w2 b x (upd q d g) (S.add d n) := by
  have h1 := h.later hb
  refine ⟨h1.head.grown hgr (fun e => h.x_ne_b (by injection e with e; exact e.symm)), hx.congr (extF_add _ _ _ _), fun e he => ?_, fun e he f hf hq => ?_⟩
  · show MapAt w2 (upd q d g e) (upd S.n d n e) (upd S.t d (fun _ => false) e)
    by_cases hed : e = d
    · subst hed
      rw [upd_self, upd_self, upd_self]
      exact hm.grown hgr (fun e => by injection e with e; have := h.map.lt; omega)
    · rw [upd_ne _ _ hed, upd_ne _ _ hed, upd_ne _ _ hed]
      have hes : e ∈ S.ks := by
        rcases List.mem_append.1 he with h | h
        · exact h
        · simp at h; exact absurd h hed
      exact (h1.mem e hes).grown hgr (fun e => h1.x_ne_q hes (by injection e with e; exact e.symm))
  · have hin : ∀ e, e ∈ (S.add d n).ks → e ≠ d → e ∈ S.ks := by
      intro e he hed
      rcases List.mem_append.1 he with h | h
      · exact h
      · simp at h; exact absurd h hed
    by_cases hed : e = d
    · by_cases hfd : f = d
      · rw [hed, hfd]
      · rw [hed, upd_self, upd_ne _ _ hfd] at hq
        have := (h.mem f (hin f hf hfd)).lt
        omega
    · by_cases hfd : f = d
      · rw [hfd, upd_self, upd_ne _ _ hed] at hq
        have := (h.mem e (hin e he hed)).lt
        omega
      · rw [upd_ne _ _ hed, upd_ne _ _ hfd] at hq
        exact h.inj e (hin e he hed) f (hin f hf hfd) hq
set_option maxRecDepth 100000 in
set_option maxHeartbeats 1000000 in
theorem extAdd_yes (h : ExtIn w b x q S) (hok : S.Ok) (d : Nat) (s : Int) (h0 : 0 ≤ s) (h1 : s ≤ 4096) (g2 : d < 9223372036854775808) (hd : d ∉ S.ks) :
    Calls Tryd.prog 11 #[.pointer (some ⟨b, 0, none⟩), .int .i64 (d : Int), .int .i64 s] w fun e w' => e = .returned (.int .i64 0) ∧ ∃ g, w.heap.size ≤ g ∧ g < w'.heap.size ∧ ExtIn w' b x (upd q d g) (S.add d (countZ s)) ∧ Turn (EFoot b x q S) w w' := by
  have HH := hide h
  have hk0 := h.c0
  have hin : inE S (d : Int) = false := by simp [inE, hd]
  have HL := hide (by have hl := h.look (d : Int) (by omega) (by omega); rw [lookV_out hin] at hl; exact hl)
  have hlb := h.head.lt
  have hcl := countZ_le h1
  have hcz : clamp ((countZ s : Nat) : Int) = countZ s := by unfold clamp; omega
  have HCZ := hide hcz
  have HD := hide hd
  have HOK := hide hok
  clear hin h hcz hd
  go_enter Tryd.func11, Tryd.ntmps11
  go_wp2_with (first
    | (refine wpList_look rfl 42 (.tmp 23) (.tmp 24) true rfl (.map (some x)) (.int .i64 (d : Int)) rfl rfl _ HL.out ?_))
  have k0d : w.drew.cell? ⟨b, 0, none⟩ = some (.map (some x)) := hk0
  have HN : Hid (Calls Tryd.prog 31 #[.int .i64 ((countZ s : Nat) : Int)] w.drew fun e w' => e = .returned (.pointer (some ⟨w.heap.size, 0, none⟩)) ∧ MapAt w' w.heap.size (countZ s) (fun _ => false) ∧ Below w.heap.size w w') := hide ((new_any ((countZ s : Nat) : Int) w.drew).mono (by rw [HCZ.out]; exact fun e w' ⟨h1, h2, h3⟩ => ⟨h1, h2, ((Below.refl _ w).drew).trans h3⟩))
  clear HL
  go_region_with (first
    | (go_at_call 14; refine (extCount_any s (by omega) (by omega)).mono ?_; rintro _ _ ⟨rfl, rfl⟩)
    | (go_at_call 31; refine HN.out.mono ?_; rintro _ w2 ⟨rfl, hm2, hl2⟩; have k2 : w2.cell? ⟨b, 0, none⟩ = some (.map (some x)) := (hl2.cell (p := ⟨b, 0, none⟩) hlb).trans hk0; obtain ⟨w3, hrun, hm3, hg3⟩ := ((HH.out.map).below hl2 HH.out.map.lt).put Tryd.underlying42 g2 (.pointer (some ⟨w.heap.size, 0, none⟩)) HOK.out.nodup (extF_mem _ _) (by have := HOK.out.few; omega)))
  all_goals
    have hs2 := hl2.size
    have hml := hm2.lt
    have hs3 := hg3.size
    have hfin := HH.out.add HD.out (Nat.le_refl _) hl2 hm2 hm3 hg3
    have hturn : Turn (EFoot b x q S) w w3 := (Turn.of_below hl2).grown hg3 (fun g e => by injection e with e; subst e; exact .inl (.inr (.inl rfl)))
    have HFI := hide hfin
    have HTU := hide hturn
    clear hfin hturn hm2 hm3 hg3 hl2 hrun
    go_wp2
    go_ret
    exact ⟨rfl, w.heap.size, Nat.le_refl _, by omega, HFI.out, HTU.out⟩
set_option maxRecDepth 100000 in
theorem extAdd_bad (d s : Int) (h : d < 0 ∨ s < 0 ∨ 4096 < s) :
    Calls Tryd.prog 11 #[.pointer (some ⟨b, 0, none⟩), .int .i64 d, .int .i64 s] w fun e w' => e = .returned (.int .i64 1) ∧ w = w' := by
  go_enter Tryd.func11, Tryd.ntmps11
  go_wp2
  all_goals first
    | (exfalso; omega)
    | (go_ret; exact ⟨rfl, rfl⟩)
set_option maxRecDepth 100000 in
theorem extAdd_old (h : ExtIn w b x q S) (d : Nat) (s : Int) (h0 : 0 ≤ s) (h1 : s ≤ 4096) (g2 : d < 9223372036854775808) (hd : d ∈ S.ks) :
    Calls Tryd.prog 11 #[.pointer (some ⟨b, 0, none⟩), .int .i64 (d : Int), .int .i64 s] w fun e w' => e = .returned (.int .i64 9) ∧ w = w' := by
  have hk0 := h.c0
  have HL := hide (by have hl := h.look (d : Int) (by omega) (by omega); rw [lookV_in hd] at hl; exact hl)
  clear h hd
  go_enter Tryd.func11, Tryd.ntmps11
  go_wp2_with (first
    | (refine wpList_look rfl 42 (.tmp 23) (.tmp 24) true rfl (.map (some x)) (.int .i64 (d : Int)) rfl rfl _ HL.out ?_))
  go_ret
  exact ⟨rfl, rfl⟩
end

/-! ### The calls, of a map that lies in the blocks of F -/
section
variable {w : World} {b : Nat} {F : Nat → Prop} {S : Ext}
/-- The blocks of F, and new ones. -/
def Grew (F : Nat → Prop) (w w' : World) : Nat → Prop := fun y => F y ∨ (w.heap.size ≤ y ∧ y < w'.heap.size)
theorem on_new (w : World) (hw : 0 < w.heap.size) : Calls Tryd.prog 5 #[] w fun e w' => e = .returned (.pointer (some ⟨w.heap.size + 1, 0, none⟩)) ∧ ExtOn w' (w.heap.size + 1) (fun y => w.heap.size ≤ y ∧ y < w.heap.size + 2) Ext.none_ ∧ Below w.heap.size w w' ∧ w'.heap.size = w.heap.size + 2 := by
  refine (extNew_any w).mono fun e w' ⟨h1, h2, h3, h4⟩ => ⟨h1, ⟨fun y hy => by omega, Ext.ok_none, _, (fun _ => 0), h2 _, ?_⟩, h3, h4⟩
  rintro y (rfl | rfl | ⟨d, hd, _⟩)
  · omega
  · omega
  · cases hd
theorem on_add (h : ExtOn w b F S) (hf : S.ks.length < 999999) (d s : Int) (g1 : -9223372036854775808 ≤ d) (g2 : d < 9223372036854775808) :
    Calls Tryd.prog 11 #[.pointer (some ⟨b, 0, none⟩), .int .i64 d, .int .i64 s] w fun e w' => e = .returned (.int .i64 (addE S d s)) ∧ ExtOn w' b (Grew F w w') (S.more d s) ∧ Turn F w w' := by
  obtain ⟨h1, hok, x, q, hin, hfoot⟩ := h
  have hsame : ∀ w', w = w' → ExtOn w' b (Grew F w w') S := by
    rintro w' rfl
    exact ⟨fun y hy => by rcases hy with hy | hy; exact h1 y hy; omega, hok, x, q, hin, fun y hy => .inl (hfoot y hy)⟩
  by_cases hb : d < 0 ∨ s < 0 ∨ 4096 < s
  · have e1 : addE S d s = 1 := by unfold addE; rw [if_pos hb]
    have e2 : S.more d s = S := by unfold Ext.more; rw [e1]; rfl
    rw [e1, e2]
    refine (extAdd_bad d s hb).mono fun e w' ⟨k1, k2⟩ => ⟨k1, hsame w' k2, ?_⟩
    subst k2
    exact Turn.refl _ _
  · obtain ⟨m, rfl⟩ := Int.eq_ofNat_of_zero_le (show 0 ≤ d by omega)
    by_cases hm : m ∈ S.ks
    · have e1 : addE S (m : Int) s = 9 := by unfold addE; rw [if_neg hb, inE_of hm]; rfl
      have e2 : S.more (m : Int) s = S := by unfold Ext.more; rw [e1]; rfl
      rw [e1, e2]
      refine (extAdd_old hin m s (by omega) (by omega) (by omega) hm).mono fun e w' ⟨k1, k2⟩ => ⟨k1, hsame w' k2, ?_⟩
      subst k2
      exact Turn.refl _ _
    · have hi : inE S (m : Int) = false := by simp [inE, hm]
      have e1 : addE S (m : Int) s = 0 := by unfold addE; rw [if_neg hb, hi]; rfl
      have e2 : S.more (m : Int) s = S.add m (countZ s) := by unfold Ext.more; rw [e1]; rfl
      rw [e1, e2]
      refine (extAdd_yes hin hok m s (by omega) (by omega) (by omega) hm).mono fun e w' ⟨k1, g, k2, k3, k4, k5⟩ => ⟨k1, ⟨fun y hy => ?_, hok.add hm (by omega) hf (countZ_le (by omega)), x, _, k4, fun y hy => ?_⟩, k5.wider hfoot⟩
      · have := k5.size
        have := hin.head.lt
        rcases hy with hy | hy
        · have := h1 y hy
          omega
        · omega
      · rcases hy with rfl | rfl | ⟨e, he, rfl⟩
        · exact .inl (hfoot _ (.inl rfl))
        · exact .inl (hfoot _ (.inr (.inl rfl)))
        · by_cases hem : e = m
          · subst hem
            rw [upd_self]
            exact .inr ⟨k2, k3⟩
          · rw [upd_ne _ _ hem]
            refine .inl (hfoot _ (.inr (.inr ⟨e, ?_, rfl⟩)))
            rcases List.mem_append.1 he with h | h
            · exact h
            · simp at h; exact absurd h hem
theorem on_take (h : ExtOn w b F S) (hT : Tab w) (d : Int) (g1 : -9223372036854775808 ≤ d) (g2 : d < 9223372036854775808) :
    Calls Tryd.prog 12 #[.pointer (some ⟨b, 0, none⟩), .int .i64 d] w fun e w' => ∃ v S', e = .returned v ∧ TakeE S d v S' ∧ ExtOn w' b F S' ∧ Turn F w w' := by
  obtain ⟨h1, hok, x, q, hin, hfoot⟩ := h
  refine (extTake_any hin hT hok d g1 g2).mono fun e w' ⟨v, S', k1, k2, k3, k4⟩ => ⟨v, S', k1, k2, ⟨fun y hy => ⟨(h1 y hy).1, Nat.lt_of_lt_of_le (h1 y hy).2 k4.size⟩, ?_, x, q, k3, ?_⟩, k4.wider hfoot⟩
  · rcases k2 with ⟨_, _, rfl⟩ | ⟨_, _, _, _, _, rfl⟩ | ⟨m, k, _, _, _, _, _, _, rfl⟩
    · exact hok
    · exact hok
    · exact hok.setT _ _
  · rcases k2 with ⟨_, _, rfl⟩ | ⟨_, _, _, _, _, rfl⟩ | ⟨m, k, _, _, _, _, _, _, rfl⟩
    · exact hfoot
    · exact hfoot
    · exact hfoot
theorem on_used (h : ExtOn w b F S) (d : Int) (g1 : -9223372036854775808 ≤ d) (g2 : d < 9223372036854775808) :
    Calls Tryd.prog 27 #[.pointer (some ⟨b, 0, none⟩), .int .i64 d] w fun e w' => e = .returned (.int .i64 ((usedE S d : Nat) : Int)) ∧ w = w' := by
  obtain ⟨_, _, x, q, hin, _⟩ := h
  exact used_any hin d g1 g2
theorem on_room (h : ExtOn w b F S) (d : Int) (g1 : -9223372036854775808 ≤ d) (g2 : d < 9223372036854775808) :
    Calls Tryd.prog 29 #[.pointer (some ⟨b, 0, none⟩), .int .i64 d] w fun e w' => e = .returned (.int .i64 ((roomE S d : Nat) : Int)) ∧ w = w' := by
  obtain ⟨_, _, x, q, hin, _⟩ := h
  exact room_any hin d g1 g2
end
#print axioms on_add
end Go.Proofs.YtmaiikmgpeafkabDoor
