/- A log of metalog in memory: New, Room, Next, Append; the laws' contracts. -/
import Derived.Test.YtmjdndhpnckeeaaWhen
import Derived.WalkSpells
import Derived.Test.YtmjdndhpnckeeaaPut
import Derived.Test.YtmjdndhpnckeeaaArgI
import Derived.Test.YtmjdndhpnckeeaaJouM
import Derived.Test.YtmjdndhpnckeeaaMjA
import Derived.Test.YtmjdndhpnckeeaaSpr
import Derived.Test.YtmjdndhpnckeeaaStepK
import Derived.Test.YtmjdndhpnckeeaaBank
import Derived.Test.YtmjdndhpnckeeaaPoke
import Derived.Test.YtmjdndhpnckeeaaRecS
import Derived.StillTailTactics
import Derived.Test.YtmjdndhpnckeeaaJouC
import Derived.Test.YtmjdndhpnckeeaaMjS
namespace Go.Proofs.Ytmjdndhpnckeeaa
open Go.RowKit
set_option maxHeartbeats 1000000 in
theorem cloneI_any (A : Option Addr) (n c : Nat) (l : List Int) (B0 : Nat) (w : World) (hr : Reads w B0 1 A n (I64 l)) (hB0 : B0 ≤ w.heap.size) (hn : n ≤ 1000000) :
    Calls Try.prog 33 #[.slice A n c] w fun e w' => ∃ v, e = .returned v ∧ w'.ownsRow w.heap.size 3 1 v n (I64 l) ∧ Below w.heap.size w w' := by
  obtain ⟨i0, hi0, hz0, hz1, hz2⟩ := info_parts int_parts
  cases A with
  | none =>
    have hn0 : n = 0 := by
      rcases Nat.eq_zero_or_pos n with h0 | h0
      · exact h0
      · obtain ⟨ad, h, _⟩ := hr.2 h0
        cases h
    subst hn0
    have hx : I64 l = [] := List.eq_nil_of_length_eq_zero (by simpa using hr.1)
    have hq := fun (w : World) => Lib.run_eql_slice_nil (P := Try.prog) w 27 3 none 0 c 0 0 Try.underlying27
    have H := hide hx
    clear hx hr
    go_enter Try.func33, Try.ntmps33
    go_wp2
    go_ret
    exact ⟨_, rfl, by rw [H.out]; exact World.ownsRow_nil _ _ _ _, Below.refl _ _⟩
  | some ad =>
    have hq := fun (w : World) => Lib.run_eql_slice_nil (P := Try.prog) w 27 3 (some ad) n c 0 0 Try.underlying27
    have h63 : 0 + n ≤ maxLen := by simp only [maxLen]; omega
    have hm2 : (0 + n) * 8 ≤ 140737488355328 := by omega
    have HR := hide hr
    have h1 : ∀ u ∈ I64 l, u.oneCell' = true := by
      intro u hu
      obtain ⟨x, _, rfl⟩ := List.mem_map.1 hu
      rfl
    have H1 := hide h1
    clear hr h1
    go_enter Try.func33, Try.ntmps33
    go_wp2_with (at_builtin; refine wpList_append_any _ rfl (.tmp 5) (.tmp 6) _ rfl w.heap.size 3 i0 _ 1 8 Try.underlying27 hi0 hz0 hz1 hz2 rfl (by omega) _ 0 [] rfl (World.ownsRow_made w #[] 0 (Nat.le_refl _) (Nat.zero_le _) rfl) B0 (some ad) n c (I64 l) rfl (HR.out.alloc hB0 _) H1.out h63 hm2 (le_alloc (Nat.le_refl _) _) ?_; intro v1 w1 hown1 hbel1)
    go_ret
    exact ⟨_, rfl, by simpa using hown1, ((Below.refl _ _).alloc (Nat.le_refl _) _).trans hbel1⟩
#print axioms cloneI_any
/-- A log's cells. -/
def logC (b : Nat) (A : Option Addr) (n c : Nat) (V : LogV) : List Value := [.pointer (some ⟨b, 0, none⟩), .slice A n c, .int .i64 V.gen, .int .i64 (V.num : Int), .int .i64 (V.at_ : Int), .bool V.ended]
section
variable {w w' : World} {p b n c : Nat} {A : Option Addr} {V : LogV} {T : TypeId}
theorem log_c0 (h : Blk w p T (logC b A n c V).toArray) : w.cell? ⟨p, 0, none⟩ = some (.pointer (some ⟨b, 0, none⟩)) := h.cell 0
theorem log_c1 (h : Blk w p T (logC b A n c V).toArray) : w.cell? ⟨p, 1, none⟩ = some (.slice A n c) := h.cell 1
theorem log_c2 (h : Blk w p T (logC b A n c V).toArray) : w.cell? ⟨p, 2, none⟩ = some (.int .i64 V.gen) := h.cell 2
theorem log_c3 (h : Blk w p T (logC b A n c V).toArray) : w.cell? ⟨p, 3, none⟩ = some (.int .i64 (V.num : Int)) := h.cell 3
theorem log_c4 (h : Blk w p T (logC b A n c V).toArray) : w.cell? ⟨p, 4, none⟩ = some (.int .i64 (V.at_ : Int)) := h.cell 4
theorem log_c5 (h : Blk w p T (logC b A n c V).toArray) : w.cell? ⟨p, 5, none⟩ = some (.bool V.ended) := h.cell 5
end
/-- A log in memory: its own block, and that of its row of members. -/
def LogOn (w : World) (p : Nat) (G : Nat → Prop) (b : Nat) (V : LogV) : Prop :=
  ∃ (A : Option Addr) (n c : Nat), Blk w p 67 (logC b A n c V).toArray ∧ Reads w w.heap.size 1 A n (I64 (V.live.map Int.ofNat)) ∧ n ≤ c ∧ c ≤ 9223372036854775807 ∧ G p ∧ (∀ x, G x → x < w.heap.size) ∧ (∀ ad, A = some ad → G ad.block ∧ ad.block ≠ p)
theorem LogOn.kept {w w' : World} {p b : Nat} {G T : Nat → Prop} {V : LogV} (h : LogOn w p G b V) (hT : Turn T w w') (ha : ∀ x, G x → ¬ T x) : LogOn w' p G b V := by
  obtain ⟨A, n, c, h1, h2, h3, h4, h5, h6, h7⟩ := h
  refine ⟨A, n, c, h1.of_block (hT.block p h1.lt (ha p h5)), ⟨h2.1, fun h0 => ?_⟩, h3, h4, h5, fun x hx => Nat.lt_of_lt_of_le (h6 x hx) hT.size, h7⟩
  obtain ⟨ad, e, hb, hc⟩ := h2.2 h0
  refine ⟨ad, e, Nat.lt_of_lt_of_le hb hT.size, fun j u hu => ?_⟩
  exact (World.cell?_of_block (hT.block _ (by rw [block_of_add]; exact hb) (by rw [block_of_add]; exact ha _ (h7 ad e).1))).trans (hc j u hu)
theorem LogOn.own {w : World} {p b : Nat} {G : Nat → Prop} {V : LogV} (h : LogOn w p G b V) : G p ∧ ∀ x, G x → x < w.heap.size := by
  obtain ⟨A, n, c, _, _, _, _, h5, h6, _⟩ := h
  exact ⟨h5, h6⟩
theorem mroom_any (w : World) (p b : Nat) (G : Nat → Prop) (V : LogV) (h : LogOn w p G b V) (ha : V.at_ ≤ 48) : Calls Try.prog 24 #[.pointer (some ⟨p, 0, none⟩)] w fun e w' => e = .returned (.int .i64 ((48 - V.at_ : Nat) : Int)) ∧ w = w' := by
  obtain ⟨A, n, c, h1, _⟩ := h
  have y4 := log_c4 h1
  clear h1
  go_enter Try.func24, Try.ntmps24
  go_wp2
  go_ret
  exact ⟨ret_of (by omega), rfl⟩
theorem mnext_any (w : World) (p b : Nat) (G : Nat → Prop) (V : LogV) (h : LogOn w p G b V) : Calls Try.prog 25 #[.pointer (some ⟨p, 0, none⟩)] w fun e w' => e = .returned (.int .i64 ((V.num : Nat) : Int)) ∧ w = w' := by
  obtain ⟨A, n, c, h1, _⟩ := h
  have y3 := log_c3 h1
  clear h1
  go_enter Try.func25, Try.ntmps25
  go_wp2
  go_ret
  exact ⟨rfl, rfl⟩
theorem built_log (b : Nat) (A : Option Addr) (n c : Nat) (gen : Int) : Try.prog.built 67 [(0, .pointer (some ⟨b, 0, none⟩)), (1, .slice A n c), (2, .int .i64 gen)] = some (logC b A n c ⟨[], gen, 0, 0, false⟩).toArray := by kernel_rfl
set_option maxRecDepth 100000 in
theorem mnew_any (w : World) (b : Nat) (A : Option Addr) (n c : Nat) (live : List Nat) (gen : Int) (hr : Reads w w.heap.size 1 A n (I64 (live.map Int.ofNat))) (hn : n ≤ 5) :
    Calls Try.prog 15 #[.pointer (some ⟨b, 0, none⟩), .slice A n c, .int .i64 gen] w fun e w' => ∃ (p : Nat) (G : Nat → Prop), e = .returned (.pointer (some ⟨p, 0, none⟩)) ∧ LogOn w' p G b ⟨live, gen, 0, 0, false⟩ ∧ w.heap.size ≤ p ∧ (∀ x, G x → w.heap.size ≤ x) ∧ Below w.heap.size w w' := by
  have HC := hide (cloneI_any A n c (live.map Int.ofNat) w.heap.size w hr (Nat.le_refl _) (by omega))
  clear hr
  go_enter Try.func15, Try.ntmps15
  go_wp2_with (first
    | (go_at_call 33; refine HC.out.mono ?_; rintro _ w1 ⟨v, rfl, hown, hl1⟩; obtain ⟨A1, c1, rfl, hc1, hc2⟩ := own_shape hown)
    | ((with_reducible refine at_slot 11 ?_); refine wpList_build_is rfl 67 _ rfl _ rfl _ (built_log _ _ _ _ _) ?_)
    | ((with_reducible refine at_slot 12 ?_); refine wpList_box_blk rfl 67 _ rfl (.agg (logC b A1 n c1 ⟨[], gen, 0, 0, false⟩).toArray) rfl ?_; intro w2 hb2 hl2 hs2))
  go_ret
  have hb2' : Blk w2 w1.heap.size 67 (logC b A1 n c1 ⟨live, gen, 0, 0, false⟩).toArray := hb2
  have hz1 := hl1.size
  refine ⟨w1.heap.size, fun x => x = w1.heap.size ∨ ∃ ad, A1 = some ad ∧ x = ad.block, rfl, ⟨A1, n, c1, hb2', (Reads.of_own hown).later hl2, hc1, hc2, .inl rfl, ?_, ?_⟩, hz1, ?_, hl1.trans (hl2.mono hz1)⟩
  · rintro x (rfl | ⟨ad, e, rfl⟩)
    · exact hb2.lt
    · have := (hown.lt ad.block (by rw [e]; rfl)).2
      omega
  · intro ad e
    have := (hown.lt ad.block (by rw [e]; rfl)).2
    exact ⟨.inr ⟨ad, e, rfl⟩, by omega⟩
  · rintro x (rfl | ⟨ad, e, rfl⟩)
    · exact hz1
    · exact (hown.lt ad.block (by rw [e]; rfl)).1
#print axioms mnew_any
theorem LogOn.set {w : World} {p b : Nat} {G : Nat → Prop} {V : LogV} (h : LogOn w p G b V) (i : Nat) (u : Value) (V' : LogV) (he : ∀ A n c, (logC b A n c V).toArray.setIfInBounds i u = (logC b A n c V').toArray) (hlive : V'.live = V.live) : LogOn (w.setCell ⟨p, i, none⟩ u) p G b V' := by
  obtain ⟨A, n, c, h1, h2, h3, h4, h5, h6, h7⟩ := h
  have hT := Turn.set (F := fun x => x = p) (Turn.refl _ w) (⟨p, i, none⟩ : Addr) (.inl rfl) u
  refine ⟨A, n, c, ?_, ?_, h3, h4, h5, fun x hx => Nat.lt_of_lt_of_le (h6 x hx) hT.size, h7⟩
  · have h8 := h1.set_ i u
    rw [he] at h8
    exact h8
  · rw [hlive]
    refine ⟨h2.1, fun h0 => ?_⟩
    obtain ⟨ad, e, hb, hc⟩ := h2.2 h0
    refine ⟨ad, e, Nat.lt_of_lt_of_le hb hT.size, fun j v hv => ?_⟩
    exact (World.cell?_of_block (hT.block _ (by rw [block_of_add]; exact hb) (by rw [block_of_add]; exact (h7 ad e).2))).trans (hc j v hv)
theorem LogOn.cells {w : World} {p b : Nat} {G : Nat → Prop} {V : LogV} (h : LogOn w p G b V) : w.cell? ⟨p, 2, none⟩ = some (.int .i64 V.gen) ∧ w.cell? ⟨p, 3, none⟩ = some (.int .i64 (V.num : Int)) ∧ w.cell? ⟨p, 4, none⟩ = some (.int .i64 (V.at_ : Int)) ∧ w.cell? ⟨p, 5, none⟩ = some (.bool V.ended) ∧ ∀ i, w.frozen? ⟨p, i, none⟩ = false := by
  obtain ⟨A, n, c, h1, _⟩ := h
  exact ⟨log_c2 h1, log_c3 h1, log_c4 h1, log_c5 h1, fun i => h1.frozen i⟩
theorem parts_in (gen nr : Int) (r : List UInt8) : PartsIn (B8 (splitT gen nr r)).toArray (partsS gen nr r) := by
  intro i s hs j v hv
  obtain ⟨hi, he⟩ := partsS_at hs
  have h1 : secAt (splitT gen nr r) i = pieceS gen nr r i := secAt_cat (fun i _ => secT_length _ _) hi
  unfold secL at hv
  rw [he, ← h1] at hv
  have hj : j < 64 := by
    have h2 := (List.getElem?_eq_some_iff.1 hv).1
    rw [B8_length] at h2
    unfold secAt at h2
    rw [List.length_take] at h2
    omega
  unfold secAt at hv
  rw [← B8_take, ← B8_drop, List.getElem?_take, if_pos hj, List.getElem?_drop] at hv
  rw [List.getElem?_toArray]
  exact hv
theorem split_len (n : Nat) : partsN n = 0 ↔ 2120 < n := by
  unfold partsN partsI
  split
  · omega
  · split <;> omega
section
variable {V : LogV} {S : Bank} {r : List UInt8}
theorem app_ended (h : V.ended = true) : appendJ V S r = (9, V, S) := by
  unfold appendJ
  rw [if_pos h]
theorem app_arg (h : V.ended = false) (h2 : ¬ (numB V.gen = true ∧ numB (V.num : Nat) = true ∧ r.length ≤ 2120)) : appendJ V S r = (1, V, S) := by
  unfold appendJ
  rw [if_neg (by rw [h]; decide), if_pos h2]
theorem app_full (h : V.ended = false) (h2 : numB V.gen = true ∧ numB (V.num : Nat) = true ∧ r.length ≤ 2120) (h3 : 48 < V.at_ + partsN r.length) : appendJ V S r = (10, V, S) := by
  unfold appendJ
  rw [if_neg (by rw [h]; decide), if_neg (fun k => k h2), if_pos h3]
theorem app_laid (h : V.ended = false) (h2 : numB V.gen = true ∧ numB (V.num : Nat) = true ∧ r.length ≤ 2120) (h3 : ¬ 48 < V.at_ + partsN r.length) {e : Nat} {T : Bank} (h4 : layAll (2 + V.at_) (partsS V.gen (V.num : Nat) r) V.live S false = (e, T)) :
    appendJ V S r = if e = 0 then (0, { V with at_ := V.at_ + partsN r.length, num := V.num + 1 }, T) else (e, { V with ended := decide (e = 6 ∨ e = 5) }, T) := by
  unfold appendJ
  rw [if_neg (by rw [h]; decide), if_neg (fun k => k h2), if_neg h3, h4]
end
set_option maxRecDepth 100000 in
set_option maxHeartbeats 8000000 in
theorem append_any (w : World) (p b : Nat) (F G : Nat → Prop) (S : Bank) (V : LogV) (A : Option Addr) (n c : Nat) (r : List UInt8) (hW : WritesB b F) (hFl : FlushesB b F) (hB : BankOn w b F S) (hO : LogOn w p G b V) (hap : ∀ x, F x → ¬ G x) (hr : Reads w w.heap.size 1 A n (B8 r)) (hc : n ≤ c) (hc2 : c ≤ 9223372036854775807) (hw : S.writes ≤ 1000000) (h5 : V.live.length ≤ 5) (hat : V.at_ ≤ 48) (hnum : V.num ≤ 48) :
    Calls Try.prog 17 #[.pointer (some ⟨p, 0, none⟩), .slice A n c] w fun e w' => e = .returned (.int .i64 ((appendJ V S r).1 : Int)) ∧ BankOn w' b F (appendJ V S r).2.2 ∧ LogOn w' p G b (appendJ V S r).2.1 ∧ Turn (fun x => F x ∨ x = p) w w' := by
  obtain ⟨y2, y3, y4, y5, yf⟩ := hO.cells
  cases hend : V.ended with
  | true =>
    rw [app_ended hend]
    rw [hend] at y5
    have HB := hide hB
    have HO := hide hO
    clear hr hB hO hW hFl yf
    go_enter Try.func17, Try.ntmps17
    go_wp2
    go_ret
    exact ⟨rfl, HB.out, HO.out, Turn.refl _ _⟩
  | false =>
    rw [hend] at y5
    have HEND := hide hend
    obtain ⟨X, hX⟩ : ∃ X, X = appendJ V S r := ⟨_, rfl⟩
    rw [← hX]
    have hlen : r.length = n := by have := hr.1; rw [B8_length] at this; omega
    have HLEN := hide hlen
    have hbd : Below w.heap.size w w.drew := (Below.refl _ _).drew
    have HB1 := hide (hB.later hbd)
    have HO1 := hide (hO.kept (T := fun _ => False) (Turn.of_below hbd) (fun _ _ h => h))
    have HR1 := hide (hr.later hbd)
    have HBD := hide hbd
    have HAP := hide hap
    have HW := hide hW
    have HFL := hide hFl
    clear hB hO hr hap hW hFl hend hlen hbd yf
    by_cases hok : numB V.gen = true ∧ numB (V.num : Nat) = true
    · have HOK := hide hok
      have HS := hide (recSplit_any V.gen (V.num : Int) A n c r w.drew.heap.size w.drew HR1.out (Nat.le_refl _) hc hc2 hok.1 hok.2)
      have hN40 : partsN r.length ≤ 40 := by
        unfold partsN partsI
        split
        · omega
        · split <;> omega
      clear hok
      by_cases hlong : 2120 < r.length
      · have HX := hide (hX.trans (app_arg HEND.out (fun h => absurd h.2.2 (by omega))))
        rw [(split_len r.length).2 hlong] at HS
        clear hX hN40
        go_enter Try.func17, Try.ntmps17
        go_wp2_with fail
        go_still_tail 9, (by kernel_rfl)
        change wpList _ _ _ _ _ w.drew
        generalize w.drew = w1 at *
        clear y2 y3 y4 y5
        go_wp2_with (go_at_call 35; refine HS.out.mono ?_; rintro _ w2 ⟨g, rfl, hg1, hbg, hl2⟩)
        go_ret
        exact ⟨by rw [HX.out]; rfl, by rw [HX.out]; exact HB1.out.later hl2, by rw [HX.out]; exact HO1.out.kept (T := fun _ => False) (Turn.of_below hl2) (fun _ _ h => h), Turn.of_below (HBD.out.trans (hl2.mono HBD.out.size))⟩
      · have hN0 : partsN r.length ≠ 0 := fun h => absurd ((split_len r.length).1 h) hlong
        have HPL := hide (partsS_length V.gen (V.num : Nat) r)
        have HPI := hide (parts_in V.gen (V.num : Nat) r)
        have HOK3 := hide (show numB V.gen = true ∧ numB (V.num : Nat) = true ∧ r.length ≤ 2120 from ⟨HOK.out.1, HOK.out.2, by omega⟩)
        have HAF := hide (fun (h : 48 < V.at_ + partsN r.length) => hX.trans (app_full HEND.out HOK3.out h))
        have HAL := hide (fun (h : ¬ 48 < V.at_ + partsN r.length) (e : Nat) (T : Bank) (h4 : layAll (2 + V.at_) (partsS V.gen (V.num : Nat) r) V.live S false = (e, T)) => hX.trans (app_laid HEND.out HOK3.out h h4))
        obtain ⟨N, hN⟩ : ∃ N, N = partsN r.length := ⟨_, rfl⟩
        rw [← hN] at HS HPL HAF HAL hN0 hN40
        clear hX hN hlong
        have hN0w : ¬ ((N : Int) = 0) := by omega
        by_cases hfull : 48 < V.at_ + N
        · have HX := hide (HAF.out hfull)
          have hfw : ((48 - V.at_ : Nat) : Int) < (N : Int) := by omega
          go_enter Try.func17, Try.ntmps17
          go_wp2_with fail
          go_still_tail 9, (by kernel_rfl)
          change wpList _ _ _ _ _ w.drew
          generalize w.drew = w1 at *
          clear y2 y3 y4 y5
          go_wp2_with (first
            | (go_at_call 35; refine HS.out.mono ?_; rintro _ w2 ⟨g, rfl, hg1, hbg, hl2⟩; have HO2 := hide (HO1.out.kept (T := fun _ => False) (Turn.of_below hl2) (fun _ _ h => h)))
            | (go_at_call 24; refine (mroom_any w2 p b G V HO2.out hat).mono ?_; rintro _ _ ⟨rfl, rfl⟩))
          go_ret
          exact ⟨by rw [HX.out]; rfl, by rw [HX.out]; exact HB1.out.later hl2, by rw [HX.out]; exact HO2.out, Turn.of_below (HBD.out.trans (hl2.mono HBD.out.size))⟩
        · have hfw : ¬ (((48 - V.at_ : Nat) : Int) < (N : Int)) := by omega
          have herr := layAll_err (2 + V.at_) (partsS V.gen (V.num : Nat) r) V.live S false
          have HLA := hide (fun (w2 : World) (g : Nat) (A1 : Option Addr) (n1 c1 : Nat) (h1 : BankOn w2 b F S) (h2 : Reads w2 w2.heap.size 1 A1 n1 (I64 (V.live.map Int.ofNat))) (h2a : ∀ ad, A1 = some ad → G ad.block ∧ ad.block ≠ p) (h3 : Blk w2 g 51 (B8 (splitT V.gen (V.num : Int) r)).toArray) (h4 : ¬ F g) => spread_any b g F S A1 n1 c1 V.live (2 + V.at_) N N (partsS V.gen (V.num : Nat) r) _ w2 HW.out HFL.out h1 h2 (fun ad e _ hf => HAP.out _ hf (h2a ad e).1) h3 h4 HPI.out HPL.out (by omega) (by omega) hw (by have h6 := h2.1; rw [I64_length, List.length_map] at h6; omega))
          rw [show ((2 + V.at_ : Nat) : Int) = 2 + (V.at_ : Int) by omega] at HLA
          have HAL2 := hide (HAL.out hfull)
          clear HAL HAF
          generalize layAll (2 + V.at_) (partsS V.gen (V.num : Nat) r) V.live S false = C at herr HLA HAL2
          obtain ⟨C1, C2⟩ := C
          have HX := hide (HAL2.out C1 C2 rfl)
          clear HAL2
          by_cases h0 : C1 = 0
          · have HX2 := hide (show X = (0, { V with at_ := V.at_ + N, num := V.num + 1 }, C2) by rw [HX.out, if_pos h0])
            subst h0
            rw [show ((0 : Nat) : Int) = 0 from rfl] at HLA
            clear HX herr
            go_enter Try.func17, Try.ntmps17
            go_wp2_with fail
            go_still_tail 9, (by kernel_rfl)
            change wpList _ _ _ _ _ w.drew
            generalize w.drew = w1 at *
            clear y2 y3 y4 y5
            go_wp2_with (first
              | (go_at_call 35; refine HS.out.mono ?_; rintro _ w2 ⟨g, rfl, hg1, hbg, hl2⟩; have HO2 := hide (HO1.out.kept (T := fun _ => False) (Turn.of_below hl2) (fun _ _ h => h)); have HB2 := hide (HB1.out.later hl2); have hgF : ¬ F g := (fun h => (by have := HB1.out.1 g h; omega)); obtain ⟨AL, nL, cL, hPL, hRL, hnL, hcL, hGp, hGl, hGA⟩ := HO2.out; have x0 := log_c0 hPL; have x1 := log_c1 hPL; have x4 := log_c4 hPL; have HRL := hide hRL; have HGA := hide hGA; have HBG := hide hbg; clear hPL hRL hnL hcL hGp hGl hGA hbg)
              | (go_at_call 24; refine (mroom_any w2 p b G V HO2.out hat).mono ?_; rintro _ _ ⟨rfl, rfl⟩))
            go_still_tail 14, (by kernel_rfl)
            change wpList _ _ _ _ _ w2.drew
            have hdr := (Below.refl w2.heap.size w2).drew
            have HO4 := hide (HO2.out.kept (T := fun _ => False) (Turn.of_below hdr) (fun _ _ h => h))
            have HB4 := hide (HB2.out.later hdr)
            have HR4 := hide (HRL.out.later hdr)
            have HG4 := hide (HBG.out.below hdr HBG.out.lt)
            have HD4 := hide hdr
            clear hdr x0 x1 x4
            generalize w2.drew = w4 at *
            go_wp2_with (go_at_call 36; refine (HLA.out w4 g AL nL cL HB4.out HR4.out HGA.out HG4.out hgF).mono ?_; rintro _ w3 ⟨rfl, hB3, hT3⟩; have HO3 := hide (HO4.out.kept hT3 (fun x hx hf => HAP.out x hf hx)); obtain ⟨z2, z3, z4, z5, zf⟩ := HO3.out.cells; have zf3 := zf 3; have zf4 := zf 4)
            go_ret
            have hpF : ¬ F p := fun h => HAP.out p h HO3.out.own.1
            have hT1 := Turn.set (F := fun x => x = p) (Turn.refl _ w3) (⟨p, 3, none⟩ : Addr) (.inl rfl) (.int .i64 ((V.num : Int) + 1))
            have hT2 := hT1.set (⟨p, 4, none⟩ : Addr) (.inl rfl) (.int .i64 ((V.at_ : Int) + (N : Int)))
            have hO4 := (HO3.out.set 3 (.int .i64 ((V.num : Int) + 1)) { V with num := V.num + 1 } (fun _ _ _ => rfl) rfl).set 4 (.int .i64 ((V.at_ : Int) + (N : Int))) { V with at_ := V.at_ + N, num := V.num + 1 } (fun _ _ _ => rfl) rfl
            refine ⟨(congrArg (fun x : Nat × LogV × Bank => Ending.returned (.int .i64 (x.1 : Int))) HX2.out).symm, by rw [HX2.out]; exact hB3.kept hT2 (fun x hx e => hpF (e ▸ hx)), by rw [HX2.out]; exact hO4, ?_⟩
            exact (((Turn.of_below ((HBD.out.trans (hl2.mono HBD.out.size)).trans (HD4.out.mono (Nat.le_trans HBD.out.size hl2.size)))).trans (hT3.wider (fun x hx => .inl hx))).trans (hT2.wider (fun x hx => .inr hx)))
          · have hne : ((C1 : Int) != 0) = true := by simp; omega
            have HX2 := hide (show X = (C1, { V with ended := true }, C2) by
              rw [HX.out, if_neg h0, decide_eq_true (show C1 = 6 ∨ C1 = 5 by
                have q : C1 = 0 ∨ C1 = 5 ∨ C1 = 6 := herr
                omega)])
            clear HX herr h0
            go_enter Try.func17, Try.ntmps17
            go_wp2_with fail
            go_still_tail 9, (by kernel_rfl)
            change wpList _ _ _ _ _ w.drew
            generalize w.drew = w1 at *
            clear y2 y3 y4 y5
            go_wp2_with (first
              | (go_at_call 35; refine HS.out.mono ?_; rintro _ w2 ⟨g, rfl, hg1, hbg, hl2⟩; have HO2 := hide (HO1.out.kept (T := fun _ => False) (Turn.of_below hl2) (fun _ _ h => h)); have HB2 := hide (HB1.out.later hl2); have hgF : ¬ F g := (fun h => (by have := HB1.out.1 g h; omega)); obtain ⟨AL, nL, cL, hPL, hRL, hnL, hcL, hGp, hGl, hGA⟩ := HO2.out; have x0 := log_c0 hPL; have x1 := log_c1 hPL; have x4 := log_c4 hPL; have HRL := hide hRL; have HGA := hide hGA; have HBG := hide hbg; clear hPL hRL hnL hcL hGp hGl hGA hbg)
              | (go_at_call 24; refine (mroom_any w2 p b G V HO2.out hat).mono ?_; rintro _ _ ⟨rfl, rfl⟩))
            go_still_tail 14, (by kernel_rfl)
            change wpList _ _ _ _ _ w2.drew
            have hdr := (Below.refl w2.heap.size w2).drew
            have HO4 := hide (HO2.out.kept (T := fun _ => False) (Turn.of_below hdr) (fun _ _ h => h))
            have HB4 := hide (HB2.out.later hdr)
            have HR4 := hide (HRL.out.later hdr)
            have HG4 := hide (HBG.out.below hdr HBG.out.lt)
            have HD4 := hide hdr
            clear hdr x0 x1 x4
            generalize w2.drew = w4 at *
            go_wp2_with (go_at_call 36; refine (HLA.out w4 g AL nL cL HB4.out HR4.out HGA.out HG4.out hgF).mono ?_; rintro _ w3 ⟨rfl, hB3, hT3⟩; have HO3 := hide (HO4.out.kept hT3 (fun x hx hf => HAP.out x hf hx)); obtain ⟨z2, z3, z4, z5, zf⟩ := HO3.out.cells; have zf5 := zf 5; clear zf)
            go_ret
            have hpF : ¬ F p := fun h => HAP.out p h HO3.out.own.1
            have hTs := Turn.set (F := fun x => x = p) (Turn.refl _ w3) (⟨p, 5, none⟩ : Addr) (.inl rfl) (.bool true)
            refine ⟨(congrArg (fun x : Nat × LogV × Bank => Ending.returned (.int .i64 (x.1 : Int))) HX2.out).symm, by rw [HX2.out]; exact hB3.kept hTs (fun x hx e => hpF (e ▸ hx)), by rw [HX2.out]; exact HO3.out.set 5 (.bool true) _ (fun _ _ _ => rfl) rfl, ?_⟩
            exact (((Turn.of_below ((HBD.out.trans (hl2.mono HBD.out.size)).trans (HD4.out.mono (Nat.le_trans HBD.out.size hl2.size)))).trans (hT3.wider (fun x hx => .inl hx))).trans (hTs.wider (fun x hx => .inr hx)))
    · have HX := hide (hX.trans (app_arg HEND.out (fun h => hok ⟨h.1, h.2.1⟩)))
      have HS := hide (recSplit_no V.gen (V.num : Int) (.slice A n c) w.drew (by
        cases h1 : numB V.gen with
        | false => exact .inl rfl
        | true =>
          right
          cases h2 : numB (V.num : Int) with
          | false => rfl
          | true => exact absurd ⟨h1, h2⟩ hok))
      clear hX hok
      go_enter Try.func17, Try.ntmps17
      go_wp2_with fail
      go_still_tail 9, (by kernel_rfl)
      change wpList _ _ _ _ _ w.drew
      generalize w.drew = w1 at *
      clear y2 y3 y4 y5
      go_wp2_with (go_at_call 35; refine HS.out.mono ?_; rintro _ _ ⟨rfl, rfl⟩)
      go_ret
      exact ⟨by rw [HX.out]; rfl, by rw [HX.out]; exact HB1.out, by rw [HX.out]; exact HO1.out, Turn.of_below HBD.out⟩
#print axioms append_any
theorem writesB (b : Nat) (F : Nat → Prop) : WritesB b F := fun _ _ h hw d k s => on_write h hw d k s
theorem flushesB (b : Nat) (F : Nat → Prop) : FlushesB b F := fun _ _ h d => on_flush h d
theorem asksB {w : World} {b : Nat} {F : Nat → Prop} {S : Bank} (h : BankOn w b F S) : AsksB w b S := fun _ hb d k => on_read (h.later hb) d k
/-- The contracts of the landed code. -/
def logK : LogK where
  On := LogOn
  kept := fun h hT ha => h.kept hT ha
  own := fun h => h.own
  new_any := fun w b A n c live gen hr _ _ hn => (mnew_any w b A n c live gen hr hn).mono fun _ _ ⟨p, G, he, hO, hp, hG, hl⟩ => ⟨p, G, he, hO, hp, fun x hx => .inl (hG x hx), hl⟩
  append_any := fun w p b F G S V A n c r hB hO hap hr hc hc2 hw h5 hat hnum => Go.Proofs.Ytmjdndhpnckeeaa.append_any w p b F G S V A n c r (writesB b F) (flushesB b F) hB hO hap hr hc hc2 hw h5 hat hnum
  scan_any := fun w b F S A n c live gen hB hup hr _ _ hn hv => Go.Proofs.Ytmjdndhpnckeeaa.scan_any A n c live b S gen w (asksB hB) hr ⟨hup, hv⟩ (by omega)
  room_any := fun w p b G V h ha => mroom_any w p b G V h ha
  next_any := fun w p b G V h _ => mnext_any w p b G V h
#print axioms logK
end Go.Proofs.Ytmjdndhpnckeeaa
