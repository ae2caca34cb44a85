/- A log of metalog in memory: New, Room, Next, lay, layAll, Append; the laws' contracts. -/
import Derived.Test.YtifdbofbmaeboaaWhen
import Derived.WalkSpells
import Derived.Test.YtifdbofbmaeboaaPut
import Derived.Test.YtifdbofbmaeboaaArgI
import Derived.Test.YtifdbofbmaeboaaJouM
import Derived.Test.YtifdbofbmaeboaaMjA
import Derived.Test.YtifdbofbmaeboaaStepK
import Derived.Test.YtifdbofbmaeboaaBank
import Derived.Test.YtifdbofbmaeboaaPoke
import Derived.Test.YtifdbofbmaeboaaRecS
import Derived.StillTailTactics
import Derived.Test.YtifdbofbmaeboaaJouC
import Derived.Test.YtifdbofbmaeboaaMjS
namespace Go.Proofs.Ytifdbofbmaeboaa
open Go.RowKit
set_option maxHeartbeats 1000000 in
theorem cloneI_any (A : Option Addr) (n c : Nat) (l : List Int) (B0 : Nat) (w : World) (hr : Reads w B0 1 A n (I64 l)) (hB0 : B0 ≤ w.heap.size) (hn : n ≤ 1000000) :
    Calls Try.prog 25 #[.slice A n c] w fun e w' => ∃ v, e = .returned v ∧ w'.ownsRow w.heap.size 3 1 v n (I64 l) ∧ Below w.heap.size w w' := by
  obtain ⟨i0, hi0, hz0, hz1, hz2⟩ := info_parts int_parts
  cases A with
  | none =>
    have hn0 : n = 0 := by
      rcases Nat.eq_zero_or_pos n with h0 | h0
      · exact h0
      · obtain ⟨ad, h, _⟩ := hr.2 h0
        cases h
    subst hn0
    have hx : I64 l = [] := List.eq_nil_of_length_eq_zero (by simpa using hr.1)
    have hq := fun (w : World) => Lib.run_eql_slice_nil (P := Try.prog) w 27 3 none 0 c 0 0 Try.underlying27
    have H := hide hx
    clear hx hr
    go_enter Try.func25, Try.ntmps25
    go_wp2
    go_ret
    exact ⟨_, rfl, by rw [H.out]; exact World.ownsRow_nil _ _ _ _, Below.refl _ _⟩
  | some ad =>
    have hq := fun (w : World) => Lib.run_eql_slice_nil (P := Try.prog) w 27 3 (some ad) n c 0 0 Try.underlying27
    have h63 : 0 + n ≤ maxLen := by simp only [maxLen]; omega
    have hm2 : (0 + n) * 8 ≤ 140737488355328 := by omega
    have HR := hide hr
    have h1 : ∀ u ∈ I64 l, u.oneCell' = true := by
      intro u hu
      obtain ⟨x, _, rfl⟩ := List.mem_map.1 hu
      rfl
    have H1 := hide h1
    clear hr h1
    go_enter Try.func25, Try.ntmps25
    go_wp2_with (at_builtin; refine wpList_append_any _ rfl (.tmp 5) (.tmp 6) _ rfl w.heap.size 3 i0 _ 1 8 Try.underlying27 hi0 hz0 hz1 hz2 rfl (by omega) _ 0 [] rfl (World.ownsRow_made w #[] 0 (Nat.le_refl _) (Nat.zero_le _) rfl) B0 (some ad) n c (I64 l) rfl (HR.out.alloc hB0 _) H1.out h63 hm2 (le_alloc (Nat.le_refl _) _) ?_; intro v1 w1 hown1 hbel1)
    go_ret
    exact ⟨_, rfl, by simpa using hown1, ((Below.refl _ _).alloc (Nat.le_refl _) _).trans hbel1⟩
#print axioms cloneI_any
theorem tick_writes (S : Bank) : ∀ i, (S.tick i).writes = S.writes
  | 0 => rfl
  | i + 1 => by
    have ih := tick_writes S i
    unfold Bank.tick
    simp only
    split
    · exact ih
    · split
      · exact ih
      · exact ih
theorem count_writes (S : Bank) : S.count.2.writes ≤ S.writes + 1 := by
  have h : S.ticked.writes = S.writes + 1 := tick_writes S.wrote S.n
  unfold Bank.count
  split
  · exact Nat.le_succ _
  · simp only
    split
    · exact Nat.le_of_eq h
    · split
      · rw [crash_writes]
        exact Nat.le_of_eq h
      · exact Nat.le_of_eq h
theorem write_writes (S : Bank) (d k : Nat) (s : Sec) : (S.write d k s).2.writes ≤ S.writes + 1 := by
  have h := count_writes S
  unfold Bank.write
  simp only
  split
  · exact h
  · split
    · exact h
    · exact h
theorem layB_more : ∀ (l : List Sec) (S : Bank) (d q : Nat), (layB S d q l).2.writes ≤ S.writes + l.length
  | [], S, d, q => by
    unfold layB
    split
    · exact Nat.le_refl _
    · exact Nat.le_refl _
  | s :: l, S, d, q => by
    have h := write_writes S d q s
    have ih := layB_more l (S.write d q s).2 d (q + 1)
    unfold layB
    rw [List.length_cons]
    split
    · omega
    · omega
/-- What Write and Flush of the bank do. -/
def WritesB (b : Nat) (F : Nat → Prop) : Prop := ∀ (w : World) (S : Bank), BankOn w b F S → S.writes < 4611686018427387904 → ∀ (d k : Nat) (s : Sec),
  Calls Try.prog 22 #[.pointer (some ⟨b, 0, none⟩), .agg #[.int .i64 (d : Int), .int .i64 (k : Int)], secV s] w fun e w' => e = .returned (.int .i64 ((S.write d k s).1 : Int)) ∧ BankOn w' b F (S.write d k s).2 ∧ Turn F w w'
def FlushesB (b : Nat) (F : Nat → Prop) : Prop := ∀ (w : World) (S : Bank), BankOn w b F S → ∀ d : Nat,
  Calls Try.prog 60 #[.pointer (some ⟨b, 0, none⟩), .int .i64 (d : Int)] w fun e w' => e = .returned (.int .i64 (S.may d : Int)) ∧ BankOn w' b F (if S.may d = 0 then S.flush d else S) ∧ Turn F w w'
/-- A log's cells. -/
def logC (b : Nat) (A : Option Addr) (n c : Nat) (V : LogV) : List Value := [.pointer (some ⟨b, 0, none⟩), .slice A n c, .int .i64 V.gen, .int .i64 (V.num : Int), .int .i64 (V.at_ : Int), .bool V.ended]
section
variable {w w' : World} {p b n c : Nat} {A : Option Addr} {V : LogV} {T : TypeId}
theorem log_c0 (h : Blk w p T (logC b A n c V).toArray) : w.cell? ⟨p, 0, none⟩ = some (.pointer (some ⟨b, 0, none⟩)) := h.cell 0
theorem log_c1 (h : Blk w p T (logC b A n c V).toArray) : w.cell? ⟨p, 1, none⟩ = some (.slice A n c) := h.cell 1
theorem log_c2 (h : Blk w p T (logC b A n c V).toArray) : w.cell? ⟨p, 2, none⟩ = some (.int .i64 V.gen) := h.cell 2
theorem log_c3 (h : Blk w p T (logC b A n c V).toArray) : w.cell? ⟨p, 3, none⟩ = some (.int .i64 (V.num : Int)) := h.cell 3
theorem log_c4 (h : Blk w p T (logC b A n c V).toArray) : w.cell? ⟨p, 4, none⟩ = some (.int .i64 (V.at_ : Int)) := h.cell 4
theorem log_c5 (h : Blk w p T (logC b A n c V).toArray) : w.cell? ⟨p, 5, none⟩ = some (.bool V.ended) := h.cell 5
end
/-- A log in memory: its own block, and that of its row of members. -/
def LogOn (w : World) (p : Nat) (G : Nat → Prop) (b : Nat) (V : LogV) : Prop :=
  ∃ (A : Option Addr) (n c : Nat), Blk w p 57 (logC b A n c V).toArray ∧ Reads w w.heap.size 1 A n (I64 (V.live.map Int.ofNat)) ∧ n ≤ c ∧ c ≤ 9223372036854775807 ∧ G p ∧ (∀ x, G x → x < w.heap.size) ∧ (∀ ad, A = some ad → G ad.block ∧ ad.block ≠ p)
theorem LogOn.kept {w w' : World} {p b : Nat} {G T : Nat → Prop} {V : LogV} (h : LogOn w p G b V) (hT : Turn T w w') (ha : ∀ x, G x → ¬ T x) : LogOn w' p G b V := by
  obtain ⟨A, n, c, h1, h2, h3, h4, h5, h6, h7⟩ := h
  refine ⟨A, n, c, h1.of_block (hT.block p h1.lt (ha p h5)), ⟨h2.1, fun h0 => ?_⟩, h3, h4, h5, fun x hx => Nat.lt_of_lt_of_le (h6 x hx) hT.size, h7⟩
  obtain ⟨ad, e, hb, hc⟩ := h2.2 h0
  refine ⟨ad, e, Nat.lt_of_lt_of_le hb hT.size, fun j u hu => ?_⟩
  exact (World.cell?_of_block (hT.block _ (by rw [block_of_add]; exact hb) (by rw [block_of_add]; exact ha _ (h7 ad e).1))).trans (hc j u hu)
theorem LogOn.own {w : World} {p b : Nat} {G : Nat → Prop} {V : LogV} (h : LogOn w p G b V) : G p ∧ ∀ x, G x → x < w.heap.size := by
  obtain ⟨A, n, c, _, _, _, _, h5, h6, _⟩ := h
  exact ⟨h5, h6⟩
theorem mroom_any (w : World) (p b : Nat) (G : Nat → Prop) (V : LogV) (h : LogOn w p G b V) (ha : V.at_ ≤ 48) : Calls Try.prog 20 #[.pointer (some ⟨p, 0, none⟩)] w fun e w' => e = .returned (.int .i64 ((48 - V.at_ : Nat) : Int)) ∧ w = w' := by
  obtain ⟨A, n, c, h1, _⟩ := h
  have y4 := log_c4 h1
  clear h1
  go_enter Try.func20, Try.ntmps20
  go_wp2
  go_ret
  exact ⟨ret_of (by omega), rfl⟩
theorem mnext_any (w : World) (p b : Nat) (G : Nat → Prop) (V : LogV) (h : LogOn w p G b V) : Calls Try.prog 21 #[.pointer (some ⟨p, 0, none⟩)] w fun e w' => e = .returned (.int .i64 ((V.num : Nat) : Int)) ∧ w = w' := by
  obtain ⟨A, n, c, h1, _⟩ := h
  have y3 := log_c3 h1
  clear h1
  go_enter Try.func21, Try.ntmps21
  go_wp2
  go_ret
  exact ⟨rfl, rfl⟩
theorem built_log (b : Nat) (A : Option Addr) (n c : Nat) (gen : Int) : Try.prog.built 57 [(0, .pointer (some ⟨b, 0, none⟩)), (1, .slice A n c), (2, .int .i64 gen)] = some (logC b A n c ⟨[], gen, 0, 0, false⟩).toArray := by kernel_rfl
set_option maxRecDepth 100000 in
theorem mnew_any (w : World) (b : Nat) (A : Option Addr) (n c : Nat) (live : List Nat) (gen : Int) (hr : Reads w w.heap.size 1 A n (I64 (live.map Int.ofNat))) (hn : n ≤ 5) :
    Calls Try.prog 11 #[.pointer (some ⟨b, 0, none⟩), .slice A n c, .int .i64 gen] w fun e w' => ∃ (p : Nat) (G : Nat → Prop), e = .returned (.pointer (some ⟨p, 0, none⟩)) ∧ LogOn w' p G b ⟨live, gen, 0, 0, false⟩ ∧ w.heap.size ≤ p ∧ (∀ x, G x → w.heap.size ≤ x) ∧ Below w.heap.size w w' := by
  have HC := hide (cloneI_any A n c (live.map Int.ofNat) w.heap.size w hr (Nat.le_refl _) (by omega))
  clear hr
  go_enter Try.func11, Try.ntmps11
  go_wp2_with (first
    | (go_at_call 25; refine HC.out.mono ?_; rintro _ w1 ⟨v, rfl, hown, hl1⟩; obtain ⟨A1, c1, rfl, hc1, hc2⟩ := own_shape hown)
    | ((with_reducible refine at_slot 11 ?_); refine wpList_build_is rfl 57 _ rfl _ rfl _ (built_log _ _ _ _ _) ?_)
    | ((with_reducible refine at_slot 12 ?_); refine wpList_box_blk rfl 57 _ rfl (.agg (logC b A1 n c1 ⟨[], gen, 0, 0, false⟩).toArray) rfl ?_; intro w2 hb2 hl2 hs2))
  go_ret
  have hb2' : Blk w2 w1.heap.size 57 (logC b A1 n c1 ⟨live, gen, 0, 0, false⟩).toArray := hb2
  have hz1 := hl1.size
  refine ⟨w1.heap.size, fun x => x = w1.heap.size ∨ ∃ ad, A1 = some ad ∧ x = ad.block, rfl, ⟨A1, n, c1, hb2', (Reads.of_own hown).later hl2, hc1, hc2, .inl rfl, ?_, ?_⟩, hz1, ?_, hl1.trans (hl2.mono hz1)⟩
  · rintro x (rfl | ⟨ad, e, rfl⟩)
    · exact hb2.lt
    · have := (hown.lt ad.block (by rw [e]; rfl)).2
      omega
  · intro ad e
    have := (hown.lt ad.block (by rw [e]; rfl)).2
    exact ⟨.inr ⟨ad, e, rfl⟩, by omega⟩
  · rintro x (rfl | ⟨ad, e, rfl⟩)
    · exact hz1
    · exact (hown.lt ad.block (by rw [e]; rfl)).1
theorem range_blk9 {w : World} {g : Nat} {T : TypeId} {l : List Value} (h : Blk w g T l.toArray) : w.rangeAt g 0 l := fun j v hj => by rw [Nat.zero_add, h.cell j]; simpa using hj
#print axioms mnew_any
/-- Sectors that lie one behind the other in a block. -/
def PartsIn (cur : Array Value) (l : List Sec) : Prop := ∀ i s, l[i]? = some s → ∀ j v, (secL s)[j]? = some v → cur[i * 64 + j]? = some v
set_option maxRecDepth 100000 in
set_option maxHeartbeats 8000000 in
theorem lay_any (p b g : Nat) (F : Nat → Prop) (S : Bank) (V : LogV) (A : Option Addr) (n c : Nat) (d m k : Nat) (l : List Sec) (cur : Array Value) (w : World) (hW : WritesB b F) (hFl : FlushesB b F) (hB : BankOn w b F S) (hp : Blk w p 57 (logC b A n c V).toArray) (hg : Blk w g 51 cur) (hpF : ¬ F p) (hgF : ¬ F g) (hl : PartsIn cur l) (hm : l.length = m) (hm48 : m ≤ 48) (hat : V.at_ ≤ 48) (hw : S.writes ≤ 4611686018427387000) :
    Calls Try.prog 42 #[.pointer (some ⟨p, 0, none⟩), .int .i64 (d : Int), .slice (some ⟨g, 0, none⟩) m k] w fun e w' => e = .returned (.int .i64 ((layB S d (2 + V.at_) l).1 : Int)) ∧ BankOn w' b F (layB S d (2 + V.at_) l).2 ∧ Turn F w w' := by
  obtain ⟨X, hX⟩ : ∃ X, X = layB S d (2 + V.at_) l := ⟨_, rfl⟩
  rw [← hX]
  have HX := hide hX
  have HW := hide hW
  have HFL := hide hFl
  have HB := hide hB
  have HP := hide hp
  have HG := hide hg
  have HPI := hide hl
  have HM := hide hm
  clear hX hW hFl hB hp hg hl hm
  go_enter Try.func42, Try.ntmps42
  go_wp2_with fail
  go_loopw [12] (fun s12 wr => ∃ (i : Nat) (T : Bank), s12 = .int .i64 (i : Int) ∧ i ≤ m ∧ Hid (X = layB T d (2 + V.at_ + i) (l.drop i)) ∧ Hid (BankOn wr b F T) ∧ Hid (T.writes ≤ S.writes + i) ∧ Hid (Turn F w wr)) (fun s12 _ => m - (intOf s12).toNat)
  case atStart => exact ⟨0, S, rfl, Nat.zero_le _, HX, HB, hide (Nat.le_refl _), hide (Turn.refl _ _)⟩
  case round =>
    obtain ⟨i, T, rfl, him, hXT, hBT, hWT, hT⟩ := hrel
    obtain ⟨wo, rfl⟩ : ∃ wo, wo = wr := ⟨_, rfl⟩
    have HPo := hide (HP.out.of_block (hT.out.block p HP.out.lt hpF))
    have HGo := hide (HG.out.of_block (hT.out.block g HG.out.lt hgF))
    by_cases hi : i < m
    · have hiw : (i : Int) < (m : Int) := by omega
      obtain ⟨s, hs⟩ : ∃ s, l[i]? = some s := ⟨l[i]'(by rw [HM.out]; exact hi), List.getElem?_eq_getElem _⟩
      have HDR := hide (show l.drop i = s :: l.drop (i + 1) from by
        obtain ⟨hlt, he⟩ := List.getElem?_eq_some_iff.1 hs
        rw [List.drop_eq_getElem_cons hlt, he])
      have HX2 := hide (show X = if (T.write d (2 + V.at_ + i) s).1 = 0 then layB (T.write d (2 + V.at_ + i) s).2 d (2 + V.at_ + i + 1) (l.drop (i + 1)) else T.write d (2 + V.at_ + i) s by
        rw [hXT.out, HDR.out]
        rfl)
      have HCS := hide (HPI.out i s hs)
      have HWR := hide (fun (w1 : World) (h1 : BankOn w1 b F T) => HW.out w1 T h1 (by have := hWT.out; omega) d (2 + V.at_ + i) s)
      have hws := write_writes T d (2 + V.at_ + i) s
      have HWS := hide (Nat.le_trans hws (Nat.succ_le_succ hWT.out))
      obtain ⟨U, hU⟩ : ∃ U, U = secL s := ⟨_, rfl⟩
      have HUl := hide (show U.length = 64 by rw [hU, secL_length])
      have HUO := hide (show ∀ v ∈ U, v.oneCell' = true by rw [hU]; exact secL_one _)
      have HIU := hide (show (Try.prog.info? 51).map (·.size) = some U.length by rw [HUl.out]; exact sec_info)
      have hsv : secV s = .agg U.toArray := by rw [hU]; rfl
      rw [hsv, show (((2 + V.at_ + i : Nat)) : Int) = ((2 + (V.at_ + i) : Nat) : Int) by omega] at HWR
      rw [← hU] at HCS
      have hiq : (V.at_ : Int) + (i : Int) = ((V.at_ + i : Nat) : Int) := by omega
      have HUN : Hid (Try.prog.underlying 51 = some (.array 64 5)) := Try.underlying51
      generalize T.write d (2 + V.at_ + i) s = C at HX2 HWR HWS
      obtain ⟨C1, C2⟩ := C
      clear hU hsv hs hws
      have HPL := (fun w => mplace_any d (V.at_ + i) (by omega) w)
      simp only [← hiq] at HPL
      have hwr : IntKind.i64.wrap ((V.at_ : Int) + (i : Int)) = (V.at_ : Int) + (i : Int) := IntWalk.i64_in _ (by omega)
      rw [← hwr] at HPL
      have HPL := hide HPL
      clear hiq hwr
      by_cases hc : C1 = 0
      · subst hc
        rw [show ((0 : Nat) : Int) = 0 from rfl] at HWR
        go_wp2_with (first
          | ((with_reducible refine at_slot 16 ?_); refine wpList_load_blk rfl 51 (.tmp 15) rfl g (i * 64) 51 _ HGo.out ?hxa U _ HCS.out Try.underlying51 rfl HIU.out ?_)
          | ((with_reducible refine at_slot 8 ?_); refine wpList_alloc_blk rfl 51 rfl _ (sec_zero _) ?_; intro w3 hb3 hl3 hs3; clear hs3)
          | ((with_reducible refine at_store 8 ?_); refine wpList_store_all rfl 51 (.tmp 8) (.tmp 16) rfl wo.heap.size 51 _ hb3 rfl U rfl HIU.out (HUl.out.trans (secL_length zeroSec).symm) HUO.out ?_; intro w4 hb4 hg4 hs4))
        have hl04 : Below wo.heap.size wo w4 := hl3.grown hg4 (by have := hb3.lt; omega) (fun g e => by injection e with e; omega)
        have HP4 := hide (HPo.out.below hl04 HPo.out.lt)
        have HU4 := hide hb4
        have HB4 := hide (hBT.out.later hl04)
        have HT4 := hide (hT.out.below hl04)
        have hwF : ¬ F wo.heap.size := fun h => absurd (hBT.out.1 _ h) (Nat.lt_irrefl _)
        have HF : Hid (∀ W', Turn F w4 W' → (W'.cell? ⟨p, 0, none⟩ = some (.pointer (some ⟨b, 0, none⟩)) ∧ W'.cell? ⟨p, 4, none⟩ = some (.int .i64 (V.at_ : Int)) ∧ W'.rangeAt wo.heap.size 0 U ∧ Turn F w4 W')) := hide fun W' h => by
          have h1 := HP4.out.of_block (h.block p HP4.out.lt hpF)
          have h2 := HU4.out.of_block (h.block _ HU4.out.lt hwF)
          exact ⟨log_c0 h1, log_c4 h1, range_blk9 h2, h⟩
        clear hb3 hl3 hb4 hg4 hs4 hl04
        refine wp_region_held_drew (S := (fun W => W.cell? ⟨p, 0, none⟩ = some (.pointer (some ⟨b, 0, none⟩)) ∧ W.cell? ⟨p, 4, none⟩ = some (.int .i64 (V.at_ : Int)) ∧ W.rangeAt wo.heap.size 0 U ∧ Turn F w4 W)) (by kernel_rfl) ?_ (fun hHeld => ?_)
        · exact HF.out _ ((Turn.refl _ _).drew)
        refine heldTake (i := 0) (v := ?_) rfl (by kernel_rfl) (by kernel_rfl) (by kernel_rfl) (fun _ _ _ h => h) (Or.inl ⟨by rfl, ?_⟩) (by assumption) ?_
        rotate_left
        · intro w hSw; (try dsimp only at hSw); go_simp <;> (with_reducible rfl)
        try simp only [Act.put, List.setIfInBounds_toArray, List.set_cons_zero, List.set_cons_succ]
        refine heldTake (i := 1) (v := ?_) rfl (by kernel_rfl) (by kernel_rfl) (by kernel_rfl) (fun _ _ _ h => h) (Or.inl ⟨by rfl, ?_⟩) (by assumption) ?_
        rotate_left
        · intro w hSw; (try dsimp only at hSw); go_simp <;> (with_reducible rfl)
        try simp only [Act.put, List.setIfInBounds_toArray, List.set_cons_zero, List.set_cons_succ]
        refine heldTake (i := 2) (v := ?_) rfl (by kernel_rfl) (by kernel_rfl) (by kernel_rfl) (fun _ _ _ h => h) (Or.inl ⟨by rfl, ?_⟩) (by assumption) ?_
        rotate_left
        · intro w hSw; (try dsimp only at hSw); go_simp <;> (with_reducible rfl)
        try simp only [Act.put, List.setIfInBounds_toArray, List.set_cons_zero, List.set_cons_succ]
        refine heldTake (i := 3) (v := .pointer (some ⟨b, 0, none⟩)) rfl (by kernel_rfl) (by kernel_rfl) (by kernel_rfl) (fun _ _ _ h => h) (Or.inl ⟨by rfl, fun W hW => ?_⟩) (by assumption) ?_
        · dsimp only at hW
          go_split_ands
          go_simp
        try simp only [Act.put, List.setIfInBounds_toArray, List.set_cons_zero, List.set_cons_succ]
        refine heldTake (i := 4) (v := ?_) rfl (by kernel_rfl) (by kernel_rfl) (by kernel_rfl) (fun _ _ _ h => h) (Or.inl ⟨by rfl, ?_⟩) (by assumption) ?_
        rotate_left
        · intro w hSw; (try dsimp only at hSw); go_simp <;> (with_reducible rfl)
        try simp only [Act.put, List.setIfInBounds_toArray, List.set_cons_zero, List.set_cons_succ]
        refine heldTake (i := 5) (v := ?_) rfl (by kernel_rfl) (by kernel_rfl) (by kernel_rfl) (fun _ _ _ h => h) (Or.inl ⟨by rfl, ?_⟩) (by assumption) ?_
        rotate_left
        · intro w hSw; (try dsimp only at hSw); go_simp <;> (with_reducible rfl)
        try simp only [Act.put, List.setIfInBounds_toArray, List.set_cons_zero, List.set_cons_succ]
        refine heldTake (i := 6) (v := ?_) rfl (by kernel_rfl) (by kernel_rfl) (by kernel_rfl) (fun _ _ _ h => h) (Or.inl ⟨by rfl, ?_⟩) (by assumption) ?_
        rotate_left
        · intro w hSw; (try dsimp only at hSw); go_simp <;> (with_reducible rfl)
        try simp only [Act.put, List.setIfInBounds_toArray, List.set_cons_zero, List.set_cons_succ]
        refine heldTake (i := 7) (v := ?_) rfl (by kernel_rfl) (by kernel_rfl) (by kernel_rfl) (fun _ _ _ h => h) (Or.inl ⟨by rfl, ?_⟩) (by assumption) ?_
        rotate_left
        · intro w hSw; (try dsimp only at hSw); go_simp <;> (with_reducible rfl)
        try simp only [Act.put, List.setIfInBounds_toArray, List.set_cons_zero, List.set_cons_succ]
        refine heldTake (i := 8) (v := .int .i64 (V.at_ : Int)) rfl (by kernel_rfl) (by kernel_rfl) (by kernel_rfl) (fun _ _ _ h => h) (Or.inl ⟨by rfl, fun W hW => ?_⟩) (by assumption) ?_
        · dsimp only at hW
          go_split_ands
          go_simp
        try simp only [Act.put, List.setIfInBounds_toArray, List.set_cons_zero, List.set_cons_succ]
        refine heldTake (i := 9) (v := ?_) rfl (by kernel_rfl) (by kernel_rfl) (by kernel_rfl) (fun _ _ _ h => h) (Or.inl ⟨by rfl, ?_⟩) (by assumption) ?_
        rotate_left
        · intro w hSw; (try dsimp only at hSw); go_simp <;> (with_reducible rfl)
        try simp only [Act.put, List.setIfInBounds_toArray, List.set_cons_zero, List.set_cons_succ]
        refine heldTake (i := 10) (v := ?_) rfl (by kernel_rfl) (by kernel_rfl) (by kernel_rfl) (fun _ _ _ h => h) (Or.inl ⟨by rfl, ?_⟩) (by assumption) ?_
        rotate_left
        · intro w hSw; (try dsimp only at hSw); go_simp <;> (with_reducible rfl)
        try simp only [Act.put, List.setIfInBounds_toArray, List.set_cons_zero, List.set_cons_succ]
        refine heldTake (i := 12) (v := .agg U.toArray) rfl (by kernel_rfl) (by kernel_rfl) (by kernel_rfl) (fun _ _ _ h => h) (yieldsIf_load_mid (by rfl) _ _ rfl _ _ rfl U _ (fun W hW => hW.2.2.1) HUN.out rfl HIU.out) (by assumption) ?_
        try simp only [Act.put, List.setIfInBounds_toArray, List.set_cons_zero, List.set_cons_succ]
        refine wpAnyH_ready (rs := [11]) (by kernel_rfl) (by simp) ?_
        refine heldCons (i := 11) rfl (fun Kq hKq => ?_) AllReadyH.nil
        go_simp
        go_at_call 59
        refine (HPL.out _).mono ?_
        rintro _ w5 ⟨rfl, hl5⟩
        have hq5 : Turn F w4 w5 := (Turn.drew (Turn.refl F w4)).below hl5
        have HB5 := hide (BankOn.later (HB4.out.later (Below.drew (Below.refl _ _))) hl5)
        clear hl5
        first | (refine hKq.out _ _ (HF.out _ hq5) (fun hHeld => ?_)) | (go_wp2_with fail; refine hKq.out _ _ (HF.out _ hq5) (fun hHeld => ?_))
        clear hKq Kq
        try simp only [Act.put, List.setIfInBounds_toArray, List.set_cons_zero, List.set_cons_succ]
        refine wpAnyH_ready (rs := [13]) (by kernel_rfl) (by simp) ?_
        refine heldCons (i := 13) rfl (fun Kq hKq => ?_) AllReadyH.nil
        go_simp
        go_at_call 22
        refine (HWR.out _ HB5.out).mono ?_
        rintro _ w6 ⟨rfl, hB6, hT6⟩
        have hq6 : Turn F w4 w6 := hq5.trans hT6
        have HB6 := hide hB6
        clear hB6 hT6
        first | (refine hKq.out _ _ (HF.out _ hq6) (fun hHeld => ?_)) | (go_wp2_with fail; refine hKq.out _ _ (HF.out _ hq6) (fun hHeld => ?_))
        clear hKq Kq
        try simp only [Act.put, List.setIfInBounds_toArray, List.set_cons_zero, List.set_cons_succ]
        refine heldTake (i := 14) (v := ?_) rfl (by kernel_rfl) (by kernel_rfl) (by kernel_rfl) (fun _ _ _ h => h) (Or.inl ⟨by rfl, ?_⟩) (by assumption) ?_
        rotate_left
        · intro w hSw; (try dsimp only at hSw); go_simp <;> (with_reducible rfl)
        try simp only [Act.put, List.setIfInBounds_toArray, List.set_cons_zero, List.set_cons_succ]
        refine wpAnyH_done (by kernel_rfl) ?_ _
        have HX3 := hide (show X = layB C2 d (2 + V.at_ + i + 1) (l.drop (i + 1)) by rw [HX2.out]; simp)
        go_wp2_with fail
        go_roundw
        case rel => exact ⟨i + 1, C2, by simp, by omega, HX3, HB6, hide (by have := HWS.out; omega), hide (HT4.out.trans hq6)⟩
        case measure => simp [intOf]; omega
      · have hne : ((C1 : Int) != 0) = true := by simp; omega
        go_wp2_with (first
          | ((with_reducible refine at_slot 16 ?_); refine wpList_load_blk rfl 51 (.tmp 15) rfl g (i * 64) 51 _ HGo.out ?hxa U _ HCS.out Try.underlying51 rfl HIU.out ?_)
          | ((with_reducible refine at_slot 8 ?_); refine wpList_alloc_blk rfl 51 rfl _ (sec_zero _) ?_; intro w3 hb3 hl3 hs3; clear hs3)
          | ((with_reducible refine at_store 8 ?_); refine wpList_store_all rfl 51 (.tmp 8) (.tmp 16) rfl wo.heap.size 51 _ hb3 rfl U rfl HIU.out (HUl.out.trans (secL_length zeroSec).symm) HUO.out ?_; intro w4 hb4 hg4 hs4))
        have hl04 : Below wo.heap.size wo w4 := hl3.grown hg4 (by have := hb3.lt; omega) (fun g e => by injection e with e; omega)
        have HP4 := hide (HPo.out.below hl04 HPo.out.lt)
        have HU4 := hide hb4
        have HB4 := hide (hBT.out.later hl04)
        have HT4 := hide (hT.out.below hl04)
        have hwF : ¬ F wo.heap.size := fun h => absurd (hBT.out.1 _ h) (Nat.lt_irrefl _)
        have HF : Hid (∀ W', Turn F w4 W' → (W'.cell? ⟨p, 0, none⟩ = some (.pointer (some ⟨b, 0, none⟩)) ∧ W'.cell? ⟨p, 4, none⟩ = some (.int .i64 (V.at_ : Int)) ∧ W'.rangeAt wo.heap.size 0 U ∧ Turn F w4 W')) := hide fun W' h => by
          have h1 := HP4.out.of_block (h.block p HP4.out.lt hpF)
          have h2 := HU4.out.of_block (h.block _ HU4.out.lt hwF)
          exact ⟨log_c0 h1, log_c4 h1, range_blk9 h2, h⟩
        clear hb3 hl3 hb4 hg4 hs4 hl04
        refine wp_region_held_drew (S := (fun W => W.cell? ⟨p, 0, none⟩ = some (.pointer (some ⟨b, 0, none⟩)) ∧ W.cell? ⟨p, 4, none⟩ = some (.int .i64 (V.at_ : Int)) ∧ W.rangeAt wo.heap.size 0 U ∧ Turn F w4 W)) (by kernel_rfl) ?_ (fun hHeld => ?_)
        · exact HF.out _ ((Turn.refl _ _).drew)
        refine heldTake (i := 0) (v := ?_) rfl (by kernel_rfl) (by kernel_rfl) (by kernel_rfl) (fun _ _ _ h => h) (Or.inl ⟨by rfl, ?_⟩) (by assumption) ?_
        rotate_left
        · intro w hSw; (try dsimp only at hSw); go_simp <;> (with_reducible rfl)
        try simp only [Act.put, List.setIfInBounds_toArray, List.set_cons_zero, List.set_cons_succ]
        refine heldTake (i := 1) (v := ?_) rfl (by kernel_rfl) (by kernel_rfl) (by kernel_rfl) (fun _ _ _ h => h) (Or.inl ⟨by rfl, ?_⟩) (by assumption) ?_
        rotate_left
        · intro w hSw; (try dsimp only at hSw); go_simp <;> (with_reducible rfl)
        try simp only [Act.put, List.setIfInBounds_toArray, List.set_cons_zero, List.set_cons_succ]
        refine heldTake (i := 2) (v := ?_) rfl (by kernel_rfl) (by kernel_rfl) (by kernel_rfl) (fun _ _ _ h => h) (Or.inl ⟨by rfl, ?_⟩) (by assumption) ?_
        rotate_left
        · intro w hSw; (try dsimp only at hSw); go_simp <;> (with_reducible rfl)
        try simp only [Act.put, List.setIfInBounds_toArray, List.set_cons_zero, List.set_cons_succ]
        refine heldTake (i := 3) (v := .pointer (some ⟨b, 0, none⟩)) rfl (by kernel_rfl) (by kernel_rfl) (by kernel_rfl) (fun _ _ _ h => h) (Or.inl ⟨by rfl, fun W hW => ?_⟩) (by assumption) ?_
        · dsimp only at hW
          go_split_ands
          go_simp
        try simp only [Act.put, List.setIfInBounds_toArray, List.set_cons_zero, List.set_cons_succ]
        refine heldTake (i := 4) (v := ?_) rfl (by kernel_rfl) (by kernel_rfl) (by kernel_rfl) (fun _ _ _ h => h) (Or.inl ⟨by rfl, ?_⟩) (by assumption) ?_
        rotate_left
        · intro w hSw; (try dsimp only at hSw); go_simp <;> (with_reducible rfl)
        try simp only [Act.put, List.setIfInBounds_toArray, List.set_cons_zero, List.set_cons_succ]
        refine heldTake (i := 5) (v := ?_) rfl (by kernel_rfl) (by kernel_rfl) (by kernel_rfl) (fun _ _ _ h => h) (Or.inl ⟨by rfl, ?_⟩) (by assumption) ?_
        rotate_left
        · intro w hSw; (try dsimp only at hSw); go_simp <;> (with_reducible rfl)
        try simp only [Act.put, List.setIfInBounds_toArray, List.set_cons_zero, List.set_cons_succ]
        refine heldTake (i := 6) (v := ?_) rfl (by kernel_rfl) (by kernel_rfl) (by kernel_rfl) (fun _ _ _ h => h) (Or.inl ⟨by rfl, ?_⟩) (by assumption) ?_
        rotate_left
        · intro w hSw; (try dsimp only at hSw); go_simp <;> (with_reducible rfl)
        try simp only [Act.put, List.setIfInBounds_toArray, List.set_cons_zero, List.set_cons_succ]
        refine heldTake (i := 7) (v := ?_) rfl (by kernel_rfl) (by kernel_rfl) (by kernel_rfl) (fun _ _ _ h => h) (Or.inl ⟨by rfl, ?_⟩) (by assumption) ?_
        rotate_left
        · intro w hSw; (try dsimp only at hSw); go_simp <;> (with_reducible rfl)
        try simp only [Act.put, List.setIfInBounds_toArray, List.set_cons_zero, List.set_cons_succ]
        refine heldTake (i := 8) (v := .int .i64 (V.at_ : Int)) rfl (by kernel_rfl) (by kernel_rfl) (by kernel_rfl) (fun _ _ _ h => h) (Or.inl ⟨by rfl, fun W hW => ?_⟩) (by assumption) ?_
        · dsimp only at hW
          go_split_ands
          go_simp
        try simp only [Act.put, List.setIfInBounds_toArray, List.set_cons_zero, List.set_cons_succ]
        refine heldTake (i := 9) (v := ?_) rfl (by kernel_rfl) (by kernel_rfl) (by kernel_rfl) (fun _ _ _ h => h) (Or.inl ⟨by rfl, ?_⟩) (by assumption) ?_
        rotate_left
        · intro w hSw; (try dsimp only at hSw); go_simp <;> (with_reducible rfl)
        try simp only [Act.put, List.setIfInBounds_toArray, List.set_cons_zero, List.set_cons_succ]
        refine heldTake (i := 10) (v := ?_) rfl (by kernel_rfl) (by kernel_rfl) (by kernel_rfl) (fun _ _ _ h => h) (Or.inl ⟨by rfl, ?_⟩) (by assumption) ?_
        rotate_left
        · intro w hSw; (try dsimp only at hSw); go_simp <;> (with_reducible rfl)
        try simp only [Act.put, List.setIfInBounds_toArray, List.set_cons_zero, List.set_cons_succ]
        refine heldTake (i := 12) (v := .agg U.toArray) rfl (by kernel_rfl) (by kernel_rfl) (by kernel_rfl) (fun _ _ _ h => h) (yieldsIf_load_mid (by rfl) _ _ rfl _ _ rfl U _ (fun W hW => hW.2.2.1) HUN.out rfl HIU.out) (by assumption) ?_
        try simp only [Act.put, List.setIfInBounds_toArray, List.set_cons_zero, List.set_cons_succ]
        refine wpAnyH_ready (rs := [11]) (by kernel_rfl) (by simp) ?_
        refine heldCons (i := 11) rfl (fun Kq hKq => ?_) AllReadyH.nil
        go_simp
        go_at_call 59
        refine (HPL.out _).mono ?_
        rintro _ w5 ⟨rfl, hl5⟩
        have hq5 : Turn F w4 w5 := (Turn.drew (Turn.refl F w4)).below hl5
        have HB5 := hide (BankOn.later (HB4.out.later (Below.drew (Below.refl _ _))) hl5)
        clear hl5
        first | (refine hKq.out _ _ (HF.out _ hq5) (fun hHeld => ?_)) | (go_wp2_with fail; refine hKq.out _ _ (HF.out _ hq5) (fun hHeld => ?_))
        clear hKq Kq
        try simp only [Act.put, List.setIfInBounds_toArray, List.set_cons_zero, List.set_cons_succ]
        refine wpAnyH_ready (rs := [13]) (by kernel_rfl) (by simp) ?_
        refine heldCons (i := 13) rfl (fun Kq hKq => ?_) AllReadyH.nil
        go_simp
        go_at_call 22
        refine (HWR.out _ HB5.out).mono ?_
        rintro _ w6 ⟨rfl, hB6, hT6⟩
        have hq6 : Turn F w4 w6 := hq5.trans hT6
        have HB6 := hide hB6
        clear hB6 hT6
        first | (refine hKq.out _ _ (HF.out _ hq6) (fun hHeld => ?_)) | (go_wp2_with fail; refine hKq.out _ _ (HF.out _ hq6) (fun hHeld => ?_))
        clear hKq Kq
        try simp only [Act.put, List.setIfInBounds_toArray, List.set_cons_zero, List.set_cons_succ]
        refine heldTake (i := 14) (v := ?_) rfl (by kernel_rfl) (by kernel_rfl) (by kernel_rfl) (fun _ _ _ h => h) (Or.inl ⟨by rfl, ?_⟩) (by assumption) ?_
        rotate_left
        · intro w hSw; (try dsimp only at hSw); go_simp <;> (with_reducible rfl)
        try simp only [Act.put, List.setIfInBounds_toArray, List.set_cons_zero, List.set_cons_succ]
        refine wpAnyH_done (by kernel_rfl) ?_ _
        have HX3 := hide (show X = (C1, C2) by rw [HX2.out]; exact if_neg hc)
        go_wp2
        go_ret
        exact ⟨(congrArg (fun x : Nat × Bank => Ending.returned (.int .i64 (x.1 : Int))) HX3.out).symm, by rw [HX3.out]; exact HB6.out, HT4.out.trans hq6⟩
    · obtain rfl : i = m := by omega
      have hiw : ¬ ((i : Int) < (i : Int)) := by omega
      have HX3 := hide (show X = (T.may d, if T.may d = 0 then T.flush d else T) by
        rw [hXT.out, List.drop_of_length_le (by rw [HM.out]; exact Nat.le_refl _)]
        rfl)
      have y0 := log_c0 HPo.out
      go_wp2_with (go_at_call 60; refine (HFL.out wo T hBT.out d).mono ?_; rintro _ w5 ⟨rfl, hB5, hT5⟩)
      go_ret
      exact ⟨(congrArg (fun x : Nat × Bank => Ending.returned (.int .i64 (x.1 : Int))) HX3.out).symm, by rw [HX3.out]; exact hB5, hT.out.trans hT5⟩
#print axioms lay_any
theorem layAll_err (q : Nat) (l : List Sec) : ∀ (live : List Nat) (S : Bank) (any : Bool), (layAll q l live S any).1 = 0 ∨ (layAll q l live S any).1 = 5 ∨ (layAll q l live S any).1 = 6
  | [], S, any => by
    unfold layAll
    cases any
    · exact .inr (.inl rfl)
    · exact .inl rfl
  | d :: ds, S, any => by
    unfold layAll
    split
    · exact layAll_err q l ds _ _
    · split
      · exact layAll_err q l ds _ _
      · exact .inr (.inr rfl)
set_option maxRecDepth 100000 in
set_option maxHeartbeats 8000000 in
theorem layAll_any (p b g : Nat) (F G : Nat → Prop) (S : Bank) (V : LogV) (m k : Nat) (l : List Sec) (cur : Array Value) (w : World) (hW : WritesB b F) (hFl : FlushesB b F) (hB : BankOn w b F S) (hO : LogOn w p G b V) (hap : ∀ x, F x → ¬ G x) (hg : Blk w g 51 cur) (hgF : ¬ F g) (hl : PartsIn cur l) (hm : l.length = m) (hm48 : m ≤ 48) (hat : V.at_ ≤ 48) (hw : S.writes ≤ 1000000) (h5 : V.live.length ≤ 5) :
    Calls Try.prog 28 #[.pointer (some ⟨p, 0, none⟩), .slice (some ⟨g, 0, none⟩) m k] w fun e w' => e = .returned (.int .i64 ((layAll (2 + V.at_) l V.live S false).1 : Int)) ∧ BankOn w' b F (layAll (2 + V.at_) l V.live S false).2 ∧ Turn F w w' := by
  obtain ⟨A, n, c, hp, hr, hnc, hc63, hGp, hGl, hGA⟩ := hO
  have hpF : ¬ F p := fun h => hap p h hGp
  have hlen : V.live.length = n := by have := hr.1; rw [I64_length, List.length_map] at this; omega
  obtain ⟨X, hX⟩ : ∃ X, X = layAll (2 + V.at_) l V.live S false := ⟨_, rfl⟩
  rw [← hX]
  have HX := hide hX
  have HB := hide hB
  have HP := hide hp
  have HG := hide hg
  have HR := hide hr
  have HLEN := hide hlen
  have HLAY := hide (fun (w1 : World) (T : Bank) (d : Nat) (h1 : BankOn w1 b F T) (h2 : Blk w1 p 57 (logC b A n c V).toArray) (h3 : Blk w1 g 51 cur) (h4 : T.writes ≤ 4611686018427387000) => lay_any p b g F T V A n c d m k l cur w1 hW hFl h1 h2 h3 hpF hgF hl hm hm48 hat h4)
  have HM := hide hm
  have HA := hide (fun (ad : Addr) (h : A = some ad) (hf : F ad.block) => hap _ hf (hGA ad h).1)
  have y1 := log_c1 hp
  have hn5 : n ≤ 5 := by omega
  clear hX hW hFl hB hp hg hl hm hr hlen hGl hGA hGp hnc h5
  go_enter Try.func28, Try.ntmps28
  go_wp2_with fail
  clear y1
  go_loopw [5, 14] (fun s5 s14 wr => ∃ (j : Nat) (T : Bank) (any : Bool), s5 = .int .i64 ((if any = true then 0 else 5 : Nat) : Int) ∧ s14 = .int .i64 (j : Int) ∧ j ≤ n ∧ Hid (X = layAll (2 + V.at_) l (V.live.drop j) T any) ∧ Hid (BankOn wr b F T) ∧ Hid (T.writes ≤ S.writes + j * 48) ∧ Hid (Turn F w wr)) (fun _ s14 _ => n - (intOf s14).toNat)
  case atStart => exact ⟨0, S, false, rfl, rfl, Nat.zero_le _, HX, HB, hide (by omega), hide (Turn.refl _ _)⟩
  case round =>
    obtain ⟨j, T, any, rfl, rfl, hjn, hXT, hBT, hWT, hT⟩ := hrel
    obtain ⟨wo, rfl⟩ : ∃ wo, wo = wr := ⟨_, rfl⟩
    obtain ⟨v5, hv5⟩ : ∃ v5 : Int, v5 = ((if any = true then 0 else 5 : Nat) : Int) := ⟨_, rfl⟩
    have HV5 := hide hv5
    rw [← hv5]
    clear hv5
    by_cases hj : j < n
    · have hjw : (j : Int) < (n : Int) := by omega
      obtain ⟨ad, rfl, hab, hcs⟩ := HR.out.2 (by omega)
      obtain ⟨d, hd⟩ : ∃ d, V.live[j]? = some d := ⟨V.live[j]'(by have := HLEN.out; omega), List.getElem?_eq_getElem _⟩
      have hce : wo.cell? (ad.add j) = some (.int .i64 (d : Int)) := (World.cell?_of_block (hT.out.block _ (by rw [block_of_add]; exact hab) (by rw [block_of_add]; exact HA.out ad rfl))).trans (hcs j _ (by unfold I64; rw [List.getElem?_map, List.getElem?_map, hd]; rfl))
      have HDR := hide (show V.live.drop j = d :: V.live.drop (j + 1) from by
        obtain ⟨hlt, he⟩ := List.getElem?_eq_some_iff.1 hd
        rw [List.drop_eq_getElem_cons hlt, he])
      have HX2 := hide (show X = if (layB T d (2 + V.at_) l).1 = 7 ∨ (layB T d (2 + V.at_) l).1 = 8 then layAll (2 + V.at_) l (V.live.drop (j + 1)) (layB T d (2 + V.at_) l).2 any else if (layB T d (2 + V.at_) l).1 = 0 then layAll (2 + V.at_) l (V.live.drop (j + 1)) (layB T d (2 + V.at_) l).2 true else (6, (layB T d (2 + V.at_) l).2) by
        rw [hXT.out, HDR.out]
        rfl)
      have HC := hide (HLAY.out wo T d hBT.out (HP.out.of_block (hT.out.block p HP.out.lt hpF)) (HG.out.of_block (hT.out.block g HG.out.lt hgF)) (by have := hWT.out; omega))
      have hws := layB_more l T d (2 + V.at_)
      have HWS := hide (show (layB T d (2 + V.at_) l).2.writes ≤ S.writes + (j + 1) * 48 by have h1 := hWT.out; have h2 := HM.out; omega)
      clear hd hcs hws
      generalize layB T d (2 + V.at_) l = C at HX2 HC HWS
      obtain ⟨C1, C2⟩ := C
      have HLO := hide (fun w => mlost_any C1 w)
      by_cases hc : C1 = 7 ∨ C1 = 8
      · have HX3 := hide (show X = layAll (2 + V.at_) l (V.live.drop (j + 1)) C2 any by rw [HX2.out]; exact if_pos hc)
        rw [decide_eq_true hc] at HLO
        clear hc
        go_wp2_with (first
          | (go_at_call 42; refine HC.out.mono ?_; rintro _ w2 ⟨rfl, hB2, hT2⟩)
          | (go_at_call 43; refine (HLO.out _).mono ?_; rintro _ _ ⟨rfl, rfl⟩))
        go_roundw
        case rel => exact ⟨j + 1, C2, any, by rw [HV5.out], by simp, by omega, HX3, hide hB2, HWS, hide (hT.out.trans hT2)⟩
        case measure => simp [intOf]; omega
      · have HX3 := hide (show X = if C1 = 0 then layAll (2 + V.at_) l (V.live.drop (j + 1)) C2 true else (6, C2) by rw [HX2.out]; exact if_neg hc)
        rw [decide_eq_false hc] at HLO
        by_cases h0 : C1 = 0
        · have HX4 := hide (show X = layAll (2 + V.at_) l (V.live.drop (j + 1)) C2 true by rw [HX3.out]; exact if_pos h0)
          subst h0
          rw [show ((0 : Nat) : Int) = 0 from rfl] at HC HLO
          clear hc
          go_wp2_with (first
            | (go_at_call 42; refine HC.out.mono ?_; rintro _ w2 ⟨rfl, hB2, hT2⟩)
            | (go_at_call 43; refine (HLO.out _).mono ?_; rintro _ _ ⟨rfl, rfl⟩))
          go_roundw
          case rel => exact ⟨j + 1, C2, true, rfl, by simp, by omega, HX4, hide hB2, HWS, hide (hT.out.trans hT2)⟩
          case measure => simp [intOf]; omega
        · have HX4 := hide (show X = (6, C2) by rw [HX3.out]; exact if_neg h0)
          have hne : ((C1 : Int) != 0) = true := by simp; omega
          clear hc h0
          go_wp2_with (first
            | (go_at_call 42; refine HC.out.mono ?_; rintro _ w2 ⟨rfl, hB2, hT2⟩)
            | (go_at_call 43; refine (HLO.out _).mono ?_; rintro _ _ ⟨rfl, rfl⟩))
          go_ret
          exact ⟨(congrArg (fun x : Nat × Bank => Ending.returned (.int .i64 (x.1 : Int))) HX4.out).symm, by rw [HX4.out]; exact hB2, hT.out.trans hT2⟩
    · obtain rfl : j = n := by omega
      have HX3 := hide (show X = (if any = true then 0 else 5, T) by
        rw [hXT.out, List.drop_of_length_le (by rw [HLEN.out]; exact Nat.le_refl _)]
        rfl)
      go_wp2
      go_ret
      exact ⟨by rw [HV5.out]; exact (congrArg (fun x : Nat × Bank => Ending.returned (.int .i64 (x.1 : Int))) HX3.out).symm, by rw [HX3.out]; exact hBT.out, hT.out⟩
#print axioms layAll_any
theorem LogOn.set {w : World} {p b : Nat} {G : Nat → Prop} {V : LogV} (h : LogOn w p G b V) (i : Nat) (u : Value) (V' : LogV) (he : ∀ A n c, (logC b A n c V).toArray.setIfInBounds i u = (logC b A n c V').toArray) (hlive : V'.live = V.live) : LogOn (w.setCell ⟨p, i, none⟩ u) p G b V' := by
  obtain ⟨A, n, c, h1, h2, h3, h4, h5, h6, h7⟩ := h
  have hT := Turn.set (F := fun x => x = p) (Turn.refl _ w) (⟨p, i, none⟩ : Addr) (.inl rfl) u
  refine ⟨A, n, c, ?_, ?_, h3, h4, h5, fun x hx => Nat.lt_of_lt_of_le (h6 x hx) hT.size, h7⟩
  · have h8 := h1.set_ i u
    rw [he] at h8
    exact h8
  · rw [hlive]
    refine ⟨h2.1, fun h0 => ?_⟩
    obtain ⟨ad, e, hb, hc⟩ := h2.2 h0
    refine ⟨ad, e, Nat.lt_of_lt_of_le hb hT.size, fun j v hv => ?_⟩
    exact (World.cell?_of_block (hT.block _ (by rw [block_of_add]; exact hb) (by rw [block_of_add]; exact (h7 ad e).2))).trans (hc j v hv)
theorem LogOn.cells {w : World} {p b : Nat} {G : Nat → Prop} {V : LogV} (h : LogOn w p G b V) : w.cell? ⟨p, 2, none⟩ = some (.int .i64 V.gen) ∧ w.cell? ⟨p, 3, none⟩ = some (.int .i64 (V.num : Int)) ∧ w.cell? ⟨p, 4, none⟩ = some (.int .i64 (V.at_ : Int)) ∧ w.cell? ⟨p, 5, none⟩ = some (.bool V.ended) ∧ ∀ i, w.frozen? ⟨p, i, none⟩ = false := by
  obtain ⟨A, n, c, h1, _⟩ := h
  exact ⟨log_c2 h1, log_c3 h1, log_c4 h1, log_c5 h1, fun i => h1.frozen i⟩
theorem parts_in (gen nr : Int) (r : List UInt8) : PartsIn (B8 (splitT gen nr r)).toArray (partsS gen nr r) := by
  intro i s hs j v hv
  obtain ⟨hi, he⟩ := partsS_at hs
  have h1 : secAt (splitT gen nr r) i = pieceS gen nr r i := secAt_cat (fun i _ => secT_length _ _) hi
  unfold secL at hv
  rw [he, ← h1] at hv
  have hj : j < 64 := by
    have h2 := (List.getElem?_eq_some_iff.1 hv).1
    rw [B8_length] at h2
    unfold secAt at h2
    rw [List.length_take] at h2
    omega
  unfold secAt at hv
  rw [← B8_take, ← B8_drop, List.getElem?_take, if_pos hj, List.getElem?_drop] at hv
  rw [List.getElem?_toArray]
  exact hv
theorem split_len (n : Nat) : partsN n = 0 ↔ 2120 < n := by
  unfold partsN partsI
  split
  · omega
  · split <;> omega
section
variable {V : LogV} {S : Bank} {r : List UInt8}
theorem app_ended (h : V.ended = true) : appendJ V S r = (9, V, S) := by
  unfold appendJ
  rw [if_pos h]
theorem app_arg (h : V.ended = false) (h2 : ¬ (numB V.gen = true ∧ numB (V.num : Nat) = true ∧ r.length ≤ 2120)) : appendJ V S r = (1, V, S) := by
  unfold appendJ
  rw [if_neg (by rw [h]; decide), if_pos h2]
theorem app_full (h : V.ended = false) (h2 : numB V.gen = true ∧ numB (V.num : Nat) = true ∧ r.length ≤ 2120) (h3 : 48 < V.at_ + partsN r.length) : appendJ V S r = (10, V, S) := by
  unfold appendJ
  rw [if_neg (by rw [h]; decide), if_neg (fun k => k h2), if_pos h3]
theorem app_laid (h : V.ended = false) (h2 : numB V.gen = true ∧ numB (V.num : Nat) = true ∧ r.length ≤ 2120) (h3 : ¬ 48 < V.at_ + partsN r.length) {e : Nat} {T : Bank} (h4 : layAll (2 + V.at_) (partsS V.gen (V.num : Nat) r) V.live S false = (e, T)) :
    appendJ V S r = if e = 0 then (0, { V with at_ := V.at_ + partsN r.length, num := V.num + 1 }, T) else (e, { V with ended := decide (e = 6 ∨ e = 5) }, T) := by
  unfold appendJ
  rw [if_neg (by rw [h]; decide), if_neg (fun k => k h2), if_neg h3, h4]
end
set_option maxRecDepth 100000 in
set_option maxHeartbeats 8000000 in
theorem append_any (w : World) (p b : Nat) (F G : Nat → Prop) (S : Bank) (V : LogV) (A : Option Addr) (n c : Nat) (r : List UInt8) (hW : WritesB b F) (hFl : FlushesB b F) (hB : BankOn w b F S) (hO : LogOn w p G b V) (hap : ∀ x, F x → ¬ G x) (hr : Reads w w.heap.size 1 A n (B8 r)) (hc : n ≤ c) (hc2 : c ≤ 9223372036854775807) (hw : S.writes ≤ 1000000) (h5 : V.live.length ≤ 5) (hat : V.at_ ≤ 48) (hnum : V.num ≤ 48) :
    Calls Try.prog 13 #[.pointer (some ⟨p, 0, none⟩), .slice A n c] w fun e w' => e = .returned (.int .i64 ((appendJ V S r).1 : Int)) ∧ BankOn w' b F (appendJ V S r).2.2 ∧ LogOn w' p G b (appendJ V S r).2.1 ∧ Turn (fun x => F x ∨ x = p) w w' := by
  obtain ⟨y2, y3, y4, y5, yf⟩ := hO.cells
  cases hend : V.ended with
  | true =>
    rw [app_ended hend]
    rw [hend] at y5
    have HB := hide hB
    have HO := hide hO
    clear hr hB hO hW hFl yf
    go_enter Try.func13, Try.ntmps13
    go_wp2
    go_ret
    exact ⟨rfl, HB.out, HO.out, Turn.refl _ _⟩
  | false =>
    rw [hend] at y5
    have HEND := hide hend
    obtain ⟨X, hX⟩ : ∃ X, X = appendJ V S r := ⟨_, rfl⟩
    rw [← hX]
    have hlen : r.length = n := by have := hr.1; rw [B8_length] at this; omega
    have HLEN := hide hlen
    have hbd : Below w.heap.size w w.drew := (Below.refl _ _).drew
    have HB1 := hide (hB.later hbd)
    have HO1 := hide (hO.kept (T := fun _ => False) (Turn.of_below hbd) (fun _ _ h => h))
    have HR1 := hide (hr.later hbd)
    have HBD := hide hbd
    have HAP := hide hap
    have HW := hide hW
    have HFL := hide hFl
    clear hB hO hr hap hW hFl hend hlen hbd yf
    by_cases hok : numB V.gen = true ∧ numB (V.num : Nat) = true
    · have HOK := hide hok
      have HS := hide (recSplit_any V.gen (V.num : Int) A n c r w.drew.heap.size w.drew HR1.out (Nat.le_refl _) hc hc2 hok.1 hok.2)
      have hN40 : partsN r.length ≤ 40 := by
        unfold partsN partsI
        split
        · omega
        · split <;> omega
      clear hok
      by_cases hlong : 2120 < r.length
      · have HX := hide (hX.trans (app_arg HEND.out (fun h => absurd h.2.2 (by omega))))
        rw [(split_len r.length).2 hlong] at HS
        clear hX hN40
        go_enter Try.func13, Try.ntmps13
        go_wp2_with fail
        go_still_tail 9, (by kernel_rfl)
        change wpList _ _ _ _ _ w.drew
        generalize w.drew = w1 at *
        clear y2 y3 y4 y5
        go_wp2_with (go_at_call 27; refine HS.out.mono ?_; rintro _ w2 ⟨g, rfl, hg1, hbg, hl2⟩)
        go_ret
        exact ⟨by rw [HX.out]; rfl, by rw [HX.out]; exact HB1.out.later hl2, by rw [HX.out]; exact HO1.out.kept (T := fun _ => False) (Turn.of_below hl2) (fun _ _ h => h), Turn.of_below (HBD.out.trans (hl2.mono HBD.out.size))⟩
      · have hN0 : partsN r.length ≠ 0 := fun h => absurd ((split_len r.length).1 h) hlong
        have HPL := hide (partsS_length V.gen (V.num : Nat) r)
        have HPI := hide (parts_in V.gen (V.num : Nat) r)
        have HOK3 := hide (show numB V.gen = true ∧ numB (V.num : Nat) = true ∧ r.length ≤ 2120 from ⟨HOK.out.1, HOK.out.2, by omega⟩)
        have HAF := hide (fun (h : 48 < V.at_ + partsN r.length) => hX.trans (app_full HEND.out HOK3.out h))
        have HAL := hide (fun (h : ¬ 48 < V.at_ + partsN r.length) (e : Nat) (T : Bank) (h4 : layAll (2 + V.at_) (partsS V.gen (V.num : Nat) r) V.live S false = (e, T)) => hX.trans (app_laid HEND.out HOK3.out h h4))
        obtain ⟨N, hN⟩ : ∃ N, N = partsN r.length := ⟨_, rfl⟩
        rw [← hN] at HS HPL HAF HAL hN0 hN40
        clear hX hN hlong
        have hN0w : ¬ ((N : Int) = 0) := by omega
        by_cases hfull : 48 < V.at_ + N
        · have HX := hide (HAF.out hfull)
          have hfw : ((48 - V.at_ : Nat) : Int) < (N : Int) := by omega
          go_enter Try.func13, Try.ntmps13
          go_wp2_with fail
          go_still_tail 9, (by kernel_rfl)
          change wpList _ _ _ _ _ w.drew
          generalize w.drew = w1 at *
          clear y2 y3 y4 y5
          go_wp2_with (first
            | (go_at_call 27; refine HS.out.mono ?_; rintro _ w2 ⟨g, rfl, hg1, hbg, hl2⟩; have HO2 := hide (HO1.out.kept (T := fun _ => False) (Turn.of_below hl2) (fun _ _ h => h)))
            | (go_at_call 20; refine (mroom_any w2 p b G V HO2.out hat).mono ?_; rintro _ _ ⟨rfl, rfl⟩))
          go_ret
          exact ⟨by rw [HX.out]; rfl, by rw [HX.out]; exact HB1.out.later hl2, by rw [HX.out]; exact HO2.out, Turn.of_below (HBD.out.trans (hl2.mono HBD.out.size))⟩
        · have hfw : ¬ (((48 - V.at_ : Nat) : Int) < (N : Int)) := by omega
          have herr := layAll_err (2 + V.at_) (partsS V.gen (V.num : Nat) r) V.live S false
          have HLA := hide (fun (w2 : World) (g : Nat) (h1 : BankOn w2 b F S) (h2 : LogOn w2 p G b V) (h3 : Blk w2 g 51 (B8 (splitT V.gen (V.num : Int) r)).toArray) (h4 : ¬ F g) => layAll_any p b g F G S V N N (partsS V.gen (V.num : Nat) r) _ w2 HW.out HFL.out h1 h2 HAP.out h3 h4 HPI.out HPL.out (by omega) hat hw h5)
          have HAL2 := hide (HAL.out hfull)
          clear HAL HAF
          generalize layAll (2 + V.at_) (partsS V.gen (V.num : Nat) r) V.live S false = C at herr HLA HAL2
          obtain ⟨C1, C2⟩ := C
          have HX := hide (HAL2.out C1 C2 rfl)
          clear HAL2
          by_cases h0 : C1 = 0
          · have HX2 := hide (show X = (0, { V with at_ := V.at_ + N, num := V.num + 1 }, C2) by rw [HX.out, if_pos h0])
            subst h0
            rw [show ((0 : Nat) : Int) = 0 from rfl] at HLA
            clear HX herr
            go_enter Try.func13, Try.ntmps13
            go_wp2_with fail
            go_still_tail 9, (by kernel_rfl)
            change wpList _ _ _ _ _ w.drew
            generalize w.drew = w1 at *
            clear y2 y3 y4 y5
            go_wp2_with (first
              | (go_at_call 27; refine HS.out.mono ?_; rintro _ w2 ⟨g, rfl, hg1, hbg, hl2⟩; have HO2 := hide (HO1.out.kept (T := fun _ => False) (Turn.of_below hl2) (fun _ _ h => h)); have HB2 := hide (HB1.out.later hl2); have hgF : ¬ F g := fun h => by have := HB1.out.1 g h; omega)
              | (go_at_call 20; refine (mroom_any w2 p b G V HO2.out hat).mono ?_; rintro _ _ ⟨rfl, rfl⟩)
              | (go_at_call 28; refine (HLA.out w2 g HB2.out HO2.out hbg hgF).mono ?_; rintro _ w3 ⟨rfl, hB3, hT3⟩; have HO3 := hide (HO2.out.kept hT3 (fun x hx hf => HAP.out x hf hx)); obtain ⟨z2, z3, z4, z5, zf⟩ := HO3.out.cells; have zf3 := zf 3; have zf4 := zf 4))
            go_ret
            have hpF : ¬ F p := fun h => HAP.out p h HO3.out.own.1
            have hT1 := Turn.set (F := fun x => x = p) (Turn.refl _ w3) (⟨p, 3, none⟩ : Addr) (.inl rfl) (.int .i64 ((V.num : Int) + 1))
            have hT2 := hT1.set (⟨p, 4, none⟩ : Addr) (.inl rfl) (.int .i64 ((V.at_ : Int) + (N : Int)))
            have hO4 := (HO3.out.set 3 (.int .i64 ((V.num : Int) + 1)) { V with num := V.num + 1 } (fun _ _ _ => rfl) rfl).set 4 (.int .i64 ((V.at_ : Int) + (N : Int))) { V with at_ := V.at_ + N, num := V.num + 1 } (fun _ _ _ => rfl) rfl
            refine ⟨(congrArg (fun x : Nat × LogV × Bank => Ending.returned (.int .i64 (x.1 : Int))) HX2.out).symm, by rw [HX2.out]; exact hB3.kept hT2 (fun x hx e => hpF (e ▸ hx)), by rw [HX2.out]; exact hO4, ?_⟩
            exact (((Turn.of_below (HBD.out.trans (hl2.mono HBD.out.size))).trans (hT3.wider (fun x hx => .inl hx))).trans (hT2.wider (fun x hx => .inr hx)))
          · have hne : ((C1 : Int) != 0) = true := by simp; omega
            have HX2 := hide (show X = (C1, { V with ended := true }, C2) by
              rw [HX.out, if_neg h0, decide_eq_true (show C1 = 6 ∨ C1 = 5 by
                have q : C1 = 0 ∨ C1 = 5 ∨ C1 = 6 := herr
                omega)])
            clear HX herr h0
            go_enter Try.func13, Try.ntmps13
            go_wp2_with fail
            go_still_tail 9, (by kernel_rfl)
            change wpList _ _ _ _ _ w.drew
            generalize w.drew = w1 at *
            clear y2 y3 y4 y5
            go_wp2_with (first
              | (go_at_call 27; refine HS.out.mono ?_; rintro _ w2 ⟨g, rfl, hg1, hbg, hl2⟩; have HO2 := hide (HO1.out.kept (T := fun _ => False) (Turn.of_below hl2) (fun _ _ h => h)); have HB2 := hide (HB1.out.later hl2); have hgF : ¬ F g := fun h => by have := HB1.out.1 g h; omega)
              | (go_at_call 20; refine (mroom_any w2 p b G V HO2.out hat).mono ?_; rintro _ _ ⟨rfl, rfl⟩)
              | (go_at_call 28; refine (HLA.out w2 g HB2.out HO2.out hbg hgF).mono ?_; rintro _ w3 ⟨rfl, hB3, hT3⟩; have HO3 := hide (HO2.out.kept hT3 (fun x hx hf => HAP.out x hf hx)); obtain ⟨z2, z3, z4, z5, zf⟩ := HO3.out.cells; have zf5 := zf 5; clear zf))
            go_ret
            have hpF : ¬ F p := fun h => HAP.out p h HO3.out.own.1
            have hTs := Turn.set (F := fun x => x = p) (Turn.refl _ w3) (⟨p, 5, none⟩ : Addr) (.inl rfl) (.bool true)
            refine ⟨(congrArg (fun x : Nat × LogV × Bank => Ending.returned (.int .i64 (x.1 : Int))) HX2.out).symm, by rw [HX2.out]; exact hB3.kept hTs (fun x hx e => hpF (e ▸ hx)), by rw [HX2.out]; exact HO3.out.set 5 (.bool true) _ (fun _ _ _ => rfl) rfl, ?_⟩
            exact (((Turn.of_below (HBD.out.trans (hl2.mono HBD.out.size))).trans (hT3.wider (fun x hx => .inl hx))).trans (hTs.wider (fun x hx => .inr hx)))
    · have HX := hide (hX.trans (app_arg HEND.out (fun h => hok ⟨h.1, h.2.1⟩)))
      have HS := hide (recSplit_no V.gen (V.num : Int) (.slice A n c) w.drew (by
        cases h1 : numB V.gen with
        | false => exact .inl rfl
        | true =>
          right
          cases h2 : numB (V.num : Int) with
          | false => rfl
          | true => exact absurd ⟨h1, h2⟩ hok))
      clear hX hok
      go_enter Try.func13, Try.ntmps13
      go_wp2_with fail
      go_still_tail 9, (by kernel_rfl)
      change wpList _ _ _ _ _ w.drew
      generalize w.drew = w1 at *
      clear y2 y3 y4 y5
      go_wp2_with (go_at_call 27; refine HS.out.mono ?_; rintro _ _ ⟨rfl, rfl⟩)
      go_ret
      exact ⟨by rw [HX.out]; rfl, by rw [HX.out]; exact HB1.out, by rw [HX.out]; exact HO1.out, Turn.of_below HBD.out⟩
#print axioms append_any
theorem writesB (b : Nat) (F : Nat → Prop) : WritesB b F := fun _ _ h hw d k s => on_write h hw d k s
theorem flushesB (b : Nat) (F : Nat → Prop) : FlushesB b F := fun _ _ h d => on_flush h d
theorem asksB {w : World} {b : Nat} {F : Nat → Prop} {S : Bank} (h : BankOn w b F S) : AsksB w b S := fun _ hb d k => on_read (h.later hb) d k
/-- The contracts of the landed code. -/
def logK : LogK where
  On := LogOn
  kept := fun h hT ha => h.kept hT ha
  own := fun h => h.own
  new_any := fun w b A n c live gen hr _ _ hn => (mnew_any w b A n c live gen hr hn).mono fun _ _ ⟨p, G, he, hO, hp, hG, hl⟩ => ⟨p, G, he, hO, hp, fun x hx => .inl (hG x hx), hl⟩
  append_any := fun w p b F G S V A n c r hB hO hap hr hc hc2 hw h5 hat hnum => Go.Proofs.Ytifdbofbmaeboaa.append_any w p b F G S V A n c r (writesB b F) (flushesB b F) hB hO hap hr hc hc2 hw h5 hat hnum
  scan_any := fun w b F S A n c live gen hB hup hr _ _ hn hv => Go.Proofs.Ytifdbofbmaeboaa.scan_any A n c live b S gen w (asksB hB) hr ⟨hup, hv⟩ (by omega)
  room_any := fun w p b G V h ha => mroom_any w p b G V h ha
  next_any := fun w p b G V h _ => mnext_any w p b G V h
#print axioms logK
end Go.Proofs.Ytifdbofbmaeboaa
