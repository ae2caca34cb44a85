/- What metalog and check write alike: the same sectors, laid down on each of several members: Lost, writeOne, Write of spread. -/
import Derived.Test.YtmjdndhpnckeeaaWhen
import Derived.WalkSpells
import Derived.Test.YtmjdndhpnckeeaaJouM
import Derived.Test.YtmjdndhpnckeeaaBank
import Derived.Test.YtmjdndhpnckeeaaPoke
import Derived.Test.YtmjdndhpnckeeaaStepK
import Derived.Test.YtmjdndhpnckeeaaArgI
import Derived.Test.YtmjdndhpnckeeaaTwoRows
import Derived.StillTailTactics
namespace Go.Proofs.Ytmjdndhpnckeeaa
open Go.RowKit
theorem tick_writes (S : Bank) : ∀ i, (S.tick i).writes = S.writes
  | 0 => rfl
  | i + 1 => by
    have ih := tick_writes S i
    unfold Bank.tick
    simp only
    split
    · exact ih
    · split
      · exact ih
      · exact ih
theorem count_writes (S : Bank) : S.count.2.writes ≤ S.writes + 1 := by
  have h : S.ticked.writes = S.writes + 1 := tick_writes S.wrote S.n
  unfold Bank.count
  split
  · exact Nat.le_succ _
  · simp only
    split
    · exact Nat.le_of_eq h
    · split
      · rw [crash_writes]
        exact Nat.le_of_eq h
      · exact Nat.le_of_eq h
theorem write_writes (S : Bank) (d k : Nat) (s : Sec) : (S.write d k s).2.writes ≤ S.writes + 1 := by
  have h := count_writes S
  unfold Bank.write
  simp only
  split
  · exact h
  · split
    · exact h
    · exact h
theorem layB_more : ∀ (l : List Sec) (S : Bank) (d q : Nat), (layB S d q l).2.writes ≤ S.writes + l.length
  | [], S, d, q => by
    unfold layB
    split
    · exact Nat.le_refl _
    · exact Nat.le_refl _
  | s :: l, S, d, q => by
    have h := write_writes S d q s
    have ih := layB_more l (S.write d q s).2 d (q + 1)
    unfold layB
    rw [List.length_cons]
    split
    · omega
    · omega
/-- What Write and Flush of the bank do. -/
def WritesB (b : Nat) (F : Nat → Prop) : Prop := ∀ (w : World) (S : Bank), BankOn w b F S → S.writes < 4611686018427387904 → ∀ (d k : Nat) (s : Sec),
  Calls Try.prog 26 #[.pointer (some ⟨b, 0, none⟩), .agg #[.int .i64 (d : Int), .int .i64 (k : Int)], secV s] w fun e w' => e = .returned (.int .i64 ((S.write d k s).1 : Int)) ∧ BankOn w' b F (S.write d k s).2 ∧ Turn F w w'
def FlushesB (b : Nat) (F : Nat → Prop) : Prop := ∀ (w : World) (S : Bank), BankOn w b F S → ∀ d : Nat,
  Calls Try.prog 75 #[.pointer (some ⟨b, 0, none⟩), .int .i64 (d : Int)] w fun e w' => e = .returned (.int .i64 (S.may d : Int)) ∧ BankOn w' b F (if S.may d = 0 then S.flush d else S) ∧ Turn F w w'
/-- What the bank's Read answers, now and later. -/
def AsksB (w : World) (b : Nat) (S : Bank) : Prop := ∀ (w1 : World), Below w.heap.size w w1 → ∀ d k : Nat,
  Calls Try.prog 71 #[.pointer (some ⟨b, 0, none⟩), .agg #[.int .i64 (d : Int), .int .i64 (k : Int)]] w1 fun e w2 => e = .returned (.tuple #[secV (if S.place d k = 0 then S.newest d k else zeroSec), .int .i64 (S.place d k : Int)]) ∧ Below w1.heap.size w1 w2
theorem AsksB.later {w w' : World} {b : Nat} {S : Bank} (h : AsksB w b S) (hb : Below w.heap.size w w') : AsksB w' b S := fun w1 h1 => h w1 (hb.trans (h1.mono hb.size))
theorem range_blk9 {w : World} {g : Nat} {T : TypeId} {l : List Value} (h : Blk w g T l.toArray) : w.rangeAt g 0 l := fun j v hj => by rw [Nat.zero_add, h.cell j]; simpa using hj
/-- Sectors that lie one behind the other in a block. -/
def PartsIn (cur : Array Value) (l : List Sec) : Prop := ∀ i s, l[i]? = some s → ∀ j v, (secL s)[j]? = some v → cur[i * 64 + j]? = some v
theorem sbuilt_place (d k : Int) : Try.prog.built 49 [(0, .int .i64 d), (1, .int .i64 k)] = some #[.int .i64 d, .int .i64 k] := by kernel_rfl
/-- Is a member passed over? -/
theorem slost_any (e : Nat) (w : World) :
    Calls Try.prog 55 #[.int .i64 (e : Int)] w fun r w' => r = .returned (.bool (decide (e = 7 ∨ e = 8))) ∧ w = w' := by
  by_cases h7 : e = 7
  · subst h7
    go_enter Try.func55, Try.ntmps55
    go_wp2
    go_ret
    exact ⟨rfl, rfl⟩
  · have h7w : ¬ ((e : Int) = 7) := by omega
    by_cases h8 : e = 8
    · subst h8
      go_enter Try.func55, Try.ntmps55
      go_wp2
      go_ret
      exact ⟨rfl, rfl⟩
    · have h8w : ¬ ((e : Int) = 8) := by omega
      rw [decide_eq_false (show ¬ (e = 7 ∨ e = 8) by omega)]
      clear h7 h8
      go_enter Try.func55, Try.ntmps55
      go_wp2
      go_ret
      exact ⟨by simp [h7w, h8w], rfl⟩
set_option maxRecDepth 100000 in
set_option maxHeartbeats 8000000 in
theorem writeOne_any (b g : Nat) (F : Nat → Prop) (S : Bank) (d q m k : Nat) (l : List Sec) (cur : Array Value) (w : World) (hW : WritesB b F) (hFl : FlushesB b F) (hB : BankOn w b F S) (hg : Blk w g 51 cur) (hgF : ¬ F g) (hl : PartsIn cur l) (hm : l.length = m) (hm48 : m ≤ 48) (hq : q ≤ 1000) (hw : S.writes ≤ 4611686018427387000) :
    Calls Try.prog 54 #[.pointer (some ⟨b, 0, none⟩), .int .i64 (d : Int), .int .i64 (q : Int), .slice (some ⟨g, 0, none⟩) m k] w fun e w' => e = .returned (.int .i64 ((layB S d q l).1 : Int)) ∧ BankOn w' b F (layB S d q l).2 ∧ Turn F w w' := by
  obtain ⟨X, hX⟩ : ∃ X, X = layB S d q l := ⟨_, rfl⟩
  rw [← hX]
  have HX := hide hX
  have HW := hide hW
  have HFL := hide hFl
  have HB := hide hB
  have HG := hide hg
  have HPI := hide hl
  have HM := hide hm
  clear hX hW hFl hB hg hl hm
  go_enter Try.func54, Try.ntmps54
  go_wp2_with fail
  go_loopw [14] (fun s14 wr => ∃ (i : Nat) (T : Bank), s14 = .int .i64 (i : Int) ∧ i ≤ m ∧ Hid (X = layB T d (q + i) (l.drop i)) ∧ Hid (BankOn wr b F T) ∧ Hid (T.writes ≤ S.writes + i) ∧ Hid (Turn F w wr)) (fun s14 _ => m - (intOf s14).toNat)
  case atStart => exact ⟨0, S, rfl, Nat.zero_le _, HX, HB, hide (Nat.le_refl _), hide (Turn.refl _ _)⟩
  case round =>
    obtain ⟨i, T, rfl, him, hXT, hBT, hWT, hT⟩ := hrel
    obtain ⟨wo, rfl⟩ : ∃ wo, wo = wr := ⟨_, rfl⟩
    have HGo := hide (HG.out.of_block (hT.out.block g HG.out.lt hgF))
    by_cases hi : i < m
    · have hiw : (i : Int) < (m : Int) := by omega
      obtain ⟨s, hs⟩ : ∃ s, l[i]? = some s := ⟨l[i]'(by rw [HM.out]; exact hi), List.getElem?_eq_getElem _⟩
      have HDR := hide (show l.drop i = s :: l.drop (i + 1) from by
        obtain ⟨hlt, he⟩ := List.getElem?_eq_some_iff.1 hs
        rw [List.drop_eq_getElem_cons hlt, he])
      have HX2 := hide (show X = if (T.write d (q + i) s).1 = 0 then layB (T.write d (q + i) s).2 d (q + i + 1) (l.drop (i + 1)) else T.write d (q + i) s by
        rw [hXT.out, HDR.out]
        rfl)
      have HCS := hide (HPI.out i s hs)
      have HWR := hide (fun (w1 : World) (h1 : BankOn w1 b F T) => HW.out w1 T h1 (by have := hWT.out; omega) d (q + i) s)
      have hws := write_writes T d (q + i) s
      have HWS := hide (Nat.le_trans hws (Nat.succ_le_succ hWT.out))
      obtain ⟨U, hU⟩ : ∃ U, U = secL s := ⟨_, rfl⟩
      have HUl := hide (show U.length = 64 by rw [hU, secL_length])
      have HUO := hide (show ∀ v ∈ U, v.oneCell' = true by rw [hU]; exact secL_one _)
      have HIU := hide (show (Try.prog.info? 51).map (·.size) = some U.length by rw [HUl.out]; exact sec_info)
      have hsv : secV s = .agg U.toArray := by rw [hU]; rfl
      rw [hsv, show (((q + i : Nat)) : Int) = (q : Int) + (i : Int) by omega] at HWR
      rw [← hU] at HCS
      generalize T.write d (q + i) s = C at HX2 HWR HWS
      obtain ⟨C1, C2⟩ := C
      clear hU hsv hs hws
      by_cases hc : C1 = 0
      · subst hc
        rw [show ((0 : Nat) : Int) = 0 from rfl] at HWR
        go_wp2_with (first
          | ((with_reducible refine at_slot 18 ?_); refine wpList_load_blk rfl 51 (.tmp 17) rfl g (i * 64) 51 _ HGo.out ?hxa U _ HCS.out Try.underlying51 rfl HIU.out ?_)
          | ((with_reducible refine at_slot 10 ?_); refine wpList_alloc_blk rfl 51 rfl _ (sec_zero _) ?_; intro w3 hb3 hl3 hs3; clear hs3)
          | ((with_reducible refine at_store 10 ?_); refine wpList_store_all rfl 51 (.tmp 10) (.tmp 18) rfl wo.heap.size 51 _ hb3 rfl U rfl HIU.out (HUl.out.trans (secL_length zeroSec).symm) HUO.out ?_; intro w4 hb4 hg4 hs4; clear hs4; have hl04 : Below wo.heap.size wo w4 := hl3.grown hg4 (by have := hb3.lt; omega) (fun g e => by injection e with e; omega); have HU4 := hide hb4; have HB4 := hide (hBT.out.later hl04); have HT4 := hide (hT.out.below hl04); clear hb3 hl3 hb4 hg4 hl04)
          | ((with_reducible refine at_slot 24 ?_); refine wpList_build_is rfl 49 _ rfl _ rfl _ (sbuilt_place _ _) ?_)
          | ((with_reducible refine at_slot 25 ?_); refine wpList_load_blk rfl 51 (.tmp 10) rfl wo.heap.size 0 51 _ HU4.out rfl U _ (fun j v hj => by rw [Nat.zero_add]; simpa using hj) Try.underlying51 rfl HIU.out ?_)
          | (go_at_call 26; refine (HWR.out w4 HB4.out).mono ?_; rintro _ w6 ⟨rfl, hB6, hT6⟩))
        have HX3 := hide (show X = layB C2 d (q + i + 1) (l.drop (i + 1)) by rw [HX2.out]; simp)
        go_roundw
        case rel => exact ⟨i + 1, C2, by simp, by omega, HX3, hide hB6, hide (by have := HWS.out; omega), hide (HT4.out.trans hT6)⟩
        case measure => simp [intOf]; omega
      · have hne : ((C1 : Int) != 0) = true := by simp; omega
        go_wp2_with (first
          | ((with_reducible refine at_slot 18 ?_); refine wpList_load_blk rfl 51 (.tmp 17) rfl g (i * 64) 51 _ HGo.out ?hxa U _ HCS.out Try.underlying51 rfl HIU.out ?_)
          | ((with_reducible refine at_slot 10 ?_); refine wpList_alloc_blk rfl 51 rfl _ (sec_zero _) ?_; intro w3 hb3 hl3 hs3; clear hs3)
          | ((with_reducible refine at_store 10 ?_); refine wpList_store_all rfl 51 (.tmp 10) (.tmp 18) rfl wo.heap.size 51 _ hb3 rfl U rfl HIU.out (HUl.out.trans (secL_length zeroSec).symm) HUO.out ?_; intro w4 hb4 hg4 hs4; clear hs4; have hl04 : Below wo.heap.size wo w4 := hl3.grown hg4 (by have := hb3.lt; omega) (fun g e => by injection e with e; omega); have HU4 := hide hb4; have HB4 := hide (hBT.out.later hl04); have HT4 := hide (hT.out.below hl04); clear hb3 hl3 hb4 hg4 hl04)
          | ((with_reducible refine at_slot 24 ?_); refine wpList_build_is rfl 49 _ rfl _ rfl _ (sbuilt_place _ _) ?_)
          | ((with_reducible refine at_slot 25 ?_); refine wpList_load_blk rfl 51 (.tmp 10) rfl wo.heap.size 0 51 _ HU4.out rfl U _ (fun j v hj => by rw [Nat.zero_add]; simpa using hj) Try.underlying51 rfl HIU.out ?_)
          | (go_at_call 26; refine (HWR.out w4 HB4.out).mono ?_; rintro _ w6 ⟨rfl, hB6, hT6⟩))
        have HX3 := hide (show X = (C1, C2) by rw [HX2.out]; exact if_neg hc)
        go_ret
        exact ⟨(congrArg (fun x : Nat × Bank => Ending.returned (.int .i64 (x.1 : Int))) HX3.out).symm, by rw [HX3.out]; exact hB6, HT4.out.trans hT6⟩
    · obtain rfl : i = m := by omega
      have hiw : ¬ ((i : Int) < (i : Int)) := by omega
      have HX3 := hide (show X = (T.may d, if T.may d = 0 then T.flush d else T) by
        rw [hXT.out, List.drop_of_length_le (by rw [HM.out]; exact Nat.le_refl _)]
        rfl)
      go_wp2_with (go_at_call 75; refine (HFL.out wo T hBT.out d).mono ?_; rintro _ w5 ⟨rfl, hB5, hT5⟩)
      go_ret
      exact ⟨(congrArg (fun x : Nat × Bank => Ending.returned (.int .i64 (x.1 : Int))) HX3.out).symm, by rw [HX3.out]; exact hB5, hT.out.trans hT5⟩
#print axioms writeOne_any
theorem layAll_err (q : Nat) (l : List Sec) : ∀ (live : List Nat) (S : Bank) (any : Bool), (layAll q l live S any).1 = 0 ∨ (layAll q l live S any).1 = 5 ∨ (layAll q l live S any).1 = 6
  | [], S, any => by
    unfold layAll
    cases any
    · exact .inr (.inl rfl)
    · exact .inl rfl
  | d :: ds, S, any => by
    unfold layAll
    split
    · exact layAll_err q l ds _ _
    · split
      · exact layAll_err q l ds _ _
      · exact .inr (.inr rfl)
set_option maxRecDepth 100000 in
set_option maxHeartbeats 8000000 in
theorem spread_any (b g : Nat) (F : Nat → Prop) (S : Bank) (A : Option Addr) (n c : Nat) (live : List Nat) (q m k : Nat) (l : List Sec) (cur : Array Value) (w : World) (hW : WritesB b F) (hFl : FlushesB b F) (hB : BankOn w b F S) (hr : Reads w w.heap.size 1 A n (I64 (live.map Int.ofNat))) (hA : ∀ ad, A = some ad → 0 < n → ¬ F ad.block) (hg : Blk w g 51 cur) (hgF : ¬ F g) (hl : PartsIn cur l) (hm : l.length = m) (hm48 : m ≤ 48) (hq : q ≤ 1000) (hw : S.writes ≤ 1000000) (hn5 : n ≤ 5) :
    Calls Try.prog 36 #[.pointer (some ⟨b, 0, none⟩), .slice A n c, .int .i64 (q : Int), .slice (some ⟨g, 0, none⟩) m k] w fun e w' => e = .returned (.int .i64 ((layAll q l live S false).1 : Int)) ∧ BankOn w' b F (layAll q l live S false).2 ∧ Turn F w w' := by
  have hlen : live.length = n := by have := hr.1; rw [I64_length, List.length_map] at this; omega
  obtain ⟨X, hX⟩ : ∃ X, X = layAll q l live S false := ⟨_, rfl⟩
  rw [← hX]
  have HX := hide hX
  have HB := hide hB
  have HG := hide hg
  have HR := hide hr
  have HLEN := hide hlen
  have HLAY := hide (fun (w1 : World) (T : Bank) (d : Nat) (h1 : BankOn w1 b F T) (h3 : Blk w1 g 51 cur) (h4 : T.writes ≤ 4611686018427387000) => writeOne_any b g F T d q m k l cur w1 hW hFl h1 h3 hgF hl hm hm48 hq h4)
  have HM := hide hm
  have HA := hide hA
  clear hX hW hFl hB hg hl hm hr hlen hA
  go_enter Try.func36, Try.ntmps36
  go_wp2_with fail
  go_loopw [9, 15] (fun s9 s15 wr => ∃ (j : Nat) (T : Bank) (any : Bool), s9 = .int .i64 ((if any = true then 0 else 5 : Nat) : Int) ∧ s15 = .int .i64 (j : Int) ∧ j ≤ n ∧ Hid (X = layAll q l (live.drop j) T any) ∧ Hid (BankOn wr b F T) ∧ Hid (T.writes ≤ S.writes + j * 48) ∧ Hid (Turn F w wr)) (fun _ s15 _ => n - (intOf s15).toNat)
  case atStart => exact ⟨0, S, false, rfl, rfl, Nat.zero_le _, HX, HB, hide (by omega), hide (Turn.refl _ _)⟩
  case round =>
    obtain ⟨j, T, any, rfl, rfl, hjn, hXT, hBT, hWT, hT⟩ := hrel
    obtain ⟨wo, rfl⟩ : ∃ wo, wo = wr := ⟨_, rfl⟩
    obtain ⟨v9, hv5⟩ : ∃ v9 : Int, v9 = ((if any = true then 0 else 5 : Nat) : Int) := ⟨_, rfl⟩
    have HV5 := hide hv5
    rw [← hv5]
    clear hv5
    by_cases hj : j < n
    · have hjw : (j : Int) < (n : Int) := by omega
      obtain ⟨ad, rfl, hab, hcs⟩ := HR.out.2 (by omega)
      obtain ⟨d, hd⟩ : ∃ d, live[j]? = some d := ⟨live[j]'(by have := HLEN.out; omega), List.getElem?_eq_getElem _⟩
      have hce : wo.cell? (ad.add j) = some (.int .i64 (d : Int)) := (World.cell?_of_block (hT.out.block _ (by rw [block_of_add]; exact hab) (by rw [block_of_add]; exact HA.out ad rfl (by omega)))).trans (hcs j _ (by unfold I64; rw [List.getElem?_map, List.getElem?_map, hd]; rfl))
      have HDR := hide (show live.drop j = d :: live.drop (j + 1) from by
        obtain ⟨hlt, he⟩ := List.getElem?_eq_some_iff.1 hd
        rw [List.drop_eq_getElem_cons hlt, he])
      have HX2 := hide (show X = if (layB T d q l).1 = 7 ∨ (layB T d q l).1 = 8 then layAll q l (live.drop (j + 1)) (layB T d q l).2 any else if (layB T d q l).1 = 0 then layAll q l (live.drop (j + 1)) (layB T d q l).2 true else (6, (layB T d q l).2) by
        rw [hXT.out, HDR.out]
        rfl)
      have HC := hide (HLAY.out wo T d hBT.out (HG.out.of_block (hT.out.block g HG.out.lt hgF)) (by have := hWT.out; omega))
      have hws := layB_more l T d q
      have HWS := hide (show (layB T d q l).2.writes ≤ S.writes + (j + 1) * 48 by have h1 := hWT.out; have h2 := HM.out; omega)
      clear hd hcs hws
      generalize layB T d q l = C at HX2 HC HWS
      obtain ⟨C1, C2⟩ := C
      have HLO := hide (fun w => slost_any C1 w)
      by_cases hc : C1 = 7 ∨ C1 = 8
      · have HX3 := hide (show X = layAll q l (live.drop (j + 1)) C2 any by rw [HX2.out]; exact if_pos hc)
        rw [decide_eq_true hc] at HLO
        clear hc
        go_wp2_with (first
          | (go_at_call 54; refine HC.out.mono ?_; rintro _ w2 ⟨rfl, hB2, hT2⟩)
          | (go_at_call 55; refine (HLO.out _).mono ?_; rintro _ _ ⟨rfl, rfl⟩))
        go_roundw
        case rel => exact ⟨j + 1, C2, any, by rw [HV5.out], by simp, by omega, HX3, hide hB2, HWS, hide (hT.out.trans hT2)⟩
        case measure => simp [intOf]; omega
      · have HX3 := hide (show X = if C1 = 0 then layAll q l (live.drop (j + 1)) C2 true else (6, C2) by rw [HX2.out]; exact if_neg hc)
        rw [decide_eq_false hc] at HLO
        by_cases h0 : C1 = 0
        · have HX4 := hide (show X = layAll q l (live.drop (j + 1)) C2 true by rw [HX3.out]; exact if_pos h0)
          subst h0
          rw [show ((0 : Nat) : Int) = 0 from rfl] at HC HLO
          clear hc
          go_wp2_with (first
            | (go_at_call 54; refine HC.out.mono ?_; rintro _ w2 ⟨rfl, hB2, hT2⟩)
            | (go_at_call 55; refine (HLO.out _).mono ?_; rintro _ _ ⟨rfl, rfl⟩))
          go_roundw
          case rel => exact ⟨j + 1, C2, true, rfl, by simp, by omega, HX4, hide hB2, HWS, hide (hT.out.trans hT2)⟩
          case measure => simp [intOf]; omega
        · have HX4 := hide (show X = (6, C2) by rw [HX3.out]; exact if_neg h0)
          have hne : ((C1 : Int) != 0) = true := by simp; omega
          clear hc h0
          go_wp2_with (first
            | (go_at_call 54; refine HC.out.mono ?_; rintro _ w2 ⟨rfl, hB2, hT2⟩)
            | (go_at_call 55; refine (HLO.out _).mono ?_; rintro _ _ ⟨rfl, rfl⟩))
          go_ret
          exact ⟨(congrArg (fun x : Nat × Bank => Ending.returned (.int .i64 (x.1 : Int))) HX4.out).symm, by rw [HX4.out]; exact hB2, hT.out.trans hT2⟩
    · obtain rfl : j = n := by omega
      have HX3 := hide (show X = (if any = true then 0 else 5, T) by
        rw [hXT.out, List.drop_of_length_le (by rw [HLEN.out]; exact Nat.le_refl _)]
        rfl)
      go_wp2
      go_ret
      exact ⟨by rw [HV5.out]; exact (congrArg (fun x : Nat × Bank => Ending.returned (.int .i64 (x.1 : Int))) HX3.out).symm, by rw [HX3.out]; exact hBT.out, hT.out⟩
#print axioms spread_any
end Go.Proofs.Ytmjdndhpnckeeaa
