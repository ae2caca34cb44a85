/- Texts of the proof laid one behind the other: SitS StrA StrK StrH StrI StrC Fill StrY StrQ StrO StrT. -/
import Derived.Test.YtjafhlljigaibaaCalls
import Derived.Test.YtjafhlljigaibaaWhen
import Derived.Test.YtjafhlljigaibaaTwoRows
import Derived.Test.YtjafhlljigaibaaMirP
import Derived.Test.YtjafhlljigaibaaNegP
import Derived.Test.YtjafhlljigaibaaStepK
import Derived.Test.YtjafhlljigaibaaLump1
import Derived.Test.YtjafhlljigaibaaLump2
import Derived.Test.YtjafhlljigaibaaAgg
import Derived.Test.YtjafhlljigaibaaPoke
import Derived.Test.YtjafhlljigaibaaMade
namespace Go.Proofs.Ytjafhlljigaibaa
open Go.RowKit
theorem mplace_zero (w : World) : (zeroValue 26).run Try.prog w = .ok (.agg #[.int .i64 0, .int .i64 0]) w := by kernel_rfl
theorem mplace_info : (Try.prog.info? 26).map (·.size) = some 2 := by kernel_rfl
theorem mplace_one (x y : Int) : ∀ v ∈ [Value.int .i64 x, Value.int .i64 y], v.oneCell' = true := by
  intro v hv
  simp at hv
  rcases hv with rfl | rfl <;> rfl
theorem mplace_built : Try.prog.built 26 [] = some #[.int .i64 0, .int .i64 0] := by kernel_rfl
/-- A place's cells. -/
abbrev plL (d k : Int) : List Value := [.int .i64 d, .int .i64 k]
/-- Blocks of a law's own: each with its type and cells; all lie behind the bank. -/
def OwnV (W : World) (hi : Nat) (V : List (Nat × TypeId × List Value)) : Prop := ∀ (i : Nat) (p : Nat × TypeId × List Value), V[i]? = some p → hi ≤ p.1 ∧ Blk W p.1 p.2.1 p.2.2.toArray
section
variable {W W' : World} {hi : Nat} {V : List (Nat × TypeId × List Value)}
theorem OwnV.blk (h : OwnV W hi V) (i : Nat) {g : Nat} {t : TypeId} {cs : List Value} (e : V[i]? = some (g, t, cs)) : Blk W g t cs.toArray := (h i _ e).2
theorem OwnV.range (h : OwnV W hi V) (i : Nat) {g : Nat} {t : TypeId} {cs : List Value} (e : V[i]? = some (g, t, cs)) : W.rangeAt g 0 cs := fun j v hj => by rw [Nat.zero_add, (h.blk i e).cell j]; simpa using hj
theorem OwnV.nil (W : World) (hi : Nat) : OwnV W hi [] := fun i p e => by simp at e
theorem OwnV.later (h : OwnV W hi V) (hb : Below W.heap.size W W') : OwnV W' hi V := fun i p e => ⟨(h i p e).1, (h i p e).2.below hb (h i p e).2.lt⟩
theorem OwnV.upto {lo : Nat} (h : OwnV W hi V) (hu : Upto lo hi W W') : OwnV W' hi V := fun i p e => ⟨(h i p e).1, (h i p e).2.upto hu (.inl (h i p e).1)⟩
theorem OwnV.add (h : OwnV W hi V) {g : Nat} {t : TypeId} {cs : List Value} (hg : hi ≤ g) (hb : Blk W g t cs.toArray) : OwnV W hi (V ++ [(g, t, cs)]) := fun i p e => by
  rw [List.getElem?_append] at e
  split at e
  · exact h i p e
  · have : p = (g, t, cs) := by
      have h2 : i - V.length = 0 := by
        by_cases hz : i - V.length = 0
        · exact hz
        · rw [List.getElem?_eq_none (by simp; omega)] at e; cases e
      rw [h2] at e
      simpa using e.symm
    rw [this]
    exact ⟨hg, hb⟩
/-- One of them is written over. -/
theorem OwnV.poke (h : OwnV W hi V) (k : Nat) {g : Nat} {t : TypeId} {cs cs' : List Value} (e : V[k]? = some (g, t, cs)) (hne : ∀ i p, V[i]? = some p → i ≠ k → p.1 ≠ g) (hb : Blk W' g t cs'.toArray) (hg : W.grownBy W' (some g)) : OwnV W' hi (V.set k (g, t, cs')) := fun i p ei => by
  rw [List.getElem?_set] at ei
  split at ei
  · split at ei
    · injection ei with ei
      subst ei
      exact ⟨(h k _ e).1, hb⟩
    · cases ei
  · rename_i hik
    obtain ⟨h1, h2⟩ := h i p ei
    exact ⟨h1, h2.grown hg (fun hs => by injection hs with hs; exact hne i p ei (fun e => hik e.symm) hs)⟩
end
/-- A law at work: nothing that was there ahead of it has turned; block b is bank S, below hi; V: its own variables. -/
structure Sit (w0 W : World) (b hi : Nat) (S : Bank) (V : List (Nat × TypeId × List Value)) : Prop where
  low : Below w0.heap.size w0 W
  bank : BankAt W b w0.heap.size hi S
  own : OwnV W hi V
  rise : (V.map (·.1)).Nodup
theorem nodup_other {V : List (Nat × TypeId × List Value)} (h : (V.map (·.1)).Nodup) {i k : Nat} {p q : Nat × TypeId × List Value} (hi : V[i]? = some p) (hk : V[k]? = some q) (hne : i ≠ k) : p.1 ≠ q.1 := by
  intro e
  have h1 : (V.map (·.1))[i]? = some p.1 := by rw [List.getElem?_map, hi]; rfl
  have h2 : (V.map (·.1))[k]? = some p.1 := by rw [List.getElem?_map, hk, e]; rfl
  have hil : i < (V.map (·.1)).length := by
    rcases Nat.lt_or_ge i (V.map (·.1)).length with h | h
    · exact h
    · rw [List.getElem?_eq_none h] at h1; cases h1
  exact hne ((List.getElem?_inj hil h).1 (h1.trans h2.symm))
section
variable {w0 W W' : World} {b hi : Nat} {S S' : Bank} {V : List (Nat × TypeId × List Value)}
theorem Sit.hi_le (h : Sit w0 W b hi S V) : hi ≤ W.heap.size := h.bank.1
theorem Sit.later (h : Sit w0 W b hi S V) (hb : Below W.heap.size W W') : Sit w0 W' b hi S V := ⟨h.low.trans (hb.mono h.low.size), h.bank.later hb, h.own.later hb, h.rise⟩
theorem Sit.drew (h : Sit w0 W b hi S V) : Sit w0 W.drew b hi S V := h.later ((Below.refl _ _).drew)
theorem Sit.turned (h : Sit w0 W b hi S V) (hB : BankAt W' b w0.heap.size hi S') (hu : Upto w0.heap.size hi W W') : Sit w0 W' b hi S' V := ⟨h.low.trans (hu.low (Nat.le_refl _) h.low.size), hB, h.own.upto hu, h.rise⟩
theorem Sit.var (h : Sit w0 W b hi S V) {g : Nat} {t : TypeId} {cs : List Value} (hb : Below W.heap.size W W') (hg : W.heap.size ≤ g) (hk : Blk W' g t cs.toArray) : Sit w0 W' b hi S (V ++ [(g, t, cs)]) :=
  ⟨h.low.trans (hb.mono h.low.size), h.bank.later hb, (h.own.later hb).add (Nat.le_trans h.hi_le hg) hk, by
    rw [List.map_append, List.nodup_append]
    refine ⟨h.rise, by simp, fun a ha c hc e => ?_⟩
    have hc' : c = g := by simpa using hc
    obtain ⟨p, hp, hpa⟩ := List.mem_map.1 ha
    obtain ⟨i, hip⟩ := List.getElem?_of_mem hp
    have hl := (h.own i p hip).2.lt
    omega⟩
/-- A new variable, and what is stored in it. -/
theorem Sit.new {Wa : World} (h : Sit w0 W b hi S V) {t : TypeId} {cs : List Value} (hl : Below W.heap.size W Wa) (hg : Wa.grownBy W' (some W.heap.size)) (hk : Blk W' W.heap.size t cs.toArray) : Sit w0 W' b hi S (V ++ [(W.heap.size, t, cs)]) :=
  h.var (hl.grown hg hl.size (fun g e => by injection e with e; omega)) (Nat.le_refl _) hk
theorem Sit.poke (h : Sit w0 W b hi S V) (k : Nat) {g : Nat} {t : TypeId} {cs cs' : List Value} (e : V[k]? = some (g, t, cs)) (hb : Blk W' g t cs'.toArray) (hg : W.grownBy W' (some g)) : Sit w0 W' b hi S (V.set k (g, t, cs')) :=
  have h1 := (h.own k _ e).1
  have h2 : w0.heap.size ≤ g := by
    obtain ⟨_, _, L, _, h4⟩ := h.bank
    have hq : w0.heap.size ≤ b ∧ b < hi := h4.inside b (.inl rfl)
    omega
  ⟨h.low.grown hg h.low.size (fun x ex => by injection ex with ex; omega), h.bank.grown hg (fun x ex => by injection ex with ex; exact .inr (by omega)), h.own.poke k e (fun i p hi hne => nodup_other h.rise hi e hne) hb hg, by
    have hm : (V.set k (g, t, cs')).map (·.1) = V.map (·.1) := by
      rw [List.map_set]
      apply List.ext_getElem?
      intro j
      rw [List.getElem?_set]
      split
      · rename_i hj
        split
        · rw [← hj, List.getElem?_map, e]; rfl
        · rename_i hl
          rw [List.getElem?_eq_none (by omega)]
      · rfl
    rw [hm]
    exact h.rise⟩
theorem Sit.cut (h : Sit w0 W b hi S V) (n : Nat) : Sit w0 W b hi S (V.take n) := ⟨h.low, h.bank, fun i p e => h.own i p (by
  rw [List.getElem?_take] at e
  split at e
  · exact e
  · cases e), by rw [List.map_take]; exact h.rise.sublist (List.take_sublist _ _)⟩
theorem Sit.ok (h : Sit w0 W b hi S V) : S.Ok := h.bank.ok
/-- From what lies in its blocks to what lies in its span. -/
theorem sit_on (h : Sit w0 W b hi S V) (hB : BankOn W' b (In w0.heap.size hi) S') (hT : Turn (In w0.heap.size hi) W W') : Sit w0 W' b hi S' V := h.turned (hB.at_ (Nat.le_trans h.hi_le hT.size)) hT.upto_in
theorem Sit.write (h : Sit w0 W b hi S V) (hw : S.writes < 4611686018427387904) {di ki : Int} {d k : Nat} (hd : nI di = d) (hk : nI ki = k) (s : Sec) :
    Calls Try.prog 29 #[.pointer (some ⟨b, 0, none⟩), .agg #[.int .i64 di, .int .i64 ki], secV s] W fun e W' => e = .returned (.int .i64 ((S.write d k s).1 : Int)) ∧ Sit w0 W' b hi (S.write d k s).2 V := by
  subst hd hk
  exact (onI_write h.bank.on hw di ki s).mono fun _ _ ⟨he, hB, hT⟩ => ⟨he, sit_on h hB hT⟩
theorem Sit.read (h : Sit w0 W b hi S V) {di ki : Int} {d k : Nat} (hd : nI di = d) (hk : nI ki = k) :
    Calls Try.prog 32 #[.pointer (some ⟨b, 0, none⟩), .agg #[.int .i64 di, .int .i64 ki]] W fun e W' => e = .returned (.tuple #[secV (S.readS d k), .int .i64 (S.place d k : Int)]) ∧ Sit w0 W' b hi S V := by
  subst hd hk
  exact (onI_read h.bank.on di ki).mono fun _ _ ⟨he, hb⟩ => ⟨he, h.later hb⟩
theorem Sit.fail (h : Sit w0 W b hi S V) {di : Int} (d : Nat) (hdi : di = (d : Int)) (hd : d < S.n) :
    Calls Try.prog 25 #[.pointer (some ⟨b, 0, none⟩), .int .i64 di] W fun e W' => e = .returned (.int .i64 0) ∧ Sit w0 W' b hi (S.fail d) V :=
  hdi ▸ (bank_fail h.bank d hd).mono fun _ _ ⟨he, hB, hu⟩ => ⟨he, h.turned hB hu⟩
theorem Sit.failAt (h : Sit w0 W b hi S V) {di : Int} (d : Nat) (hdi : di = (d : Int)) (hd : d < S.n) (n : Int) (a : Nat) (ha : (a : Int) = if 0 < n then n else 0) (ha2 : a < 9223372036854775808) :
    Calls Try.prog 24 #[.pointer (some ⟨b, 0, none⟩), .int .i64 di, .int .i64 n] W fun e W' => e = .returned (.tuple #[]) ∧ Sit w0 W' b hi (S.willFail d a) V :=
  hdi ▸ (bank_failAt h.bank d hd n a ha ha2).mono fun _ _ ⟨he, hB, hu⟩ => ⟨he, h.turned hB hu⟩
theorem Sit.crash (h : Sit w0 W b hi S V) (m : Nat) (hm : m < 18446744073709551616) :
    Calls Try.prog 70 #[.pointer (some ⟨b, 0, none⟩), .int .u64 (m : Int)] W fun e W' => e = .returned (.tuple #[]) ∧ Sit w0 W' b hi (S.crash m) V :=
  (bank_crash h.bank m hm).mono fun _ _ ⟨he, hB, hu⟩ => ⟨he, h.turned hB hu⟩
theorem Sit.dead (h : Sit w0 W b hi S V) {di : Int} (d : Nat) (hdi : di = (d : Int)) (hd : d < S.n) :
    Calls Try.prog 31 #[.pointer (some ⟨b, 0, none⟩), .int .i64 di] W fun e W' => e = .returned (.bool (S.dead d)) ∧ W = W' := hdi ▸ bank_dead h.bank d hd
end
end Go.Proofs.Ytjafhlljigaibaa
namespace Go.Proofs.Ytjafhlljigaibaa
open Go.RowKit
def byteOf (n : Int) : UInt8 := UInt8.ofNat (n % 256).toNat
theorem byteOf_mod (n : Int) : n % 256 = (((byteOf n).toNat : Nat) : Int) := by
  have h0 := Int.emod_nonneg n (show (256 : Int) ≠ 0 by decide)
  have h1 := Int.emod_lt_of_pos n (show (0 : Int) < 256 by decide)
  unfold byteOf
  rw [UInt8.toNat_ofNat_of_lt' (by show (n % 256).toNat < 256; omega)]
  omega
/-- 'sector(n)'. -/
def secOf (n : Int) : Sec := ⟨byteOf n :: byteOf (n / 256) :: (List.replicate 61 0 ++ [byteOf n]), by simp⟩
theorem built_sec (x y z : Int) : Try.prog.built 49 [(0, .int .u8 x), (1, .int .u8 y), (63, .int .u8 z)] = some (Value.int .u8 x :: Value.int .u8 y :: (List.replicate 61 (Value.int .u8 0) ++ [Value.int .u8 z])).toArray := by kernel_rfl
theorem secOf_zero : secOf 0 = zeroSec := by decide +kernel
set_option maxRecDepth 100000 in
theorem sector_any (n : Int) (w : World) :
    Calls Try.prog 26 #[.int .i64 n] w fun e w' => e = .returned (secV (secOf n)) ∧ Below w.heap.size w w' := by
  obtain ⟨U, hU⟩ : ∃ U, U = secL (secOf n) := ⟨_, rfl⟩
  have hUl : U.length = 64 := by rw [hU, secL_length]
  have hUo : ∀ v ∈ U, v.oneCell' = true := by rw [hU]; exact secL_one _
  have hiU : (Try.prog.info? 49).map (·.size) = some U.length := by rw [hUl]; exact sec_info
  have hs : secV (secOf n) = .agg U.toArray := by rw [hU]; rfl
  have hb : Try.prog.built 49 [(0, .int .u8 (n % 256)), (1, .int .u8 (n / 256 % 256)), (63, .int .u8 (n % 256))] = some U.toArray := by
    rw [hU, built_sec, byteOf_mod n, byteOf_mod (n / 256)]
    rfl
  rw [hs]
  have HB := hide hb
  have HUl := hide hUl
  have HUO := hide hUo
  have HIU := hide hiU
  clear hU hUl hUo hiU hs hb
  go_enter Try.func26, Try.ntmps26
  go_wp2_with (first
    | (refine wpList_alloc_blk rfl 49 rfl _ (sec_zero _) ?_; intro w1 hb1 hl1 hs1; clear hs1)
    | (refine wpList_build_is rfl 49 #[(0, .tmp 4), (1, .tmp 7), (63, .tmp 9)] rfl [(0, .int .u8 (n % 256)), (1, .int .u8 (n / 256 % 256)), (63, .int .u8 (n % 256))] (by simp only [List.map_toArray, List.map_cons, List.map_nil]; rfl) U.toArray HB.out ?_)
    | (refine wpList_store_all rfl 49 (.tmp 2) (.tmp 10) rfl w.heap.size 49 _ hb1 rfl U rfl HIU.out (HUl.out.trans (secL_length zeroSec).symm) HUO.out ?_; intro w2 hb2 hg2 hs2; clear hs2))
  refine ret_cell rfl w.heap.size 49 U _ hb2 rfl Try.underlying49 rfl HIU.out rfl ⟨rfl, ?_⟩
  exact hl1.grown hg2 hl1.size (fun g e => by injection e with e; omega)
#print axioms sector_any
/-- The laws' bank of i disks. -/
def LaidS : Nat → Bank
  | 0 => Bank.new
  | i + 1 => (LaidS i).add 20
theorem LaidS_n : ∀ i, (LaidS i).n = i
  | 0 => rfl
  | i + 1 => by
    have h := LaidS_n i
    show (LaidS i).n + 1 = _
    rw [h]
set_option maxRecDepth 100000 in
set_option maxHeartbeats 2000000 in
theorem laid_any (w : World) (n : Nat) (hn4 : n ≤ 8) :
    Calls Try.prog 22 #[.int .i64 (n : Int)] w fun e w' => e = .returned (.pointer (some ⟨w.heap.size, 0, none⟩)) ∧ BankAt w' w.heap.size w.heap.size w'.heap.size (LaidS n) ∧ Below w.heap.size w w' := by
  go_enter Try.func22, Try.ntmps22
  go_wp2_with (first
    | (go_at_call 46; refine (newBank_any _).mono ?_; rintro _ w1 ⟨rfl, hB1, hl1⟩))
  go_loopw [4, 5, 6] (fun s2 _ _ wr => ∃ i : Nat, s2 = .int .i64 (i : Int) ∧ i ≤ n ∧ Hid (BankAt wr w.heap.size w.heap.size wr.heap.size (LaidS i)) ∧ Hid (Below w.heap.size w wr)) (fun s2 _ _ _ => n - (intOf s2).toNat)
  case atStart => exact ⟨0, rfl, Nat.zero_le _, hide hB1, hide hl1⟩
  case round =>
    obtain ⟨i, rfl, hi, hB, hl⟩ := hrel
    by_cases h3 : i < n
    · have hiw : (i : Int) < n := by omega
      have hn := LaidS_n i
      have HA := hide (bank_add hB.out 20 (by decide) (by decide) (by omega))
      rw [hn] at HA
      have hsz := hl.out.size
      clear hn
      go_wp2_with (first
        | (go_at_call 47; refine HA.out.mono ?_; rintro _ w2 ⟨rfl, hB2, hu2⟩; have HB2 := hide hB2; have HU2 := hide hu2; clear hB2 hu2))
      go_roundw
      case rel => exact ⟨i + 1, by simp, by omega, HB2, hide (hl.out.trans (HU2.out.low (Nat.le_refl _) hsz))⟩
      case measure => simp [intOf]; omega
    · obtain rfl : i = n := by omega
      go_wp2_with fail
      go_ret
      exact ⟨rfl, hB.out, hl.out⟩
#print axioms laid_any
theorem laidS_size : ∀ i d, d < i → (LaidS i).size d = 20
  | 0, d, h => absurd h (Nat.not_lt_zero _)
  | i + 1, d, h => by
    show upd (LaidS i).size (LaidS i).n 20 d = 20
    rw [LaidS_n i]
    by_cases e : d = i
    · rw [e, upd_self]
    · rw [upd_ne _ _ e]
      exact laidS_size i d (by omega)
theorem laidS_plain : ∀ i, (LaidS i).down = false ∧ (LaidS i).armed = 0 ∧ (LaidS i).writes = 0
  | 0 => ⟨rfl, rfl, rfl⟩
  | i + 1 => laidS_plain i
theorem laidS_live : ∀ i d, (LaidS i).dead d = false ∧ (LaidS i).failAt d = 0
  | 0, d => ⟨rfl, rfl⟩
  | i + 1, d => by
    obtain ⟨h1, h2⟩ := laidS_live i d
    refine ⟨?_, ?_⟩
    · show upd (LaidS i).dead (LaidS i).n false d = false
      by_cases e : d = (LaidS i).n
      · rw [e, upd_self]
      · rw [upd_ne _ _ e, h1]
    · show upd (LaidS i).failAt (LaidS i).n 0 d = 0
      by_cases e : d = (LaidS i).n
      · rw [e, upd_self]
      · rw [upd_ne _ _ e, h2]
theorem laidS_zero : ∀ i d k, (LaidS i).newest d k = zeroSec
  | 0, d, k => rfl
  | i + 1, d, k => by
    have h := laidS_zero i d
    show upd (LaidS i).newest (LaidS i).n (fun _ => zeroSec) d k = zeroSec
    by_cases e : d = (LaidS i).n
    · rw [e, upd_self]
    · rw [upd_ne _ _ e, h]
/-- The laws' bank, nothing written, one disk of which may fail. -/
theorem livN_laid (n x : Nat) (D : Nat → List Sec) : LivN n 20 (LaidS n) x (gridG n D 0) :=
  ⟨LaidS_n n, laidS_size n, (laidS_plain n).1, (laidS_plain n).2.1, fun d _ _ => laidS_live n d, fun d k _ _ _ => by rw [laidS_zero]; unfold gridG; rw [if_neg (by omega)]⟩
#print axioms livN_laid
end Go.Proofs.Ytjafhlljigaibaa
namespace Go.Proofs.Ytjafhlljigaibaa
open Go.RowKit
set_option linter.unusedVariables false
def parR (X : List PlI) (n : Nat) (t : Int) : PlI := if strE n t = 0 then strP X t.toNat else (0, 0)
def dataR (X : List PlI) (n : Nat) (t : Int) : List PlI := if strE n t = 0 then strD X t.toNat else []
def matesR (X : List PlI) (n : Nat) (slot : Int) : List PlI := if homeE n slot = 0 then matesP X slot.toNat else []
/-- A whole number as Go's int has them. -/
def I64In (v : Int) : Prop := -9223372036854775808 ≤ v ∧ v ≤ 9223372036854775807
/-- A slice of extents handed in, at most twelve. -/
structure XtIn (w : World) (A : Option Addr) (n c : Nat) (X : List PlI) : Prop where
  reads : Reads w w.heap.size 2 A n (plsL X)
  small : SmallX X
  few : n ≤ 12
  cap : n ≤ c
  max : c ≤ 9223372036854775807
theorem XtIn.later {w w' : World} {A : Option Addr} {n c : Nat} {X : List PlI} (h : XtIn w A n c X) (hb : Below w.heap.size w w') : XtIn w' A n c X := ⟨h.reads.later hb, h.small, h.few, h.cap, h.max⟩
theorem XtOwn.in_ {w : World} {base n c : Nat} {A : Option Addr} {X : List PlI} (h : XtOwn w base A n c X) (hs : SmallX X) (hn : n ≤ 12) : XtIn w A n c X := by
  obtain ⟨_, _, e, h1, h2⟩ := own_shape h
  injection e with e1 e2 e3
  subst e3
  exact ⟨Reads.of_own h, hs, hn, h1, by simpa [maxLen] using h2⟩
/-- A slice lies in none of these blocks. -/
def Off (F : Nat → Prop) (A : Option Addr) (n : Nat) : Prop := ∀ ad, A = some ad → 0 < n → ¬ F ad.block
structure StrK : Prop where
  slots_any : ∀ (w : World) (v : Int), -1000000 ≤ v → v ≤ 1000000 → Calls Try.prog 15 #[.int .i64 v] w fun e w' => e = .returned (.int .i64 (slotsN v.toNat : Int)) ∧ Below w.heap.size w w'
  home_any : ∀ (w : World) (A : Option Addr) (n c : Nat) (X : List PlI), XtIn w A n c X → ∀ slot : Int, I64In slot →
    Calls Try.prog 11 #[.slice A n c, .int .i64 slot] w fun e w' => e = .returned (.tuple #[.agg (plC (homeR X n slot)).toArray, .int .i64 (homeE n slot : Int)]) ∧ Below w.heap.size w w'
  par_any : ∀ (w : World) (A : Option Addr) (n c : Nat) (X : List PlI), XtIn w A n c X → ∀ t : Int, I64In t →
    Calls Try.prog 13 #[.slice A n c, .int .i64 t] w fun e w' => e = .returned (.tuple #[.agg (plC (parR X n t)).toArray, .int .i64 (strE n t : Int)]) ∧ Below w.heap.size w w'
  data_any : ∀ (w : World) (A : Option Addr) (n c : Nat) (X : List PlI), XtIn w A n c X → ∀ t : Int, I64In t →
    Calls Try.prog 17 #[.slice A n c, .int .i64 t] w fun e w' => ∃ A' m c', e = .returned (.tuple #[.slice A' m c', .int .i64 (strE n t : Int)]) ∧ Reads w' w'.heap.size 2 A' m (plsL (dataR X n t)) ∧ m ≤ c' ∧ c' ≤ 9223372036854775807 ∧ Below w.heap.size w w'
  mates_any : ∀ (w : World) (A : Option Addr) (n c : Nat) (X : List PlI), XtIn w A n c X → ∀ slot : Int, I64In slot →
    Calls Try.prog 19 #[.slice A n c, .int .i64 slot] w fun e w' => ∃ A' m c', e = .returned (.tuple #[.slice A' m c', .int .i64 (homeE n slot : Int)]) ∧ Reads w' w'.heap.size 2 A' m (plsL (matesR X n slot)) ∧ m ≤ c' ∧ c' ≤ 9223372036854775807 ∧ Below w.heap.size w w'
  read_any : ∀ (w : World) (b : Nat) (F : Nat → Prop) (S : Bank), BankOn w b F S → ∀ (A : Option Addr) (n c : Nat) (X : List PlI), XtIn w A n c X → ∀ slot : Int, I64In slot →
    Calls Try.prog 30 #[.pointer (some ⟨b, 0, none⟩), .slice A n c, .int .i64 slot] w fun e w' => e = .returned (.tuple #[secV (S.sread X slot).1, .int .i64 ((S.sread X slot).2 : Int)]) ∧ Below w.heap.size w w'
  rebuilt_any : ∀ (w : World) (b : Nat) (F : Nat → Prop) (S : Bank), BankOn w b F S → ∀ (A : Option Addr) (n c : Nat) (X : List PlI), XtIn w A n c X → ∀ k t : Int, I64In k → I64In t →
    Calls Try.prog 33 #[.pointer (some ⟨b, 0, none⟩), .slice A n c, .int .i64 k, .int .i64 t] w fun e w' => e = .returned (.tuple #[secV (S.srebuilt X k t).1, .int .i64 ((S.srebuilt X k t).2 : Int)]) ∧ Below w.heap.size w w'
  full_any : ∀ (w : World) (b : Nat) (F : Nat → Prop) (S : Bank), BankOn w b F S → S.writes < 4611686018427387000 → ∀ (A : Option Addr) (n c : Nat) (X : List PlI), XtIn w A n c X → Off F A n → ∀ t : Int, I64In t →
    ∀ (A2 : Option Addr) (m c2 : Nat) (L : List Sec), Reads w w.heap.size 64 A2 m (B8 (rawS L).flatten) → L.length = m → m ≤ 1000 → m ≤ c2 → c2 ≤ 9223372036854775807 → Off F A2 m →
    Calls Try.prog 27 #[.pointer (some ⟨b, 0, none⟩), .slice A n c, .int .i64 t, .slice A2 m c2] w fun e w' => e = .returned (.int .i64 ((S.sfull X t L).1 : Int)) ∧ BankOn w' b F (S.sfull X t L).2 ∧ Turn F w w'
  plug_any : ∀ (w : World) (b : Nat) (F : Nat → Prop) (S : Bank), BankOn w b F S → ∀ (A : Option Addr) (n c : Nat) (X : List PlI), XtIn w A n c X → ∀ slot : Int, I64In slot → ∀ s : Sec,
    Calls Try.prog 28 #[.pointer (some ⟨b, 0, none⟩), .slice A n c, .int .i64 slot, secV s] w fun e w' => e = .returned (.tuple #[secV (S.splug X slot s).1, .int .i64 ((S.splug X slot s).2 : Int)]) ∧ Below w.heap.size w w'
end Go.Proofs.Ytjafhlljigaibaa
namespace Go.Proofs.Ytjafhlljigaibaa
open Go.RowKit
def ss0 : Bank := LaidS 3
def ss1 : Bank := (ss0.sfull (rowX idN 3) 1 [secOf 1, secOf 2]).2
def ss2 : Bank := ss1.fail 2
theorem st1 : ss0.writes = 0 ∧ (ss0.sfull (rowX idN 3) 1 [secOf 1, secOf 2]).1 = 0 := by decide +kernel
theorem st2 : ss1.n = 3 := by decide +kernel
theorem st3 : (ss2.sread (rowX idN 3) 3).1 = secOf 2 ∧ (ss2.sread (rowX idN 3) 3).2 = 0 := by decide +kernel
theorem st4 : parR (rowX idN 3) 3 1 = (1, 2) ∧ strE 3 1 = 0 ∧ homeR (rowX idN 3) 3 3 = (2, 3) ∧ homeE 3 3 = 0 ∧ (matesR (rowX idN 3) 3 3).length = 2 ∧ homeE 3 16 = 3 ∧ homeE 1 0 = 1 ∧ slotsN 3 = 16 ∧ slotsN 1 = 0 := by decide +kernel
end Go.Proofs.Ytjafhlljigaibaa
namespace Go.Proofs.Ytjafhlljigaibaa
open Go.RowKit
set_option linter.unusedVariables false
theorem row_kind_ne {w : World} {base : Nat} {e t : TypeId} {size : Nat} {v : Value} {n : Nat} {xs : List Value} {cs : Array Value} (h : w.ownsRow base e size v n xs) {b : Nat} (hb : Blk w b t cs) (hne : e ≠ t) : v.ownBlock ≠ some b := by
  intro hg
  rcases h.2 with ⟨rfl, _⟩ | ⟨g, cap, cur, rfl, _, h1, _⟩
  · simp [Value.ownBlock] at hg
  · simp [Value.ownBlock] at hg
    subst hg
    unfold Blk at hb
    rw [h1] at hb
    injection hb with hb
    injection hb with _ hb _
    exact hne hb
structure Sox (w0 W : World) (b hi : Nat) (S : Bank) (V : List (Nat × TypeId × List Value)) (A : Option Addr) (n c : Nat) (X : List PlI) : Prop where
  sit : Sit w0 W b hi S V
  own : XtOwn W hi A n c X
  small : SmallX X
  few : n ≤ 12
theorem sit_laid13 (w0 w : World) (h : Below w0.heap.size w0 w) (n : Nat) (hn : n ≤ 8) :
    Calls Try.prog 22 #[.int .i64 (n : Int)] w fun e w' => e = .returned (.pointer (some ⟨w.heap.size, 0, none⟩)) ∧ Sit w0 w' w.heap.size w'.heap.size (LaidS n) [] := by
  refine (laid_any w n hn).mono ?_
  rintro _ w' ⟨rfl, hB, hl⟩
  have hs := h.size
  obtain ⟨h1, h2, L, h3, h4⟩ := hB
  exact ⟨rfl, h.trans (hl.mono hs), ⟨h1, h2, L, h3, h4.wider (fun x hx => ⟨by have := hx.1; omega, hx.2⟩)⟩, OwnV.nil _ _, by simp⟩
section
variable {w0 W W' : World} {b hi n c : Nat} {S S' : Bank} {V : List (Nat × TypeId × List Value)} {A : Option Addr} {X : List PlI}
/-- The row of extents is made. -/
theorem Sit.row (h : Sit w0 W b hi S V) (m : Nat) (hm : m ≤ 12) :
    Calls Try.prog 23 #[.int .i64 (m : Int)] W fun e W' => ∃ A c, e = .returned (.slice A m c) ∧ Sox w0 W' b hi S V A m c (rowX idN m) := by
  refine (row_any m (by omega) W).mono ?_
  rintro e W' ⟨A', c', he, ho, hb⟩
  refine ⟨A', c', he, h.later hb, own_mono ho h.hi_le, fun p hp => ?_, hm⟩
  unfold rowX at hp
  obtain ⟨i, hi', e⟩ := List.mem_map.1 hp
  have := List.mem_range.1 hi'
  subst e
  exact ⟨by show (0 : Int) ≤ (i : Int); omega, by show (i : Int) ≤ 1000000; omega⟩
theorem Sox.later (h : Sox w0 W b hi S V A n c X) (hb : Below W.heap.size W W') : Sox w0 W' b hi S V A n c X := ⟨h.sit.later hb, own_later h.own hb, h.small, h.few⟩
theorem Sox.drew (h : Sox w0 W b hi S V A n c X) : Sox w0 W.drew b hi S V A n c X := h.later ((Below.refl _ _).drew)
theorem Sox.var (h : Sox w0 W b hi S V A n c X) {g : Nat} {t : TypeId} {cs : List Value} (hb : Below W.heap.size W W') (hg : W.heap.size ≤ g) (hk : Blk W' g t cs.toArray) : Sox w0 W' b hi S (V ++ [(g, t, cs)]) A n c X :=
  ⟨h.sit.var hb hg hk, own_later h.own hb, h.small, h.few⟩
theorem Sox.new {Wa : World} (h : Sox w0 W b hi S V A n c X) {t : TypeId} {cs : List Value} (hl : Below W.heap.size W Wa) (hg : Wa.grownBy W' (some W.heap.size)) (hk : Blk W' W.heap.size t cs.toArray) : Sox w0 W' b hi S (V ++ [(W.heap.size, t, cs)]) A n c X :=
  h.var (hl.grown hg hl.size (fun g e => by injection e with e; omega)) (Nat.le_refl _) hk
theorem Sox.poke (h : Sox w0 W b hi S V A n c X) (k : Nat) {g : Nat} {t : TypeId} {cs cs' : List Value} (e : V[k]? = some (g, t, cs)) (hne : 36 ≠ t) (hb : Blk W' g t cs'.toArray) (hg : W.grownBy W' (some g)) : Sox w0 W' b hi S (V.set k (g, t, cs')) A n c X := by
  refine ⟨h.sit.poke k e hb hg, h.own.kept hg ?_, h.small, h.few⟩
  have h1 := row_kind_ne h.own (h.sit.own.blk k e) hne
  cases ho : (Value.slice A n c).ownBlock with
  | none => exact .inl rfl
  | some r => exact .inr (fun q => h1 (by rw [ho]; injection q with q; rw [q]))
theorem own_upto {lo : Nat} {e : TypeId} {size m : Nat} {v : Value} {xs : List Value} (h : W.ownsRow hi e size v m xs) (hu : Upto lo hi W W') : W'.ownsRow hi e size v m xs :=
  ⟨h.1, h.2.imp id (fun ⟨g, cap, cur, e, h1, h2, h3⟩ => ⟨g, cap, cur, e, h1, Blk.upto h2 hu (.inl h1), h3⟩)⟩
theorem Sox.in_ (h : Sox w0 W b hi S V A n c X) : XtIn W A n c X := h.own.in_ h.small h.few
theorem Sox.off (h : Sox w0 W b hi S V A n c X) : Off (In w0.heap.size hi) A n := fun ad e hn hf => by
  have h1 : XtOwn W hi A n c X := h.own
  rcases h1.2 with ⟨_, e0⟩ | ⟨g, cap, cur, e0, h2, _⟩
  · omega
  · injection e0 with e1 _ _
    rw [e] at e1
    injection e1 with e1
    subst e1
    have := hf.2
    have h3 : g < hi := this
    omega
theorem Sox.on (h : Sox w0 W b hi S V A n c X) (hB : BankOn W' b (In w0.heap.size hi) S') (hT : Turn (In w0.heap.size hi) W W') : Sox w0 W' b hi S' V A n c X :=
  ⟨sit_on h.sit hB hT, own_upto h.own hT.upto_in, h.small, h.few⟩
theorem Sox.slots (h : Sox w0 W b hi S V A n c X) (K : StrK) (v : Int) (h1 : -1000000 ≤ v) (h2 : v ≤ 1000000) : Calls Try.prog 15 #[.int .i64 v] W fun e W' => e = .returned (.int .i64 (slotsN v.toNat : Int)) ∧ Sox w0 W' b hi S V A n c X :=
  (K.slots_any W v h1 h2).mono fun _ _ ⟨he, hb⟩ => ⟨he, h.later hb⟩
theorem Sox.home (h : Sox w0 W b hi S V A n c X) (K : StrK) (slot : Int) (hs : I64In slot) : Calls Try.prog 11 #[.slice A n c, .int .i64 slot] W fun e W' => e = .returned (.tuple #[.agg (plC (homeR X n slot)).toArray, .int .i64 (homeE n slot : Int)]) ∧ Sox w0 W' b hi S V A n c X :=
  (K.home_any W A n c X h.in_ slot hs).mono fun _ _ ⟨he, hb⟩ => ⟨he, h.later hb⟩
theorem Sox.par (h : Sox w0 W b hi S V A n c X) (K : StrK) (t : Int) (ht : I64In t) : Calls Try.prog 13 #[.slice A n c, .int .i64 t] W fun e W' => e = .returned (.tuple #[.agg (plC (parR X n t)).toArray, .int .i64 (strE n t : Int)]) ∧ Sox w0 W' b hi S V A n c X :=
  (K.par_any W A n c X h.in_ t ht).mono fun _ _ ⟨he, hb⟩ => ⟨he, h.later hb⟩
theorem Sox.sread (h : Sox w0 W b hi S V A n c X) (K : StrK) (slot : Int) (hs : I64In slot) : Calls Try.prog 30 #[.pointer (some ⟨b, 0, none⟩), .slice A n c, .int .i64 slot] W fun e W' => e = .returned (.tuple #[secV (S.sread X slot).1, .int .i64 ((S.sread X slot).2 : Int)]) ∧ Sox w0 W' b hi S V A n c X :=
  (K.read_any W b _ S h.sit.bank.on A n c X h.in_ slot hs).mono fun _ _ ⟨he, hb⟩ => ⟨he, h.later hb⟩
theorem Sox.srebuilt (h : Sox w0 W b hi S V A n c X) (K : StrK) (k t : Int) (hk : I64In k) (ht : I64In t) : Calls Try.prog 33 #[.pointer (some ⟨b, 0, none⟩), .slice A n c, .int .i64 k, .int .i64 t] W fun e W' => e = .returned (.tuple #[secV (S.srebuilt X k t).1, .int .i64 ((S.srebuilt X k t).2 : Int)]) ∧ Sox w0 W' b hi S V A n c X :=
  (K.rebuilt_any W b _ S h.sit.bank.on A n c X h.in_ k t hk ht).mono fun _ _ ⟨he, hb⟩ => ⟨he, h.later hb⟩
theorem Sox.splug (h : Sox w0 W b hi S V A n c X) (K : StrK) (slot : Int) (hs : I64In slot) (s : Sec) : Calls Try.prog 28 #[.pointer (some ⟨b, 0, none⟩), .slice A n c, .int .i64 slot, secV s] W fun e W' => e = .returned (.tuple #[secV (S.splug X slot s).1, .int .i64 ((S.splug X slot s).2 : Int)]) ∧ Sox w0 W' b hi S V A n c X :=
  (K.plug_any W b _ S h.sit.bank.on A n c X h.in_ slot hs s).mono fun _ _ ⟨he, hb⟩ => ⟨he, h.later hb⟩
theorem Sox.sfull (h : Sox w0 W b hi S V A n c X) (K : StrK) (hw : S.writes < 4611686018427387000) (t : Int) (ht : I64In t) {A2 : Option Addr} {m c2 : Nat} {L : List Sec} (hr : Reads W W.heap.size 64 A2 m (B8 (rawS L).flatten)) (hl : L.length = m) (h1 : m ≤ 1000) (h2 : m ≤ c2) (h3 : c2 ≤ 9223372036854775807) (hoff : Off (In w0.heap.size hi) A2 m) :
    Calls Try.prog 27 #[.pointer (some ⟨b, 0, none⟩), .slice A n c, .int .i64 t, .slice A2 m c2] W fun e W' => e = .returned (.int .i64 ((S.sfull X t L).1 : Int)) ∧ Sox w0 W' b hi (S.sfull X t L).2 V A n c X :=
  (K.full_any W b _ S h.sit.bank.on hw A n c X h.in_ h.off t ht A2 m c2 L hr hl h1 h2 h3 hoff).mono fun _ _ ⟨he, hB, hT⟩ => ⟨he, h.on hB hT⟩
theorem Sox.write (h : Sox w0 W b hi S V A n c X) (hw : S.writes < 4611686018427387904) {di ki : Int} {d k : Nat} (hd : nI di = d) (hk : nI ki = k) (s : Sec) :
    Calls Try.prog 29 #[.pointer (some ⟨b, 0, none⟩), .agg #[.int .i64 di, .int .i64 ki], secV s] W fun e W' => e = .returned (.int .i64 ((S.write d k s).1 : Int)) ∧ Sox w0 W' b hi (S.write d k s).2 V A n c X := by
  subst hd hk
  exact (onI_write h.sit.bank.on hw di ki s).mono fun _ _ ⟨he, hB, hT⟩ => ⟨he, h.on hB hT⟩
theorem Sox.read (h : Sox w0 W b hi S V A n c X) {di ki : Int} {d k : Nat} (hd : nI di = d) (hk : nI ki = k) :
    Calls Try.prog 32 #[.pointer (some ⟨b, 0, none⟩), .agg #[.int .i64 di, .int .i64 ki]] W fun e W' => e = .returned (.tuple #[secV (S.readS d k), .int .i64 (S.place d k : Int)]) ∧ Sox w0 W' b hi S V A n c X := by
  subst hd hk
  exact (onI_read h.sit.bank.on di ki).mono fun _ _ ⟨he, hb⟩ => ⟨he, h.later hb⟩
theorem Sox.fail (h : Sox w0 W b hi S V A n c X) (di : Int) :
    Calls Try.prog 25 #[.pointer (some ⟨b, 0, none⟩), .int .i64 di] W fun e W' => ∃ q : Int, e = .returned (.int .i64 q) ∧ Sox w0 W' b hi (S.failI (nI di)) V A n c X :=
  (onI_fail h.sit.bank.on di).mono fun _ _ ⟨he, hB, hT⟩ => ⟨_, he, h.on hB hT⟩
end
#print axioms Sox.sfull
end Go.Proofs.Ytjafhlljigaibaa
namespace Go.Proofs.Ytjafhlljigaibaa
open Go.RowKit
theorem mpl_guard : Try.prog.eqGuardType Try.prog.depth 26 = false := by kernel_rfl
theorem mpl_fields : Try.prog.underlying 26 = some (.struct (Try.prog.fieldsOf 26)) := by kernel_rfl
theorem mpl_stood : Try.prog.stoodInHeld 26 = false := by kernel_rfl
theorem mpl_fieldsL : (Try.prog.fieldsOf 26).toList.map (fun f => (f.name, f.type, f.offset)) = [("Disk", 3, 0), ("At", 3, 1)] := by kernel_rfl
set_option maxRecDepth 100000 in
theorem run_eql_plI (a1 a2 b1 b2 : Int) (w : World) : (binOp .eql 26 (.agg (plL a1 a2).toArray) (.agg (plL b1 b2).toArray)).run Try.prog w = .ok (.bool (decide (a1 = b1 ∧ a2 = b2))) w := by
  have h := run_equalIn_struct (P := Try.prog) w 9999 26 (plL a1 a2).toArray (plL b1 b2).toArray mpl_fields mpl_stood
  have hl := mpl_fieldsL
  generalize (Try.prog.fieldsOf 26).toList = fs at h hl
  rcases fs with _ | ⟨f0, _ | ⟨f1, _ | ⟨f2, fs⟩⟩⟩ <;> simp at hl
  obtain ⟨⟨n0, t0, o0⟩, n1, t1, o1⟩ := hl
  have p0 : ∀ (x y : Int), (part f0.type (plL x y).toArray f0.offset).run Try.prog w = .ok (.int .i64 x) w := fun x y => by rw [t0, o0]; exact run_part_plain (P := Try.prog) w (by kernel_rfl) (xs := (plL x y).toArray) (off := 0) (v := .int .i64 x) rfl
  have p1 : ∀ (x y : Int), (part f1.type (plL x y).toArray f1.offset).run Try.prog w = .ok (.int .i64 y) w := fun x y => by rw [t1, o1]; exact run_part_plain (P := Try.prog) w (by kernel_rfl) (xs := (plL x y).toArray) (off := 1) (v := .int .i64 y) rfl
  have e0 : ∀ x y : Int, (Op.equalIn 9999 f0.type (.int .i64 x) (.int .i64 y)).run Try.prog w = .ok (x == y) w := fun x y => by rw [t0]; exact run_equalIn_int (P := Try.prog) w 9998 3 .i64 .i64 x y Try.underlying3
  have e1 : ∀ x y : Int, (Op.equalIn 9999 f1.type (.int .i64 x) (.int .i64 y)).run Try.prog w = .ok (x == y) w := fun x y => by rw [t1]; exact run_equalIn_int (P := Try.prog) w 9998 3 .i64 .i64 x y Try.underlying3
  rw [run_eql_struct, h]
  simp only [Op.eqFields]
  by_cases h1 : a1 = b1 <;> by_cases h2 : a2 = b2 <;> simp [n0, n1, p0, p1, e0, e1, h1, h2]
theorem msec_u8 : ∃ ui, Try.prog.info? 5 = some ui := ⟨(Try.prog.info? 5).get!, by kernel_rfl⟩
theorem msec_size (s : Sec) : (Try.prog.info? 49).map (·.size) = some (secL s).length := by rw [secL_length]; exact sec_info
theorem msec_len (s t : Sec) : (secL s).length = (secV t).cells.size := (secL_length s).trans (secL_length t).symm
theorem sec_bytes (s t : Sec) : decide (s.1 = t.1) = decide (s = t) := by
  by_cases h : s = t
  · subst h; simp
  · rw [decide_eq_false h, decide_eq_false (fun e => h (Subtype.ext e))]
section
variable {ops : Array Oper} {rest : List Oper} {o : Oper} {a : Act} {w : World} {Q : Exit → Act → World → Prop}
theorem run_eqS (W : World) (o : Oper) (p q : Operand) (tr : TypeId) (ho : o.op = .binOp .eql 49 p q tr) (s t : Sec) (hp : a.eval p = .agg (secL s).toArray) (hq : a.eval q = .agg (secL t).toArray) (r : Bool) (hr : decide (s = t) = r) : (execOp a.eval o).run Try.prog W = .ok (.value (.bool r)) W := by
  obtain ⟨ui, hui⟩ := msec_u8
  have hp' : a.eval p = .agg (B8 s.1).toArray := hp
  have hq' : a.eval q = .agg (B8 t.1).toArray := hq
  unfold execOp
  simp only [ho, hp', hq', Sem.run_bind, run_eqGuard_agg (P := Try.prog) W .eql 49 p q _ _ (by kernel_rfl), Result.andThen_ok, run_eql_bytes (P := Try.prog) W 49 5 64 ui Try.underlying49 Try.underlying5 hui (by kernel_rfl) s.1 t.1 s.2 t.2, Sem.run_pure, sec_bytes, hr]
theorem run_neS (W : World) (o : Oper) (p q : Operand) (tr : TypeId) (ho : o.op = .binOp .neq 49 p q tr) (s t : Sec) (hp : a.eval p = .agg (secL s).toArray) (hq : a.eval q = .agg (secL t).toArray) (r : Bool) (hr : (!decide (s = t)) = r) : (execOp a.eval o).run Try.prog W = .ok (.value (.bool r)) W := by
  obtain ⟨ui, hui⟩ := msec_u8
  have hp' : a.eval p = .agg (B8 s.1).toArray := hp
  have hq' : a.eval q = .agg (B8 t.1).toArray := hq
  unfold execOp
  simp only [ho, hp', hq', Sem.run_bind, run_eqGuard_agg (P := Try.prog) W .neq 49 p q _ _ (by kernel_rfl), Result.andThen_ok, run_neq_bytes (P := Try.prog) W 49 5 64 ui Try.underlying49 Try.underlying5 hui (by kernel_rfl) s.1 t.1 s.2 t.2, Sem.run_pure, sec_bytes, hr]
theorem run_eqPl (W : World) (o : Oper) (p q : Operand) (tr : TypeId) (ho : o.op = .binOp .eql 26 p q tr) (a1 a2 b1 b2 : Int) (hp : a.eval p = .agg (plL a1 a2).toArray) (hq : a.eval q = .agg (plL b1 b2).toArray) (r : Bool) (hr : decide (a1 = b1 ∧ a2 = b2) = r) : (execOp a.eval o).run Try.prog W = .ok (.value (.bool r)) W := by
  unfold execOp
  simp only [ho, hp, hq, Sem.run_bind, run_eqGuard_agg (P := Try.prog) W .eql 26 p q _ _ mpl_guard, Result.andThen_ok, run_eql_plI a1 a2 b1 b2 W, Sem.run_pure, hr]
theorem when_eqS (hw : Region.wanted o (yielded ops a.tmps) = true) (p q : Operand) (tr : TypeId) (ho : o.op = .binOp .eql 49 p q tr) (s t : Sec) (hp : a.eval p = .agg (secL s).toArray) (hq : a.eval q = .agg (secL t).toArray) (r : Bool) (hr : decide (s = t) = r)
    (h : wpList Try.prog ops Q rest (a.put o.dst (.bool r)) w) : wpList Try.prog ops Q (o :: rest) a w := when_gives hw _ (run_eqS w o p q tr ho s t hp hq r hr) h
theorem when_neS (hw : Region.wanted o (yielded ops a.tmps) = true) (p q : Operand) (tr : TypeId) (ho : o.op = .binOp .neq 49 p q tr) (s t : Sec) (hp : a.eval p = .agg (secL s).toArray) (hq : a.eval q = .agg (secL t).toArray) (r : Bool) (hr : (!decide (s = t)) = r)
    (h : wpList Try.prog ops Q rest (a.put o.dst (.bool r)) w) : wpList Try.prog ops Q (o :: rest) a w := when_gives hw _ (run_neS w o p q tr ho s t hp hq r hr) h
theorem when_eqPl (hw : Region.wanted o (yielded ops a.tmps) = true) (p q : Operand) (tr : TypeId) (ho : o.op = .binOp .eql 26 p q tr) (a1 a2 b1 b2 : Int) (hp : a.eval p = .agg (plL a1 a2).toArray) (hq : a.eval q = .agg (plL b1 b2).toArray) (r : Bool) (hr : decide (a1 = b1 ∧ a2 = b2) = r)
    (h : wpList Try.prog ops Q rest (a.put o.dst (.bool r)) w) : wpList Try.prog ops Q (o :: rest) a w := when_gives hw _ (run_eqPl w o p q tr ho a1 a2 b1 b2 hp hq r hr) h
/-- A variable of the law's own is read whole. -/
theorem when_own {P : Program} {hi : Nat} {V : List (Nat × TypeId × List Value)} (hw : Region.wanted o (yielded ops a.tmps) = true) (x : Operand) {t : TypeId} (ho : o.op = .load t x) (h : OwnV w hi V) (i : Nat) {g : Nat} {cs : List Value} (e : V[i]? = some (g, t, cs)) (hx : a.eval x = .pointer (some ⟨g, 0, none⟩))
    {d : TypeDesc} (hu : P.underlying t = some d) (hd : (match d with | .struct _ | .array _ _ => true | _ => false) = true) (hz : (P.info? t).map (·.size) = some cs.length)
    (hK : wpList P ops Q rest (a.put o.dst (.agg cs.toArray)) w) : wpList P ops Q (o :: rest) a w :=
  when_load hw t x ho g 0 t cs.toArray (h.blk i e) hx cs d (fun j v hj => by rw [Nat.zero_add]; simpa using hj) hu hd hz hK
end
end Go.Proofs.Ytjafhlljigaibaa
namespace Go.Proofs.Ytjafhlljigaibaa
open Go.RowKit
theorem pfold_set (l : List Value) : ∀ (k : Nat) (cs : Array Value), k + l.length ≤ cs.size → (l.zipIdx k).foldl (fun cs x => cs.setIfInBounds x.2 x.1) cs = (cs.toList.take k ++ l ++ cs.toList.drop (k + l.length)).toArray := by
  induction l with
  | nil =>
    intro k cs h
    rw [List.zipIdx_nil, List.foldl_nil, List.append_nil, List.length_nil, Nat.add_zero, List.take_append_drop, Array.toArray_toList]
  | cons v l ih =>
    intro k cs h
    rw [List.length_cons] at h
    rw [List.zipIdx_cons, List.foldl_cons, ih (k + 1) _ (by rw [Array.size_setIfInBounds]; omega)]
    have hk : k < cs.toList.length := by rw [Array.length_toList]; omega
    congr 1
    rw [Array.toList_setIfInBounds, List.take_add_one, List.take_set, List.set_eq_of_length_le (by simp; omega), List.getElem?_set, if_pos rfl, if_pos hk, List.drop_set, if_pos (by omega), List.length_cons]
    simp
    congr 1
    omega
theorem pfold_shift (off : Nat) : ∀ (l : List Value) (k : Nat) (D : Array Value), (l.zipIdx k).foldl (fun cs (x : Value × Nat) => cs.setIfInBounds (off + x.2) x.1) D = (l.zipIdx (off + k)).foldl (fun cs x => cs.setIfInBounds x.2 x.1) D := by
  intro l
  induction l with
  | nil => intro k D; rfl
  | cons x l ih =>
    intro k D
    rw [List.zipIdx_cons, List.zipIdx_cons, List.foldl_cons, List.foldl_cons, ih]
    rfl
/-- One array or struct laid in its place. -/
theorem pfill_one (F : Array Value) (off : Nat) (C : Array Value) (h : off + F.size ≤ C.size) : F.zipIdx.foldl (fun cs (x : Value × Nat) => cs.setIfInBounds (off + x.2) x.1) C = (C.toList.take off ++ F.toList ++ C.toList.drop (off + F.size)).toArray := by
  have h1 := pfold_set F.toList off C (by rw [Array.length_toList]; exact h)
  rw [Array.length_toList] at h1
  rw [← h1, ← Array.foldl_toList, Array.toList_zipIdx, pfold_shift]
  rfl
section
variable {P : Program} (w : World)
theorem run_build_aggs (t e : TypeId) (i : TypeInfo) (z : Value) (size : Nat) (ht : P.underlying t = some (.slice e)) (hi : P.info? e = some i) (hz : (zeroValue e).run P w = .ok z w) (hsize : i.size = size) (h0 : 0 < size) (h24 : size ≤ 1048576)
    (n : Nat) (hn : 0 < n) (hn9 : n ≤ 9) (parts : Array (Nat × Value)) (cells : Array Value) (hf : ∀ C : Array Value, C.size = n * size → Instr.fill (fun i => some (i * size, size)) C parts.toList = some cells) : (Instr.buildSlice t n parts).run P w = .ok (.slice (some ⟨w.heap.size, 0, none⟩) n n) (w.alloc (.cells cells e)) := by
  have hne : ¬ n * size = 0 := by
    have := Nat.mul_pos hn h0
    omega
  have hle : ¬ 16777216 < n * size := by
    have := Nat.mul_le_mul hn9 h24
    omega
  have hf2 := hf ((Array.range (n * size)).map (z.cells[· % z.cells.size]!)) (by simp)
  have hnr : (newRow e cells).run P w = .ok ⟨w.heap.size, 0, none⟩ (w.alloc (.cells cells e)) := rfl
  simp [Instr.buildSlice, run_underlying ht, sizeOf, typeInfo, hi, hsize, hz, hle, hne, hf2]
  rw [hnr]
  rfl
theorem fill_two (size : Nat) (F G : Array Value) (hF : F.size = size) (hG : G.size = size) (C : Array Value) (hC : C.size = 2 * size) : Instr.fill (fun i => some (i * size, size)) C [(0, .agg F), (1, .agg G)] = some (F.toList ++ G.toList).toArray := by
  have hcF : (Value.agg F).cells = F := rfl
  have hcG : (Value.agg G).cells = G := rfl
  unfold Instr.fill
  simp only [hcF, Nat.zero_mul, Nat.zero_add, hF]
  rw [if_neg (by simp; omega)]
  have e1 := pfill_one F 0 C (by omega)
  simp only [Nat.zero_add] at e1
  rw [e1, List.take_zero, List.nil_append, hF]
  unfold Instr.fill
  have hl : (F.toList ++ C.toList.drop size).toArray.size = 2 * size := by simp [hF, hC]; omega
  simp only [hcG, Nat.one_mul, hG]
  rw [if_neg (by rw [hl]; simp; omega), pfill_one G size _ (by rw [hl, hG]; omega)]
  unfold Instr.fill
  have e2 : (F.toList ++ C.toList.drop size).take size = F.toList := by rw [List.take_append_of_le_length (by simp [hF]), List.take_of_length_le (by simp [hF])]
  have e3 : (F.toList ++ C.toList.drop size).drop (size + size) = [] := List.drop_of_length_le (by simp [hF, hC]; omega)
  rw [hG, e2, e3, List.append_nil]
theorem fill_three (size : Nat) (F G H : Array Value) (hF : F.size = size) (hG : G.size = size) (hH : H.size = size) (C : Array Value) (hC : C.size = 3 * size) : Instr.fill (fun i => some (i * size, size)) C [(0, .agg F), (1, .agg G), (2, .agg H)] = some (F.toList ++ G.toList ++ H.toList).toArray := by
  have hcF : (Value.agg F).cells = F := rfl
  have hcG : (Value.agg G).cells = G := rfl
  have hcH : (Value.agg H).cells = H := rfl
  unfold Instr.fill
  simp only [hcF, Nat.zero_mul, Nat.zero_add, hF]
  rw [if_neg (by simp; omega)]
  have e1 := pfill_one F 0 C (by omega)
  simp only [Nat.zero_add] at e1
  rw [e1, List.take_zero, List.nil_append, hF]
  unfold Instr.fill
  have hl : (F.toList ++ C.toList.drop size).toArray.size = 3 * size := by simp [hF, hC]; omega
  simp only [hcG, Nat.one_mul, hG]
  rw [if_neg (by rw [hl]; simp; omega), pfill_one G size _ (by rw [hl, hG]; omega)]
  have e2 : (F.toList ++ C.toList.drop size).take size = F.toList := by rw [List.take_append_of_le_length (by simp [hF]), List.take_of_length_le (by simp [hF])]
  have e3 : (F.toList ++ C.toList.drop size).drop (size + size) = C.toList.drop (3 * size - size) := by
    rw [List.drop_append, List.drop_of_length_le (by simp [hF]), List.nil_append, List.drop_drop, Array.length_toList, hF]
    congr 1
    omega
  rw [hG, e2, e3]
  unfold Instr.fill
  have hl2 : (F.toList ++ G.toList ++ C.toList.drop (3 * size - size)).toArray.size = 3 * size := by simp [hF, hG, hC]; omega
  simp only [hcH, hH]
  rw [if_neg (by rw [hl2]; simp; omega), pfill_one H (2 * size) _ (by rw [hl2, hH]; omega)]
  unfold Instr.fill
  have e4 : (F.toList ++ G.toList ++ C.toList.drop (3 * size - size)).take (2 * size) = F.toList ++ G.toList := by rw [List.take_append_of_le_length (by simp [hF, hG]; omega), List.take_of_length_le (by simp [hF, hG]; omega)]
  have e5 : (F.toList ++ G.toList ++ C.toList.drop (3 * size - size)).drop (2 * size + size) = [] := List.drop_of_length_le (by simp [hF, hG, hC]; omega)
  rw [hH, e4, e5, List.append_nil]
end
end Go.Proofs.Ytjafhlljigaibaa
namespace Go.Proofs.Ytjafhlljigaibaa
open Go.RowKit
set_option linter.unusedVariables false
theorem ysec_parts : (Try.prog.info? 49).map (fun i => (i.zero, i.size, i.bytes)) = some (some (secV zeroSec), 64, 64) := by kernel_rfl
theorem yint_parts : (Try.prog.info? 3).map (fun i => (i.zero, i.size, i.bytes)) = some (some (.int .i64 0), 1, 8) := by kernel_rfl
/-- Sectors, one behind the other, as cells. -/
def secD (L : List Sec) : List Value := B8 (rawS L).flatten
theorem secD_nil : secD [] = [] := rfl
theorem secD_push (L : List Sec) (s : Sec) : secD (L ++ [s]) = secD L ++ secL s := by
  unfold secD
  rw [rawS_append, List.flatten_append, B8_append]
  simp [rawS, secL]
theorem secD_length (L : List Sec) : (secD L).length = L.length * 64 := by
  induction L with
  | nil => rfl
  | cons s L ih =>
    have : secD (s :: L) = secL s ++ secD L := by unfold secD; simp [rawS, secL, B8_append]
    rw [this, List.length_append, secL_length, ih, List.length_cons]
    omega
structure Sux (w0 W : World) (b hi : Nat) (S : Bank) (V : List (Nat × TypeId × List Value)) (A : Option Addr) (n c : Nat) (X : List PlI) (AI : Option Addr) (mI cI : Nat) (LI : List Int) (AD : Option Addr) (mD cD : Nat) (LD : List Sec) : Prop where
  sox : Sox w0 W b hi S V A n c X
  ints : W.ownsRow hi 3 1 (.slice AI mI cI) mI (I64 LI)
  secs : W.ownsRow hi 49 64 (.slice AD mD cD) mD (secD LD)
  offI : ∀ g, (Value.slice AI mI cI).ownBlock = some g → ∀ (i : Nat) (p : Nat × TypeId × List Value), V[i]? = some p → p.1 ≠ g
  offD : ∀ g, (Value.slice AD mD cD).ownBlock = some g → ∀ (i : Nat) (p : Nat × TypeId × List Value), V[i]? = some p → p.1 ≠ g
theorem yvars_add {V : List (Nat × TypeId × List Value)} {g : Nat} {t : TypeId} {cs : List Value} {p : Nat → Prop} (h : ∀ (i : Nat) (q : Nat × TypeId × List Value), V[i]? = some q → p q.1) (hg : p g) : ∀ (i : Nat) (q : Nat × TypeId × List Value), (V ++ [(g, t, cs)])[i]? = some q → p q.1 := fun i q e => by
  rw [List.getElem?_append] at e
  split at e
  · exact h i q e
  · by_cases hz : i - V.length = 0
    · rw [hz] at e
      have : q = (g, t, cs) := by simpa using e.symm
      rw [this]
      exact hg
    · rw [List.getElem?_eq_none (by simp; omega)] at e; cases e
theorem yvars_set {V : List (Nat × TypeId × List Value)} {k g : Nat} {t : TypeId} {cs cs' : List Value} {p : Nat → Prop} (h : ∀ (i : Nat) (q : Nat × TypeId × List Value), V[i]? = some q → p q.1) (e : V[k]? = some (g, t, cs)) : ∀ (i : Nat) (q : Nat × TypeId × List Value), (V.set k (g, t, cs'))[i]? = some q → p q.1 := fun i q ei => by
  rw [List.getElem?_set] at ei
  split at ei
  · split at ei
    · injection ei with ei; subst ei; exact (h k (g, t, cs) e : p g)
    · cases ei
  · exact h i q ei
theorem rows_apart {w : World} {base base' : Nat} {e e' : TypeId} {size size' : Nat} {v v' : Value} {n n' : Nat} {xs xs' : List Value} (h : w.ownsRow base e size v n xs) (h' : w.ownsRow base' e' size' v' n' xs') (hne : e ≠ e') : v.ownBlock = none ∨ v.ownBlock ≠ v'.ownBlock := by
  rcases h'.2 with ⟨rfl, _⟩ | ⟨g, cap, cur, rfl, _, hh, _⟩
  · cases hq : v.ownBlock with
    | none => exact .inl rfl
    | some x => exact .inr (by simp [Value.ownBlock])
  · exact .inr (fun q => row_kind_ne h (b := g) (cs := cur) hh hne (by rw [q]; simp [Value.ownBlock]))
section
variable {w0 W W' : World} {b hi n c mI cI mD cD : Nat} {S S' : Bank} {V : List (Nat × TypeId × List Value)} {A AI AD : Option Addr} {X : List PlI} {LI : List Int} {LD : List Sec}
theorem Sox.up (h : Sox w0 W b hi S V A n c X) : Sux w0 W b hi S V A n c X none 0 0 [] none 0 0 [] := ⟨h, World.ownsRow_nil _ _ _ _, World.ownsRow_nil _ _ _ _, fun g e => by simp [Value.ownBlock] at e, fun g e => by simp [Value.ownBlock] at e⟩
theorem Sit.up (h : Sit w0 W b hi S V) : Sox w0 W b hi S V none 0 0 [] := ⟨h, World.ownsRow_nil _ _ _ _, (fun p hp => by cases hp), by omega⟩
theorem Sux.own (h : Sux w0 W b hi S V A n c X AI mI cI LI AD mD cD LD) : OwnV W hi V := h.sox.sit.own
theorem Sux.low (h : Sux w0 W b hi S V A n c X AI mI cI LI AD mD cD LD) : Below w0.heap.size w0 W := h.sox.sit.low
theorem Sux.later (h : Sux w0 W b hi S V A n c X AI mI cI LI AD mD cD LD) (hb : Below W.heap.size W W') : Sux w0 W' b hi S V A n c X AI mI cI LI AD mD cD LD := ⟨h.sox.later hb, own_later h.ints hb, own_later h.secs hb, h.offI, h.offD⟩
theorem Sux.drew (h : Sux w0 W b hi S V A n c X AI mI cI LI AD mD cD LD) : Sux w0 W.drew b hi S V A n c X AI mI cI LI AD mD cD LD := h.later ((Below.refl _ _).drew)
theorem Sux.var (h : Sux w0 W b hi S V A n c X AI mI cI LI AD mD cD LD) {g : Nat} {t : TypeId} {cs : List Value} (hb : Below W.heap.size W W') (hg : W.heap.size ≤ g) (hk : Blk W' g t cs.toArray) : Sux w0 W' b hi S (V ++ [(g, t, cs)]) A n c X AI mI cI LI AD mD cD LD :=
  ⟨h.sox.var hb hg hk, own_later h.ints hb, own_later h.secs hb, fun x e => yvars_add (p := fun y => y ≠ x) (h.offI x e) (by have := (h.ints.lt x e).2; show g ≠ x; omega), fun x e => yvars_add (p := fun y => y ≠ x) (h.offD x e) (by have := (h.secs.lt x e).2; show g ≠ x; omega)⟩
theorem Sux.new {Wa : World} (h : Sux w0 W b hi S V A n c X AI mI cI LI AD mD cD LD) {t : TypeId} {cs : List Value} (hl : Below W.heap.size W Wa) (hg : Wa.grownBy W' (some W.heap.size)) (hk : Blk W' W.heap.size t cs.toArray) : Sux w0 W' b hi S (V ++ [(W.heap.size, t, cs)]) A n c X AI mI cI LI AD mD cD LD :=
  h.var (hl.grown hg hl.size (fun g e => by injection e with e; omega)) (Nat.le_refl _) hk
theorem Sux.poke (h : Sux w0 W b hi S V A n c X AI mI cI LI AD mD cD LD) (k : Nat) {g : Nat} {t : TypeId} {cs cs' : List Value} (e : V[k]? = some (g, t, cs)) (hne : 36 ≠ t) (hb : Blk W' g t cs'.toArray) (hg : W.grownBy W' (some g)) : Sux w0 W' b hi S (V.set k (g, t, cs')) A n c X AI mI cI LI AD mD cD LD :=
  ⟨h.sox.poke k e hne hb hg, h.ints.kept hg (.inr fun e2 => h.offI g e2 k _ e rfl), h.secs.kept hg (.inr fun e2 => h.offD g e2 k _ e rfl), fun x ex => yvars_set (p := fun y => y ≠ x) (h.offI x ex) e, fun x ex => yvars_set (p := fun y => y ≠ x) (h.offD x ex) e⟩
theorem Sux.cut (h : Sux w0 W b hi S V A n c X AI mI cI LI AD mD cD LD) (k : Nat) : Sux w0 W b hi S (V.take k) A n c X AI mI cI LI AD mD cD LD :=
  have hi : ∀ (i : Nat) (p : Nat × TypeId × List Value), (V.take k)[i]? = some p → V[i]? = some p := fun i p e => by
    rw [List.getElem?_take] at e
    split at e
    · exact e
    · cases e
  ⟨⟨h.sox.sit.cut k, h.sox.own, h.sox.small, h.sox.few⟩, h.ints, h.secs, fun g e i p hp => h.offI g e i p (hi i p hp), fun g e i p hp => h.offD g e i p (hi i p hp)⟩
theorem Sux.on (h : Sux w0 W b hi S V A n c X AI mI cI LI AD mD cD LD) (hB : BankOn W' b (In w0.heap.size hi) S') (hT : Turn (In w0.heap.size hi) W W') : Sux w0 W' b hi S' V A n c X AI mI cI LI AD mD cD LD :=
  ⟨h.sox.on hB hT, own_upto h.ints hT.upto_in, own_upto h.secs hT.upto_in, h.offI, h.offD⟩
theorem Sux.secs0 (h : Sux w0 W b hi S V A n c X AI mI cI LI AD mD cD LD) : Sux w0 W b hi S V A n c X AI mI cI LI none 0 0 [] := ⟨h.sox, h.ints, World.ownsRow_nil _ _ _ _, h.offI, fun g e => by simp [Value.ownBlock] at e⟩
theorem Sux.ints0 (h : Sux w0 W b hi S V A n c X AI mI cI LI AD mD cD LD) : Sux w0 W b hi S V A n c X none 0 0 [] AD mD cD LD := ⟨h.sox, World.ownsRow_nil _ _ _ _, h.secs, fun g e => by simp [Value.ownBlock] at e, h.offD⟩
theorem Sux.fewD (h : Sux w0 W b hi S V A n c X AI mI cI LI AD mD cD LD) : mD ≤ cD ∧ cD ≤ 9223372036854775807 ∧ LD.length = mD := by
  obtain ⟨_, _, e, h1, h2⟩ := own_shape h.secs
  injection e with e1 e2 e3
  subst e3
  have h3 := h.secs.1
  rw [secD_length] at h3
  exact ⟨h1, by simpa [maxLen] using h2, by omega⟩
theorem Sux.fewI (h : Sux w0 W b hi S V A n c X AI mI cI LI AD mD cD LD) : mI ≤ cI ∧ cI ≤ 9223372036854775807 ∧ LI.length = mI := by
  obtain ⟨_, _, e, h1, h2⟩ := own_shape h.ints
  injection e with e1 e2 e3
  subst e3
  have h3 := h.ints.1
  rw [I64_length] at h3
  exact ⟨h1, by simpa [maxLen] using h2, by omega⟩
/-! ### Calls -/
theorem Sux.slots (h : Sux w0 W b hi S V A n c X AI mI cI LI AD mD cD LD) (K : StrK) (v : Int) (h1 : -1000000 ≤ v) (h2 : v ≤ 1000000) : Calls Try.prog 15 #[.int .i64 v] W fun e W' => e = .returned (.int .i64 (slotsN v.toNat : Int)) ∧ Sux w0 W' b hi S V A n c X AI mI cI LI AD mD cD LD :=
  (K.slots_any W v h1 h2).mono fun _ _ ⟨he, hb⟩ => ⟨he, h.later hb⟩
theorem Sux.home (h : Sux w0 W b hi S V A n c X AI mI cI LI AD mD cD LD) (K : StrK) (slot : Int) (hs : I64In slot) : Calls Try.prog 11 #[.slice A n c, .int .i64 slot] W fun e W' => e = .returned (.tuple #[.agg (plC (homeR X n slot)).toArray, .int .i64 (homeE n slot : Int)]) ∧ Sux w0 W' b hi S V A n c X AI mI cI LI AD mD cD LD :=
  (K.home_any W A n c X h.sox.in_ slot hs).mono fun _ _ ⟨he, hb⟩ => ⟨he, h.later hb⟩
theorem Sux.par (h : Sux w0 W b hi S V A n c X AI mI cI LI AD mD cD LD) (K : StrK) (t : Int) (ht : I64In t) : Calls Try.prog 13 #[.slice A n c, .int .i64 t] W fun e W' => e = .returned (.tuple #[.agg (plC (parR X n t)).toArray, .int .i64 (strE n t : Int)]) ∧ Sux w0 W' b hi S V A n c X AI mI cI LI AD mD cD LD :=
  (K.par_any W A n c X h.sox.in_ t ht).mono fun _ _ ⟨he, hb⟩ => ⟨he, h.later hb⟩
theorem Sux.data (h : Sux w0 W b hi S V A n c X AI mI cI LI AD mD cD LD) (K : StrK) (t : Int) (ht : I64In t) : Calls Try.prog 17 #[.slice A n c, .int .i64 t] W fun e W' => ∃ A' m c', e = .returned (.tuple #[.slice A' m c', .int .i64 (strE n t : Int)]) ∧ Reads W' W'.heap.size 2 A' m (plsL (dataR X n t)) ∧ m ≤ c' ∧ c' ≤ 9223372036854775807 ∧ Below W.heap.size W W' ∧ Sux w0 W' b hi S V A n c X AI mI cI LI AD mD cD LD :=
  (K.data_any W A n c X h.sox.in_ t ht).mono fun _ _ ⟨A', m, c', he, h1, h2, h3, hb⟩ => ⟨A', m, c', he, h1, h2, h3, hb, h.later hb⟩
theorem Sux.mates (h : Sux w0 W b hi S V A n c X AI mI cI LI AD mD cD LD) (K : StrK) (slot : Int) (hs : I64In slot) : Calls Try.prog 19 #[.slice A n c, .int .i64 slot] W fun e W' => ∃ A' m c', e = .returned (.tuple #[.slice A' m c', .int .i64 (homeE n slot : Int)]) ∧ Reads W' W'.heap.size 2 A' m (plsL (matesR X n slot)) ∧ m ≤ c' ∧ c' ≤ 9223372036854775807 ∧ Below W.heap.size W W' ∧ Sux w0 W' b hi S V A n c X AI mI cI LI AD mD cD LD :=
  (K.mates_any W A n c X h.sox.in_ slot hs).mono fun _ _ ⟨A', m, c', he, h1, h2, h3, hb⟩ => ⟨A', m, c', he, h1, h2, h3, hb, h.later hb⟩
theorem Sux.sread (h : Sux w0 W b hi S V A n c X AI mI cI LI AD mD cD LD) (K : StrK) (slot : Int) (hs : I64In slot) : Calls Try.prog 30 #[.pointer (some ⟨b, 0, none⟩), .slice A n c, .int .i64 slot] W fun e W' => e = .returned (.tuple #[secV (S.sread X slot).1, .int .i64 ((S.sread X slot).2 : Int)]) ∧ Sux w0 W' b hi S V A n c X AI mI cI LI AD mD cD LD :=
  (K.read_any W b _ S h.sox.sit.bank.on A n c X h.sox.in_ slot hs).mono fun _ _ ⟨he, hb⟩ => ⟨he, h.later hb⟩
theorem Sux.srebuilt (h : Sux w0 W b hi S V A n c X AI mI cI LI AD mD cD LD) (K : StrK) (k t : Int) (hk : I64In k) (ht : I64In t) : Calls Try.prog 33 #[.pointer (some ⟨b, 0, none⟩), .slice A n c, .int .i64 k, .int .i64 t] W fun e W' => e = .returned (.tuple #[secV (S.srebuilt X k t).1, .int .i64 ((S.srebuilt X k t).2 : Int)]) ∧ Sux w0 W' b hi S V A n c X AI mI cI LI AD mD cD LD :=
  (K.rebuilt_any W b _ S h.sox.sit.bank.on A n c X h.sox.in_ k t hk ht).mono fun _ _ ⟨he, hb⟩ => ⟨he, h.later hb⟩
theorem Sux.splug (h : Sux w0 W b hi S V A n c X AI mI cI LI AD mD cD LD) (K : StrK) (slot : Int) (hs : I64In slot) (s : Sec) : Calls Try.prog 28 #[.pointer (some ⟨b, 0, none⟩), .slice A n c, .int .i64 slot, secV s] W fun e W' => e = .returned (.tuple #[secV (S.splug X slot s).1, .int .i64 ((S.splug X slot s).2 : Int)]) ∧ Sux w0 W' b hi S V A n c X AI mI cI LI AD mD cD LD :=
  (K.plug_any W b _ S h.sox.sit.bank.on A n c X h.sox.in_ slot hs s).mono fun _ _ ⟨he, hb⟩ => ⟨he, h.later hb⟩
theorem row_off {base lo m k : Nat} {B : Option Addr} {e : TypeId} {size : Nat} {xs : List Value} (h : W.ownsRow base e size (.slice B m k) m xs) (hm : hi ≤ base) : Off (In lo hi) B m := fun ad e hn hf => by
  rcases h.2 with ⟨_, e0⟩ | ⟨g, cap, cur, e0, h2, _⟩
  · omega
  · injection e0 with e1 _ _
    rw [e] at e1
    injection e1 with e1
    subst e1
    have h3 : g < hi := hf.2
    omega
/-- The row of sectors is written whole. -/
theorem Sux.sfull (h : Sux w0 W b hi S V A n c X AI mI cI LI AD mD cD LD) (K : StrK) (hw : S.writes < 4611686018427387000) (t : Int) (ht : I64In t) (h1 : mD ≤ 1000) :
    Calls Try.prog 27 #[.pointer (some ⟨b, 0, none⟩), .slice A n c, .int .i64 t, .slice AD mD cD] W fun e W' => e = .returned (.int .i64 ((S.sfull X t LD).1 : Int)) ∧ Sux w0 W' b hi (S.sfull X t LD).2 V A n c X AI mI cI LI AD mD cD LD :=
  (K.full_any W b _ S h.sox.sit.bank.on hw A n c X h.sox.in_ h.sox.off t ht AD mD cD LD (Reads.of_own h.secs) h.fewD.2.2 h1 h.fewD.1 h.fewD.2.1 (row_off h.secs (Nat.le_refl _))).mono fun _ _ ⟨he, hB, hT⟩ => ⟨he, h.on hB hT⟩
theorem Sux.write (h : Sux w0 W b hi S V A n c X AI mI cI LI AD mD cD LD) (hw : S.writes < 4611686018427387904) {di ki : Int} {d k : Nat} (hd : nI di = d) (hk : nI ki = k) (s : Sec) :
    Calls Try.prog 29 #[.pointer (some ⟨b, 0, none⟩), .agg #[.int .i64 di, .int .i64 ki], secV s] W fun e W' => e = .returned (.int .i64 ((S.write d k s).1 : Int)) ∧ Sux w0 W' b hi (S.write d k s).2 V A n c X AI mI cI LI AD mD cD LD := by
  subst hd hk
  exact (onI_write h.sox.sit.bank.on hw di ki s).mono fun _ _ ⟨he, hB, hT⟩ => ⟨he, h.on hB hT⟩
theorem Sux.read (h : Sux w0 W b hi S V A n c X AI mI cI LI AD mD cD LD) {di ki : Int} {d k : Nat} (hd : nI di = d) (hk : nI ki = k) :
    Calls Try.prog 32 #[.pointer (some ⟨b, 0, none⟩), .agg #[.int .i64 di, .int .i64 ki]] W fun e W' => e = .returned (.tuple #[secV (S.readS d k), .int .i64 (S.place d k : Int)]) ∧ Sux w0 W' b hi S V A n c X AI mI cI LI AD mD cD LD := by
  subst hd hk
  exact (onI_read h.sox.sit.bank.on di ki).mono fun _ _ ⟨he, hb⟩ => ⟨he, h.later hb⟩
theorem Sux.fail (h : Sux w0 W b hi S V A n c X AI mI cI LI AD mD cD LD) (di : Int) :
    Calls Try.prog 25 #[.pointer (some ⟨b, 0, none⟩), .int .i64 di] W fun e W' => ∃ q : Int, e = .returned (.int .i64 q) ∧ Sux w0 W' b hi (S.failI (nI di)) V A n c X AI mI cI LI AD mD cD LD :=
  (onI_fail h.sox.sit.bank.on di).mono fun _ _ ⟨he, hB, hT⟩ => ⟨_, he, h.on hB hT⟩
/-! ### The rows -/
/-- What grows a row of the law's own leaves the others. -/
theorem Sox.aside {e : TypeId} {size m : Nat} {v : Value} {xs : List Value} (h : Sox w0 W b hi S V A n c X) (hr : W.ownsRow hi e size v m xs) (hne : 36 ≠ e) (hoff : ∀ g, v.ownBlock = some g → ∀ (i : Nat) (p : Nat × TypeId × List Value), V[i]? = some p → p.1 ≠ g) (hg : W.grownBy W' v.ownBlock) : Sox w0 W' b hi S V A n c X := by
  have hlo : w0.heap.size ≤ hi := by
    obtain ⟨_, _, L, _, h4⟩ := h.sit.bank
    have hq : w0.heap.size ≤ b ∧ b < hi := h4.inside b (.inl rfl)
    omega
  refine ⟨⟨h.sit.low.grown hg h.sit.low.size (fun x ex => by have := (hr.lt x ex).1; omega), h.sit.bank.grown hg (fun x ex => .inr (hr.lt x ex).1), fun i p ei => ⟨(h.sit.own i p ei).1, (h.sit.own i p ei).2.grown hg (fun e2 => hoff p.1 e2.symm i p ei rfl)⟩, h.sit.rise⟩, h.own.kept hg (rows_apart h.own hr hne), h.small, h.few⟩
theorem Sux.pushD (h : Sux w0 W b hi S V A n c X AI mI cI LI AD mD cD LD) (hn : mD ≤ 1000) (s : Sec) (ty : TypeId) :
    ∃ A' c' w', (Builtin.append_ #[47, 47] ty #[.slice AD mD cD, .slice (some ⟨W.heap.size, 0, none⟩) 1 1]).run Try.prog (W.alloc (.cells (secL s).toArray 49)) = .ok (.slice A' (mD + 1) c') w' ∧ Sux w0 w' b hi S V A n c X AI mI cI LI A' (mD + 1) c' (LD ++ [s]) := by
  obtain ⟨i0, hi0, hz0, hz1, hz2⟩ := info_parts ysec_parts
  have hal : Below W.heap.size W (W.alloc (.cells (secL s).toArray 49)) := (Below.refl _ _).alloc (Nat.le_refl _) _
  have hh := h.later hal
  have hba : hi ≤ W.heap.size := h.sox.sit.hi_le
  obtain ⟨v', w', hrun, hown, hgb, hvb⟩ := run_append_any (P := Try.prog) (W.alloc (.cells (secL s).toArray 49)) hi 47 ty 49 i0 _ 64 64 Try.underlying47 hi0 hz0 hz1 hz2 (secL_length zeroSec) (by decide) _ _ _ hh.secs (W.heap.size + 1) (some ⟨W.heap.size, 0, none⟩) 1 1 (secL s) (Reads.lump _ (secL s) _ _ 64 (by omega) (by rw [secL_length])) (secL_one s) (by simp only [maxLen]; omega) (by omega) (le_alloc hba _)
  obtain ⟨A', c', rfl, _, _⟩ := own_shape hown
  refine ⟨A', c', w', hrun, hh.sox.aside hh.secs (by decide) hh.offD hgb, hh.ints.kept hgb (rows_apart hh.ints hh.secs (by decide)), by rw [secD_push]; exact hown, h.offI, fun g e i p hp => ?_⟩
  rcases hvb with hv | hv
  · exact h.offD g (hv ▸ e) i p hp
  · have hv' : some g = some (W.alloc (.cells (secL s).toArray 49)).heap.size := e.symm.trans hv
    injection hv' with hv'
    have hl := (h.own i p hp).2.lt
    have := World.size_alloc W (.cells (secL s).toArray 49)
    omega
theorem Sux.pushI (h : Sux w0 W b hi S V A n c X AI mI cI LI AD mD cD LD) (hn : mI ≤ 1000) (v : Int) (ty : TypeId) :
    ∃ A' c' w', (Builtin.append_ #[41, 41] ty #[.slice AI mI cI, .slice (some ⟨W.heap.size, 0, none⟩) 1 1]).run Try.prog (W.alloc (.cells #[.int .i64 v] 3)) = .ok (.slice A' (mI + 1) c') w' ∧ Sux w0 w' b hi S V A n c X A' (mI + 1) c' (LI ++ [v]) AD mD cD LD := by
  obtain ⟨i0, hi0, hz0, hz1, hz2⟩ := info_parts yint_parts
  have hal : Below W.heap.size W (W.alloc (.cells #[.int .i64 v] 3)) := (Below.refl _ _).alloc (Nat.le_refl _) _
  have hh := h.later hal
  have hba : hi ≤ W.heap.size := h.sox.sit.hi_le
  obtain ⟨v', w', hrun, hown, hgb, hvb⟩ := run_append_any (P := Try.prog) (W.alloc (.cells #[.int .i64 v] 3)) hi 41 ty 3 i0 _ 1 8 Try.underlying41 hi0 hz0 hz1 hz2 rfl (by decide) _ _ _ hh.ints (W.heap.size + 1) (some ⟨W.heap.size, 0, none⟩) 1 1 [.int .i64 v] (Reads.lump _ [.int .i64 v] _ _ 1 (by omega) rfl) (by simp; rfl) (by simp only [maxLen]; omega) (by omega) (le_alloc hba _)
  obtain ⟨A', c', rfl, _, _⟩ := own_shape hown
  refine ⟨A', c', w', hrun, hh.sox.aside hh.ints (by decide) hh.offI hgb, by rw [show I64 (LI ++ [v]) = I64 LI ++ [.int .i64 v] by unfold I64; simp]; exact hown, hh.secs.kept hgb (rows_apart hh.secs hh.ints (by decide)), fun g e i p hp => ?_, h.offD⟩
  rcases hvb with hv | hv
  · exact h.offI g (hv ▸ e) i p hp
  · have hv' : some g = some (W.alloc (.cells #[.int .i64 v] 3)).heap.size := e.symm.trans hv
    injection hv' with hv'
    have hl := (h.own i p hp).2.lt
    have := World.size_alloc W (.cells #[.int .i64 v] 3)
    omega
/-- A number of the row. -/
theorem Sux.cellI (h : Sux w0 W b hi S V A n c X AI mI cI LI AD mD cD LD) {q : Nat} {v : Int} (hq : LI[q]? = some v) : ∃ g, AI = some ⟨g, 0, none⟩ ∧ W.cell? ⟨g, q, none⟩ = some (.int .i64 v) := by
  have hl : q < LI.length := by
    rcases Nat.lt_or_ge q LI.length with hl | hl
    · exact hl
    · rw [List.getElem?_eq_none hl] at hq; cases hq
  have h3 := h.fewI.2.2
  rcases h.ints.2 with ⟨_, e0⟩ | ⟨g, cap, cur, e0, _, hh, _, _, _, ht⟩
  · omega
  · injection e0 with e1 _ _
    have hb : Blk W g 3 cur := hh
    refine ⟨g, e1, ?_⟩
    rw [hb.cell q]
    have h4 : (cur.toList.take (mI * 1))[q]? = some (.int .i64 v) := by rw [ht]; unfold I64; rw [List.getElem?_map, hq]; rfl
    rw [List.getElem?_take] at h4
    split at h4
    · simpa using h4
    · cases h4
/-- A number of the row is written over. -/
theorem Sux.setI (h : Sux w0 W b hi S V A n c X AI mI cI LI AD mD cD LD) {q : Nat} (hq : q < LI.length) (v : Int) : ∃ (g : Nat) (cur : Array Value), AI = some ⟨g, 0, none⟩ ∧ Blk W g 3 cur ∧ q < cur.size ∧
    ∀ W', Blk W' g 3 (cur.setIfInBounds q (.int .i64 v)) → W.grownBy W' (some g) → Sux w0 W' b hi S V A n c X AI mI cI (LI.set q v) AD mD cD LD := by
  have h3 := h.fewI.2.2
  rcases h.ints.2 with ⟨_, e0⟩ | ⟨g, cap, cur, e0, hb0, hh, hcap, hmax, hsz, ht⟩
  · omega
  · injection e0 with e1 e2 e3
    subst e1 e3
    have hs : q < cur.size := by omega
    refine ⟨g, cur, rfl, hh, hs, fun W' hB hg => ⟨h.sox.aside h.ints (by decide) h.offI hg, ?_, h.secs.kept hg (rows_apart h.secs h.ints (by decide)), h.offI, h.offD⟩⟩
    refine ⟨by rw [I64_length, List.length_set, ← I64_length]; exact h.ints.1, .inr ⟨g, _, _, rfl, hb0, hB, hcap, hmax, by simpa using hsz, ?_⟩⟩
    rw [Array.toList_setIfInBounds, List.take_set, ht]
    unfold I64
    rw [List.map_set]
end
section
variable {w0 W W' : World} {b hi n c mI cI mD cD : Nat} {S S' : Bank} {V : List (Nat × TypeId × List Value)} {A AI AD : Option Addr} {X : List PlI} {LI : List Int} {LD : List Sec}
/-- A new row of sectors, laid at once. -/
theorem Sux.newD (h : Sux w0 W b hi S V A n c X AI mI cI LI AD mD cD LD) (L : List Sec) (m : Nat) (hm : L.length = m) (hs : m ≤ 1000) : Sux w0 (W.alloc (.cells (secD L).toArray 49)) b hi S V A n c X AI mI cI LI (some ⟨W.heap.size, 0, none⟩) m m L := by
  have hh := h.later ((Below.refl _ _).alloc (Nat.le_refl _) (.cells (secD L).toArray 49))
  have hl : (secD L).length = m * 64 := by rw [secD_length, hm]
  refine ⟨hh.sox, hh.ints, ⟨hl, .inr ⟨W.heap.size, m, _, rfl, h.sox.sit.hi_le, heap_alloc_new W _, Nat.le_refl _, by simp only [maxLen]; omega, by rw [List.size_toArray]; exact hl, ?_⟩⟩, hh.offI, fun g e i p hp => ?_⟩
  · show (secD L).take (m * 64) = secD L
    exact List.take_of_length_le (by omega)
  · have : W.heap.size = g := by simpa [Value.ownBlock] using e
    have := (h.own i p hp).2.lt
    omega
theorem secD_two (s t : Sec) : secD [s, t] = secL s ++ secL t := by unfold secD; simp [rawS, secL, B8_append]
theorem secD_one (s : Sec) : secD [s] = secL s := by unfold secD; simp [rawS, secL]
theorem wpList_twoS {ops : Array Oper} {rest : List Oper} {o : Oper} {a : Act} {Q : Exit → Act → World → Prop} {w : World} (hgd : o.guard = none) (x y : Operand) (ho : o.op = .buildSlice 47 2 #[(0, x), (1, y)]) (s t : Sec) (hx : a.eval x = .agg (secL s).toArray) (hy : a.eval y = .agg (secL t).toArray)
    (h : wpList Try.prog ops Q rest (a.put o.dst (.slice (some ⟨w.heap.size, 0, none⟩) 2 2)) (w.alloc (.cells (secD [s, t]).toArray 49))) : wpList Try.prog ops Q (o :: rest) a w := by
  obtain ⟨i0, hi0, hz0, hz1, hz2⟩ := info_parts ysec_parts
  have hrun := run_build_aggs (P := Try.prog) w 47 49 i0 _ 64 Try.underlying47 hi0 (sec_zero _) hz1 (by decide) (by decide) 2 (by decide) (by decide) #[(0, .agg (secL s).toArray), (1, .agg (secL t).toArray)] (secD [s, t]).toArray (fun C hC => by rw [secD_two]; exact fill_two 64 (secL s).toArray (secL t).toArray (by rw [List.size_toArray, secL_length]) (by rw [List.size_toArray, secL_length]) C hC)
  refine wpList_plain hgd fun _ hK => ?_
  unfold Oper.wp execOp
  simp [ho, hx, hy, hrun, Result.andThen]
  exact hK _ _ h
/-- A slice literal of one sector. -/
theorem wpList_oneD {ops : Array Oper} {rest : List Oper} {o : Oper} {a : Act} {Q : Exit → Act → World → Prop} {w : World} (hgd : o.guard = none) (x : Operand) (ho : o.op = .buildSlice 47 1 #[(0, x)]) (u : Sec) (hx : a.eval x = .agg (secL u).toArray)
    (h : wpList Try.prog ops Q rest (a.put o.dst (.slice (some ⟨w.heap.size, 0, none⟩) 1 1)) (w.alloc (.cells (secL u).toArray 49))) : wpList Try.prog ops Q (o :: rest) a w := by
  obtain ⟨i0, hi0, hz0, hz1, hz2⟩ := info_parts ysec_parts
  exact wpList_build_agg _ hgd x 47 ho 49 i0 _ 64 Try.underlying47 hi0 (sec_zero _) hz1 (by decide) (by decide) (secL u).toArray hx (by rw [List.size_toArray, secL_length]) h
end
#print axioms Sux.newD
#print axioms wpList_twoS
#print axioms Sux.setI
#print axioms Sux.pushD
end Go.Proofs.Ytjafhlljigaibaa
namespace Go.Proofs.Ytjafhlljigaibaa
open Go.RowKit
set_option linter.unusedVariables false
theorem st5 : homeR (rowX idN 3) 3 16 = (0, 0) := by decide +kernel
theorem st6 : homeR ((rowX idN 3).take 1) 1 0 = (0, 0) := by decide +kernel
theorem st7 : ss1.failI 2 = ss2 := by unfold Bank.failI; rw [if_pos (by rw [st2]; decide)]; rfl
theorem i64In_of {v : Int} (h : -9223372036854775808 ≤ v ∧ v ≤ 9223372036854775807) : I64In v := h
section
variable {w0 W W' : World} {b hi n c mI cI mD cD : Nat} {S S' : Bank} {V : List (Nat × TypeId × List Value)} {A AI AD : Option Addr} {X : List PlI} {LI : List Int} {LD : List Sec}
theorem Sux.homeHead (h : Sux w0 W b hi S V A n c X AI mI cI LI AD mD cD LD) (K : StrK) (m : Nat) (hm : m ≤ n) (slot : Int) (hs : I64In slot) : Calls Try.prog 11 #[.slice A m c, .int .i64 slot] W fun e W' => e = .returned (.tuple #[.agg (plC (homeR (X.take m) m slot)).toArray, .int .i64 (homeE m slot : Int)]) ∧ Sux w0 W' b hi S V A n c X AI mI cI LI AD mD cD LD := by
  have h1 := h.sox.in_
  refine (K.home_any W A m c (X.take m) ⟨?_, fun p hp => h1.small p (List.mem_of_mem_take hp), Nat.le_trans hm h1.few, Nat.le_trans hm h1.cap, h1.max⟩ slot hs).mono fun _ _ ⟨he, hb⟩ => ⟨he, h.later hb⟩
  have := h1.reads.head hm
  rwa [plsL_take] at this
end
set_option maxRecDepth 100000 in
set_option maxHeartbeats 8000000 in
theorem shown13_any (K : StrK) (w : World) : Calls Try.prog 9 #[] w fun e w' => e = .returned (.bool true) ∧ Below w.heap.size w w' := by
  obtain ⟨a, ha⟩ : ∃ a, a = secOf 1 := ⟨_, rfl⟩
  obtain ⟨d, hd⟩ : ∃ d, d = secOf 2 := ⟨_, rfl⟩
  have HA := hide (fun w => ha ▸ sector_any 1 w)
  have HC := hide (fun w => hd ▸ sector_any 2 w)
  have HQ1 := hide (show ss0.writes = 0 ∧ (ss0.sfull (rowX idN 3) 1 [a, d]).1 = 0 by rw [ha, hd]; exact st1)
  have HS1 := hide (show (ss0.sfull (rowX idN 3) 1 [a, d]).2 = ss1 by rw [ha, hd]; rfl)
  have HQ3 := hide (show (ss2.sread (rowX idN 3) 3).1 = d ∧ (ss2.sread (rowX idN 3) 3).2 = 0 by rw [hd]; exact st3)
  clear ha hd
  go_enter Try.func9, Try.ntmps9
  go_upto_region 4 with (first
    | (go_at_call 22; refine (sit_laid13 w w (Below.refl _ _) 3 (by decide)).mono ?_; rintro _ y1 ⟨rfl, hsq⟩; have HS_y1 : Hid (Sux w y1 w.heap.size y1.heap.size ss0 [] none 0 0 ([]) none 0 0 ([]) none 0 0 ([])) := hide hsq.up.up; clear hsq))
  go_upto_region 5 with (first
    | (go_at_call 23; refine (HS_y1.out.sox.sit.row 3 (by decide)).mono ?_; rintro _ y2 ⟨A_y2, c_y2, rfl, hsq⟩; have HS_y2 : Hid (Sux w y2 w.heap.size y1.heap.size ss0 [] A_y2 3 c_y2 (rowX idN 3) none 0 0 ([]) none 0 0 ([])) := hide hsq.up; clear hsq))
  go_upto_region 6 with (first
    | (go_at_call 13; refine (HS_y2.out.par K 1 ⟨by decide, by decide⟩).mono ?_; rintro _ y3 ⟨rfl, hsq⟩; rw [st4.1, st4.2.1]; have HS_y3 : Hid (Sux w y3 w.heap.size y1.heap.size ss0 [] A_y2 3 c_y2 (rowX idN 3) none 0 0 ([]) none 0 0 ([])) := hide (hsq); clear hsq)
    | ((with_reducible refine at_slot 3 ?_); refine wpList_alloc_blk rfl 26 rfl _ (mplace_zero _) ?_; intro y4 hbq hl1 hs1; clear hs1)
    | ((with_reducible refine at_store 3 ?_); refine wpList_store_all rfl 26 (.tmp 3) (.tmp 23) rfl y3.heap.size 26 _ hbq rfl (plL (1) (2)) rfl mplace_info rfl (mplace_one _ _) ?_; intro y5 hbz hg hs; have HS_y5 : Hid (Sux w y5 w.heap.size y1.heap.size ss0 [(y3.heap.size, 26, plL (1) (2))] A_y2 3 c_y2 (rowX idN 3) none 0 0 ([]) none 0 0 ([])) := hide (HS_y3.out.new hl1 hg hbz); clear hs hbq hl1 hg hbz))
  go_upto_region 7 with (first
    | (go_at_call 11; refine (HS_y5.out.home K 3 ⟨by decide, by decide⟩).mono ?_; rintro _ y6 ⟨rfl, hsq⟩; rw [st4.2.2.1, st4.2.2.2.1]; have HS_y6 : Hid (Sux w y6 w.heap.size y1.heap.size ss0 [(y3.heap.size, 26, plL (1) (2))] A_y2 3 c_y2 (rowX idN 3) none 0 0 ([]) none 0 0 ([])) := hide (hsq); clear hsq)
    | ((with_reducible refine at_slot 5 ?_); refine wpList_alloc_blk rfl 26 rfl _ (mplace_zero _) ?_; intro y7 hbq hl1 hs1; clear hs1)
    | ((with_reducible refine at_store 5 ?_); refine wpList_store_all rfl 26 (.tmp 5) (.tmp 28) rfl y6.heap.size 26 _ hbq rfl (plL (2) (3)) rfl mplace_info rfl (mplace_one _ _) ?_; intro y8 hbz hg hs; have HS_y8 : Hid (Sux w y8 w.heap.size y1.heap.size ss0 [(y3.heap.size, 26, plL (1) (2)), (y6.heap.size, 26, plL (2) (3))] A_y2 3 c_y2 (rowX idN 3) none 0 0 ([]) none 0 0 ([])) := hide (HS_y6.out.new hl1 hg hbz); clear hs hbq hl1 hg hbz))
  go_upto_region 8 with (first
    | (go_at_call 19; refine (HS_y8.out.mates K 3 ⟨by decide, by decide⟩).mono ?_; rintro _ y9 ⟨B_y9, m_y9, k_y9, rfl, hrd, hcp, hcm, hlq, hsq⟩; rw [st4.2.2.2.1]; have HR_y9 := hide hrd; have HC_y9 := hide (And.intro hcp hcm); have HL_y9 := hide hlq; have HS_y9 : Hid (Sux w y9 w.heap.size y1.heap.size ss0 [(y3.heap.size, 26, plL (1) (2)), (y6.heap.size, 26, plL (2) (3))] A_y2 3 c_y2 (rowX idN 3) none 0 0 ([]) none 0 0 ([])) := hide hsq; clear hsq hrd hcp hcm hlq))
  obtain rfl : m_y9 = 2 := by have := reads_len HR_y9.out; rw [st4.2.2.2.2.1] at this; exact this.symm
  go_upto_region 9 with (first
    | (go_at_call 26; (with_reducible refine (HC.out _).mono ?_); rintro _ y11 ⟨rfl, hlq⟩; have HS_y11 : Hid (Sux w y11 w.heap.size y1.heap.size ss0 [(y3.heap.size, 26, plL (1) (2)), (y6.heap.size, 26, plL (2) (3))] A_y2 3 c_y2 (rowX idN 3) none 0 0 ([]) none 0 0 ([])) := hide (HS_y10.out.later hlq); clear hlq)
    | (go_at_call 26; (with_reducible refine (HA.out _).mono ?_); rintro _ y10 ⟨rfl, hlq⟩; have HS_y10 : Hid (Sux w y10 w.heap.size y1.heap.size ss0 [(y3.heap.size, 26, plL (1) (2)), (y6.heap.size, 26, plL (2) (3))] A_y2 3 c_y2 (rowX idN 3) none 0 0 ([]) none 0 0 ([])) := hide (HS_y9.out.later hlq); clear hlq)
    | ((with_reducible refine at_slot 39 ?_); refine wpList_twoS rfl (.tmp 37) (.tmp 38) rfl a d rfl rfl ?_; have HS_y12 : Hid (Sux w (y11.alloc (.cells (secD [a, d]).toArray 49)) w.heap.size y1.heap.size ss0 [(y3.heap.size, 26, plL (1) (2)), (y6.heap.size, 26, plL (2) (3))] A_y2 3 c_y2 (rowX idN 3) none 0 0 ([]) (some ⟨y11.heap.size, 0, none⟩) 2 2 ([a, d])) := hide (HS_y11.out.newD [a, d] 2 rfl (by decide)))
    | (go_at_call 27; refine (HS_y12.out.sfull K (by rw [HQ1.out.1]; decide) 1 ⟨by decide, by decide⟩ (by decide)).mono ?_; rintro _ y13 ⟨rfl, hsq⟩; rw [HS1.out] at hsq; rw [HQ1.out.2]; have HS_y13 : Hid (Sux w y13 w.heap.size y1.heap.size ss1 [(y3.heap.size, 26, plL (1) (2)), (y6.heap.size, 26, plL (2) (3))] A_y2 3 c_y2 (rowX idN 3) none 0 0 ([]) (some ⟨y11.heap.size, 0, none⟩) 2 2 ([a, d])) := hide (hsq); clear hsq))
  go_upto_region 10 with (first
    | (go_at_call 25; refine (HS_y13.out.fail 2).mono ?_; rintro _ y14 ⟨_, rfl, hsq⟩; rw [show nI 2 = 2 from rfl, st7] at hsq; have HS_y14 : Hid (Sux w y14 w.heap.size y1.heap.size ss2 [(y3.heap.size, 26, plL (1) (2)), (y6.heap.size, 26, plL (2) (3))] A_y2 3 c_y2 (rowX idN 3) none 0 0 ([]) (some ⟨y11.heap.size, 0, none⟩) 2 2 ([a, d])) := hide (hsq); clear hsq))
  go_upto_region 11 with (first
    | (go_at_call 30; refine (HS_y14.out.sread K 3 ⟨by decide, by decide⟩).mono ?_; rintro _ y15 ⟨rfl, hsq⟩; rw [HQ3.out.1, HQ3.out.2]; have HS_y15 : Hid (Sux w y15 w.heap.size y1.heap.size ss2 [(y3.heap.size, 26, plL (1) (2)), (y6.heap.size, 26, plL (2) (3))] A_y2 3 c_y2 (rowX idN 3) none 0 0 ([]) (some ⟨y11.heap.size, 0, none⟩) 2 2 ([a, d])) := hide (hsq); clear hsq)
    | ((with_reducible refine at_slot 10 ?_); refine wpList_alloc_blk rfl 49 rfl _ (sec_zero _) ?_; intro y16 hbq hl1 hs1; clear hs1)
    | ((with_reducible refine at_store 10 ?_); refine wpList_store_all rfl 49 (.tmp 10) (.tmp 47) rfl y15.heap.size 49 _ hbq rfl (secL d) rfl (msec_size _) (msec_len _ _) (secL_one _) ?_; intro y17 hbz hg hs; have HS_y17 : Hid (Sux w y17 w.heap.size y1.heap.size ss2 [(y3.heap.size, 26, plL (1) (2)), (y6.heap.size, 26, plL (2) (3)), (y15.heap.size, 49, secL d)] A_y2 3 c_y2 (rowX idN 3) none 0 0 ([]) (some ⟨y11.heap.size, 0, none⟩) 2 2 ([a, d])) := hide (HS_y15.out.new hl1 hg hbz); clear hs hbq hl1 hg hbz))
  go_upto_region 12 with (first
    | (go_at_call 11; refine (HS_y17.out.home K 16 ⟨by decide, by decide⟩).mono ?_; rintro _ y18 ⟨rfl, hsq⟩; rw [st5, st4.2.2.2.2.2.1]; have HS_y18 : Hid (Sux w y18 w.heap.size y1.heap.size ss2 [(y3.heap.size, 26, plL (1) (2)), (y6.heap.size, 26, plL (2) (3)), (y15.heap.size, 49, secL d)] A_y2 3 c_y2 (rowX idN 3) none 0 0 ([]) (some ⟨y11.heap.size, 0, none⟩) 2 2 ([a, d])) := hide (hsq); clear hsq)
    | ((with_reducible refine at_slot 12 ?_); refine wpList_alloc_blk rfl 26 rfl _ (mplace_zero _) ?_; intro y19 hbq hl1 hs1; clear hs1)
    | ((with_reducible refine at_store 12 ?_); refine wpList_store_all rfl 26 (.tmp 12) (.tmp 52) rfl y18.heap.size 26 _ hbq rfl (plL (0) (0)) rfl mplace_info rfl (mplace_one _ _) ?_; intro y20 hbz hg hs; have HS_y20 : Hid (Sux w y20 w.heap.size y1.heap.size ss2 [(y3.heap.size, 26, plL (1) (2)), (y6.heap.size, 26, plL (2) (3)), (y15.heap.size, 49, secL d), (y18.heap.size, 26, plL (0) (0))] A_y2 3 c_y2 (rowX idN 3) none 0 0 ([]) (some ⟨y11.heap.size, 0, none⟩) 2 2 ([a, d])) := hide (HS_y18.out.new hl1 hg hbz); clear hs hbq hl1 hg hbz))
  have hcx := (HS_y20.out.sox.in_).cap
  go_wp2_with (first
    | (go_at_call 11; refine (HS_y20.out.homeHead K 1 (by decide) 0 ⟨by decide, by decide⟩).mono ?_; rintro _ y21 ⟨rfl, hsq⟩; rw [st6, st4.2.2.2.2.2.2.1]; have HS_y21 : Hid (Sux w y21 w.heap.size y1.heap.size ss2 [(y3.heap.size, 26, plL (1) (2)), (y6.heap.size, 26, plL (2) (3)), (y15.heap.size, 49, secL d), (y18.heap.size, 26, plL (0) (0))] A_y2 3 c_y2 (rowX idN 3) none 0 0 ([]) (some ⟨y11.heap.size, 0, none⟩) 2 2 ([a, d])) := hide (hsq); clear hsq)
    | ((with_reducible refine at_slot 14 ?_); refine wpList_alloc_blk rfl 26 rfl _ (mplace_zero _) ?_; intro y22 hbq hl1 hs1; clear hs1)
    | ((with_reducible refine at_store 14 ?_); refine wpList_store_all rfl 26 (.tmp 14) (.tmp 58) rfl y21.heap.size 26 _ hbq rfl (plL (0) (0)) rfl mplace_info rfl (mplace_one _ _) ?_; intro y23 hbz hg hs; have HS_y23 : Hid (Sux w y23 w.heap.size y1.heap.size ss2 [(y3.heap.size, 26, plL (1) (2)), (y6.heap.size, 26, plL (2) (3)), (y15.heap.size, 49, secL d), (y18.heap.size, 26, plL (0) (0)), (y21.heap.size, 26, plL (0) (0))] A_y2 3 c_y2 (rowX idN 3) none 0 0 ([]) (some ⟨y11.heap.size, 0, none⟩) 2 2 ([a, d])) := hide (HS_y21.out.new hl1 hg hbz); clear hs hbq hl1 hg hbz))
  refine wp_region_held_drew (S := (fun W => OwnV W y1.heap.size [(y3.heap.size, 26, plL (1) (2)), (y6.heap.size, 26, plL (2) (3)), (y15.heap.size, 49, secL d), (y18.heap.size, 26, plL (0) (0)), (y21.heap.size, 26, plL (0) (0))])) (by kernel_rfl) ?_ (fun hHeld => ?_)
  · exact HS_y23.out.drew.own
  have HS_dy23 := hide (HS_y23.out.drew)
  refine wpAnyH_ready (rs := [0]) (by kernel_rfl) (by simp) ?_
  refine heldCons (i := 0) rfl (fun Kq hKq => ?_) AllReadyH.nil
  go_simp
  go_at_call 15
  (with_reducible refine (K.slots_any _ 3 (by decide) (by decide)).mono ?_)
  rintro _ y24 ⟨rfl, hlq⟩
  rw [show slotsN (3 : Int).toNat = 16 from rfl]
  have HS_y24 : Hid (Sux w y24 w.heap.size y1.heap.size ss2 [(y3.heap.size, 26, plL (1) (2)), (y6.heap.size, 26, plL (2) (3)), (y15.heap.size, 49, secL d), (y18.heap.size, 26, plL (0) (0)), (y21.heap.size, 26, plL (0) (0))] A_y2 3 c_y2 (rowX idN 3) none 0 0 ([]) (some ⟨y11.heap.size, 0, none⟩) 2 2 ([a, d])) := hide (HS_dy23.out.later hlq)
  clear hlq
  first | (refine hKq.out _ _ HS_y24.out.own (fun hHeld => ?_)) | (go_wp2_with fail; refine hKq.out _ _ HS_y24.out.own (fun hHeld => ?_))
  clear hKq Kq
  try simp only [Act.put, List.setIfInBounds_toArray, List.set_cons_zero, List.set_cons_succ]
  refine heldTake (i := 1) (v := ?_) rfl (by kernel_rfl) (by kernel_rfl) (by kernel_rfl) (fun _ _ _ h => h) (Or.inl ⟨by rfl, ?_⟩) (by assumption) ?_
  rotate_left
  · intro w hSw; (try dsimp only at hSw); go_simp <;> (with_reducible rfl)
  try simp only [Act.put, List.setIfInBounds_toArray, List.set_cons_zero, List.set_cons_succ]
  refine heldTake (i := 2) (v := ?_) rfl (by kernel_rfl) (by kernel_rfl) (by kernel_rfl) (fun _ _ _ h => h) (Or.inl ⟨by rfl, ?_⟩) (by assumption) ?_
  rotate_left
  · intro w hSw; (try dsimp only at hSw); go_simp <;> (with_reducible rfl)
  try simp only [Act.put, List.setIfInBounds_toArray, List.set_cons_zero, List.set_cons_succ]
  refine wpAnyH_ready (rs := [3]) (by kernel_rfl) (by simp) ?_
  refine heldCons (i := 3) rfl (fun Kq hKq => ?_) AllReadyH.nil
  go_simp
  go_at_call 15
  (with_reducible refine (K.slots_any _ 1 (by decide) (by decide)).mono ?_)
  rintro _ y25 ⟨rfl, hlq⟩
  rw [show slotsN (1 : Int).toNat = 0 from rfl]
  have HS_y25 : Hid (Sux w y25 w.heap.size y1.heap.size ss2 [(y3.heap.size, 26, plL (1) (2)), (y6.heap.size, 26, plL (2) (3)), (y15.heap.size, 49, secL d), (y18.heap.size, 26, plL (0) (0)), (y21.heap.size, 26, plL (0) (0))] A_y2 3 c_y2 (rowX idN 3) none 0 0 ([]) (some ⟨y11.heap.size, 0, none⟩) 2 2 ([a, d])) := hide (HS_y24.out.later hlq)
  clear hlq
  first | (refine hKq.out _ _ HS_y25.out.own (fun hHeld => ?_)) | (go_wp2_with fail; refine hKq.out _ _ HS_y25.out.own (fun hHeld => ?_))
  clear hKq Kq
  try simp only [Act.put, List.setIfInBounds_toArray, List.set_cons_zero, List.set_cons_succ]
  refine heldTake (i := 4) (v := ?_) rfl (by kernel_rfl) (by kernel_rfl) (by kernel_rfl) (fun _ _ _ h => h) (Or.inl ⟨by rfl, ?_⟩) (by assumption) ?_
  rotate_left
  · intro w hSw; (try dsimp only at hSw); go_simp <;> (with_reducible rfl)
  try simp only [Act.put, List.setIfInBounds_toArray, List.set_cons_zero, List.set_cons_succ]
  refine heldTake (i := 5) (v := ?_) rfl (by kernel_rfl) (by kernel_rfl) (by kernel_rfl) (fun _ _ _ h => h) (Or.inl ⟨by rfl, ?_⟩) (by assumption) ?_
  rotate_left
  · intro w hSw; (try dsimp only at hSw); go_simp <;> (with_reducible rfl)
  try simp only [Act.put, List.setIfInBounds_toArray, List.set_cons_zero, List.set_cons_succ]
  refine heldTake (i := 6) (v := ?_) rfl (by kernel_rfl) (by kernel_rfl) (by kernel_rfl) (fun _ _ _ h => h) (Or.inl ⟨by rfl, ?_⟩) (by assumption) ?_
  rotate_left
  · intro w hSw; (try dsimp only at hSw); go_simp <;> (with_reducible rfl)
  try simp only [Act.put, List.setIfInBounds_toArray, List.set_cons_zero, List.set_cons_succ]
  refine heldTake (i := 7) (v := .agg (plL (1) (2)).toArray) rfl (by kernel_rfl) (by kernel_rfl) (by kernel_rfl) (fun _ _ _ h => h) (yieldsIf_load_mid (by rfl) _ _ rfl _ _ rfl (plL (1) (2)) _ (fun W hW => hW.range 0 rfl) Try.underlying26 rfl mplace_info) (by assumption) ?_
  try simp only [Act.put, List.setIfInBounds_toArray, List.set_cons_zero, List.set_cons_succ]
  refine heldTake (i := 8) (v := ?_) rfl (by kernel_rfl) (by kernel_rfl) (by kernel_rfl) (fun _ _ _ h => h) (Or.inl ⟨by rfl, ?_⟩) (by assumption) ?_
  rotate_left
  · intro w hSw; (try dsimp only at hSw); go_simp <;> (with_reducible rfl)
  try simp only [Act.put, List.setIfInBounds_toArray, List.set_cons_zero, List.set_cons_succ]
  refine heldTake (i := 9) (v := .bool true) rfl (by kernel_rfl) (by kernel_rfl) (by kernel_rfl) (fun _ _ _ h => h) (Or.inl ⟨by rfl, fun W hW => run_eqPl W _ (.tmp 67) (.tmp 68) _ rfl 1 2 1 2 rfl rfl true (by decide)⟩) (by assumption) ?_
  try simp only [Act.put, List.setIfInBounds_toArray, List.set_cons_zero, List.set_cons_succ]
  refine heldTake (i := 10) (v := ?_) rfl (by kernel_rfl) (by kernel_rfl) (by kernel_rfl) (fun _ _ _ h => h) (Or.inl ⟨by rfl, ?_⟩) (by assumption) ?_
  rotate_left
  · intro w hSw; (try dsimp only at hSw); go_simp <;> (with_reducible rfl)
  try simp only [Act.put, List.setIfInBounds_toArray, List.set_cons_zero, List.set_cons_succ]
  refine heldTake (i := 11) (v := ?_) rfl (by kernel_rfl) (by kernel_rfl) (by kernel_rfl) (fun _ _ _ h => h) (Or.inl ⟨by rfl, ?_⟩) (by assumption) ?_
  rotate_left
  · intro w hSw; (try dsimp only at hSw); go_simp <;> (with_reducible rfl)
  try simp only [Act.put, List.setIfInBounds_toArray, List.set_cons_zero, List.set_cons_succ]
  refine heldTake (i := 12) (v := ?_) rfl (by kernel_rfl) (by kernel_rfl) (by kernel_rfl) (fun _ _ _ h => h) (Or.inl ⟨by rfl, ?_⟩) (by assumption) ?_
  rotate_left
  · intro w hSw; (try dsimp only at hSw); go_simp <;> (with_reducible rfl)
  try simp only [Act.put, List.setIfInBounds_toArray, List.set_cons_zero, List.set_cons_succ]
  refine heldTake (i := 13) (v := ?_) rfl (by kernel_rfl) (by kernel_rfl) (by kernel_rfl) (fun _ _ _ h => h) (Or.inl ⟨by rfl, ?_⟩) (by assumption) ?_
  rotate_left
  · intro w hSw; (try dsimp only at hSw); go_simp <;> (with_reducible rfl)
  try simp only [Act.put, List.setIfInBounds_toArray, List.set_cons_zero, List.set_cons_succ]
  refine heldTake (i := 14) (v := ?_) rfl (by kernel_rfl) (by kernel_rfl) (by kernel_rfl) (fun _ _ _ h => h) (Or.inl ⟨by rfl, ?_⟩) (by assumption) ?_
  rotate_left
  · intro w hSw; (try dsimp only at hSw); go_simp <;> (with_reducible rfl)
  try simp only [Act.put, List.setIfInBounds_toArray, List.set_cons_zero, List.set_cons_succ]
  refine heldTake (i := 15) (v := ?_) rfl (by kernel_rfl) (by kernel_rfl) (by kernel_rfl) (fun _ _ _ h => h) (Or.inl ⟨by rfl, ?_⟩) (by assumption) ?_
  rotate_left
  · intro w hSw; (try dsimp only at hSw); go_simp <;> (with_reducible rfl)
  try simp only [Act.put, List.setIfInBounds_toArray, List.set_cons_zero, List.set_cons_succ]
  refine heldTake (i := 16) (v := .agg (plL (2) (3)).toArray) rfl (by kernel_rfl) (by kernel_rfl) (by kernel_rfl) (fun _ _ _ h => h) (yieldsIf_load_mid (by rfl) _ _ rfl _ _ rfl (plL (2) (3)) _ (fun W hW => hW.range 1 rfl) Try.underlying26 rfl mplace_info) (by assumption) ?_
  try simp only [Act.put, List.setIfInBounds_toArray, List.set_cons_zero, List.set_cons_succ]
  refine heldTake (i := 17) (v := ?_) rfl (by kernel_rfl) (by kernel_rfl) (by kernel_rfl) (fun _ _ _ h => h) (Or.inl ⟨by rfl, ?_⟩) (by assumption) ?_
  rotate_left
  · intro w hSw; (try dsimp only at hSw); go_simp <;> (with_reducible rfl)
  try simp only [Act.put, List.setIfInBounds_toArray, List.set_cons_zero, List.set_cons_succ]
  refine heldTake (i := 18) (v := .bool true) rfl (by kernel_rfl) (by kernel_rfl) (by kernel_rfl) (fun _ _ _ h => h) (Or.inl ⟨by rfl, fun W hW => run_eqPl W _ (.tmp 76) (.tmp 77) _ rfl 2 3 2 3 rfl rfl true (by decide)⟩) (by assumption) ?_
  try simp only [Act.put, List.setIfInBounds_toArray, List.set_cons_zero, List.set_cons_succ]
  refine heldTake (i := 19) (v := ?_) rfl (by kernel_rfl) (by kernel_rfl) (by kernel_rfl) (fun _ _ _ h => h) (Or.inl ⟨by rfl, ?_⟩) (by assumption) ?_
  rotate_left
  · intro w hSw; (try dsimp only at hSw); go_simp <;> (with_reducible rfl)
  try simp only [Act.put, List.setIfInBounds_toArray, List.set_cons_zero, List.set_cons_succ]
  refine heldTake (i := 20) (v := ?_) rfl (by kernel_rfl) (by kernel_rfl) (by kernel_rfl) (fun _ _ _ h => h) (Or.inl ⟨by rfl, ?_⟩) (by assumption) ?_
  rotate_left
  · intro w hSw; (try dsimp only at hSw); go_simp <;> (with_reducible rfl)
  try simp only [Act.put, List.setIfInBounds_toArray, List.set_cons_zero, List.set_cons_succ]
  refine heldTake (i := 21) (v := ?_) rfl (by kernel_rfl) (by kernel_rfl) (by kernel_rfl) (fun _ _ _ h => h) (Or.inl ⟨by rfl, ?_⟩) (by assumption) ?_
  rotate_left
  · intro w hSw; (try dsimp only at hSw); go_simp <;> (with_reducible rfl)
  try simp only [Act.put, List.setIfInBounds_toArray, List.set_cons_zero, List.set_cons_succ]
  refine heldTake (i := 22) (v := ?_) rfl (by kernel_rfl) (by kernel_rfl) (by kernel_rfl) (fun _ _ _ h => h) (Or.inl ⟨by rfl, ?_⟩) (by assumption) ?_
  rotate_left
  · intro w hSw; (try dsimp only at hSw); go_simp <;> (with_reducible rfl)
  try simp only [Act.put, List.setIfInBounds_toArray, List.set_cons_zero, List.set_cons_succ]
  refine heldTake (i := 23) (v := ?_) rfl (by kernel_rfl) (by kernel_rfl) (by kernel_rfl) (fun _ _ _ h => h) (Or.inl ⟨by rfl, ?_⟩) (by assumption) ?_
  rotate_left
  · intro w hSw; (try dsimp only at hSw); go_simp <;> (with_reducible rfl)
  try simp only [Act.put, List.setIfInBounds_toArray, List.set_cons_zero, List.set_cons_succ]
  refine heldTake (i := 24) (v := ?_) rfl (by kernel_rfl) (by kernel_rfl) (by kernel_rfl) (fun _ _ _ h => h) (Or.inl ⟨by rfl, ?_⟩) (by assumption) ?_
  rotate_left
  · intro w hSw; (try dsimp only at hSw); go_simp <;> (with_reducible rfl)
  try simp only [Act.put, List.setIfInBounds_toArray, List.set_cons_zero, List.set_cons_succ]
  refine heldTake (i := 25) (v := ?_) rfl (by kernel_rfl) (by kernel_rfl) (by kernel_rfl) (fun _ _ _ h => h) (Or.inl ⟨by rfl, ?_⟩) (by assumption) ?_
  rotate_left
  · intro w hSw; (try dsimp only at hSw); go_simp <;> (with_reducible rfl)
  try simp only [Act.put, List.setIfInBounds_toArray, List.set_cons_zero, List.set_cons_succ]
  refine heldTake (i := 26) (v := ?_) rfl (by kernel_rfl) (by kernel_rfl) (by kernel_rfl) (fun _ _ _ h => h) (Or.inl ⟨by rfl, ?_⟩) (by assumption) ?_
  rotate_left
  · intro w hSw; (try dsimp only at hSw); go_simp <;> (with_reducible rfl)
  try simp only [Act.put, List.setIfInBounds_toArray, List.set_cons_zero, List.set_cons_succ]
  refine heldTake (i := 27) (v := ?_) rfl (by kernel_rfl) (by kernel_rfl) (by kernel_rfl) (fun _ _ _ h => h) (Or.inl ⟨by rfl, ?_⟩) (by assumption) ?_
  rotate_left
  · intro w hSw; (try dsimp only at hSw); go_simp <;> (with_reducible rfl)
  try simp only [Act.put, List.setIfInBounds_toArray, List.set_cons_zero, List.set_cons_succ]
  refine heldTake (i := 28) (v := ?_) rfl (by kernel_rfl) (by kernel_rfl) (by kernel_rfl) (fun _ _ _ h => h) (Or.inl ⟨by rfl, ?_⟩) (by assumption) ?_
  rotate_left
  · intro w hSw; (try dsimp only at hSw); go_simp <;> (with_reducible rfl)
  try simp only [Act.put, List.setIfInBounds_toArray, List.set_cons_zero, List.set_cons_succ]
  refine heldTake (i := 29) (v := ?_) rfl (by kernel_rfl) (by kernel_rfl) (by kernel_rfl) (fun _ _ _ h => h) (Or.inl ⟨by rfl, ?_⟩) (by assumption) ?_
  rotate_left
  · intro w hSw; (try dsimp only at hSw); go_simp <;> (with_reducible rfl)
  try simp only [Act.put, List.setIfInBounds_toArray, List.set_cons_zero, List.set_cons_succ]
  refine heldTake (i := 30) (v := ?_) rfl (by kernel_rfl) (by kernel_rfl) (by kernel_rfl) (fun _ _ _ h => h) (Or.inl ⟨by rfl, ?_⟩) (by assumption) ?_
  rotate_left
  · intro w hSw; (try dsimp only at hSw); go_simp <;> (with_reducible rfl)
  try simp only [Act.put, List.setIfInBounds_toArray, List.set_cons_zero, List.set_cons_succ]
  refine heldTake (i := 31) (v := ?_) rfl (by kernel_rfl) (by kernel_rfl) (by kernel_rfl) (fun _ _ _ h => h) (Or.inl ⟨by rfl, ?_⟩) (by assumption) ?_
  rotate_left
  · intro w hSw; (try dsimp only at hSw); go_simp <;> (with_reducible rfl)
  try simp only [Act.put, List.setIfInBounds_toArray, List.set_cons_zero, List.set_cons_succ]
  refine heldTake (i := 32) (v := ?_) rfl (by kernel_rfl) (by kernel_rfl) (by kernel_rfl) (fun _ _ _ h => h) (Or.inl ⟨by rfl, ?_⟩) (by assumption) ?_
  rotate_left
  · intro w hSw; (try dsimp only at hSw); go_simp <;> (with_reducible rfl)
  try simp only [Act.put, List.setIfInBounds_toArray, List.set_cons_zero, List.set_cons_succ]
  refine heldTake (i := 33) (v := ?_) rfl (by kernel_rfl) (by kernel_rfl) (by kernel_rfl) (fun _ _ _ h => h) (Or.inl ⟨by rfl, ?_⟩) (by assumption) ?_
  rotate_left
  · intro w hSw; (try dsimp only at hSw); go_simp <;> (with_reducible rfl)
  try simp only [Act.put, List.setIfInBounds_toArray, List.set_cons_zero, List.set_cons_succ]
  refine heldTake (i := 34) (v := ?_) rfl (by kernel_rfl) (by kernel_rfl) (by kernel_rfl) (fun _ _ _ h => h) (Or.inl ⟨by rfl, ?_⟩) (by assumption) ?_
  rotate_left
  · intro w hSw; (try dsimp only at hSw); go_simp <;> (with_reducible rfl)
  try simp only [Act.put, List.setIfInBounds_toArray, List.set_cons_zero, List.set_cons_succ]
  refine heldTake (i := 35) (v := ?_) rfl (by kernel_rfl) (by kernel_rfl) (by kernel_rfl) (fun _ _ _ h => h) (Or.inl ⟨by rfl, ?_⟩) (by assumption) ?_
  rotate_left
  · intro w hSw; (try dsimp only at hSw); go_simp <;> (with_reducible rfl)
  try simp only [Act.put, List.setIfInBounds_toArray, List.set_cons_zero, List.set_cons_succ]
  refine heldTake (i := 36) (v := ?_) rfl (by kernel_rfl) (by kernel_rfl) (by kernel_rfl) (fun _ _ _ h => h) (Or.inl ⟨by rfl, ?_⟩) (by assumption) ?_
  rotate_left
  · intro w hSw; (try dsimp only at hSw); go_simp <;> (with_reducible rfl)
  try simp only [Act.put, List.setIfInBounds_toArray, List.set_cons_zero, List.set_cons_succ]
  refine heldTake (i := 37) (v := ?_) rfl (by kernel_rfl) (by kernel_rfl) (by kernel_rfl) (fun _ _ _ h => h) (Or.inl ⟨by rfl, ?_⟩) (by assumption) ?_
  rotate_left
  · intro w hSw; (try dsimp only at hSw); go_simp <;> (with_reducible rfl)
  try simp only [Act.put, List.setIfInBounds_toArray, List.set_cons_zero, List.set_cons_succ]
  refine heldTake (i := 38) (v := .agg (secL d).toArray) rfl (by kernel_rfl) (by kernel_rfl) (by kernel_rfl) (fun _ _ _ h => h) (yieldsIf_load_mid (by rfl) _ _ rfl _ _ rfl (secL d) _ (fun W hW => hW.range 2 rfl) Try.underlying49 rfl (msec_size _)) (by assumption) ?_
  try simp only [Act.put, List.setIfInBounds_toArray, List.set_cons_zero, List.set_cons_succ]
  refine wpAnyH_ready (rs := [39]) (by kernel_rfl) (by simp) ?_
  refine heldCons (i := 39) rfl (fun Kq hKq => ?_) AllReadyH.nil
  go_simp
  go_at_call 26
  (with_reducible refine (HC.out _).mono ?_)
  rintro _ y26 ⟨rfl, hlq⟩
  have HS_y26 : Hid (Sux w y26 w.heap.size y1.heap.size ss2 [(y3.heap.size, 26, plL (1) (2)), (y6.heap.size, 26, plL (2) (3)), (y15.heap.size, 49, secL d), (y18.heap.size, 26, plL (0) (0)), (y21.heap.size, 26, plL (0) (0))] A_y2 3 c_y2 (rowX idN 3) none 0 0 ([]) (some ⟨y11.heap.size, 0, none⟩) 2 2 ([a, d])) := hide (HS_y25.out.later hlq)
  clear hlq
  first | (refine hKq.out _ _ HS_y26.out.own (fun hHeld => ?_)) | (go_wp2_with fail; refine hKq.out _ _ HS_y26.out.own (fun hHeld => ?_))
  clear hKq Kq
  try simp only [Act.put, List.setIfInBounds_toArray, List.set_cons_zero, List.set_cons_succ]
  refine heldTake (i := 40) (v := .bool true) rfl (by kernel_rfl) (by kernel_rfl) (by kernel_rfl) (fun _ _ _ h => h) (Or.inl ⟨by rfl, fun W hW => run_eqS W _ (.tmp 98) (.tmp 99) _ rfl d d rfl rfl true (by simp)⟩) (by assumption) ?_
  try simp only [Act.put, List.setIfInBounds_toArray, List.set_cons_zero, List.set_cons_succ]
  refine heldTake (i := 41) (v := ?_) rfl (by kernel_rfl) (by kernel_rfl) (by kernel_rfl) (fun _ _ _ h => h) (Or.inl ⟨by rfl, ?_⟩) (by assumption) ?_
  rotate_left
  · intro w hSw; (try dsimp only at hSw); go_simp <;> (with_reducible rfl)
  try simp only [Act.put, List.setIfInBounds_toArray, List.set_cons_zero, List.set_cons_succ]
  refine heldTake (i := 42) (v := ?_) rfl (by kernel_rfl) (by kernel_rfl) (by kernel_rfl) (fun _ _ _ h => h) (Or.inl ⟨by rfl, ?_⟩) (by assumption) ?_
  rotate_left
  · intro w hSw; (try dsimp only at hSw); go_simp <;> (with_reducible rfl)
  try simp only [Act.put, List.setIfInBounds_toArray, List.set_cons_zero, List.set_cons_succ]
  refine heldTake (i := 43) (v := ?_) rfl (by kernel_rfl) (by kernel_rfl) (by kernel_rfl) (fun _ _ _ h => h) (Or.inl ⟨by rfl, ?_⟩) (by assumption) ?_
  rotate_left
  · intro w hSw; (try dsimp only at hSw); go_simp <;> (with_reducible rfl)
  try simp only [Act.put, List.setIfInBounds_toArray, List.set_cons_zero, List.set_cons_succ]
  refine heldTake (i := 44) (v := ?_) rfl (by kernel_rfl) (by kernel_rfl) (by kernel_rfl) (fun _ _ _ h => h) (Or.inl ⟨by rfl, ?_⟩) (by assumption) ?_
  rotate_left
  · intro w hSw; (try dsimp only at hSw); go_simp <;> (with_reducible rfl)
  try simp only [Act.put, List.setIfInBounds_toArray, List.set_cons_zero, List.set_cons_succ]
  refine heldTake (i := 45) (v := ?_) rfl (by kernel_rfl) (by kernel_rfl) (by kernel_rfl) (fun _ _ _ h => h) (Or.inl ⟨by rfl, ?_⟩) (by assumption) ?_
  rotate_left
  · intro w hSw; (try dsimp only at hSw); go_simp <;> (with_reducible rfl)
  try simp only [Act.put, List.setIfInBounds_toArray, List.set_cons_zero, List.set_cons_succ]
  refine heldTake (i := 46) (v := ?_) rfl (by kernel_rfl) (by kernel_rfl) (by kernel_rfl) (fun _ _ _ h => h) (Or.inl ⟨by rfl, ?_⟩) (by assumption) ?_
  rotate_left
  · intro w hSw; (try dsimp only at hSw); go_simp <;> (with_reducible rfl)
  try simp only [Act.put, List.setIfInBounds_toArray, List.set_cons_zero, List.set_cons_succ]
  refine heldTake (i := 47) (v := ?_) rfl (by kernel_rfl) (by kernel_rfl) (by kernel_rfl) (fun _ _ _ h => h) (Or.inl ⟨by rfl, ?_⟩) (by assumption) ?_
  rotate_left
  · intro w hSw; (try dsimp only at hSw); go_simp <;> (with_reducible rfl)
  try simp only [Act.put, List.setIfInBounds_toArray, List.set_cons_zero, List.set_cons_succ]
  refine heldTake (i := 48) (v := ?_) rfl (by kernel_rfl) (by kernel_rfl) (by kernel_rfl) (fun _ _ _ h => h) (Or.inl ⟨by rfl, ?_⟩) (by assumption) ?_
  rotate_left
  · intro w hSw; (try dsimp only at hSw); go_simp <;> (with_reducible rfl)
  try simp only [Act.put, List.setIfInBounds_toArray, List.set_cons_zero, List.set_cons_succ]
  refine heldTake (i := 49) (v := ?_) rfl (by kernel_rfl) (by kernel_rfl) (by kernel_rfl) (fun _ _ _ h => h) (Or.inl ⟨by rfl, ?_⟩) (by assumption) ?_
  rotate_left
  · intro w hSw; (try dsimp only at hSw); go_simp <;> (with_reducible rfl)
  try simp only [Act.put, List.setIfInBounds_toArray, List.set_cons_zero, List.set_cons_succ]
  refine heldTake (i := 50) (v := ?_) rfl (by kernel_rfl) (by kernel_rfl) (by kernel_rfl) (fun _ _ _ h => h) (Or.inl ⟨by rfl, ?_⟩) (by assumption) ?_
  rotate_left
  · intro w hSw; (try dsimp only at hSw); go_simp <;> (with_reducible rfl)
  try simp only [Act.put, List.setIfInBounds_toArray, List.set_cons_zero, List.set_cons_succ]
  refine heldTake (i := 51) (v := ?_) rfl (by kernel_rfl) (by kernel_rfl) (by kernel_rfl) (fun _ _ _ h => h) (Or.inl ⟨by rfl, ?_⟩) (by assumption) ?_
  rotate_left
  · intro w hSw; (try dsimp only at hSw); go_simp <;> (with_reducible rfl)
  try simp only [Act.put, List.setIfInBounds_toArray, List.set_cons_zero, List.set_cons_succ]
  refine heldTake (i := 52) (v := ?_) rfl (by kernel_rfl) (by kernel_rfl) (by kernel_rfl) (fun _ _ _ h => h) (Or.inl ⟨by rfl, ?_⟩) (by assumption) ?_
  rotate_left
  · intro w hSw; (try dsimp only at hSw); go_simp <;> (with_reducible rfl)
  try simp only [Act.put, List.setIfInBounds_toArray, List.set_cons_zero, List.set_cons_succ]
  refine heldTake (i := 53) (v := ?_) rfl (by kernel_rfl) (by kernel_rfl) (by kernel_rfl) (fun _ _ _ h => h) (Or.inl ⟨by rfl, ?_⟩) (by assumption) ?_
  rotate_left
  · intro w hSw; (try dsimp only at hSw); go_simp <;> (with_reducible rfl)
  try simp only [Act.put, List.setIfInBounds_toArray, List.set_cons_zero, List.set_cons_succ]
  refine heldTake (i := 54) (v := ?_) rfl (by kernel_rfl) (by kernel_rfl) (by kernel_rfl) (fun _ _ _ h => h) (Or.inl ⟨by rfl, ?_⟩) (by assumption) ?_
  rotate_left
  · intro w hSw; (try dsimp only at hSw); go_simp <;> (with_reducible rfl)
  try simp only [Act.put, List.setIfInBounds_toArray, List.set_cons_zero]
  refine wpAnyH_done (by kernel_rfl) ?_ _
  go_wp2_with fail
  go_ret
  exact ⟨rfl, HS_y26.out.low⟩
#print axioms shown13_any
end Go.Proofs.Ytjafhlljigaibaa
namespace Go.Proofs.Ytjafhlljigaibaa
open Go.RowKit
set_option linter.unusedVariables false
section
variable {w : World} {A : Option Addr} {n c : Nat} {X : List PlI}
theorem strE_at {n : Nat} {t : Int} (h : strE n t = 0) : ∃ k : Nat, t = (k : Int) ∧ k < 8 ∧ 2 ≤ n := by
  obtain ⟨h1, h2, h3⟩ := strE_ok h
  exact ⟨t.toNat, by omega, by omega, h1⟩
theorem homeE_at {n : Nat} {s : Int} (h : homeE n s = 0) : ∃ k : Nat, s = (k : Int) ∧ k < slotsN n ∧ 2 ≤ n := by
  obtain ⟨h1, h2, h3⟩ := homeE_ok h
  exact ⟨s.toNat, by omega, by omega, h1⟩
theorem refParR (h : XtIn w A n c X) (t : Int) : Calls Try.prog 14 #[.slice A n c, .int .i64 t] w fun e w' => e = .returned (.tuple #[.agg (plC (parR X n t)).toArray, .int .i64 (strE n t : Int)]) ∧ Below w.heap.size w w' := by
  have hn := h.few
  by_cases he : strE n t = 0
  · obtain ⟨k, rfl, hk, hn2⟩ := strE_at he
    unfold parR
    rw [if_pos he, he]
    exact refPar_yes h.reads h.small (by omega) hn2 hk
  · unfold parR
    rw [if_neg he]
    exact refPar_no t (by omega) he w
theorem refDataR (h : XtIn w A n c X) (t : Int) : Calls Try.prog 18 #[.slice A n c, .int .i64 t] w fun e w' => ∃ A' m c', e = .returned (.tuple #[.slice A' m c', .int .i64 (strE n t : Int)]) ∧ Reads w' w'.heap.size 2 A' m (plsL (dataR X n t)) ∧ m ≤ c' ∧ c' ≤ 9223372036854775807 ∧ Below w.heap.size w w' := by
  have hn := h.few
  by_cases he : strE n t = 0
  · obtain ⟨k, rfl, hk, hn2⟩ := strE_at he
    unfold dataR
    rw [if_pos he, he]
    refine (refData_yes (c := c) h.reads h.small (by omega) hn2 hk).mono ?_
    rintro _ w' ⟨A', c', rfl, ho, hb⟩
    obtain ⟨_, _, e, h1, h2⟩ := own_shape ho
    injection e with e1 e2 e3
    subst e3
    exact ⟨A', n - 1, c', rfl, Reads.of_own ho, h1, by simpa [maxLen] using h2, hb⟩
  · unfold dataR
    rw [if_neg he]
    refine (refData_no (A := A) (c := c) t (by omega) he w).mono ?_
    rintro _ w' ⟨rfl, rfl⟩
    exact ⟨none, 0, 0, rfl, ⟨rfl, fun h => by omega⟩, Nat.le_refl _, by decide, Below.refl _ _⟩
theorem refMatesR (h : XtIn w A n c X) (s : Int) : Calls Try.prog 20 #[.slice A n c, .int .i64 s] w fun e w' => ∃ A' m c', e = .returned (.tuple #[.slice A' m c', .int .i64 (homeE n s : Int)]) ∧ Reads w' w'.heap.size 2 A' m (plsL (matesR X n s)) ∧ m ≤ c' ∧ c' ≤ 9223372036854775807 ∧ Below w.heap.size w w' := by
  have hn := h.few
  by_cases he : homeE n s = 0
  · obtain ⟨k, rfl, hk, hn2⟩ := homeE_at he
    unfold matesR
    rw [if_pos he, he]
    refine (refMates_yes (c := c) h.reads h.small (by omega) hn2 hk).mono ?_
    rintro _ w' ⟨A', c', rfl, ho, hb⟩
    obtain ⟨_, _, e, h1, h2⟩ := own_shape ho
    injection e with e1 e2 e3
    subst e3
    exact ⟨A', n - 1, c', rfl, Reads.of_own ho, h1, by simpa [maxLen] using h2, hb⟩
  · unfold matesR
    rw [if_neg he]
    refine (refMates_no (c := c) s h.reads h.small (by omega) he).mono ?_
    rintro _ w' ⟨rfl, hb⟩
    exact ⟨none, 0, 0, rfl, ⟨rfl, fun h => by omega⟩, Nat.le_refl _, by decide, hb⟩
end
structure Rox (w0 W : World) (V : List (Nat × TypeId × List Value)) (A : Option Addr) (n c : Nat) (X : List PlI) : Prop where
  low : Below w0.heap.size w0 W
  own : OwnV W w0.heap.size V
  rise : (V.map (·.1)).Nodup
  row : XtOwn W w0.heap.size A n c X
  small : SmallX X
  few : n ≤ 12
section
variable {w0 W W' : World} {n c : Nat} {V : List (Nat × TypeId × List Value)} {A : Option Addr} {X : List PlI}
theorem Rox.begin (h : Below w0.heap.size w0 W) : Rox w0 W [] none 0 0 [] := ⟨h, OwnV.nil _ _, by simp, World.ownsRow_nil _ _ _ _, (fun p hp => by cases hp), by omega⟩
theorem Rox.of (h : Below w0.heap.size w0 W) (hr : XtOwn W w0.heap.size A n c X) (hs : SmallX X) (hf : n ≤ 12) : Rox w0 W [] A n c X := ⟨h, OwnV.nil _ _, by simp, hr, hs, hf⟩
theorem Rox.later (h : Rox w0 W V A n c X) (hb : Below W.heap.size W W') : Rox w0 W' V A n c X := ⟨h.low.trans (hb.mono h.low.size), h.own.later hb, h.rise, own_later h.row hb, h.small, h.few⟩
theorem Rox.drew (h : Rox w0 W V A n c X) : Rox w0 W.drew V A n c X := h.later ((Below.refl _ _).drew)
theorem Rox.var (h : Rox w0 W V A n c X) {g : Nat} {t : TypeId} {cs : List Value} (hb : Below W.heap.size W W') (hg : W.heap.size ≤ g) (hk : Blk W' g t cs.toArray) : Rox w0 W' (V ++ [(g, t, cs)]) A n c X :=
  ⟨h.low.trans (hb.mono h.low.size), (h.own.later hb).add (Nat.le_trans h.low.size hg) hk, by
    rw [List.map_append, List.nodup_append]
    refine ⟨h.rise, by simp, fun a ha c hc e => ?_⟩
    have hc' : c = g := by simpa using hc
    obtain ⟨p, hp, hpa⟩ := List.mem_map.1 ha
    obtain ⟨i, hip⟩ := List.getElem?_of_mem hp
    have hl := (h.own i p hip).2.lt
    omega, own_later h.row hb, h.small, h.few⟩
theorem Rox.new {Wa : World} (h : Rox w0 W V A n c X) {t : TypeId} {cs : List Value} (hl : Below W.heap.size W Wa) (hg : Wa.grownBy W' (some W.heap.size)) (hk : Blk W' W.heap.size t cs.toArray) : Rox w0 W' (V ++ [(W.heap.size, t, cs)]) A n c X :=
  h.var (hl.grown hg hl.size (fun g e => by injection e with e; omega)) (Nat.le_refl _) hk
theorem ymap_same {V : List (Nat × TypeId × List Value)} {k g : Nat} {t : TypeId} {cs cs' : List Value} (e : V[k]? = some (g, t, cs)) : (V.set k (g, t, cs')).map (·.1) = V.map (·.1) := by
  rw [List.map_set]
  apply List.ext_getElem?
  intro j
  rw [List.getElem?_set]
  split
  · rename_i hj
    split
    · rw [← hj, List.getElem?_map, e]; rfl
    · rename_i hl
      rw [List.getElem?_eq_none (by omega)]
  · rfl
theorem Rox.poke (h : Rox w0 W V A n c X) (k : Nat) {g : Nat} {t : TypeId} {cs cs' : List Value} (e : V[k]? = some (g, t, cs)) (hne : 36 ≠ t) (hb : Blk W' g t cs'.toArray) (hg : W.grownBy W' (some g)) : Rox w0 W' (V.set k (g, t, cs')) A n c X := by
  have h1 := row_kind_ne h.row (h.own.blk k e) hne
  refine ⟨h.low.grown hg h.low.size (fun x ex => by injection ex with ex; rw [← ex]; exact (h.own k _ e).1), h.own.poke k e (fun i p hi hne => nodup_other h.rise hi e hne) hb hg, by rw [ymap_same e]; exact h.rise, h.row.kept hg ?_, h.small, h.few⟩
  cases ho : (Value.slice A n c).ownBlock with
  | none => exact .inl rfl
  | some r => exact .inr (fun q => h1 (by rw [ho]; injection q with q; rw [q]))
theorem Rox.cut (h : Rox w0 W V A n c X) (k : Nat) : Rox w0 W (V.take k) A n c X := ⟨h.low, fun i p e => h.own i p (by
  rw [List.getElem?_take] at e
  split at e
  · exact e
  · cases e), by rw [List.map_take]; exact h.rise.sublist (List.take_sublist _ _), h.row, h.small, h.few⟩
theorem Rox.in_ (h : Rox w0 W V A n c X) : XtIn W A n c X := h.row.in_ h.small h.few
theorem Rox.slots (h : Rox w0 W V A n c X) (K : StrK) (v : Int) (h1 : -1000000 ≤ v) (h2 : v ≤ 1000000) : Calls Try.prog 15 #[.int .i64 v] W fun e W' => e = .returned (.int .i64 (slotsN v.toNat : Int)) ∧ Rox w0 W' V A n c X :=
  (K.slots_any W v h1 h2).mono fun _ _ ⟨he, hb⟩ => ⟨he, h.later hb⟩
theorem Rox.home (h : Rox w0 W V A n c X) (K : StrK) (slot : Int) (hs : I64In slot) : Calls Try.prog 11 #[.slice A n c, .int .i64 slot] W fun e W' => e = .returned (.tuple #[.agg (plC (homeR X n slot)).toArray, .int .i64 (homeE n slot : Int)]) ∧ Rox w0 W' V A n c X :=
  (K.home_any W A n c X h.in_ slot hs).mono fun _ _ ⟨he, hb⟩ => ⟨he, h.later hb⟩
theorem Rox.par (h : Rox w0 W V A n c X) (K : StrK) (t : Int) (ht : I64In t) : Calls Try.prog 13 #[.slice A n c, .int .i64 t] W fun e W' => e = .returned (.tuple #[.agg (plC (parR X n t)).toArray, .int .i64 (strE n t : Int)]) ∧ Rox w0 W' V A n c X :=
  (K.par_any W A n c X h.in_ t ht).mono fun _ _ ⟨he, hb⟩ => ⟨he, h.later hb⟩
theorem Rox.data (h : Rox w0 W V A n c X) (K : StrK) (t : Int) (ht : I64In t) : Calls Try.prog 17 #[.slice A n c, .int .i64 t] W fun e W' => ∃ A' m c', e = .returned (.tuple #[.slice A' m c', .int .i64 (strE n t : Int)]) ∧ Reads W' W'.heap.size 2 A' m (plsL (dataR X n t)) ∧ m ≤ c' ∧ c' ≤ 9223372036854775807 ∧ Below W.heap.size W W' ∧ Rox w0 W' V A n c X :=
  (K.data_any W A n c X h.in_ t ht).mono fun _ _ ⟨A', m, c', he, h1, h2, h3, hb⟩ => ⟨A', m, c', he, h1, h2, h3, hb, h.later hb⟩
theorem Rox.mates (h : Rox w0 W V A n c X) (K : StrK) (slot : Int) (hs : I64In slot) : Calls Try.prog 19 #[.slice A n c, .int .i64 slot] W fun e W' => ∃ A' m c', e = .returned (.tuple #[.slice A' m c', .int .i64 (homeE n slot : Int)]) ∧ Reads W' W'.heap.size 2 A' m (plsL (matesR X n slot)) ∧ m ≤ c' ∧ c' ≤ 9223372036854775807 ∧ Below W.heap.size W W' ∧ Rox w0 W' V A n c X :=
  (K.mates_any W A n c X h.in_ slot hs).mono fun _ _ ⟨A', m, c', he, h1, h2, h3, hb⟩ => ⟨A', m, c', he, h1, h2, h3, hb, h.later hb⟩
theorem Rox.rhome (h : Rox w0 W V A n c X) (slot : Int) : Calls Try.prog 12 #[.slice A n c, .int .i64 slot] W fun e W' => e = .returned (.tuple #[.agg (plC (homeR X n slot)).toArray, .int .i64 (homeE n slot : Int)]) ∧ Rox w0 W' V A n c X :=
  (refHome_any (c := c) slot h.in_.reads h.small (by have := h.few; omega)).mono fun _ _ ⟨he, hb⟩ => ⟨he, h.later hb⟩
theorem Rox.rpar (h : Rox w0 W V A n c X) (t : Int) : Calls Try.prog 14 #[.slice A n c, .int .i64 t] W fun e W' => e = .returned (.tuple #[.agg (plC (parR X n t)).toArray, .int .i64 (strE n t : Int)]) ∧ Rox w0 W' V A n c X :=
  (refParR h.in_ t).mono fun _ _ ⟨he, hb⟩ => ⟨he, h.later hb⟩
theorem Rox.rdata (h : Rox w0 W V A n c X) (t : Int) : Calls Try.prog 18 #[.slice A n c, .int .i64 t] W fun e W' => ∃ A' m c', e = .returned (.tuple #[.slice A' m c', .int .i64 (strE n t : Int)]) ∧ Reads W' W'.heap.size 2 A' m (plsL (dataR X n t)) ∧ m ≤ c' ∧ c' ≤ 9223372036854775807 ∧ Below W.heap.size W W' ∧ Rox w0 W' V A n c X :=
  (refDataR h.in_ t).mono fun _ _ ⟨A', m, c', he, h1, h2, h3, hb⟩ => ⟨A', m, c', he, h1, h2, h3, hb, h.later hb⟩
theorem Rox.rmates (h : Rox w0 W V A n c X) (slot : Int) : Calls Try.prog 20 #[.slice A n c, .int .i64 slot] W fun e W' => ∃ A' m c', e = .returned (.tuple #[.slice A' m c', .int .i64 (homeE n slot : Int)]) ∧ Reads W' W'.heap.size 2 A' m (plsL (matesR X n slot)) ∧ m ≤ c' ∧ c' ≤ 9223372036854775807 ∧ Below W.heap.size W W' ∧ Rox w0 W' V A n c X :=
  (refMatesR h.in_ slot).mono fun _ _ ⟨A', m, c', he, h1, h2, h3, hb⟩ => ⟨A', m, c', he, h1, h2, h3, hb, h.later hb⟩
end
theorem mask11 (v : Int) : ∃ N : Nat, bits .and .i64 v 2047 = (N : Int) ∧ N ≤ 2047 := by
  have h := i64_mask v 11 (by decide)
  have h2 : bits .and .i64 v 2047 = v % 2048 := h
  exact ⟨(v % 2048).toNat, by rw [h2]; omega, by omega⟩
theorem mask16 (v : Int) : ∃ N : Nat, bits .and .i64 v 65535 = (N : Int) ∧ N ≤ 65535 := by
  have h := i64_mask v 16 (by decide)
  have h2 : bits .and .i64 v 65535 = v % 65536 := h
  exact ⟨(v % 65536).toNat, by rw [h2]; omega, by omega⟩
#print axioms Rox.rmates
end Go.Proofs.Ytjafhlljigaibaa
namespace Go.Proofs.Ytjafhlljigaibaa
open Go.RowKit
set_option linter.unusedVariables false
section
variable {ops : Array Oper} {rest : List Oper} {o : Oper} {a : Act} {Q : Exit → Act → World → Prop} {w : World}
variable {w0 W W' : World} {b hi n c mI cI mD cD : Nat} {S S' : Bank} {V : List (Nat × TypeId × List Value)} {A AI AD : Option Addr} {X : List PlI} {LI : List Int} {LD : List Sec}
theorem wpList_pushD (hgd : o.guard = none) (s x : Operand) (ho : o.op = .call { callee := .builtin .append, args := #[s, x], argTypes := #[47, 47] })
    (u : Sec) (h : Sux w0 W b hi S V A n c X AI mI cI LI AD mD cD LD) (hw : w = W.alloc (.cells (secL u).toArray 49)) (hs : a.eval s = .slice AD mD cD) (hx : a.eval x = .slice (some ⟨W.heap.size, 0, none⟩) 1 1) (hn : mD ≤ 1000)
    (hK : ∀ A' c' w', Sux w0 w' b hi S V A n c X AI mI cI LI A' (mD + 1) c' (LD ++ [u]) → wpList Try.prog ops Q rest (a.put o.dst (.slice A' (mD + 1) c')) w') : wpList Try.prog ops Q (o :: rest) a w := by
  obtain ⟨A', c', w', hrun, hS⟩ := h.pushD hn u o.type
  subst hw
  refine wpList_plain hgd fun _ hK' => ?_
  unfold Oper.wp execOp
  simp only [ho, resolve, invoke, builtin, Sem.run_bind, Sem.run_pure, Result.andThen_ok, List.map_toArray, List.map_cons, List.map_nil, hs, hx, hrun]
  exact hK' _ _ (hK A' c' w' hS)
theorem wpList_pushI (hgd : o.guard = none) (s x : Operand) (ho : o.op = .call { callee := .builtin .append, args := #[s, x], argTypes := #[41, 41] })
    (v : Int) (h : Sux w0 W b hi S V A n c X AI mI cI LI AD mD cD LD) (hw : w = W.alloc (.cells #[.int .i64 v] 3)) (hs : a.eval s = .slice AI mI cI) (hx : a.eval x = .slice (some ⟨W.heap.size, 0, none⟩) 1 1) (hn : mI ≤ 1000)
    (hK : ∀ A' c' w', Sux w0 w' b hi S V A n c X A' (mI + 1) c' (LI ++ [v]) AD mD cD LD → wpList Try.prog ops Q rest (a.put o.dst (.slice A' (mI + 1) c')) w') : wpList Try.prog ops Q (o :: rest) a w := by
  obtain ⟨A', c', w', hrun, hS⟩ := h.pushI hn v o.type
  subst hw
  refine wpList_plain hgd fun _ hK' => ?_
  unfold Oper.wp execOp
  simp only [ho, resolve, invoke, builtin, Sem.run_bind, Sem.run_pure, Result.andThen_ok, List.map_toArray, List.map_cons, List.map_nil, hs, hx, hrun]
  exact hK' _ _ (hK A' c' w' hS)
theorem secD_zeros : ∀ m, secD (List.replicate m zeroSec) = (List.replicate m (secL zeroSec)).flatten
  | 0 => rfl
  | m + 1 => by
    have h := secD_zeros m
    rw [List.replicate_succ, List.replicate_succ, List.flatten_cons, ← h]
    unfold secD
    simp [rawS, secL, B8_append]
theorem Sux.madeD (h : Sux w0 W b hi S V A n c X AI mI cI LI AD mD cD LD) {m : Nat} (hm : m ≤ 1000) (hb : Blk W' W.heap.size 49 (List.replicate m (secL zeroSec)).flatten.toArray) (hl : Below W.heap.size W W') : Sux w0 W' b hi S V A n c X AI mI cI LI (some ⟨W.heap.size, 0, none⟩) m m (List.replicate m zeroSec) := by
  have hh := h.later hl
  have hlen : (secD (List.replicate m zeroSec)).length = m * 64 := by rw [secD_length, List.length_replicate]
  rw [← secD_zeros] at hb
  refine ⟨hh.sox, hh.ints, ⟨hlen, .inr ⟨W.heap.size, m, _, rfl, h.sox.sit.hi_le, hb, Nat.le_refl _, by simp only [maxLen]; omega, by rw [List.size_toArray]; exact hlen, ?_⟩⟩, hh.offI, fun g e i p hp => ?_⟩
  · show (secD (List.replicate m zeroSec)).take (m * 64) = _
    exact List.take_of_length_le (by omega)
  · have : W.heap.size = g := (by simpa [Value.ownBlock] using e)
    have := (h.own i p hp).2.lt
    omega
/-- make of zero sectors, behind a guard. -/
theorem when_makeD (hw : Region.wanted o (yielded ops a.tmps) = true) (l k : Operand) (ho : o.op = .makeSlice 47 l k) (m : Nat) (hl : a.eval l = .int .i64 (m : Int)) (hc : a.eval k = .int .i64 (m : Int)) (hm : m ≤ 1000)
    (hK : ∀ w', Blk w' w.heap.size 49 (List.replicate m (secL zeroSec)).flatten.toArray → Below w.heap.size w w' → wpList Try.prog ops Q rest (a.put o.dst (.slice (some ⟨w.heap.size, 0, none⟩) m m)) w') : wpList Try.prog ops Q (o :: rest) a w :=
  wpList_when hw fun _ hK' => by
    obtain ⟨i0, hi0, hz0, hz1, hz2⟩ := info_parts ysec_parts
    have hb' : (i0.bytes : Int) * (m : Int) ≤ 281474976710656 := by rw [hz2]; omega
    have hr := run_make (P := Try.prog) w 47 49 i0 (secV zeroSec) Try.underlying47 hi0 hz0 .i64 .i64 m m (by omega) (Int.le_refl _) hb' (by omega)
    have hzs : (secV zeroSec).cells = (secL zeroSec).toArray := rfl
    simp only [Int.toNat_natCast, hz1, hzs] at hr
    rw [show m * 64 = m * (secL zeroSec).length by rw [secL_length], madeCells_rep (secL zeroSec) (by rw [secL_length]; decide) m] at hr
    unfold Oper.wp
    simp [execOp, ho, hl, hc, hr, Result.andThen]
    exact hK' _ _ (hK _ (Blk.new _ _ _) ((Below.refl _ _).alloc (Nat.le_refl _) _))
end
theorem run_zeroS {a : Act} (W : World) (o : Oper) (ho : o.op = .build 49 #[]) : (execOp a.eval o).run Try.prog W = .ok (.value (.agg (secL zeroSec).toArray)) W := by
  unfold execOp
  have h := run_build (P := Try.prog) W 49 #[] _ sec_none
  simp only [ho, List.map_toArray, List.map_nil, Sem.run_bind, h, Result.andThen_ok, Sem.run_pure]
#print axioms when_makeD
#print axioms run_zeroS
#print axioms Sux.madeD
end Go.Proofs.Ytjafhlljigaibaa
