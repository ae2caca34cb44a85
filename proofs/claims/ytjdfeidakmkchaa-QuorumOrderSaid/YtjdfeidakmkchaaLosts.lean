/- Lost of a label all of whose members are Live; again of what it tells; of a member that there is not. What the laws of quorum share. -/
import Derived.Test.YtjdfeidakmkchaaShown5
namespace Go.Proofs.Ytjdfeidakmkchaa
open Go.RowKit

theorem lost_first {K : Lab} {i : Nat} {x : Mb} (hK : AllLive K) (hg : K.gen ≤ 2147483648) (hx : K.members[i]? = some x) (A : Option Addr) (n c B0 : Nat) (w : World) (hm : MbIn w B0 A n c K.members) (hB0 : B0 ≤ w.heap.size) :
    Calls Try.prog 11 #[.agg (labC K A n c).toArray, .int .i64 x.1] w fun e w' => (∃ A' n' c', e = .returned (.tuple #[.agg #[.int .i64 (failL K i).array, .int .i64 (failL K i).gen, .int .i64 (failL K i).member, .int .i64 (failL K i).blocks, .slice A' n' c'], .int .i64 0]) ∧ Gave (failL K i) w w' A' n' c') ∧ Below w.heap.size w w' := by
  have hi := (List.getElem?_eq_some_iff.1 hx).1
  obtain ⟨e1, e2⟩ := lost_live hK hg hi
  rw [idM_at hx] at e1 e2
  have hl := hm.len
  have h12 := hK.len
  refine (lost_any K x.1 A n c B0 w hm hB0 (by omega)).mono ?_
  rintro e w' ⟨⟨A', n', c', he, hG⟩, hb⟩
  rw [e1, e2] at he
  rw [e2] at hG
  exact ⟨⟨A', n', c', he, hG⟩, hb⟩
theorem lost_second {K : Lab} {i k : Nat} {y : Mb} (hK : AllLive K) (hg : K.gen ≤ 2147483648) (hi : i < K.members.length) (hy : K.members[k]? = some y) (A : Option Addr) (n c B0 : Nat) (w : World) (hm : MbIn w B0 A n c (failL K i).members) (hB0 : B0 ≤ w.heap.size) :
    Calls Try.prog 11 #[.agg (labC (failL K i) A n c).toArray, .int .i64 y.1] w fun e w' => (∃ A' n' c', e = .returned (.tuple #[.agg #[.int .i64 Lab.none_.array, .int .i64 Lab.none_.gen, .int .i64 Lab.none_.member, .int .i64 Lab.none_.blocks, .slice A' n' c'], .int .i64 (if i = k then 9 else 5)]) ∧ Gave Lab.none_ w w' A' n' c') ∧ Below w.heap.size w w' := by
  have hk := (List.getElem?_eq_some_iff.1 hy).1
  obtain ⟨e1, e2⟩ := lost_again hK hg hi hk
  rw [idM_at hy] at e1 e2
  have hl := hm.len
  have h12 := hK.len
  have hf : (failL K i).members.length = K.members.length := fail_len _ _
  refine (lost_any (failL K i) y.1 A n c B0 w hm hB0 (by omega)).mono ?_
  rintro e w' ⟨⟨A', n', c', he, hG⟩, hb⟩
  rw [e1, e2] at he
  rw [e2] at hG
  exact ⟨⟨A', n', c', he, hG⟩, hb⟩
theorem lost_third {K : Lab} (hK : AllLive K) (A : Option Addr) (n c B0 : Nat) (w : World) (hm : MbIn w B0 A n c K.members) (hB0 : B0 ≤ w.heap.size) :
    Calls Try.prog 11 #[.agg (labC K A n c).toArray, .int .i64 33] w fun e w' => (∃ A' n' c', e = .returned (.tuple #[.agg #[.int .i64 Lab.none_.array, .int .i64 Lab.none_.gen, .int .i64 Lab.none_.member, .int .i64 Lab.none_.blocks, .slice A' n' c'], .int .i64 1]) ∧ Gave Lab.none_ w w' A' n' c') ∧ Below w.heap.size w w' := by
  obtain ⟨e1, e2⟩ := lost_33 hK
  have hl := hm.len
  have h12 := hK.len
  refine (lost_any K 33 A n c B0 w hm hB0 (by omega)).mono ?_
  rintro e w' ⟨⟨A', n', c', he, hG⟩, hb⟩
  rw [e1, e2] at he
  rw [e2] at hG
  exact ⟨⟨A', n', c', he, hG⟩, hb⟩
theorem mask255 (v : Int) : ∃ m : Nat, bits .and .i64 v 255 = (m : Int) ∧ m < 256 := by
  have h := i64_mask v 8 (by decide)
  rw [show (2 : Int) ^ 8 - 1 = 255 by decide, show (2 : Int) ^ 8 = 256 by decide] at h
  exact ⟨(v % 256).toNat, by rw [h]; omega, by omega⟩
/-- A cut label, all of whose members are made Live. -/
def liveK (l : Lab) : Lab := { cutL l with members := (cutL l).members.map liveM }
theorem liveK_all (l : Lab) (h : rightB (liveK l) = true) : AllLive (liveK l) := ⟨h, fun m hm => by
  obtain ⟨x, _, rfl⟩ := List.mem_map.1 hm
  rfl⟩
theorem own_in {w : World} {base n c : Nat} {A : Option Addr} {l : List Mb} (h : w.ownsRow base 28 3 (.slice A n c) n (mbL l)) (hn : n ≤ c) (hc : c ≤ maxLen) : MbIn w w.heap.size A n c l := ⟨Reads.of_own h, hn, by simpa [maxLen] using hc⟩
/-- The number of a member of a row of the call's own. -/
theorem own_id {w : World} {base n c k : Nat} {A : Option Addr} {l : List Mb} {m : Mb} (h : w.ownsRow base 28 3 (.slice A n c) n (mbL l)) (hn : n ≤ c) (hc : c ≤ maxLen) (hk : l[k]? = some m) (hkn : k < n) : ∃ g, A = some ⟨g, 0, none⟩ ∧ g < w.heap.size ∧ w.cell? ⟨g, k * 3, none⟩ = some (.int .i64 m.1) := by
  obtain ⟨g, rfl, _, hg⟩ := own_some h (by omega)
  obtain ⟨ad, x, he, _, hx, hcs⟩ := (own_in h hn hc).at_ hkn
  injection he with he
  subst he
  rw [hk] at hx
  injection hx with hx
  subst hx
  have h0 := hcs 0 (.int .i64 m.1) rfl
  rw [add_of_add] at h0
  have e0 : (⟨g, 0, none⟩ : Addr).add (k * 3 + 0) = ⟨g, k * 3, none⟩ := by unfold Addr.add; split <;> simp_all
  rw [e0] at h0
  exact ⟨g, rfl, hg, h0⟩
/-- Behind a region that calls Lost and lays its label in a new variable: the variable's block, the members in memory. -/
def After (w6 : World) (F : Lab) (v : Value) (wx : World) : Prop := ∃ (gb n' c' : Nat) (A' : Option Addr), v = .pointer (some ⟨gb, 0, none⟩) ∧ Hid (Blk wx gb 24 (labC F A' n' c').toArray) ∧ w6.heap.size ≤ gb ∧ Hid (MbIn wx wx.heap.size A' n' c' F.members) ∧ Hid (Below w6.heap.size w6 wx)
theorem after_call {w6 w0 w7 : World} {F : Lab} {A : Option Addr} {n c : Nat} (h0 : Below w6.heap.size w6 w0) (hG : Gave F w0 w7 A n c) (hl : Below w0.heap.size w0 w7) :
    After w6 F (.pointer (some ⟨w7.heap.size, 0, none⟩)) (w7.alloc (.cells #[.int .i64 F.array, .int .i64 F.gen, .int .i64 F.member, .int .i64 F.blocks, .slice A n c] 24)) := by
  have h1 := h0.size
  have h2 := hl.size
  have hb : Below w7.heap.size w7 (w7.alloc (.cells #[.int .i64 F.array, .int .i64 F.gen, .int .i64 F.member, .int .i64 F.blocks, .slice A n c] 24)) := (Below.refl _ _).alloc (Nat.le_refl _) _
  exact ⟨w7.heap.size, n, c, A, rfl, hide (Blk.new _ _ _), by omega, hide (hG.later hb).1, hide ((h0.trans (hl.mono h1)).trans (hb.mono (by omega)))⟩
theorem after_alloc {w6 w7 : World} {F : Lab} {A : Option Addr} {n c : Nat} (hG : Gave F (w6.drew.alloc (.cells (labC Lab.none_ none 0 0).toArray 24)) w7 A n c) (hl : Below (w6.drew.alloc (.cells (labC Lab.none_ none 0 0).toArray 24)).heap.size (w6.drew.alloc (.cells (labC Lab.none_ none 0 0).toArray 24)) w7) :
    After w6 F (.pointer (some ⟨w6.heap.size, 0, none⟩)) (((((w7.setCell ⟨w6.heap.size, 0, none⟩ (.int .i64 F.array)).setCell ⟨w6.heap.size, 1, none⟩ (.int .i64 F.gen)).setCell ⟨w6.heap.size, 2, none⟩ (.int .i64 F.member)).setCell ⟨w6.heap.size, 3, none⟩ (.int .i64 F.blocks)).setCell ⟨w6.heap.size, 4, none⟩ (.slice A n c)) := by
  have hbN : Blk (w6.drew.alloc (.cells (labC Lab.none_ none 0 0).toArray 24)) w6.heap.size 24 (labC Lab.none_ none 0 0).toArray := Blk.new _ _ _
  have hbN7 := hbN.below hl hbN.lt
  have hg := grown_set (grown_set (grown_set (grown_set (grown_set (grown_refl w7 (some w6.heap.size)) ⟨w6.heap.size, 0, none⟩ rfl (.int .i64 F.array)) ⟨w6.heap.size, 1, none⟩ rfl (.int .i64 F.gen)) ⟨w6.heap.size, 2, none⟩ rfl (.int .i64 F.member)) ⟨w6.heap.size, 3, none⟩ rfl (.int .i64 F.blocks)) ⟨w6.heap.size, 4, none⟩ rfl (.slice A n c)
  have hsz : (w6.drew.alloc (.cells (labC Lab.none_ none 0 0).toArray 24)).heap.size = w6.heap.size + 1 := by rw [World.size_alloc]; rfl
  have h0 : Below w6.heap.size w6 (w6.drew.alloc (.cells (labC Lab.none_ none 0 0).toArray 24)) := ((Below.refl _ w6).drew).alloc (Nat.le_refl _) _
  have h2 := hl.size
  exact ⟨w6.heap.size, n, c, A, rfl, hide (((((hbN7.set_ 0 _).set_ 1 _).set_ 2 _).set_ 3 _).set_ 4 _), Nat.le_refl _, hide (hG.grown hg (fun h0 ad e => by have := hG.2 h0 ad e; omega)).1, hide ((h0.trans (hl.mono (by omega))).grown hg (by omega) (fun g e => by injection e with e; omega))⟩
theorem after_ends (w6 : World) (F : Lab) (wx : World) (v : Value) (h : After w6 F v wx) : ∃ (gb n' c' : Nat) (A' : Option Addr), v = .pointer (some ⟨gb, 0, none⟩) ∧ Hid (Blk wx gb 24 (labC F A' n' c').toArray) ∧ w6.heap.size ≤ gb ∧ Hid (MbIn wx wx.heap.size A' n' c' F.members) ∧ Hid (Below w6.heap.size w6 wx) := h
#print axioms after_alloc
#print axioms lost_second
end Go.Proofs.Ytjdfeidakmkchaa
