/- What the document's answer for pack's Bytes and Sectors is, over strings: the same bytes and sectors. -/
import Derived.Test.YtkjbjhciafnbeaaBytes
import Derived.Test.YtkjbjhciafnbeaaRef
namespace Go.Proofs.Ytkjbjhciafnbeaa
open Go.RowKit

theorem ret_s {a b : ByteArray} (h : a = b) : Ending.returned (.string a) = .returned (.string b) := by rw [h]
theorem secAt_conv {P : Program} {w : World} {ad : Addr} {X : List UInt8} (src e dst : TypeId) (hs : P.underlying src = some (.slice e)) (he : P.underlying e = some (.int .u8)) (hd : P.underlying dst = some .string) (hX : X.length = 64)
    (h : ∀ j v, (B8 X)[j]? = some v → w.cell? (ad.add j) = some v) : (convert src dst (.slice (some ad) 64 64)).run P w = .ok (.string ⟨X.toArray⟩) w :=
  run_conv_reads w src e dst hs he hd (ad.block + 1) (some ad) 64 64 X ⟨by rw [B8_length, hX], fun _ => ⟨ad, rfl, by omega, h⟩⟩

set_option maxRecDepth 100000 in
set_option maxHeartbeats 2000000 in
theorem refBytes_any (A : Option Addr) (n c : Nat) (bs : List UInt8) (B : Nat) (w : World) (hr : Reads w B 64 A n (B8 bs)) (hn : n ≤ 1099511627) :
    Calls Try.prog 21 #[.slice A n c] w fun e w' => e = .returned (.string ⟨bs.toArray⟩) ∧ w = w' := by
  have hlb : bs.length = n * 64 := by have := hr.1; rwa [B8_length] at this
  have LB := hide hlb
  clear hlb
  go_enter Try.func21, Try.ntmps21
  go_wp2
  go_loop [3, 4] (fun v i => ∃ (k : Nat) (T : List UInt8), k ≤ n ∧ i = .int .i64 k ∧ Hid (T = bs.take (k * 64)) ∧ T.length ≤ k * 64 ∧ v = .string ⟨T.toArray⟩) (fun _ i => n - (intOf i).toNat)
  case atStart => exact ⟨0, [], Nat.zero_le _, rfl, hide (by simp), Nat.le_refl _, rfl⟩
  case round =>
    obtain ⟨k, T, hk, rfl, hT, hTl, rfl⟩ := hrel
    by_cases hkn : k < n
    · obtain ⟨ad, rfl, hab, hca⟩ := hr.sec_at hkn
      have hsa := secAt_length LB.out hkn
      have HX := hide (take_secAt bs k)
      obtain ⟨X, hX⟩ : ∃ X, X = secAt bs k := ⟨_, rfl⟩
      rw [← hX] at hca hsa HX
      have hkc := secAt_conv (P := Try.prog) 22 5 9 Try.underlying22 Try.underlying5 Try.underlying9 hsa hca
      have HSA := hide hsa
      clear hca hsa hX
      have hxle : X.length ≤ 64 := by have := HSA.out; omega
      have hno : ¬ 9223372036854775807 < T.length + X.length := by omega
      have HT := hide (show T ++ X = bs.take ((k + 1) * 64) by rw [HX.out, hT.out])
      have HA := hide (ByteArray.mk_append_mk T X)
      go_wp2_with fail
      go_round
      case rel => exact ⟨k + 1, T ++ X, by omega, by go_num, HT, by rw [List.length_append]; omega, by rw [HA.out]⟩
      case measure => simp [intOf]; omega
    · obtain rfl : k = n := by omega
      have HT := hide (show T = bs by rw [hT.out, List.take_of_length_le (by rw [LB.out]; omega)])
      go_wp2
      go_ret
      exact ⟨ret_s (by rw [HT.out]), rfl⟩

theorem pad_set {bs : List UInt8} {x : UInt8} {i : Nat} (h : bs.length = i) (hi : i % 64 ≠ 0) : (pad bs).set i x = pad (bs ++ [x]) := by
  subst h
  have e1 : (64 - bs.length % 64) % 64 = (63 - bs.length % 64) + 1 := by omega
  have e2 : (64 - (bs ++ [x]).length % 64) % 64 = 63 - bs.length % 64 := by rw [List.length_append, List.length_singleton]; omega
  rw [pad, pad, e1, e2, List.replicate_succ, List.set_append_right _ _ (Nat.le_refl _), Nat.sub_self, List.set_cons_zero, List.append_assoc]
  rfl
theorem pad_new {bs : List UInt8} {x : UInt8} {i : Nat} (h : bs.length = i) (hi : i % 64 = 0) : (pad bs ++ List.replicate 64 0).set i x = pad (bs ++ [x]) := by
  subst h
  have e1 : (64 - bs.length % 64) % 64 = 0 := by omega
  have e2 : (64 - (bs ++ [x]).length % 64) % 64 = 63 := by rw [List.length_append, List.length_singleton]; omega
  rw [pad, pad, e1, e2, List.replicate_zero, List.append_nil, show (64 : Nat) = 63 + 1 from rfl, List.replicate_succ, List.set_append_right _ _ (Nat.le_refl _), Nat.sub_self, List.set_cons_zero, List.append_assoc]
  rfl
theorem B8_set (l : List UInt8) (i : Nat) (x : UInt8) : (B8 l).set i (.int .u8 ((x.toNat : Nat) : Int)) = B8 (l.set i x) := by simp [B8, List.map_set]
theorem B8_Z64 : B8 (List.replicate 64 0) = Z64 := rfl
theorem Z64_one : ∀ u ∈ Z64, u.oneCell' = true := B8_one _
theorem sec_build (w : World) : (Instr.build 38 #[]).run Try.prog w = .ok (.agg Z64.toArray) w := by kernel_rfl
theorem wpList_build0 {P : Program} {w : World} {ops : Array Oper} {rest : List Oper} {o : Oper} {a : Act} {Q : Exit → Act → World → Prop} (hgd : o.guard = none) (t : TypeId) (ho : o.op = .build t #[])
    (F : Array Value) (hrun : (Instr.build t #[]).run P w = .ok (.agg F) w) (h : wpList P ops Q rest (a.put o.dst (.agg F)) w) : wpList P ops Q (o :: rest) a w :=
  wpList_plain hgd fun _ hK => by
    unfold Oper.wp
    simp [execOp, ho, hrun, Result.andThen]
    exact hK _ _ h

set_option maxRecDepth 100000 in
set_option maxHeartbeats 2000000 in
theorem refSectors_any (s : ByteArray) (w : World) (hs : s.size ≤ 1099511627) :
    Calls Try.prog 19 #[.string s] w (Made w.heap.size 38 64 (B8 (pad (chars s))) w) := by
  have hlen := chars_length s
  obtain ⟨i0, hi0, hz0, hz1, hz2⟩ := info_parts sec_info
  go_enter Try.func19, Try.ntmps19
  go_wp2
  go_loopw [3, 4] (fun v i wr => ∃ (k r : Nat) , k ≤ s.size ∧ r ≤ k ∧ Hid (r * 64 = (pad ((chars s).take k)).length) ∧ i = .int .i64 k ∧ wr.ownsRow w.heap.size 38 64 v r (B8 (pad ((chars s).take k))) ∧ Below w.heap.size w wr) (fun _ i _ => s.size - (intOf i).toNat)
  case atStart => exact ⟨0, 0, Nat.zero_le _, Nat.le_refl _, hide (by simp [pad]), rfl, by simpa [pad, B8] using World.ownsRow_nil w w.heap.size 38 64, Below.refl _ _⟩
  case round =>
    obtain ⟨k, r, hk, hrk, hrl, rfl, hown, hbel⟩ := hrel
    by_cases hkn : k < s.size
    · have hC := hbel.size
      have HW := hide hown
      clear hown
      by_cases hm : k % 64 = 0
      · have hmb : ((k : Int) % 64 == 0) = true := by rw [beq_iff_eq]; omega
        have hA : r + 1 ≤ maxLen := by simp only [maxLen]; omega
        have hB : (r + 1) * 64 ≤ 140737488355328 := by omega
        have HFa := hide (show Z64.toArray.size = 64 by rw [List.size_toArray, Z64_length])
        have hm0 := hm
        have HM := hide hm0
        clear hm hm0
        go_wp2_with (first | (refine wpList_build0 rfl 38 rfl Z64.toArray (sec_build _) ?_) | (refine wpList_build_agg _ rfl (.tmp 15) 33 rfl 38 i0 _ 64 Try.underlying33 hi0 (sec_zero _) hz1 (by omega) (by omega) Z64.toArray rfl HFa.out ?_) | (at_builtin; refine wpList_append_any _ rfl (.tmp 14) (.tmp 16) _ rfl w.heap.size 38 i0 _ 64 64 Try.underlying33 hi0 hz0 hz1 hz2 rfl (by omega) _ r _ rfl (HW.out.alloc _) (wr.heap.size + 1) (some ⟨wr.heap.size, 0, none⟩) 1 1 Z64 rfl (Reads.lump _ Z64 _ _ 64 (by omega) Z64_length) Z64_one hA hB (le_alloc hC _) ?_; intro v3 w3 hown3 hbel3))
        have hm0 := HM.out
        have hb3 : Below w.heap.size w w3 := (hbel.alloc hC _).trans hbel3
        obtain ⟨P0, hP0⟩ : ∃ P0, P0 = pad ((chars s).take k) ++ List.replicate 64 0 := ⟨_, rfl⟩
        rw [← B8_Z64, ← B8_append, ← hP0] at hown3
        have hkl : ((chars s).take k).length = k := by rw [List.length_take]; omega
        have hset : P0.set k s[k] = pad ((chars s).take (k + 1)) := by
          rw [hP0, pad_new hkl hm0, take_more (chars_at s hkn)]
        have hpl := hown3.1
        rw [B8_length] at hpl
        have hidx : r * 64 + k % 64 = k := by have := hrl.out; rw [pad_length, hkl] at this; omega
        obtain ⟨g, c3, hv3, hg3, hlt3⟩ := hown3.form (by omega)
        rw [hv3] at hown3 ⊢
        have hks : k < s.size := hkn
        have hcell : w3.cell? ⟨g, r * 64 + k % 64, none⟩ = some (.int .u8 (((P0.getD k 0).toNat : Nat) : Int)) := by
          rw [hown3.cellAt _ (by omega), hidx]
          rw [B8_at P0 (by omega)]
          simp [List.getD, show k < P0.length by omega]
        have hfz := hown3.frozenAt (r * 64 + k % 64)
        obtain ⟨hst0, hgr⟩ := hown3.stored (r * 64 + k % 64) (.int .u8 ((s[k].toNat : Nat) : Int))
        have hst : (w3.setCell ⟨g, r * 64 + k % 64, none⟩ (.int .u8 ((s[k].toNat : Nat) : Int))).ownsRow w.heap.size 38 64 (.slice (some ⟨g, 0, none⟩) (r + 1) c3) (r + 1) (B8 (pad ((chars s).take (k + 1)))) := by
          rw [← hset, ← B8_set]
          rw [hidx] at hst0 ⊢
          exact hst0
        have hbs := hb3.grown hgr hb3.size (fun j hj => by simp at hj; omega)
        have hlen1 : (r + 1) * 64 = (pad ((chars s).take (k + 1))).length := by have := hst.1; rw [B8_length] at this; exact this.symm
        have HL1 := hide hlen1
        have HST := hide hst.drew
        have HBS := hide hbs.drew
        clear hidx hm0 hkl hset hpl hP0 hv3 hst0 hgr hst hbs hlen1 hmb
        go_region
        go_wp2
        go_roundw
        case rel => exact ⟨k + 1, r + 1, by omega, by omega, HL1, by go_num, HST.out, HBS.out⟩
        case measure => simp [intOf]; omega
      · have hmb : ((k : Int) % 64 == 0) = false := by rw [beq_eq_false_iff_ne]; omega
        have hkl : ((chars s).take k).length = k := by rw [List.length_take]; omega
        have hrp := hrl.out
        rw [pad_length, hkl] at hrp
        obtain ⟨r', rfl⟩ : ∃ r', r = r' + 1 := ⟨r - 1, by omega⟩
        have hown3 := HW.out
        obtain ⟨g, c3, hv3, hg3, hlt3⟩ := hown3.form (by omega)
        rw [hv3] at hown3 ⊢
        have hidx : r' * 64 + k % 64 = k := by omega
        obtain ⟨P0, hP0⟩ : ∃ P0, P0 = pad ((chars s).take k) := ⟨_, rfl⟩
        rw [← hP0] at hown3
        have hset : P0.set k s[k] = pad ((chars s).take (k + 1)) := by
          rw [hP0, pad_set hkl hm, take_more (chars_at s hkn)]
        have hpl := hown3.1
        rw [B8_length] at hpl
        have hks : k < s.size := hkn
        have hcell : wr.cell? ⟨g, r' * 64 + k % 64, none⟩ = some (.int .u8 (((P0.getD k 0).toNat : Nat) : Int)) := by
          rw [hown3.cellAt _ (by omega), hidx]
          rw [B8_at P0 (by omega)]
          simp [List.getD, show k < P0.length by omega]
        have hfz := hown3.frozenAt (r' * 64 + k % 64)
        obtain ⟨hst0, hgr⟩ := hown3.stored (r' * 64 + k % 64) (.int .u8 ((s[k].toNat : Nat) : Int))
        have hst : (wr.setCell ⟨g, r' * 64 + k % 64, none⟩ (.int .u8 ((s[k].toNat : Nat) : Int))).ownsRow w.heap.size 38 64 (.slice (some ⟨g, 0, none⟩) (r' + 1) c3) (r' + 1) (B8 (pad ((chars s).take (k + 1)))) := by
          rw [← hset, ← B8_set]
          rw [hidx] at hst0 ⊢
          exact hst0
        have hbs := hbel.grown hgr hbel.size (fun j hj => by simp at hj; omega)
        have hlen1 : (r' + 1) * 64 = (pad ((chars s).take (k + 1))).length := by have := hst.1; rw [B8_length] at this; exact this.symm
        have HL1 := hide hlen1
        have HST := hide hst.drew
        have HBS := hide hbs.drew
        clear hidx hkl hset hpl hP0 hv3 hst0 hgr hst hbs hlen1 hrp hm
        go_wp2_with fail
        go_region
        go_wp2
        go_roundw
        case rel => exact ⟨k + 1, r' + 1, by omega, by omega, HL1, by go_num, HST.out, HBS.out⟩
        case measure => simp [intOf]; omega
    · obtain rfl : k = s.size := by omega
      have HT := hide (show (chars s).take s.size = chars s from List.take_of_length_le (by omega))
      rw [HT.out] at hown
      go_wp2
      go_ret
      exact made_of hown hbel
#print axioms refSectors_any
end Go.Proofs.Ytkjbjhciafnbeaa
