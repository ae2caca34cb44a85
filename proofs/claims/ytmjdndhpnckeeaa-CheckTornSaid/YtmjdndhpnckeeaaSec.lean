/- What pack's Sectors and Bytes do: bytes cut into sectors of 64, the last filled up with noughts; and all bytes of some sectors. -/
import Derived.Test.YtmjdndhpnckeeaaGet
import Derived.Test.YtmjdndhpnckeeaaAgg
import Derived.Laws.CopyOwn
namespace Go.Proofs.Ytmjdndhpnckeeaa
open Go.RowKit

theorem sec_parts : (Try.prog.info? 51).map (fun i => (i.zero, i.size, i.bytes)) = some (some (.agg (Array.replicate 64 (.int .u8 0))), 64, 64) := by kernel_rfl

/-- The bytes filled up with noughts to whole sectors. -/
def pad (bs : List UInt8) : List UInt8 := bs ++ List.replicate ((64 - bs.length % 64) % 64) 0
/-- One sector's bytes out of the front of bs. -/
def front (bs : List UInt8) : List UInt8 := bs.take 64 ++ List.replicate (64 - bs.length) 0
/-- How long the slice in a slot is. -/
def lenOf : Value → Nat | .slice _ n _ => n | _ => 0

theorem front_length (bs : List UInt8) : (front bs).length = 64 := by simp [front]; omega
theorem pad_length (bs : List UInt8) : (pad bs).length = (bs.length + 63) / 64 * 64 := by simp [pad]; omega
theorem pad_nil : pad [] = [] := rfl
/-- All sectors but the first are the sectors of what is left. -/
theorem pad_step (bs : List UInt8) (h : 0 < bs.length) : pad bs = front bs ++ pad (bs.drop 64) := by
  by_cases h64 : bs.length ≤ 64
  · have e1 : bs.drop 64 = [] := List.drop_eq_nil_of_le h64
    have e2 : bs.take 64 = bs := List.take_of_length_le h64
    have e3 : (64 - bs.length % 64) % 64 = 64 - bs.length := by omega
    rw [e1, pad_nil, List.append_nil, pad, front, e2, e3]
  · have e3 : 64 - bs.length = 0 := by omega
    have e4 : (64 - (bs.drop 64).length % 64) % 64 = (64 - bs.length % 64) % 64 := by rw [List.length_drop]; omega
    rw [pad, front, pad, e3, e4, List.replicate_zero, List.append_nil, ← List.append_assoc, List.take_append_drop]

def Z64 : List Value := B8 (List.replicate 64 0)
theorem Z64_length : Z64.length = 64 := by simp [Z64, B8_length]
theorem Z64_splice (bs : List UInt8) : splice Z64 0 (B8 (bs.take 64)) = B8 (front bs) := by
  simp only [splice, Z64, front, B8_append, B8_drop, B8_length, List.take_zero, List.nil_append, List.drop_replicate]
  congr 3
  simp only [List.length_take]
  omega

theorem drop_min (bs : List UInt8) {m : Nat} (h : m = Nat.min bs.length 64) : (B8 bs).drop (m * 1) = B8 (bs.drop 64) := by
  rw [Nat.mul_one, B8_drop, h]
  by_cases h64 : bs.length ≤ 64
  · have e : Nat.min bs.length 64 = bs.length := Nat.min_eq_left h64
    rw [e, List.drop_of_length_le (Nat.le_refl _), List.drop_eq_nil_of_le h64]
  · have e : Nat.min bs.length 64 = 64 := Nat.min_eq_right (by omega)
    rw [e]
theorem sec_nought (w : World) : (zeroValue 51).run Try.prog w = .ok (.agg (Array.replicate 64 (.int .u8 0))) w := by kernel_rfl

set_option maxRecDepth 100000 in
set_option maxHeartbeats 2000000 in
theorem sectors_any (A : Option Addr) (n c : Nat) (bs : List UInt8) (w : World) (hr : Reads w w.heap.size 1 A n (B8 bs)) (hc : n ≤ c) (hc2 : c ≤ 9223372036854775807) (hn : n ≤ 1099511627776) :
    Calls Try.prog 74 #[.slice A n c] w (Made w.heap.size 51 64 (B8 (pad bs)) w) := by
  obtain ⟨i0, hi0, hz0, hz1, hz2⟩ := info_parts sec_parts
  go_enter Try.func74, Try.ntmps74
  go_wp2
  go_loopw [0, 3] (fun b l wr => ∃ (j : Nat) (A1 : Option Addr) (n1 c1 : Nat) (left done : List UInt8), b = .slice A1 n1 c1 ∧ n1 ≤ c1 ∧ c1 ≤ 9223372036854775807 ∧ 64 * j ≤ n + 64 ∧ Hid (pad bs = done ++ pad left) ∧ Hid (n1 + 64 * j ≤ n + 64 ∧ (0 < n1 → n1 + 64 * j ≤ n)) ∧
      Reads wr w.heap.size 1 A1 n1 (B8 left) ∧ wr.ownsRow w.heap.size 51 64 l j (B8 done) ∧ Below w.heap.size w wr) (fun b _ _ => lenOf b)
  case atStart => exact ⟨0, A, n, c, bs, [], rfl, hc, hc2, by omega, hide rfl, hide ⟨by omega, fun _ => by omega⟩, hr, World.ownsRow_nil _ _ _ _, Below.refl _ _⟩
  case round =>
    obtain ⟨j, A1, n1, c1, left, done, rfl, hc1, hc3, hj, hpad, hlim, hrl, hown, hbel⟩ := hrel
    by_cases h0 : 0 < n1
    · have hll : left.length = n1 := by have := hrl.1; simpa [B8_length] using this
      obtain ⟨cs, hcs⟩ : ∃ cs, cs = B8 (left.take 64) := ⟨_, rfl⟩
      have hcl : cs.length = Nat.min n1 64 := by rw [hcs, B8_length, List.length_take, hll]; exact Nat.min_comm _ _
      have hc64 : cs.length ≤ 64 := by rw [hcl]; exact Nat.min_le_right _ _
      have hcn : cs.length ≤ n1 := by rw [hcl]; exact Nat.min_le_left _ _
      have hc0 : 0 < cs.length := by rw [hcl]; simp only [Nat.min_def]; split <;> omega
      obtain ⟨F, hF⟩ : ∃ F, F = splice Z64 0 cs := ⟨_, rfl⟩
      have hcut := hrl.cut (k := cs.length) (cap := c1) hcn hc1
      obtain ⟨ad, rfl, hab, hcells⟩ := hrl.2 h0
      have hone : ∀ u ∈ cs, u.oneCell' = true := by rw [hcs]; exact B8_one _
      have hsrc : ∀ o, ∀ k u, cs[k]? = some u → (wr.alloc o).cell? (ad.add k) = some u := by
        intro o k u hu
        rw [World.cell?_alloc_lt _ _ _ (by rw [block_of_add]; have := hbel.size; omega)]
        apply hcells
        rw [hcs, ← B8_take, List.getElem?_take] at hu
        split at hu
        · exact hu
        · cases hu
      have hFf : F = B8 (front left) := by rw [hF, hcs, Z64_splice]
      have hFl : F.length = 64 := by rw [hFf, B8_length, front_length]
      have hFa : F.toArray.size = 64 := by rw [List.size_toArray, hFl]
      have hinfo : (Try.prog.info? 51).map (·.size) = some F.toArray.size := by rw [hFa]; kernel_rfl
      have hFone : ∀ u ∈ F, u.oneCell' = true := by rw [hFf]; exact B8_one _
      rw [drop_min left (by rw [hll]; exact hcl)] at hcut
      have hpad' : pad bs = (done ++ front left) ++ pad (left.drop 64) := by rw [hpad.out, pad_step left (by omega), List.append_assoc]
      have hj1 : j + 1 ≤ maxLen := by simp only [maxLen]; omega
      have hj2 : (j + 1) * 64 ≤ 140737488355328 := by omega
      have hl1 := hlim.out.2 h0
      have hl2 : n1 - cs.length + 64 * (j + 1) ≤ n + 64 ∧ (0 < n1 - cs.length → n1 - cs.length + 64 * (j + 1) ≤ n) := by
        have hm : cs.length = n1 ∧ n1 ≤ 64 ∨ cs.length = 64 := by
          rw [hcl]
          by_cases h64 : n1 ≤ 64
          · exact .inl ⟨Nat.min_eq_left h64, h64⟩
          · exact .inr (Nat.min_eq_right (by omega))
        omega
      have hsz := hbel.size
      have hB0 := hbel
      have HS := hide hsrc
      have HCL := hide hcl
      have HF := hide hF
      have HFf := hide hFf
      have HFa := hide hFa
      have HFl := hide hFl
      have HI := hide hinfo
      have HP := hide hpad'
      have HC := hide hcut
      have HL := hide hl2
      have HO := hide hown
      clear hsrc hcl hcs hF hFl hFf hFa hinfo hpad' hcut hl2 hcells hll hown
      by_cases hcc : c1 = cs.length
      · subst hcc
        obtain rfl : n1 = cs.length := by omega
        go_wp2_with (first | (refine wpList_copy_splice rfl (.tmp 9) (.tmp 10) 32 32 rfl 5 Try.underlying32 (by kernel_rfl) (some ⟨wr.heap.size, 0, none⟩) (some ad) 64 64 cs.length cs.length rfl rfl wr.heap.size 0 Z64 51 (heap_alloc_new wr _) cs HCL.out (fun _ => ⟨rfl, ad, rfl, HS.out _⟩) (by rw [Z64_length]; omega) hone wr.heap.size wr ((Below.refl _ _).alloc (Nat.le_refl _) _) (Nat.le_refl _) ?_; intro w2 HG2 hB2; rw [← HF.out] at HG2) | (refine wpList_load_row rfl 51 (.tmp 4) rfl wr.heap.size rfl 51 F.toArray (0, 0) _ HG2.out Try.underlying51 rfl HI.out ?_) | (refine wpList_build_agg _ rfl (.tmp 14) 73 rfl 51 i0 _ 64 Try.underlying73 hi0 (sec_nought _) hz1 (by omega) (by omega) F.toArray rfl HFa.out ?_) | (at_builtin; refine wpList_append_any _ rfl (.tmp 13) (.tmp 15) _ rfl w.heap.size 51 i0 _ 64 64 Try.underlying73 hi0 hz0 hz1 hz2 rfl (by omega) _ j _ rfl ((own_later HO.out hB2).alloc _) (w2.heap.size + 1) (some ⟨w2.heap.size, 0, none⟩) 1 1 F rfl (Reads.lump _ F _ _ 64 (by omega) HFl.out) hFone hj1 hj2 (le_alloc (Nat.le_trans hsz hB2.size) _) ?_; intro v3 w3 hown3 hbel3))
        have hb3 : Below w.heap.size w w3 := ((hB0.trans (hB2.mono hsz)).alloc (Nat.le_trans hsz hB2.size) _).trans hbel3
        have hrd := ((HC.out).keep (w' := w3) (fun p hp => ((((hB2.mono hsz).alloc (Nat.le_trans hsz hB2.size) _).trans hbel3).cell hp)))
        rw [HFf.out, ← B8_append] at hown3
        go_roundw
        case rel => exact ⟨j + 1, some ad, 0, 0, _, _, rfl, Nat.le_refl _, by omega, by omega, HP, hide (by have := HL.out; omega), by simpa using hrd, hown3, hb3⟩
        case measure => simp [lenOf]; omega
      · go_wp2_with (first | (refine wpList_copy_splice rfl (.tmp 9) (.tmp 10) 32 32 rfl 5 Try.underlying32 (by kernel_rfl) (some ⟨wr.heap.size, 0, none⟩) (some ad) 64 64 n1 c1 rfl rfl wr.heap.size 0 Z64 51 (heap_alloc_new wr _) cs HCL.out (fun _ => ⟨rfl, ad, rfl, HS.out _⟩) (by rw [Z64_length]; omega) hone wr.heap.size wr ((Below.refl _ _).alloc (Nat.le_refl _) _) (Nat.le_refl _) ?_; intro w2 HG2 hB2; rw [← HF.out] at HG2) | (refine wpList_load_row rfl 51 (.tmp 4) rfl wr.heap.size rfl 51 F.toArray (0, 0) _ HG2.out Try.underlying51 rfl HI.out ?_) | (refine wpList_build_agg _ rfl (.tmp 14) 73 rfl 51 i0 _ 64 Try.underlying73 hi0 (sec_nought _) hz1 (by omega) (by omega) F.toArray rfl HFa.out ?_) | (at_builtin; refine wpList_append_any _ rfl (.tmp 13) (.tmp 15) _ rfl w.heap.size 51 i0 _ 64 64 Try.underlying73 hi0 hz0 hz1 hz2 rfl (by omega) _ j _ rfl ((own_later HO.out hB2).alloc _) (w2.heap.size + 1) (some ⟨w2.heap.size, 0, none⟩) 1 1 F rfl (Reads.lump _ F _ _ 64 (by omega) HFl.out) hFone hj1 hj2 (le_alloc (Nat.le_trans hsz hB2.size) _) ?_; intro v3 w3 hown3 hbel3))
        have hb3 : Below w.heap.size w w3 := ((hB0.trans (hB2.mono hsz)).alloc (Nat.le_trans hsz hB2.size) _).trans hbel3
        have hrd := ((HC.out).keep (w' := w3) (fun p hp => ((((hB2.mono hsz).alloc (Nat.le_trans hsz hB2.size) _).trans hbel3).cell hp)))
        rw [HFf.out, ← B8_append] at hown3
        rw [if_neg hcc, Nat.mul_one] at hrd
        go_roundw
        case rel => exact ⟨j + 1, some (ad.add cs.length), n1 - cs.length, c1 - cs.length, _, _, rfl, by omega, by omega, by omega, HP, HL, hrd, hown3, hb3⟩
        case measure => simp [lenOf]; omega
    · have hle : left = [] := by
        have := hrl.1
        rw [B8_length] at this
        exact List.eq_nil_of_length_eq_zero (by omega)
      have HP := hide (show B8 (pad bs) = B8 done by rw [hpad.out, hle, pad_nil, List.append_nil])
      go_wp2
      go_ret
      rw [HP.out]
      exact made_of hown hbel
#print axioms sectors_any
end Go.Proofs.Ytmjdndhpnckeeaa
