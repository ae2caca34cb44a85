/- The document's table in memory: two rows behind one pointer; what its calls that only read answer. -/
import Derived.Test.YtgoglgghnjgcdaaUsgN
namespace Go.Proofs.Ytgoglgghnjgcdaa
open Go.RowKit Go.Maps

def grL (l : List Gr) : List Value := l.flatMap fun x => [.int .i64 x.id, .int .i64 x.n]
def lvC (x : Lv) : List Value := [.int .i64 x.g, .int .i64 x.s, .int .i64 x.b]
def lvL (l : List Lv) : List Value := l.flatMap lvC
theorem grL_length (l : List Gr) : (grL l).length = l.length * 2 := by
  induction l with
  | nil => rfl
  | cons x r ih => simp [grL] at ih ⊢; omega
theorem lvL_length (l : List Lv) : (lvL l).length = l.length * 3 := by
  induction l with
  | nil => rfl
  | cons x r ih => simp [lvL, lvC] at ih ⊢; omega
theorem grL_append (a b : List Gr) : grL (a ++ b) = grL a ++ grL b := by simp [grL]
theorem lvL_append (a b : List Lv) : lvL (a ++ b) = lvL a ++ lvL b := by simp [lvL]
theorem grL_at {l : List Gr} {k : Nat} {x : Gr} (h : l[k]? = some x) : (grL l)[k * 2]? = some (.int .i64 x.id) ∧ (grL l)[k * 2 + 1]? = some (.int .i64 x.n) := by
  induction l generalizing k with
  | nil => simp at h
  | cons y r ih =>
    cases k with
    | zero => simp at h; subst h; exact ⟨rfl, rfl⟩
    | succ k =>
      have := ih (k := k) (by simpa using h)
      have e : grL (y :: r) = .int .i64 y.id :: .int .i64 y.n :: grL r := rfl
      rw [e, show (k + 1) * 2 = k * 2 + 2 by omega]
      exact this
theorem lvL_at {l : List Lv} {k : Nat} {x : Lv} (h : l[k]? = some x) : ∀ j v, (lvC x)[j]? = some v → (lvL l)[k * 3 + j]? = some v := by
  induction l generalizing k with
  | nil => simp at h
  | cons y r ih =>
    cases k with
    | zero =>
      simp at h
      subst h
      intro j v hj
      have hl : j < 3 := (List.getElem?_eq_some_iff.1 hj).1
      show (lvC y ++ lvL r)[0 * 3 + j]? = some v
      rw [Nat.zero_mul, Nat.zero_add, List.getElem?_append_left hl]
      exact hj
    | succ k =>
      intro j v hj
      have := ih (k := k) (by simpa using h) j v hj
      show (lvC y ++ lvL r)[(k + 1) * 3 + j]? = some v
      rw [List.getElem?_append_right (by simp [lvC]; omega)]
      rw [show (k + 1) * 3 + j - (lvC y).length = k * 3 + j by simp [lvC]; omega]
      exact this
/-- The table: block r; its rows. -/
structure RefIn (w : World) (r : Nat) (AG : Option Addr) (cG : Nat) (AL : Option Addr) (cL : Nat) (S : Us) : Prop where
  head : Blk w r 60 #[.slice AG S.G.length cG, .slice AL S.L.length cL]
  gr : w.ownsRow 0 80 2 (.slice AG S.G.length cG) S.G.length (grL S.G)
  lr : w.ownsRow 0 83 3 (.slice AL S.L.length cL) S.L.length (lvL S.L)
/-- The blocks that it takes. -/
def RFoot (r : Nat) (AG AL : Option Addr) : Nat → Prop := fun i => i = r ∨ (∃ a, AG = some a ∧ a.block = i) ∨ (∃ a, AL = some a ∧ a.block = i)
section
variable {w w' : World} {r cG cL : Nat} {AG AL : Option Addr} {S : Us}
theorem RefIn.c0 (h : RefIn w r AG cG AL cL S) : w.cell? ⟨r, 0, none⟩ = some (.slice AG S.G.length cG) := h.head.cell 0
theorem RefIn.c1 (h : RefIn w r AG cG AL cL S) : w.cell? ⟨r, 1, none⟩ = some (.slice AL S.L.length cL) := h.head.cell 1
theorem RefIn.foot_lt (h : RefIn w r AG cG AL cL S) : ∀ i, RFoot r AG AL i → i < w.heap.size := by
  rintro i (rfl | ⟨a, rfl, rfl⟩ | ⟨a, rfl, rfl⟩)
  · exact h.head.lt
  · exact (h.gr.lt a.block rfl).2
  · exact (h.lr.lt a.block rfl).2
theorem own_held {base n : Nat} {e : TypeId} {size : Nat} {v : Value} {xs : List Value} (h : w.ownsRow base e size v n xs) (hk : ∀ i, v.ownBlock = some i → w'.heap[i]? = w.heap[i]?) : w'.ownsRow base e size v n xs := by
  refine ⟨h.1, ?_⟩
  rcases h.2 with h2 | ⟨g, cap, cur, hv, h1, h2, h3⟩
  · exact .inl h2
  · exact .inr ⟨g, cap, cur, hv, h1, (hk g (by rw [hv]; rfl)).trans h2, h3⟩
theorem RefIn.kept (h : RefIn w r AG cG AL cL S) (hk : ∀ i, RFoot r AG AL i → w'.heap[i]? = w.heap[i]?) : RefIn w' r AG cG AL cL S := by
  refine ⟨h.head.of_block (hk r (.inl rfl)), own_held h.gr fun i hi => hk i (.inr (.inl ?_)), own_held h.lr fun i hi => hk i (.inr (.inr ?_))⟩
  · cases AG with
    | none => simp [Value.ownBlock] at hi
    | some a => exact ⟨a, rfl, by simpa [Value.ownBlock] using hi⟩
  · cases AL with
    | none => simp [Value.ownBlock] at hi
    | some a => exact ⟨a, rfl, by simpa [Value.ownBlock] using hi⟩
theorem RefIn.later (h : RefIn w r AG cG AL cL S) (hb : Below w.heap.size w w') : RefIn w' r AG cG AL cL S := h.kept fun i hi => hb.block i (h.foot_lt i hi)
theorem RefIn.drewN (h : RefIn w r AG cG AL cL S) (n : Nat) : RefIn (w.drewN n) r AG cG AL cL S := h.kept fun _ _ => rfl
theorem addr_one (a : Addr) (j : Nat) (hj : 0 < j) : a.add j = ⟨a.block, a.off + j, none⟩ := by
  unfold Addr.add
  exact if_neg (by omega)
/-- The same, of a table that is only read. -/
structure RefRd (w : World) (r : Nat) (AG : Option Addr) (cG : Nat) (AL : Option Addr) (cL : Nat) (S : Us) : Prop where
  head : Blk w r 60 #[.slice AG S.G.length cG, .slice AL S.L.length cL]
  gr : Reads w w.heap.size 2 AG S.G.length (grL S.G)
  lr : Reads w w.heap.size 3 AL S.L.length (lvL S.L)
  fl : ∀ i, RFoot r AG AL i → i < w.heap.size
theorem own_rd {base n : Nat} {A : Option Addr} {c : Nat} {e : TypeId} {size : Nat} {l : List Value} (h : w.ownsRow base e size (.slice A n c) n l) : Reads w w.heap.size size A n l := by
  refine ⟨h.1, fun hn => ?_⟩
  obtain ⟨g, cap, hv, _, hlt⟩ := h.form hn
  have hA : A = some ⟨g, 0, none⟩ := by injection hv
  subst hA
  exact ⟨_, rfl, (h.lt g rfl).2, h.cells (g := g) rfl⟩
theorem RefIn.rd (h : RefIn w r AG cG AL cL S) : RefRd w r AG cG AL cL S := ⟨h.head, own_rd h.gr, own_rd h.lr, h.foot_lt⟩
theorem RefRd.c0 (h : RefRd w r AG cG AL cL S) : w.cell? ⟨r, 0, none⟩ = some (.slice AG S.G.length cG) := h.head.cell 0
theorem RefRd.c1 (h : RefRd w r AG cG AL cL S) : w.cell? ⟨r, 1, none⟩ = some (.slice AL S.L.length cL) := h.head.cell 1
theorem reads_held {size n : Nat} {A : Option Addr} {xs : List Value} (h : Reads w w.heap.size size A n xs) (hs : w.heap.size ≤ w'.heap.size) (hk : ∀ a, A = some a → w'.heap[a.block]? = w.heap[a.block]?) : Reads w' w'.heap.size size A n xs := by
  refine ⟨h.1, fun hn => ?_⟩
  obtain ⟨ad, e, hb, hc⟩ := h.2 hn
  exact ⟨ad, e, by omega, fun j u hu => (World.cell?_of_block (by rw [block_of_add]; exact hk ad e)).trans (hc j u hu)⟩
theorem RefRd.kept (h : RefRd w r AG cG AL cL S) (hs : w.heap.size ≤ w'.heap.size) (hk : ∀ i, RFoot r AG AL i → w'.heap[i]? = w.heap[i]?) : RefRd w' r AG cG AL cL S :=
  ⟨h.head.of_block (hk r (.inl rfl)), reads_held h.gr hs fun a e => hk _ (.inr (.inl ⟨a, e, rfl⟩)), reads_held h.lr hs fun a e => hk _ (.inr (.inr ⟨a, e, rfl⟩)), fun i hi => Nat.lt_of_lt_of_le (h.fl i hi) hs⟩
theorem RefRd.later (h : RefRd w r AG cG AL cL S) (hb : Below w.heap.size w w') : RefRd w' r AG cG AL cL S := h.kept hb.size fun i hi => hb.block i (h.fl i hi)
/-- A group of the row. -/
theorem gr_at {l : List Gr} {A : Option Addr} {n B : Nat} (h : Reads w B 2 A n (grL l)) {k : Nat} (hk : k < l.length) :
    ∃ ad x, A = some ad ∧ l[k]? = some x ∧ w.cell? (ad.add (k * 2)) = some (.int .i64 x.id) ∧ w.cell? ⟨(ad.add (k * 2)).block, (ad.add (k * 2)).off + 1, none⟩ = some (.int .i64 x.n) := by
  have hn : 0 < n := by
    have := h.1
    rw [grL_length] at this
    omega
  obtain ⟨ad, hA, _, hc⟩ := h.2 hn
  have hx := List.getElem?_eq_getElem hk
  obtain ⟨h1, h2⟩ := grL_at hx
  refine ⟨ad, _, hA, hx, hc _ _ h1, ?_⟩
  have := hc _ _ h2
  rw [← add_of_add, addr_one _ 1 (by decide)] at this
  exact this
/-- A live slot of the row. -/
theorem lv_at {l : List Lv} {A : Option Addr} {n B : Nat} (h : Reads w B 3 A n (lvL l)) {k : Nat} (hk : k < l.length) :
    ∃ ad x, A = some ad ∧ l[k]? = some x ∧ w.cell? (ad.add (k * 3)) = some (.int .i64 x.g) ∧ w.cell? ⟨(ad.add (k * 3)).block, (ad.add (k * 3)).off + 1, none⟩ = some (.int .i64 x.s) ∧ w.cell? ⟨(ad.add (k * 3)).block, (ad.add (k * 3)).off + 2, none⟩ = some (.int .i64 x.b) ∧
      ∀ (j : Nat) v, (lvC x)[j]? = some v → w.cell? ((ad.add (k * 3)).add j) = some v := by
  have hn : 0 < n := by
    have := h.1
    rw [lvL_length] at this
    omega
  obtain ⟨ad, hA, _, hr⟩ := h.2 hn
  have hx := List.getElem?_eq_getElem hk
  have h0 := lvL_at hx
  have hc : ∀ (j : Nat) v, (lvC l[k])[j]? = some v → w.cell? ((ad.add (k * 3)).add j) = some v := fun j v hj => by
    rw [add_of_add]
    exact hr _ _ (h0 j v hj)
  refine ⟨ad, _, hA, hx, hc 0 _ rfl, ?_, ?_, hc⟩
  · have := hc 1 _ rfl
    rwa [addr_one _ 1 (by decide)] at this
  · have := hc 2 _ rfl
    rwa [addr_one _ 2 (by decide)] at this
theorem Us.slots_out {g : Int} (h : ∀ x ∈ S.G, x.id ≠ g) : S.slots g = 0 := by
  refine Us.slots_none ?_
  cases hh : S.has g with
  | false => rfl
  | true =>
    obtain ⟨x, hx, e⟩ := Us.has_iff.1 hh
    exact absurd e (h x hx)
theorem Us.at_out' {g s : Int} (h : ∀ x ∈ S.L, ¬ (x.g = g ∧ x.s = s)) : S.at_ g s = none := by
  cases hh : S.at_ g s with
  | none => rfl
  | some b => exact absurd ⟨rfl, rfl⟩ (h _ (Us.at_some hh))
theorem Us.fnd_out {b : Int} (h : ∀ x ∈ S.L, x.b ≠ b) : S.fnd b = none := by
  cases hh : S.fnd b with
  | none => rfl
  | some p =>
    obtain ⟨g, s⟩ := p
    exact absurd rfl (h _ (Us.fnd_some hh))
theorem take_none {α : Type} {l : List α} {k : Nat} {x : α} {p : α → Prop} (h : ∀ y ∈ l.take k, p y) (hx : l[k]? = some x) (hp : p x) : ∀ y ∈ l.take (k + 1), p y := by
  rw [List.take_add_one, hx]
  intro y hy
  rcases List.mem_append.1 hy with hy | hy
  · exact h y hy
  · simp at hy
    rw [hy]
    exact hp
set_option maxRecDepth 100000 in
theorem rslots_any (h : RefRd w r AG cG AL cL S) (hok : S.Ok) (hf : S.G.length < 1000000) (g : Int) :
    Calls Try.prog 39 #[.pointer (some ⟨r, 0, none⟩), .int .i64 g] w fun e w' => e = .returned (.int .i64 (S.slots g)) ∧ w = w' := by
  have HI := hide h
  have HOK := hide hok
  have hc0 := h.c0
  obtain ⟨n, hn⟩ : ∃ n, S.G.length = n := ⟨_, rfl⟩
  have HN := hide hn
  rw [hn] at hc0 hf
  clear h hok hn
  go_enter Try.func39, Try.ntmps39
  go_wp2
  go_loopw [5] (fun i wr => ∃ k : Nat, k ≤ n ∧ i = .int .i64 k ∧ Hid (w = wr) ∧ Hid (∀ x ∈ S.G.take k, x.id ≠ g)) (fun i _ => n - (intOf i).toNat)
  case atStart => exact ⟨0, Nat.zero_le _, rfl, (by first | exact hide rfl | exact hide trivial), hide (by simp)⟩
  case round =>
    obtain ⟨k, hk, rfl, HW, HA⟩ := hrel
    obtain rfl := HW.out
    clear HW
    by_cases hkn : k < n
    · obtain ⟨ad, x, rfl, hx, h1, h2⟩ := gr_at HI.out.gr (k := k) (by rw [HN.out]; exact hkn)
      by_cases he : x.id = g
      · have HV := hide (show S.slots g = x.n by rw [← he]; exact Us.slots_of HOK.out (List.mem_of_getElem? hx))
        have hne : (x.id == g) = true := by simpa using he
        rw [he] at h1
        clear hx hne he
        go_wp2
        go_ret
        exact ⟨by rw [HV.out]; rfl, rfl⟩
      · have HA2 := hide (take_none HA.out hx he)
        have hne : (x.id == g) = false := by simpa using he
        clear hx he
        go_wp2
        go_roundw
        case rel => exact ⟨k + 1, by omega, by go_num, (by first | exact hide rfl | exact hide trivial), HA2⟩
        case measure => simp [intOf]; omega
    · have HV := hide (show S.slots g = 0 from Us.slots_out (by have h := HA.out; rw [List.take_of_length_le (by rw [HN.out]; omega)] at h; exact h))
      go_wp2
      go_ret
      exact ⟨by rw [HV.out]; rfl, rfl⟩
set_option maxRecDepth 100000 in
theorem rblock_any (h : RefRd w r AG cG AL cL S) (hok : S.Ok) (hf : S.L.length < 1000000) (g s : Int) :
    Calls Try.prog 41 #[.pointer (some ⟨r, 0, none⟩), .int .i64 g, .int .i64 s] w fun e w' => e = .returned (.tuple #[.int .i64 ((S.at_ g s).getD 0), .bool (S.at_ g s).isSome]) ∧ w = w' := by
  have HI := hide h
  have HOK := hide hok
  have hc1 := h.c1
  obtain ⟨n, hn⟩ : ∃ n, S.L.length = n := ⟨_, rfl⟩
  have HN := hide hn
  rw [hn] at hc1 hf
  clear h hok hn
  go_enter Try.func41, Try.ntmps41
  go_wp2
  go_loopw [8] (fun i wr => ∃ k : Nat, k ≤ n ∧ i = .int .i64 k ∧ Hid (w = wr) ∧ Hid (∀ x ∈ S.L.take k, ¬ (x.g = g ∧ x.s = s))) (fun i _ => n - (intOf i).toNat)
  case atStart => exact ⟨0, Nat.zero_le _, rfl, (by first | exact hide rfl | exact hide trivial), hide (by simp)⟩
  case round =>
    obtain ⟨k, hk, rfl, HW, HA⟩ := hrel
    obtain rfl := HW.out
    clear HW
    by_cases hkn : k < n
    · obtain ⟨ad, x, rfl, hx, h1, h2, h3, _⟩ := lv_at HI.out.lr (k := k) (by rw [HN.out]; exact hkn)
      by_cases he : x.g = g
      · by_cases hs : x.s = s
        · have HV := hide (show S.at_ g s = some x.b by rw [← he, ← hs]; exact Us.at_of HOK.out (List.mem_of_getElem? hx))
          rw [he] at h1
          rw [hs] at h2
          clear hx he hs
          go_wp2
          go_ret2
          exact ⟨by rw [HV.out]; rfl, rfl⟩
        · have HA2 := hide (take_none HA.out hx (fun e => hs e.2))
          have hne : (x.s == s) = false := by simpa using hs
          rw [he] at h1
          clear hx he hs
          go_wp2
          go_roundw
          case rel => exact ⟨k + 1, by omega, by go_num, (by first | exact hide rfl | exact hide trivial), HA2⟩
          case measure => simp [intOf]; omega
      · have HA2 := hide (take_none HA.out hx (fun e => he e.1))
        have hne : (x.g == g) = false := by simpa using he
        clear hx he
        go_wp2
        go_roundw
        case rel => exact ⟨k + 1, by omega, by go_num, (by first | exact hide rfl | exact hide trivial), HA2⟩
        case measure => simp [intOf]; omega
    · have HV := hide (show S.at_ g s = none from Us.at_out' (by have h := HA.out; rw [List.take_of_length_le (by rw [HN.out]; omega)] at h; exact h))
      go_wp2
      go_ret2
      exact ⟨by rw [HV.out]; rfl, rfl⟩
set_option maxRecDepth 100000 in
theorem rfind_any (h : RefRd w r AG cG AL cL S) (hok : S.Ok) (hf : S.L.length < 1000000) (b : Int) :
    Calls Try.prog 40 #[.pointer (some ⟨r, 0, none⟩), .int .i64 b] w fun e w' => e = .returned (.tuple #[.int .i64 ((S.fnd b).getD (0, 0)).1, .int .i64 ((S.fnd b).getD (0, 0)).2, .bool (S.fnd b).isSome]) ∧ ∃ q, w' = w.drewN q := by
  have HI := hide h
  have HOK := hide hok
  have hc1 := h.c1
  obtain ⟨n, hn⟩ : ∃ n, S.L.length = n := ⟨_, rfl⟩
  have HN := hide hn
  rw [hn] at hc1 hf
  clear h hok hn
  go_enter Try.func40, Try.ntmps40
  go_wp2
  go_loopw [7] (fun i wr => ∃ k : Nat, k ≤ n ∧ i = .int .i64 k ∧ Hid (w = wr) ∧ Hid (∀ x ∈ S.L.take k, x.b ≠ b)) (fun i _ => n - (intOf i).toNat)
  case atStart => exact ⟨0, Nat.zero_le _, rfl, (by first | exact hide rfl | exact hide trivial), hide (by simp)⟩
  case round =>
    obtain ⟨k, hk, rfl, HW, HA⟩ := hrel
    obtain rfl := HW.out
    clear HW
    by_cases hkn : k < n
    · obtain ⟨ad, x, rfl, hx, h1, h2, h3, _⟩ := lv_at HI.out.lr (k := k) (by rw [HN.out]; exact hkn)
      by_cases he : x.b = b
      · have HV := hide (show S.fnd b = some (x.g, x.s) by rw [← he]; exact Us.fnd_of HOK.out (List.mem_of_getElem? hx))
        rw [he] at h3
        clear hx he
        go_wp2_with fail
        go_quiet (fail)
        go_wp2
        go_ret3
        exact ⟨by rw [HV.out]; rfl, nq, rfl⟩
      · have HA2 := hide (take_none HA.out hx he)
        have hne : (x.b == b) = false := by simpa using he
        clear hx he
        go_wp2
        go_roundw
        case rel => exact ⟨k + 1, by omega, by go_num, (by first | exact hide rfl | exact hide trivial), HA2⟩
        case measure => simp [intOf]; omega
    · have HV := hide (show S.fnd b = none from Us.fnd_out (by have h := HA.out; rw [List.take_of_length_le (by rw [HN.out]; omega)] at h; exact h))
      go_wp2
      go_ret3
      exact ⟨by rw [HV.out]; rfl, 0, rfl⟩
set_option maxRecDepth 100000 in
theorem rin_any (h : RefRd w r AG cG AL cL S) (hok : S.Ok) (hf : S.G.length < 1000000) (g s : Int) :
    Calls Try.prog 52 #[.pointer (some ⟨r, 0, none⟩), .int .i64 g, .int .i64 s] w fun e w' => e = .returned (.int .i64 (S.inE g s)) ∧ w = w' := by
  have HS := hide (rslots_any h hok hf g)
  have hhs := Us.has_slots hok g
  have hle := Us.slots_le hok g
  unfold Us.inE
  rw [hhs]
  obtain ⟨n, hn⟩ : ∃ n, n = S.slots g := ⟨_, rfl⟩
  rw [← hn] at HS hle ⊢
  clear hn hhs h hok hf
  by_cases h0 : n = 0
  · subst h0
    go_enter Try.func52, Try.ntmps52
    go_wp2_with (first
      | (go_at_call 39; refine HS.out.mono ?_; rintro _ _ ⟨rfl, rfl⟩))
    go_ret
    exact ⟨rfl, rfl⟩
  · have hne : (n == 0) = false := by simpa using h0
    have hpos : decide (0 < n) = true := by simp; omega
    rw [hpos, if_pos rfl]
    have HV : Hid (∀ v : Int, (if s < 0 ∨ n ≤ s then (3 : Int) else 0) = v → True) := hide (fun _ _ => trivial)
    clear HV
    by_cases h1 : s < 0
    · rw [if_pos (.inl h1)]
      go_enter Try.func52, Try.ntmps52
      go_wp2_with (first
        | (go_at_call 39; refine HS.out.mono ?_; rintro _ _ ⟨rfl, rfl⟩))
      go_ret
      exact ⟨rfl, rfl⟩
    · have hd : decide (s < 0) = false := by simpa using h1
      by_cases h2 : n ≤ s
      · rw [if_pos (.inr h2)]
        go_enter Try.func52, Try.ntmps52
        go_wp2_with (first
          | (go_at_call 39; refine HS.out.mono ?_; rintro _ _ ⟨rfl, rfl⟩))
        go_ret
        exact ⟨rfl, rfl⟩
      · rw [if_neg (by omega)]
        have hd2 : decide (n ≤ s) = false := by simpa using h2
        go_enter Try.func52, Try.ntmps52
        go_wp2_with (first
          | (go_at_call 39; refine HS.out.mono ?_; rintro _ _ ⟨rfl, rfl⟩))
        go_ret
        exact ⟨rfl, rfl⟩
end
#print axioms rin_any
end Go.Proofs.Ytgoglgghnjgcdaa
