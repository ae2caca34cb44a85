/- Appending to one of two rows of the call's own: which block is written is told. No program is named here. -/
import Derived.Test.YthodmhjlokfcaaaAgg
namespace Go.Proofs.Ythodmhjlokfcaaa
open Go.RowKit
section
variable {P : Program} (w : World)
theorem wpList_append_two {ops : Array Oper} {rest : List Oper} {o : Oper} {a : Act} {Q : Exit → Act → World → Prop} (hgd : o.guard = none) (s x : Operand) (t : TypeId)
    (ho : o.op = .call { callee := .builtin .append, args := #[s, x], argTypes := #[t, t] })
    (base : Nat) (e : TypeId) (i : TypeInfo) (z : Value) (size bytes : Nat) (ht : P.underlying t = some (.slice e)) (hi : P.info? e = some i) (hz : i.zero = some z)
    (hsize : i.size = size) (hby : i.bytes = bytes) (hzs : z.cells.size = size) (hsz : 0 < size)
    (v : Value) (n : Nat) (xs : List Value) (hs : a.eval s = v) (hown : w.ownsRow base e size v n xs)
    (B : Nat) (A : Option Addr) (m c : Nat) (news : List Value) (hx : a.eval x = .slice A m c) (hr : Reads w B size A m news) (h1 : ∀ u ∈ news, u.oneCell' = true)
    (h63 : n + m ≤ maxLen) (hbytes : (n + m) * bytes ≤ 140737488355328) (hbase : base ≤ w.heap.size)
    (h : ∀ v' w', w'.ownsRow base e size v' (n + m) (xs ++ news) → w.grownBy w' v.ownBlock → (v'.ownBlock = v.ownBlock ∨ v'.ownBlock = some w.heap.size) → wpList P ops Q rest (a.put o.dst v') w') : wpList P ops Q (o :: rest) a w :=
  wpList_plain hgd fun _ hK => by
    obtain ⟨v', w', hrun, h2, h3, h4⟩ := run_append_any (P := P) w base t o.type e i z size bytes ht hi hz hsize hby hzs hsz v n xs hown B A m c news hr h1 h63 hbytes hbase
    unfold Oper.wp execOp
    simp only [ho, resolve, invoke, builtin, Sem.run_bind, Sem.run_pure, Result.andThen_ok, List.map_toArray, List.map_cons, List.map_nil, hs, hx, hrun]
    exact hK _ _ (h v' w' h2 h3 h4)
/-- The walk stands at the operation that writes this slot; at this store. -/
theorem at_slot {ops : Array Oper} {Q : Exit → Act → World → Prop} {rest : List Oper} {op : Op} {ty : TypeId} {pos : String} {aft : Array Edge} {g : Option (Nat × Bool)} {a : Act} {w : World} (k : Tmp) (h : wpList P ops Q (⟨some k, op, ty, pos, aft, g⟩ :: rest) a w) : wpList P ops Q (⟨some k, op, ty, pos, aft, g⟩ :: rest) a w := h
theorem at_store {ops : Array Oper} {Q : Exit → Act → World → Prop} {rest : List Oper} {d : Option Tmp} {t ty : TypeId} {x : Operand} {pos : String} {aft : Array Edge} {g : Option (Nat × Bool)} {a : Act} {w : World} (k : Tmp) (h : wpList P ops Q (⟨d, .store t (.tmp k) x, ty, pos, aft, g⟩ :: rest) a w) : wpList P ops Q (⟨d, .store t (.tmp k) x, ty, pos, aft, g⟩ :: rest) a w := h
/-- Two rows of the call's own, in blocks of their own each. -/
def Apart (u v : Value) : Prop := ∀ g, u.ownBlock = some g → v.ownBlock ≠ some g
end
section
variable {w w' : World} {base e1 e2 s1 s2 n m : Nat} {u v u' : Value} {xs ys : List Value}
theorem Apart.symm (h : Apart u v) : Apart v u := fun g h1 h2 => h g h2 h1
theorem Apart.nil : Apart (.slice none 0 0) v := fun g h => by simp [Value.ownBlock] at h
/-- The other row stands when one is appended to. -/
theorem own_other {e : TypeId} (h : w.ownsRow base e s2 v m ys) (hg : w.grownBy w' u.ownBlock) (ha : Apart u v) : w'.ownsRow base e s2 v m ys := by
  refine h.kept hg ?_
  cases hv : v.ownBlock with
  | none => exact .inl rfl
  | some g => exact .inr (fun e => ha g e.symm hv)
theorem Apart.next {e : TypeId} (ha : Apart u v) (hv : w.ownsRow base e s2 v m ys) (h : u'.ownBlock = u.ownBlock ∨ u'.ownBlock = some w.heap.size) : Apart u' v := by
  intro g h1 h2
  rcases h with h | h
  · exact ha g (h ▸ h1) h2
  · have := (hv.lt g h2).2
    rw [h] at h1
    injection h1 with h1
    omega
end
#print axioms wpList_append_two
end Go.Proofs.Ythodmhjlokfcaaa
