/- Appending to one of two rows of the call's own: which block is written is told. No program is named here. -/
import Derived.Test.YtmjjnbabfldbcaaGreatAgg
namespace Go.Proofs.YtmjjnbabfldbcaaGreat
open Go.RowKit
section
variable {P : Program} (w : World)
/-- The walk stands at the operation that writes this slot; at this store. -/
theorem at_slot {ops : Array Oper} {Q : Exit → Act → World → Prop} {rest : List Oper} {op : Op} {ty : TypeId} {pos : String} {aft : Array Edge} {g : Option (Nat × Bool)} {a : Act} {w : World} (k : Tmp) (h : wpList P ops Q (⟨some k, op, ty, pos, aft, g⟩ :: rest) a w) : wpList P ops Q (⟨some k, op, ty, pos, aft, g⟩ :: rest) a w := h
theorem at_store {ops : Array Oper} {Q : Exit → Act → World → Prop} {rest : List Oper} {d : Option Tmp} {t ty : TypeId} {x : Operand} {pos : String} {aft : Array Edge} {g : Option (Nat × Bool)} {a : Act} {w : World} (k : Tmp) (h : wpList P ops Q (⟨d, .store t (.tmp k) x, ty, pos, aft, g⟩ :: rest) a w) : wpList P ops Q (⟨d, .store t (.tmp k) x, ty, pos, aft, g⟩ :: rest) a w := h
/-- Two rows of the call's own, in blocks of their own each. -/
def Apart (u v : Value) : Prop := ∀ g, u.ownBlock = some g → v.ownBlock ≠ some g
end
section
variable {w w' : World} {base e1 e2 s1 s2 n m : Nat} {u v u' : Value} {xs ys : List Value}
end
end Go.Proofs.YtmjjnbabfldbcaaGreat
