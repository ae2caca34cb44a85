/-
  No cell of these rows narrows 'for every input' (looked for: loops, veiled, ifaces, maps, wideKeys, modest, calm, conditions, laid).
  DERIVED. THE GIVEN ROWS OF THIS SEAT. 6 by the template 'for every input the law returns true; each argument reads behind the call as it read before'; 0 by the template 'total and deterministic' (their statements: YtfjgpnjhmfcpiaaTotals.lean).
  GIVEN WITH THE SEED: the statements are not yours to turn. If you find one false, say at which input.
  Laid BY PROGRAM, IN A SANDBOX (cutbox-rows.mjs): the forced cells as the released guide's own fill.sh prints them over the translation 165cc7adcf3beaf0… (all of the seat's roots in one cut). By AI agents, Wed Nov 11 2026. No macro, syntax, notation, axiom, sorry.
-/
import Derived.Test.YtfjgpnjhmfcpiaaChecked
import GoSem.Claim
import GoSem.ClaimJoined
import GoSem.ClaimMapViews
import Derived.JoinedTies
import Derived.KernelRfl
namespace Go.Proofs.Ytfjgpnjhmfcpiaa
/- THE CELL 'sum', in the pinned program and in every row, IS THE sha256 OF THE DUMP (.gsa) THAT YtfjgpnjhmfcpiaaProg.lean LOADS. Nothing in Lean hashes anything: it is a label: what it is worth is what the hold of that sum in a sandbox is worth. -/
noncomputable def Try.pinned : Pinned := { name := "ytfjgpnjhmfcpiaa", sum := "165cc7adcf3beaf0444141120666e02e29c107eab2ee3cce5e34995793bb4de9", checked := Try.checked }
namespace Rows
def none {H : Type} : Left H := { results := [], args := [] }

/-- 'braidworklaw15.VmapPlays': WHATEVER THE INPUT: true; the input reads as it did. -/
def vmapPlaysSpec : ChangeSpec := { name := "vmapPlays", fn := fun _ => fun
  | [d1, d2, d3, d4] => { results := [.lit (.bool true)], args := [d1, d2, d3, d4] }
  | _ => none }
def vmapPlaysRow : OpenClaim := { program := "ytfjgpnjhmfcpiaa", sum := "165cc7adcf3beaf0444141120666e02e29c107eab2ee3cce5e34995793bb4de9", func := "braidwork/braidworklaw15.VmapPlays", spec := "vmapPlays", plainKeys := false, apart := false }
def VmapPlaysSaid : Prop := vmapPlaysRow.holds Try.pinned (OpenSpec.ofChange vmapPlaysSpec)

/-- ITS FALSE NEIGHBOUR: 'it returns false'. Refute it at one input. -/
def vmapPlaysWrong : ChangeSpec := { name := "vmapPlays", fn := fun _ => fun
  | [d1, d2, d3, d4] => { results := [.lit (.bool false)], args := [d1, d2, d3, d4] }
  | _ => none }
def VmapPlaysWrongFalsely : Prop := vmapPlaysRow.holds Try.pinned (OpenSpec.ofChange vmapPlaysWrong)

/-- 'braidworklaw15.VmapOne': WHATEVER THE INPUT: true; the input reads as it did. -/
def vmapOneSpec : ChangeSpec := { name := "vmapOne", fn := fun _ => fun
  | [d1, d2] => { results := [.lit (.bool true)], args := [d1, d2] }
  | _ => none }
def vmapOneRow : OpenClaim := { program := "ytfjgpnjhmfcpiaa", sum := "165cc7adcf3beaf0444141120666e02e29c107eab2ee3cce5e34995793bb4de9", func := "braidwork/braidworklaw15.VmapOne", spec := "vmapOne", plainKeys := false, apart := false }
def VmapOneSaid : Prop := vmapOneRow.holds Try.pinned (OpenSpec.ofChange vmapOneSpec)

/-- ITS FALSE NEIGHBOUR: 'it returns false'. Refute it at one input. -/
def vmapOneWrong : ChangeSpec := { name := "vmapOne", fn := fun _ => fun
  | [d1, d2] => { results := [.lit (.bool false)], args := [d1, d2] }
  | _ => none }
def VmapOneWrongFalsely : Prop := vmapOneRow.holds Try.pinned (OpenSpec.ofChange vmapOneWrong)

/-- 'braidworklaw15.VmapSwaps': WHATEVER THE INPUT: true; the input reads as it did. -/
def vmapSwapsSpec : ChangeSpec := { name := "vmapSwaps", fn := fun _ => fun
  | [d1, d2, d3, d4] => { results := [.lit (.bool true)], args := [d1, d2, d3, d4] }
  | _ => none }
def vmapSwapsRow : OpenClaim := { program := "ytfjgpnjhmfcpiaa", sum := "165cc7adcf3beaf0444141120666e02e29c107eab2ee3cce5e34995793bb4de9", func := "braidwork/braidworklaw15.VmapSwaps", spec := "vmapSwaps", plainKeys := false, apart := false }
def VmapSwapsSaid : Prop := vmapSwapsRow.holds Try.pinned (OpenSpec.ofChange vmapSwapsSpec)

/-- ITS FALSE NEIGHBOUR: 'it returns false'. Refute it at one input. -/
def vmapSwapsWrong : ChangeSpec := { name := "vmapSwaps", fn := fun _ => fun
  | [d1, d2, d3, d4] => { results := [.lit (.bool false)], args := [d1, d2, d3, d4] }
  | _ => none }
def VmapSwapsWrongFalsely : Prop := vmapSwapsRow.holds Try.pinned (OpenSpec.ofChange vmapSwapsWrong)

/-- 'braidworklaw15.VmapBounds': WHATEVER THE INPUT: true; the input reads as it did. -/
def vmapBoundsSpec : ChangeSpec := { name := "vmapBounds", fn := fun _ => fun
  | [d] => { results := [.lit (.bool true)], args := [d] }
  | _ => none }
def vmapBoundsRow : OpenClaim := { program := "ytfjgpnjhmfcpiaa", sum := "165cc7adcf3beaf0444141120666e02e29c107eab2ee3cce5e34995793bb4de9", func := "braidwork/braidworklaw15.VmapBounds", spec := "vmapBounds", plainKeys := false, apart := false }
def VmapBoundsSaid : Prop := vmapBoundsRow.holds Try.pinned (OpenSpec.ofChange vmapBoundsSpec)

/-- ITS FALSE NEIGHBOUR: 'it returns false'. Refute it at one input. -/
def vmapBoundsWrong : ChangeSpec := { name := "vmapBounds", fn := fun _ => fun
  | [d] => { results := [.lit (.bool false)], args := [d] }
  | _ => none }
def VmapBoundsWrongFalsely : Prop := vmapBoundsRow.holds Try.pinned (OpenSpec.ofChange vmapBoundsWrong)

/-- 'braidworklaw15.VmapGroups': WHATEVER THE INPUT: true; the input reads as it did. -/
def vmapGroupsSpec : ChangeSpec := { name := "vmapGroups", fn := fun _ => fun
  | [d1, d2] => { results := [.lit (.bool true)], args := [d1, d2] }
  | _ => none }
def vmapGroupsRow : OpenClaim := { program := "ytfjgpnjhmfcpiaa", sum := "165cc7adcf3beaf0444141120666e02e29c107eab2ee3cce5e34995793bb4de9", func := "braidwork/braidworklaw15.VmapGroups", spec := "vmapGroups", plainKeys := false, apart := false }
def VmapGroupsSaid : Prop := vmapGroupsRow.holds Try.pinned (OpenSpec.ofChange vmapGroupsSpec)

/-- ITS FALSE NEIGHBOUR: 'it returns false'. Refute it at one input. -/
def vmapGroupsWrong : ChangeSpec := { name := "vmapGroups", fn := fun _ => fun
  | [d1, d2] => { results := [.lit (.bool false)], args := [d1, d2] }
  | _ => none }
def VmapGroupsWrongFalsely : Prop := vmapGroupsRow.holds Try.pinned (OpenSpec.ofChange vmapGroupsWrong)

/-- 'braidworklaw15.VmapWhole': WHATEVER THE INPUT: true; the input reads as it did. -/
def vmapWholeSpec : ChangeSpec := { name := "vmapWhole", fn := fun _ => fun
  | [d1, d2] => { results := [.lit (.bool true)], args := [d1, d2] }
  | _ => none }
def vmapWholeRow : OpenClaim := { program := "ytfjgpnjhmfcpiaa", sum := "165cc7adcf3beaf0444141120666e02e29c107eab2ee3cce5e34995793bb4de9", func := "braidwork/braidworklaw15.VmapWhole", spec := "vmapWhole", plainKeys := false, apart := false }
def VmapWholeSaid : Prop := vmapWholeRow.holds Try.pinned (OpenSpec.ofChange vmapWholeSpec)

/-- ITS FALSE NEIGHBOUR: 'it returns false'. Refute it at one input. -/
def vmapWholeWrong : ChangeSpec := { name := "vmapWhole", fn := fun _ => fun
  | [d1, d2] => { results := [.lit (.bool false)], args := [d1, d2] }
  | _ => none }
def VmapWholeWrongFalsely : Prop := vmapWholeRow.holds Try.pinned (OpenSpec.ofChange vmapWholeWrong)

/- THE SECOND FORM. 'bulk': how many values and letters a reading holds, each counted each time it is reached (what is shared counts as often as it is met; a slice's spare places count too). A statement '..UptoSaid' is the law's where the arguments, and the package variables that the reading takes, are together of bulk at most 1048576: NARROWER than '..Said'. Prove '..Said' where nothing that the law and all that it calls make is longer than what came in: it says more and counts as full. Else prove '..UptoSaid'. A law counts once. -/
mutual
def uptoBulk {H : Type} : DataW H → Nat
  | .lit (.string bytes) => bytes.length + 1
  | .lit _ => 1
  | .nil => 1
  | .ptr d => uptoBulk d + 1
  | .slice elems spare => uptoBulkAll elems + uptoBulkAll spare + 1
  | .agg parts => uptoBulkAll parts + 1
  | .iface _ d => uptoBulk d + 1
  | .map entries => uptoBulkEntries entries + 1
  | .held _ => 1
def uptoBulkAll {H : Type} : List (DataW H) → Nat
  | [] => 0
  | d :: r => uptoBulk d + uptoBulkAll r
def uptoBulkEntries {H : Type} : List (Lit × DataW H) → Nat
  | [] => 0
  | x :: r => uptoBulkEntry x + uptoBulkEntries r
def uptoBulkEntry {H : Type} : Lit × DataW H → Nat
  | (.string bytes, d) => bytes.length + uptoBulk d + 1
  | (_, d) => uptoBulk d + 1
 end
def uptoSmall : (H : Type) → List (DataW H) → Bool := fun _ ds => decide (uptoBulkAll ds ≤ 1048576)
def OpenSpec.upto (s : _root_.Go.ChangeSpec) : _root_.Go.OpenSpec := { _root_.Go.OpenSpec.ofChange s with cond := some uptoSmall }

/-- 'braidworklaw15.VmapPlays', WHERE WHAT IT READS IS OF BULK AT MOST 1048576: true; the input reads as it did. -/
def vmapPlaysUptoRow : OpenClaim := { program := "ytfjgpnjhmfcpiaa", sum := "165cc7adcf3beaf0444141120666e02e29c107eab2ee3cce5e34995793bb4de9", func := "braidwork/braidworklaw15.VmapPlays", spec := "vmapPlays", plainKeys := false, apart := false, narrowed := true }
def VmapPlaysUptoSaid : Prop := vmapPlaysUptoRow.holds Try.pinned (OpenSpec.upto vmapPlaysSpec)

/-- 'braidworklaw15.VmapOne', WHERE WHAT IT READS IS OF BULK AT MOST 1048576: true; the input reads as it did. -/
def vmapOneUptoRow : OpenClaim := { program := "ytfjgpnjhmfcpiaa", sum := "165cc7adcf3beaf0444141120666e02e29c107eab2ee3cce5e34995793bb4de9", func := "braidwork/braidworklaw15.VmapOne", spec := "vmapOne", plainKeys := false, apart := false, narrowed := true }
def VmapOneUptoSaid : Prop := vmapOneUptoRow.holds Try.pinned (OpenSpec.upto vmapOneSpec)

/-- 'braidworklaw15.VmapSwaps', WHERE WHAT IT READS IS OF BULK AT MOST 1048576: true; the input reads as it did. -/
def vmapSwapsUptoRow : OpenClaim := { program := "ytfjgpnjhmfcpiaa", sum := "165cc7adcf3beaf0444141120666e02e29c107eab2ee3cce5e34995793bb4de9", func := "braidwork/braidworklaw15.VmapSwaps", spec := "vmapSwaps", plainKeys := false, apart := false, narrowed := true }
def VmapSwapsUptoSaid : Prop := vmapSwapsUptoRow.holds Try.pinned (OpenSpec.upto vmapSwapsSpec)

/-- 'braidworklaw15.VmapBounds', WHERE WHAT IT READS IS OF BULK AT MOST 1048576: true; the input reads as it did. -/
def vmapBoundsUptoRow : OpenClaim := { program := "ytfjgpnjhmfcpiaa", sum := "165cc7adcf3beaf0444141120666e02e29c107eab2ee3cce5e34995793bb4de9", func := "braidwork/braidworklaw15.VmapBounds", spec := "vmapBounds", plainKeys := false, apart := false, narrowed := true }
def VmapBoundsUptoSaid : Prop := vmapBoundsUptoRow.holds Try.pinned (OpenSpec.upto vmapBoundsSpec)

/-- 'braidworklaw15.VmapGroups', WHERE WHAT IT READS IS OF BULK AT MOST 1048576: true; the input reads as it did. -/
def vmapGroupsUptoRow : OpenClaim := { program := "ytfjgpnjhmfcpiaa", sum := "165cc7adcf3beaf0444141120666e02e29c107eab2ee3cce5e34995793bb4de9", func := "braidwork/braidworklaw15.VmapGroups", spec := "vmapGroups", plainKeys := false, apart := false, narrowed := true }
def VmapGroupsUptoSaid : Prop := vmapGroupsUptoRow.holds Try.pinned (OpenSpec.upto vmapGroupsSpec)

/-- 'braidworklaw15.VmapWhole', WHERE WHAT IT READS IS OF BULK AT MOST 1048576: true; the input reads as it did. -/
def vmapWholeUptoRow : OpenClaim := { program := "ytfjgpnjhmfcpiaa", sum := "165cc7adcf3beaf0444141120666e02e29c107eab2ee3cce5e34995793bb4de9", func := "braidwork/braidworklaw15.VmapWhole", spec := "vmapWhole", plainKeys := false, apart := false, narrowed := true }
def VmapWholeUptoSaid : Prop := vmapWholeUptoRow.holds Try.pinned (OpenSpec.upto vmapWholeSpec)

end Rows
end Go.Proofs.Ytfjgpnjhmfcpiaa
