/-
  No cell of these rows narrows 'for every input' (looked for: loops, veiled, ifaces, maps, wideKeys, modest, calm, conditions, laid).
  DERIVED. THE GIVEN ROWS OF THIS SEAT. 7 by the template 'for every input the law returns true; each argument reads behind the call as it read before'; 0 by the template 'total and deterministic' (their statements: YtbbfgcekjelmkaaTotals.lean).
  GIVEN WITH THE SEED: the statements are not yours to turn. If you find one false, say at which input.
  Laid BY PROGRAM, IN A SANDBOX (cutbox-rows.mjs): the forced cells as the released guide's own fill.sh prints them over the translation 7c24ac2ffdc849a8… (all of the seat's roots in one cut). By AI agents, Wed Nov 11 2026. No macro, syntax, notation, axiom, sorry.
-/
import Derived.Test.YtbbfgcekjelmkaaChecked
import GoSem.Claim
import GoSem.ClaimJoined
import GoSem.ClaimMapViews
import Derived.JoinedTies
import Derived.KernelRfl
namespace Go.Proofs.Ytbbfgcekjelmkaa
/- THE CELL 'sum', in the pinned program and in every row, IS THE sha256 OF THE DUMP (.gsa) THAT YtbbfgcekjelmkaaProg.lean LOADS. Nothing in Lean hashes anything: it is a label: what it is worth is what the hold of that sum in a sandbox is worth. -/
noncomputable def Try.pinned : Pinned := { name := "ytbbfgcekjelmkaa", sum := "7c24ac2ffdc849a80bbdc687b861be74f09c2d81723fc17a2d5934f66565ab33", checked := Try.checked }
namespace Rows
def none {H : Type} : Left H := { results := [], args := [] }

/-- 'braidworklaw04.LabelTells': WHATEVER THE INPUT: true; the input reads as it did. -/
def labelTellsSpec : ChangeSpec := { name := "labelTells", fn := fun _ => fun
  | [d1, d2] => { results := [.lit (.bool true)], args := [d1, d2] }
  | _ => none }
def labelTellsRow : OpenClaim := { program := "ytbbfgcekjelmkaa", sum := "7c24ac2ffdc849a80bbdc687b861be74f09c2d81723fc17a2d5934f66565ab33", func := "braidwork/braidworklaw04.LabelTells", spec := "labelTells", unfollowed := true, recurses := true, apart := false }
def LabelTellsSaid : Prop := labelTellsRow.holds Try.pinned (OpenSpec.ofChange labelTellsSpec)

/-- ITS FALSE NEIGHBOUR: 'it returns false'. Refute it at one input. -/
def labelTellsWrong : ChangeSpec := { name := "labelTells", fn := fun _ => fun
  | [d1, d2] => { results := [.lit (.bool false)], args := [d1, d2] }
  | _ => none }
def LabelTellsWrongFalsely : Prop := labelTellsRow.holds Try.pinned (OpenSpec.ofChange labelTellsWrong)

/-- 'braidworklaw04.LabelBack': WHATEVER THE INPUT: true; the input reads as it did. -/
def labelBackSpec : ChangeSpec := { name := "labelBack", fn := fun _ => fun
  | [d1, d2] => { results := [.lit (.bool true)], args := [d1, d2] }
  | _ => none }
def labelBackRow : OpenClaim := { program := "ytbbfgcekjelmkaa", sum := "7c24ac2ffdc849a80bbdc687b861be74f09c2d81723fc17a2d5934f66565ab33", func := "braidwork/braidworklaw04.LabelBack", spec := "labelBack", unfollowed := true, recurses := true, apart := false }
def LabelBackSaid : Prop := labelBackRow.holds Try.pinned (OpenSpec.ofChange labelBackSpec)

/-- ITS FALSE NEIGHBOUR: 'it returns false'. Refute it at one input. -/
def labelBackWrong : ChangeSpec := { name := "labelBack", fn := fun _ => fun
  | [d1, d2] => { results := [.lit (.bool false)], args := [d1, d2] }
  | _ => none }
def LabelBackWrongFalsely : Prop := labelBackRow.holds Try.pinned (OpenSpec.ofChange labelBackWrong)

/-- 'braidworklaw04.LabelSaves': WHATEVER THE INPUT: true; the input reads as it did. -/
def labelSavesSpec : ChangeSpec := { name := "labelSaves", fn := fun _ => fun
  | [d1, d2, d3, d4, d5, d6] => { results := [.lit (.bool true)], args := [d1, d2, d3, d4, d5, d6] }
  | _ => none }
def labelSavesRow : OpenClaim := { program := "ytbbfgcekjelmkaa", sum := "7c24ac2ffdc849a80bbdc687b861be74f09c2d81723fc17a2d5934f66565ab33", func := "braidwork/braidworklaw04.LabelSaves", spec := "labelSaves", unfollowed := true, recurses := true, apart := false }
def LabelSavesSaid : Prop := labelSavesRow.holds Try.pinned (OpenSpec.ofChange labelSavesSpec)

/-- ITS FALSE NEIGHBOUR: 'it returns false'. Refute it at one input. -/
def labelSavesWrong : ChangeSpec := { name := "labelSaves", fn := fun _ => fun
  | [d1, d2, d3, d4, d5, d6] => { results := [.lit (.bool false)], args := [d1, d2, d3, d4, d5, d6] }
  | _ => none }
def LabelSavesWrongFalsely : Prop := labelSavesRow.holds Try.pinned (OpenSpec.ofChange labelSavesWrong)

/-- 'braidworklaw04.LabelLasts': WHATEVER THE INPUT: true; the input reads as it did. -/
def labelLastsSpec : ChangeSpec := { name := "labelLasts", fn := fun _ => fun
  | [d1, d2, d3, d4] => { results := [.lit (.bool true)], args := [d1, d2, d3, d4] }
  | _ => none }
def labelLastsRow : OpenClaim := { program := "ytbbfgcekjelmkaa", sum := "7c24ac2ffdc849a80bbdc687b861be74f09c2d81723fc17a2d5934f66565ab33", func := "braidwork/braidworklaw04.LabelLasts", spec := "labelLasts", unfollowed := true, recurses := true, apart := false }
def LabelLastsSaid : Prop := labelLastsRow.holds Try.pinned (OpenSpec.ofChange labelLastsSpec)

/-- ITS FALSE NEIGHBOUR: 'it returns false'. Refute it at one input. -/
def labelLastsWrong : ChangeSpec := { name := "labelLasts", fn := fun _ => fun
  | [d1, d2, d3, d4] => { results := [.lit (.bool false)], args := [d1, d2, d3, d4] }
  | _ => none }
def LabelLastsWrongFalsely : Prop := labelLastsRow.holds Try.pinned (OpenSpec.ofChange labelLastsWrong)

/-- 'braidworklaw04.LabelPlaces': WHATEVER THE INPUT: true; the input reads as it did. -/
def labelPlacesSpec : ChangeSpec := { name := "labelPlaces", fn := fun _ => fun
  | [d1, d2, d3] => { results := [.lit (.bool true)], args := [d1, d2, d3] }
  | _ => none }
def labelPlacesRow : OpenClaim := { program := "ytbbfgcekjelmkaa", sum := "7c24ac2ffdc849a80bbdc687b861be74f09c2d81723fc17a2d5934f66565ab33", func := "braidwork/braidworklaw04.LabelPlaces", spec := "labelPlaces", unfollowed := true, recurses := true, apart := false }
def LabelPlacesSaid : Prop := labelPlacesRow.holds Try.pinned (OpenSpec.ofChange labelPlacesSpec)

/-- ITS FALSE NEIGHBOUR: 'it returns false'. Refute it at one input. -/
def labelPlacesWrong : ChangeSpec := { name := "labelPlaces", fn := fun _ => fun
  | [d1, d2, d3] => { results := [.lit (.bool false)], args := [d1, d2, d3] }
  | _ => none }
def LabelPlacesWrongFalsely : Prop := labelPlacesRow.holds Try.pinned (OpenSpec.ofChange labelPlacesWrong)

/-- 'braidworklaw04.LabelNewer': WHATEVER THE INPUT: true; the input reads as it did. -/
def labelNewerSpec : ChangeSpec := { name := "labelNewer", fn := fun _ => fun
  | [d1, d2, d3] => { results := [.lit (.bool true)], args := [d1, d2, d3] }
  | _ => none }
def labelNewerRow : OpenClaim := { program := "ytbbfgcekjelmkaa", sum := "7c24ac2ffdc849a80bbdc687b861be74f09c2d81723fc17a2d5934f66565ab33", func := "braidwork/braidworklaw04.LabelNewer", spec := "labelNewer", unfollowed := true, recurses := true, apart := false }
def LabelNewerSaid : Prop := labelNewerRow.holds Try.pinned (OpenSpec.ofChange labelNewerSpec)

/-- ITS FALSE NEIGHBOUR: 'it returns false'. Refute it at one input. -/
def labelNewerWrong : ChangeSpec := { name := "labelNewer", fn := fun _ => fun
  | [d1, d2, d3] => { results := [.lit (.bool false)], args := [d1, d2, d3] }
  | _ => none }
def LabelNewerWrongFalsely : Prop := labelNewerRow.holds Try.pinned (OpenSpec.ofChange labelNewerWrong)

/-- 'braidworklaw04.LabelMembers': WHATEVER THE INPUT: true; the input reads as it did. -/
def labelMembersSpec : ChangeSpec := { name := "labelMembers", fn := fun _ => fun
  | [d1, d2] => { results := [.lit (.bool true)], args := [d1, d2] }
  | _ => none }
def labelMembersRow : OpenClaim := { program := "ytbbfgcekjelmkaa", sum := "7c24ac2ffdc849a80bbdc687b861be74f09c2d81723fc17a2d5934f66565ab33", func := "braidwork/braidworklaw04.LabelMembers", spec := "labelMembers", unfollowed := true, recurses := true, apart := false }
def LabelMembersSaid : Prop := labelMembersRow.holds Try.pinned (OpenSpec.ofChange labelMembersSpec)

/-- ITS FALSE NEIGHBOUR: 'it returns false'. Refute it at one input. -/
def labelMembersWrong : ChangeSpec := { name := "labelMembers", fn := fun _ => fun
  | [d1, d2] => { results := [.lit (.bool false)], args := [d1, d2] }
  | _ => none }
def LabelMembersWrongFalsely : Prop := labelMembersRow.holds Try.pinned (OpenSpec.ofChange labelMembersWrong)

/- THE SECOND FORM. 'bulk': how many values and letters a reading holds, each counted each time it is reached (what is shared counts as often as it is met; a slice's spare places count too). A statement '..UptoSaid' is the law's where the arguments, and the package variables that the reading takes, are together of bulk at most 1048576: NARROWER than '..Said'. Prove '..Said' where nothing that the law and all that it calls make is longer than what came in: it says more and counts as full. Else prove '..UptoSaid'. A law counts once. -/
mutual
def uptoBulk {H : Type} : DataW H → Nat
  | .lit (.string bytes) => bytes.length + 1
  | .lit _ => 1
  | .nil => 1
  | .ptr d => uptoBulk d + 1
  | .slice elems spare => uptoBulkAll elems + uptoBulkAll spare + 1
  | .agg parts => uptoBulkAll parts + 1
  | .iface _ d => uptoBulk d + 1
  | .map entries => uptoBulkEntries entries + 1
  | .held _ => 1
def uptoBulkAll {H : Type} : List (DataW H) → Nat
  | [] => 0
  | d :: r => uptoBulk d + uptoBulkAll r
def uptoBulkEntries {H : Type} : List (Lit × DataW H) → Nat
  | [] => 0
  | x :: r => uptoBulkEntry x + uptoBulkEntries r
def uptoBulkEntry {H : Type} : Lit × DataW H → Nat
  | (.string bytes, d) => bytes.length + uptoBulk d + 1
  | (_, d) => uptoBulk d + 1
 end
def uptoSmall : (H : Type) → List (DataW H) → Bool := fun _ ds => decide (uptoBulkAll ds ≤ 1048576)
def OpenSpec.upto (s : _root_.Go.ChangeSpec) : _root_.Go.OpenSpec := { _root_.Go.OpenSpec.ofChange s with cond := some uptoSmall }

/-- 'braidworklaw04.LabelTells', WHERE WHAT IT READS IS OF BULK AT MOST 1048576: true; the input reads as it did. -/
def labelTellsUptoRow : OpenClaim := { program := "ytbbfgcekjelmkaa", sum := "7c24ac2ffdc849a80bbdc687b861be74f09c2d81723fc17a2d5934f66565ab33", func := "braidwork/braidworklaw04.LabelTells", spec := "labelTells", unfollowed := true, recurses := true, apart := false, narrowed := true }
def LabelTellsUptoSaid : Prop := labelTellsUptoRow.holds Try.pinned (OpenSpec.upto labelTellsSpec)

/-- 'braidworklaw04.LabelBack', WHERE WHAT IT READS IS OF BULK AT MOST 1048576: true; the input reads as it did. -/
def labelBackUptoRow : OpenClaim := { program := "ytbbfgcekjelmkaa", sum := "7c24ac2ffdc849a80bbdc687b861be74f09c2d81723fc17a2d5934f66565ab33", func := "braidwork/braidworklaw04.LabelBack", spec := "labelBack", unfollowed := true, recurses := true, apart := false, narrowed := true }
def LabelBackUptoSaid : Prop := labelBackUptoRow.holds Try.pinned (OpenSpec.upto labelBackSpec)

/-- 'braidworklaw04.LabelSaves', WHERE WHAT IT READS IS OF BULK AT MOST 1048576: true; the input reads as it did. -/
def labelSavesUptoRow : OpenClaim := { program := "ytbbfgcekjelmkaa", sum := "7c24ac2ffdc849a80bbdc687b861be74f09c2d81723fc17a2d5934f66565ab33", func := "braidwork/braidworklaw04.LabelSaves", spec := "labelSaves", unfollowed := true, recurses := true, apart := false, narrowed := true }
def LabelSavesUptoSaid : Prop := labelSavesUptoRow.holds Try.pinned (OpenSpec.upto labelSavesSpec)

/-- 'braidworklaw04.LabelLasts', WHERE WHAT IT READS IS OF BULK AT MOST 1048576: true; the input reads as it did. -/
def labelLastsUptoRow : OpenClaim := { program := "ytbbfgcekjelmkaa", sum := "7c24ac2ffdc849a80bbdc687b861be74f09c2d81723fc17a2d5934f66565ab33", func := "braidwork/braidworklaw04.LabelLasts", spec := "labelLasts", unfollowed := true, recurses := true, apart := false, narrowed := true }
def LabelLastsUptoSaid : Prop := labelLastsUptoRow.holds Try.pinned (OpenSpec.upto labelLastsSpec)

/-- 'braidworklaw04.LabelPlaces', WHERE WHAT IT READS IS OF BULK AT MOST 1048576: true; the input reads as it did. -/
def labelPlacesUptoRow : OpenClaim := { program := "ytbbfgcekjelmkaa", sum := "7c24ac2ffdc849a80bbdc687b861be74f09c2d81723fc17a2d5934f66565ab33", func := "braidwork/braidworklaw04.LabelPlaces", spec := "labelPlaces", unfollowed := true, recurses := true, apart := false, narrowed := true }
def LabelPlacesUptoSaid : Prop := labelPlacesUptoRow.holds Try.pinned (OpenSpec.upto labelPlacesSpec)

/-- 'braidworklaw04.LabelNewer', WHERE WHAT IT READS IS OF BULK AT MOST 1048576: true; the input reads as it did. -/
def labelNewerUptoRow : OpenClaim := { program := "ytbbfgcekjelmkaa", sum := "7c24ac2ffdc849a80bbdc687b861be74f09c2d81723fc17a2d5934f66565ab33", func := "braidwork/braidworklaw04.LabelNewer", spec := "labelNewer", unfollowed := true, recurses := true, apart := false, narrowed := true }
def LabelNewerUptoSaid : Prop := labelNewerUptoRow.holds Try.pinned (OpenSpec.upto labelNewerSpec)

/-- 'braidworklaw04.LabelMembers', WHERE WHAT IT READS IS OF BULK AT MOST 1048576: true; the input reads as it did. -/
def labelMembersUptoRow : OpenClaim := { program := "ytbbfgcekjelmkaa", sum := "7c24ac2ffdc849a80bbdc687b861be74f09c2d81723fc17a2d5934f66565ab33", func := "braidwork/braidworklaw04.LabelMembers", spec := "labelMembers", unfollowed := true, recurses := true, apart := false, narrowed := true }
def LabelMembersUptoSaid : Prop := labelMembersUptoRow.holds Try.pinned (OpenSpec.upto labelMembersSpec)

end Rows
end Go.Proofs.Ytbbfgcekjelmkaa
