/-
  No cell of these rows narrows 'for every input' (looked for: loops, veiled, ifaces, maps, wideKeys, modest, calm, conditions, laid).
  DERIVED. THE GIVEN ROWS OF THIS SEAT. 10 by the template 'for every input the law returns true; each argument reads behind the call as it read before'; 0 by the template 'total and deterministic' (their statements: YtmjdndhpnckeeaaTotals.lean).
  GIVEN WITH THE SEED: the statements are not yours to turn. If you find one false, say at which input.
  Laid BY PROGRAM, IN A SANDBOX (cutbox-rows.mjs): the forced cells as the released guide's own fill.sh prints them over the translation 1a6d7d74fdc5cd2a… (all of the seat's roots in one cut). By AI agents, Wed Nov 11 2026. No macro, syntax, notation, axiom, sorry.
-/
import Derived.Test.YtmjdndhpnckeeaaChecked
import GoSem.Claim
import GoSem.ClaimJoined
import GoSem.ClaimMapViews
import Derived.JoinedTies
import Derived.KernelRfl
namespace Go.Proofs.Ytmjdndhpnckeeaa
/- THE CELL 'sum', in the pinned program and in every row, IS THE sha256 OF THE DUMP (.gsa) THAT YtmjdndhpnckeeaaProg.lean LOADS. Nothing in Lean hashes anything: it is a label: what it is worth is what the hold of that sum in a sandbox is worth. -/
noncomputable def Try.pinned : Pinned := { name := "ytmjdndhpnckeeaa", sum := "1a6d7d74fdc5cd2af9aaaf541e64935d96ad979bd6b58a841ea0058dcdd64259", checked := Try.checked }
namespace Rows
def none {H : Type} : Left H := { results := [], args := [] }

/-- 'braidworklaw09.MetalogLasts': WHATEVER THE INPUT: true; the input reads as it did. -/
def metalogLastsSpec : ChangeSpec := { name := "metalogLasts", fn := fun _ => fun
  | [d1, d2, d3, d4] => { results := [.lit (.bool true)], args := [d1, d2, d3, d4] }
  | _ => none }
def metalogLastsRow : OpenClaim := { program := "ytmjdndhpnckeeaa", sum := "1a6d7d74fdc5cd2af9aaaf541e64935d96ad979bd6b58a841ea0058dcdd64259", func := "braidwork/braidworklaw09.MetalogLasts", spec := "metalogLasts", unfollowed := true, recurses := true, apart := false }
def MetalogLastsSaid : Prop := metalogLastsRow.holds Try.pinned (OpenSpec.ofChange metalogLastsSpec)

/-- ITS FALSE NEIGHBOUR: 'it returns false'. Refute it at one input. -/
def metalogLastsWrong : ChangeSpec := { name := "metalogLasts", fn := fun _ => fun
  | [d1, d2, d3, d4] => { results := [.lit (.bool false)], args := [d1, d2, d3, d4] }
  | _ => none }
def MetalogLastsWrongFalsely : Prop := metalogLastsRow.holds Try.pinned (OpenSpec.ofChange metalogLastsWrong)

/-- 'braidworklaw09.MetalogFull': WHATEVER THE INPUT: true; the input reads as it did. -/
def metalogFullSpec : ChangeSpec := { name := "metalogFull", fn := fun _ => fun
  | [d] => { results := [.lit (.bool true)], args := [d] }
  | _ => none }
def metalogFullRow : OpenClaim := { program := "ytmjdndhpnckeeaa", sum := "1a6d7d74fdc5cd2af9aaaf541e64935d96ad979bd6b58a841ea0058dcdd64259", func := "braidwork/braidworklaw09.MetalogFull", spec := "metalogFull", unfollowed := true, recurses := true, apart := false }
def MetalogFullSaid : Prop := metalogFullRow.holds Try.pinned (OpenSpec.ofChange metalogFullSpec)

/-- ITS FALSE NEIGHBOUR: 'it returns false'. Refute it at one input. -/
def metalogFullWrong : ChangeSpec := { name := "metalogFull", fn := fun _ => fun
  | [d] => { results := [.lit (.bool false)], args := [d] }
  | _ => none }
def MetalogFullWrongFalsely : Prop := metalogFullRow.holds Try.pinned (OpenSpec.ofChange metalogFullWrong)

/-- 'braidworklaw09.MetalogOlder': WHATEVER THE INPUT: true; the input reads as it did. -/
def metalogOlderSpec : ChangeSpec := { name := "metalogOlder", fn := fun _ => fun
  | [d1, d2, d3] => { results := [.lit (.bool true)], args := [d1, d2, d3] }
  | _ => none }
def metalogOlderRow : OpenClaim := { program := "ytmjdndhpnckeeaa", sum := "1a6d7d74fdc5cd2af9aaaf541e64935d96ad979bd6b58a841ea0058dcdd64259", func := "braidwork/braidworklaw09.MetalogOlder", spec := "metalogOlder", unfollowed := true, recurses := true, apart := false }
def MetalogOlderSaid : Prop := metalogOlderRow.holds Try.pinned (OpenSpec.ofChange metalogOlderSpec)

/-- ITS FALSE NEIGHBOUR: 'it returns false'. Refute it at one input. -/
def metalogOlderWrong : ChangeSpec := { name := "metalogOlder", fn := fun _ => fun
  | [d1, d2, d3] => { results := [.lit (.bool false)], args := [d1, d2, d3] }
  | _ => none }
def MetalogOlderWrongFalsely : Prop := metalogOlderRow.holds Try.pinned (OpenSpec.ofChange metalogOlderWrong)

/-- 'braidworklaw09.MetalogAny': WHATEVER THE INPUT: true; the input reads as it did. -/
def metalogAnySpec : ChangeSpec := { name := "metalogAny", fn := fun _ => fun
  | [d1, d2] => { results := [.lit (.bool true)], args := [d1, d2] }
  | _ => none }
def metalogAnyRow : OpenClaim := { program := "ytmjdndhpnckeeaa", sum := "1a6d7d74fdc5cd2af9aaaf541e64935d96ad979bd6b58a841ea0058dcdd64259", func := "braidwork/braidworklaw09.MetalogAny", spec := "metalogAny", unfollowed := true, recurses := true, apart := false }
def MetalogAnySaid : Prop := metalogAnyRow.holds Try.pinned (OpenSpec.ofChange metalogAnySpec)

/-- ITS FALSE NEIGHBOUR: 'it returns false'. Refute it at one input. -/
def metalogAnyWrong : ChangeSpec := { name := "metalogAny", fn := fun _ => fun
  | [d1, d2] => { results := [.lit (.bool false)], args := [d1, d2] }
  | _ => none }
def MetalogAnyWrongFalsely : Prop := metalogAnyRow.holds Try.pinned (OpenSpec.ofChange metalogAnyWrong)

/-- 'braidworklaw09.MetalogDead': WHATEVER THE INPUT: true; the input reads as it did. -/
def metalogDeadSpec : ChangeSpec := { name := "metalogDead", fn := fun _ => fun
  | [d1, d2, d3] => { results := [.lit (.bool true)], args := [d1, d2, d3] }
  | _ => none }
def metalogDeadRow : OpenClaim := { program := "ytmjdndhpnckeeaa", sum := "1a6d7d74fdc5cd2af9aaaf541e64935d96ad979bd6b58a841ea0058dcdd64259", func := "braidwork/braidworklaw09.MetalogDead", spec := "metalogDead", unfollowed := true, recurses := true, apart := false }
def MetalogDeadSaid : Prop := metalogDeadRow.holds Try.pinned (OpenSpec.ofChange metalogDeadSpec)

/-- ITS FALSE NEIGHBOUR: 'it returns false'. Refute it at one input. -/
def metalogDeadWrong : ChangeSpec := { name := "metalogDead", fn := fun _ => fun
  | [d1, d2, d3] => { results := [.lit (.bool false)], args := [d1, d2, d3] }
  | _ => none }
def MetalogDeadWrongFalsely : Prop := metalogDeadRow.holds Try.pinned (OpenSpec.ofChange metalogDeadWrong)

/-- 'braidworklaw09.MetalogTorn': WHATEVER THE INPUT: true; the input reads as it did. -/
def metalogTornSpec : ChangeSpec := { name := "metalogTorn", fn := fun _ => fun
  | [d1, d2] => { results := [.lit (.bool true)], args := [d1, d2] }
  | _ => none }
def metalogTornRow : OpenClaim := { program := "ytmjdndhpnckeeaa", sum := "1a6d7d74fdc5cd2af9aaaf541e64935d96ad979bd6b58a841ea0058dcdd64259", func := "braidwork/braidworklaw09.MetalogTorn", spec := "metalogTorn", unfollowed := true, recurses := true, apart := false }
def MetalogTornSaid : Prop := metalogTornRow.holds Try.pinned (OpenSpec.ofChange metalogTornSpec)

/-- ITS FALSE NEIGHBOUR: 'it returns false'. Refute it at one input. -/
def metalogTornWrong : ChangeSpec := { name := "metalogTorn", fn := fun _ => fun
  | [d1, d2] => { results := [.lit (.bool false)], args := [d1, d2] }
  | _ => none }
def MetalogTornWrongFalsely : Prop := metalogTornRow.holds Try.pinned (OpenSpec.ofChange metalogTornWrong)

/-- 'braidworklaw10.CheckLasts': WHATEVER THE INPUT: true; the input reads as it did. -/
def checkLastsSpec : ChangeSpec := { name := "checkLasts", fn := fun _ => fun
  | [d1, d2, d3, d4] => { results := [.lit (.bool true)], args := [d1, d2, d3, d4] }
  | _ => none }
def checkLastsRow : OpenClaim := { program := "ytmjdndhpnckeeaa", sum := "1a6d7d74fdc5cd2af9aaaf541e64935d96ad979bd6b58a841ea0058dcdd64259", func := "braidwork/braidworklaw10.CheckLasts", spec := "checkLasts", unfollowed := true, recurses := true, apart := false }
def CheckLastsSaid : Prop := checkLastsRow.holds Try.pinned (OpenSpec.ofChange checkLastsSpec)

/-- ITS FALSE NEIGHBOUR: 'it returns false'. Refute it at one input. -/
def checkLastsWrong : ChangeSpec := { name := "checkLasts", fn := fun _ => fun
  | [d1, d2, d3, d4] => { results := [.lit (.bool false)], args := [d1, d2, d3, d4] }
  | _ => none }
def CheckLastsWrongFalsely : Prop := checkLastsRow.holds Try.pinned (OpenSpec.ofChange checkLastsWrong)

/-- 'braidworklaw10.CheckSizes': WHATEVER THE INPUT: true; the input reads as it did. -/
def checkSizesSpec : ChangeSpec := { name := "checkSizes", fn := fun _ => fun
  | [d1, d2, d3] => { results := [.lit (.bool true)], args := [d1, d2, d3] }
  | _ => none }
def checkSizesRow : OpenClaim := { program := "ytmjdndhpnckeeaa", sum := "1a6d7d74fdc5cd2af9aaaf541e64935d96ad979bd6b58a841ea0058dcdd64259", func := "braidwork/braidworklaw10.CheckSizes", spec := "checkSizes", unfollowed := true, recurses := true, apart := false }
def CheckSizesSaid : Prop := checkSizesRow.holds Try.pinned (OpenSpec.ofChange checkSizesSpec)

/-- ITS FALSE NEIGHBOUR: 'it returns false'. Refute it at one input. -/
def checkSizesWrong : ChangeSpec := { name := "checkSizes", fn := fun _ => fun
  | [d1, d2, d3] => { results := [.lit (.bool false)], args := [d1, d2, d3] }
  | _ => none }
def CheckSizesWrongFalsely : Prop := checkSizesRow.holds Try.pinned (OpenSpec.ofChange checkSizesWrong)

/-- 'braidworklaw10.CheckNewest': WHATEVER THE INPUT: true; the input reads as it did. -/
def checkNewestSpec : ChangeSpec := { name := "checkNewest", fn := fun _ => fun
  | [d1, d2, d3, d4] => { results := [.lit (.bool true)], args := [d1, d2, d3, d4] }
  | _ => none }
def checkNewestRow : OpenClaim := { program := "ytmjdndhpnckeeaa", sum := "1a6d7d74fdc5cd2af9aaaf541e64935d96ad979bd6b58a841ea0058dcdd64259", func := "braidwork/braidworklaw10.CheckNewest", spec := "checkNewest", unfollowed := true, recurses := true, apart := false }
def CheckNewestSaid : Prop := checkNewestRow.holds Try.pinned (OpenSpec.ofChange checkNewestSpec)

/-- ITS FALSE NEIGHBOUR: 'it returns false'. Refute it at one input. -/
def checkNewestWrong : ChangeSpec := { name := "checkNewest", fn := fun _ => fun
  | [d1, d2, d3, d4] => { results := [.lit (.bool false)], args := [d1, d2, d3, d4] }
  | _ => none }
def CheckNewestWrongFalsely : Prop := checkNewestRow.holds Try.pinned (OpenSpec.ofChange checkNewestWrong)

/-- 'braidworklaw10.CheckTorn': WHATEVER THE INPUT: true; the input reads as it did. -/
def checkTornSpec : ChangeSpec := { name := "checkTorn", fn := fun _ => fun
  | [d1, d2, d3] => { results := [.lit (.bool true)], args := [d1, d2, d3] }
  | _ => none }
def checkTornRow : OpenClaim := { program := "ytmjdndhpnckeeaa", sum := "1a6d7d74fdc5cd2af9aaaf541e64935d96ad979bd6b58a841ea0058dcdd64259", func := "braidwork/braidworklaw10.CheckTorn", spec := "checkTorn", unfollowed := true, recurses := true, apart := false }
def CheckTornSaid : Prop := checkTornRow.holds Try.pinned (OpenSpec.ofChange checkTornSpec)

/-- ITS FALSE NEIGHBOUR: 'it returns false'. Refute it at one input. -/
def checkTornWrong : ChangeSpec := { name := "checkTorn", fn := fun _ => fun
  | [d1, d2, d3] => { results := [.lit (.bool false)], args := [d1, d2, d3] }
  | _ => none }
def CheckTornWrongFalsely : Prop := checkTornRow.holds Try.pinned (OpenSpec.ofChange checkTornWrong)

/- THE SECOND FORM. 'bulk': how many values and letters a reading holds, each counted each time it is reached (what is shared counts as often as it is met; a slice's spare places count too). A statement '..UptoSaid' is the law's where the arguments, and the package variables that the reading takes, are together of bulk at most 1048576: NARROWER than '..Said'. Prove '..Said' where nothing that the law and all that it calls make is longer than what came in: it says more and counts as full. Else prove '..UptoSaid'. A law counts once. -/
mutual
def uptoBulk {H : Type} : DataW H → Nat
  | .lit (.string bytes) => bytes.length + 1
  | .lit _ => 1
  | .nil => 1
  | .ptr d => uptoBulk d + 1
  | .slice elems spare => uptoBulkAll elems + uptoBulkAll spare + 1
  | .agg parts => uptoBulkAll parts + 1
  | .iface _ d => uptoBulk d + 1
  | .map entries => uptoBulkEntries entries + 1
  | .held _ => 1
def uptoBulkAll {H : Type} : List (DataW H) → Nat
  | [] => 0
  | d :: r => uptoBulk d + uptoBulkAll r
def uptoBulkEntries {H : Type} : List (Lit × DataW H) → Nat
  | [] => 0
  | x :: r => uptoBulkEntry x + uptoBulkEntries r
def uptoBulkEntry {H : Type} : Lit × DataW H → Nat
  | (.string bytes, d) => bytes.length + uptoBulk d + 1
  | (_, d) => uptoBulk d + 1
 end
def uptoSmall : (H : Type) → List (DataW H) → Bool := fun _ ds => decide (uptoBulkAll ds ≤ 1048576)
def OpenSpec.upto (s : _root_.Go.ChangeSpec) : _root_.Go.OpenSpec := { _root_.Go.OpenSpec.ofChange s with cond := some uptoSmall }

/-- 'braidworklaw09.MetalogLasts', WHERE WHAT IT READS IS OF BULK AT MOST 1048576: true; the input reads as it did. -/
def metalogLastsUptoRow : OpenClaim := { program := "ytmjdndhpnckeeaa", sum := "1a6d7d74fdc5cd2af9aaaf541e64935d96ad979bd6b58a841ea0058dcdd64259", func := "braidwork/braidworklaw09.MetalogLasts", spec := "metalogLasts", unfollowed := true, recurses := true, apart := false, narrowed := true }
def MetalogLastsUptoSaid : Prop := metalogLastsUptoRow.holds Try.pinned (OpenSpec.upto metalogLastsSpec)

/-- 'braidworklaw09.MetalogFull', WHERE WHAT IT READS IS OF BULK AT MOST 1048576: true; the input reads as it did. -/
def metalogFullUptoRow : OpenClaim := { program := "ytmjdndhpnckeeaa", sum := "1a6d7d74fdc5cd2af9aaaf541e64935d96ad979bd6b58a841ea0058dcdd64259", func := "braidwork/braidworklaw09.MetalogFull", spec := "metalogFull", unfollowed := true, recurses := true, apart := false, narrowed := true }
def MetalogFullUptoSaid : Prop := metalogFullUptoRow.holds Try.pinned (OpenSpec.upto metalogFullSpec)

/-- 'braidworklaw09.MetalogOlder', WHERE WHAT IT READS IS OF BULK AT MOST 1048576: true; the input reads as it did. -/
def metalogOlderUptoRow : OpenClaim := { program := "ytmjdndhpnckeeaa", sum := "1a6d7d74fdc5cd2af9aaaf541e64935d96ad979bd6b58a841ea0058dcdd64259", func := "braidwork/braidworklaw09.MetalogOlder", spec := "metalogOlder", unfollowed := true, recurses := true, apart := false, narrowed := true }
def MetalogOlderUptoSaid : Prop := metalogOlderUptoRow.holds Try.pinned (OpenSpec.upto metalogOlderSpec)

/-- 'braidworklaw09.MetalogAny', WHERE WHAT IT READS IS OF BULK AT MOST 1048576: true; the input reads as it did. -/
def metalogAnyUptoRow : OpenClaim := { program := "ytmjdndhpnckeeaa", sum := "1a6d7d74fdc5cd2af9aaaf541e64935d96ad979bd6b58a841ea0058dcdd64259", func := "braidwork/braidworklaw09.MetalogAny", spec := "metalogAny", unfollowed := true, recurses := true, apart := false, narrowed := true }
def MetalogAnyUptoSaid : Prop := metalogAnyUptoRow.holds Try.pinned (OpenSpec.upto metalogAnySpec)

/-- 'braidworklaw09.MetalogDead', WHERE WHAT IT READS IS OF BULK AT MOST 1048576: true; the input reads as it did. -/
def metalogDeadUptoRow : OpenClaim := { program := "ytmjdndhpnckeeaa", sum := "1a6d7d74fdc5cd2af9aaaf541e64935d96ad979bd6b58a841ea0058dcdd64259", func := "braidwork/braidworklaw09.MetalogDead", spec := "metalogDead", unfollowed := true, recurses := true, apart := false, narrowed := true }
def MetalogDeadUptoSaid : Prop := metalogDeadUptoRow.holds Try.pinned (OpenSpec.upto metalogDeadSpec)

/-- 'braidworklaw09.MetalogTorn', WHERE WHAT IT READS IS OF BULK AT MOST 1048576: true; the input reads as it did. -/
def metalogTornUptoRow : OpenClaim := { program := "ytmjdndhpnckeeaa", sum := "1a6d7d74fdc5cd2af9aaaf541e64935d96ad979bd6b58a841ea0058dcdd64259", func := "braidwork/braidworklaw09.MetalogTorn", spec := "metalogTorn", unfollowed := true, recurses := true, apart := false, narrowed := true }
def MetalogTornUptoSaid : Prop := metalogTornUptoRow.holds Try.pinned (OpenSpec.upto metalogTornSpec)

/-- 'braidworklaw10.CheckLasts', WHERE WHAT IT READS IS OF BULK AT MOST 1048576: true; the input reads as it did. -/
def checkLastsUptoRow : OpenClaim := { program := "ytmjdndhpnckeeaa", sum := "1a6d7d74fdc5cd2af9aaaf541e64935d96ad979bd6b58a841ea0058dcdd64259", func := "braidwork/braidworklaw10.CheckLasts", spec := "checkLasts", unfollowed := true, recurses := true, apart := false, narrowed := true }
def CheckLastsUptoSaid : Prop := checkLastsUptoRow.holds Try.pinned (OpenSpec.upto checkLastsSpec)

/-- 'braidworklaw10.CheckSizes', WHERE WHAT IT READS IS OF BULK AT MOST 1048576: true; the input reads as it did. -/
def checkSizesUptoRow : OpenClaim := { program := "ytmjdndhpnckeeaa", sum := "1a6d7d74fdc5cd2af9aaaf541e64935d96ad979bd6b58a841ea0058dcdd64259", func := "braidwork/braidworklaw10.CheckSizes", spec := "checkSizes", unfollowed := true, recurses := true, apart := false, narrowed := true }
def CheckSizesUptoSaid : Prop := checkSizesUptoRow.holds Try.pinned (OpenSpec.upto checkSizesSpec)

/-- 'braidworklaw10.CheckNewest', WHERE WHAT IT READS IS OF BULK AT MOST 1048576: true; the input reads as it did. -/
def checkNewestUptoRow : OpenClaim := { program := "ytmjdndhpnckeeaa", sum := "1a6d7d74fdc5cd2af9aaaf541e64935d96ad979bd6b58a841ea0058dcdd64259", func := "braidwork/braidworklaw10.CheckNewest", spec := "checkNewest", unfollowed := true, recurses := true, apart := false, narrowed := true }
def CheckNewestUptoSaid : Prop := checkNewestUptoRow.holds Try.pinned (OpenSpec.upto checkNewestSpec)

/-- 'braidworklaw10.CheckTorn', WHERE WHAT IT READS IS OF BULK AT MOST 1048576: true; the input reads as it did. -/
def checkTornUptoRow : OpenClaim := { program := "ytmjdndhpnckeeaa", sum := "1a6d7d74fdc5cd2af9aaaf541e64935d96ad979bd6b58a841ea0058dcdd64259", func := "braidwork/braidworklaw10.CheckTorn", spec := "checkTorn", unfollowed := true, recurses := true, apart := false, narrowed := true }
def CheckTornUptoSaid : Prop := checkTornUptoRow.holds Try.pinned (OpenSpec.upto checkTornSpec)

end Rows
end Go.Proofs.Ytmjdndhpnckeeaa
