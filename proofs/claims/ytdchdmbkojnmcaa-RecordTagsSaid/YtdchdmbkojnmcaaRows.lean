/-
  No cell of these rows narrows 'for every input' (looked for: loops, veiled, ifaces, maps, wideKeys, modest, calm, conditions, laid).
  DERIVED. THE GIVEN ROWS OF THIS SEAT. 7 by the template 'for every input the law returns true; each argument reads behind the call as it read before'; 0 by the template 'total and deterministic' (their statements: YtdchdmbkojnmcaaTotals.lean).
  GIVEN WITH THE SEED: the statements are not yours to turn. If you find one false, say at which input.
  Laid BY PROGRAM, IN A SANDBOX (cutbox-rows.mjs): the forced cells as the released guide's own fill.sh prints them over the translation fc3e1b7b8be620b4… (all of the seat's roots in one cut). By AI agents, Wed Nov 11 2026. No macro, syntax, notation, axiom, sorry.
-/
import Derived.Test.YtdchdmbkojnmcaaChecked
import GoSem.Claim
import GoSem.ClaimJoined
import GoSem.ClaimMapViews
import Derived.JoinedTies
import Derived.KernelRfl
namespace Go.Proofs.Ytdchdmbkojnmcaa
/- THE CELL 'sum', in the pinned program and in every row, IS THE sha256 OF THE DUMP (.gsa) THAT YtdchdmbkojnmcaaProg.lean LOADS. Nothing in Lean hashes anything: it is a label: what it is worth is what the hold of that sum in a sandbox is worth. -/
noncomputable def Try.pinned : Pinned := { name := "ytdchdmbkojnmcaa", sum := "fc3e1b7b8be620b42dab55e195f5cb1a8c489f303d366817f74d2e43e7559b22", checked := Try.checked }
namespace Rows
def none {H : Type} : Left H := { results := [], args := [] }

/-- 'braidworklaw08.RecordSplits': WHATEVER THE INPUT: true; the input reads as it did. -/
def recordSplitsSpec : ChangeSpec := { name := "recordSplits", fn := fun _ => fun
  | [d1, d2, d3, d4] => { results := [.lit (.bool true)], args := [d1, d2, d3, d4] }
  | _ => none }
def recordSplitsRow : OpenClaim := { program := "ytdchdmbkojnmcaa", sum := "fc3e1b7b8be620b42dab55e195f5cb1a8c489f303d366817f74d2e43e7559b22", func := "braidwork/braidworklaw08.RecordSplits", spec := "recordSplits", apart := false }
def RecordSplitsSaid : Prop := recordSplitsRow.holds Try.pinned (OpenSpec.ofChange recordSplitsSpec)

/-- ITS FALSE NEIGHBOUR: 'it returns false'. Refute it at one input. -/
def recordSplitsWrong : ChangeSpec := { name := "recordSplits", fn := fun _ => fun
  | [d1, d2, d3, d4] => { results := [.lit (.bool false)], args := [d1, d2, d3, d4] }
  | _ => none }
def RecordSplitsWrongFalsely : Prop := recordSplitsRow.holds Try.pinned (OpenSpec.ofChange recordSplitsWrong)

/-- 'braidworklaw08.RecordTags': WHATEVER THE INPUT: true; the input reads as it did. -/
def recordTagsSpec : ChangeSpec := { name := "recordTags", fn := fun _ => fun
  | [d1, d2, d3] => { results := [.lit (.bool true)], args := [d1, d2, d3] }
  | _ => none }
def recordTagsRow : OpenClaim := { program := "ytdchdmbkojnmcaa", sum := "fc3e1b7b8be620b42dab55e195f5cb1a8c489f303d366817f74d2e43e7559b22", func := "braidwork/braidworklaw08.RecordTags", spec := "recordTags", apart := false }
def RecordTagsSaid : Prop := recordTagsRow.holds Try.pinned (OpenSpec.ofChange recordTagsSpec)

/-- ITS FALSE NEIGHBOUR: 'it returns false'. Refute it at one input. -/
def recordTagsWrong : ChangeSpec := { name := "recordTags", fn := fun _ => fun
  | [d1, d2, d3] => { results := [.lit (.bool false)], args := [d1, d2, d3] }
  | _ => none }
def RecordTagsWrongFalsely : Prop := recordTagsRow.holds Try.pinned (OpenSpec.ofChange recordTagsWrong)

/-- 'braidworklaw08.RecordBack': WHATEVER THE INPUT: true; the input reads as it did. -/
def recordBackSpec : ChangeSpec := { name := "recordBack", fn := fun _ => fun
  | [d1, d2, d3, d4] => { results := [.lit (.bool true)], args := [d1, d2, d3, d4] }
  | _ => none }
def recordBackRow : OpenClaim := { program := "ytdchdmbkojnmcaa", sum := "fc3e1b7b8be620b42dab55e195f5cb1a8c489f303d366817f74d2e43e7559b22", func := "braidwork/braidworklaw08.RecordBack", spec := "recordBack", apart := false }
def RecordBackSaid : Prop := recordBackRow.holds Try.pinned (OpenSpec.ofChange recordBackSpec)

/-- ITS FALSE NEIGHBOUR: 'it returns false'. Refute it at one input. -/
def recordBackWrong : ChangeSpec := { name := "recordBack", fn := fun _ => fun
  | [d1, d2, d3, d4] => { results := [.lit (.bool false)], args := [d1, d2, d3, d4] }
  | _ => none }
def RecordBackWrongFalsely : Prop := recordBackRow.holds Try.pinned (OpenSpec.ofChange recordBackWrong)

/-- 'braidworklaw08.RecordOther': WHATEVER THE INPUT: true; the input reads as it did. -/
def recordOtherSpec : ChangeSpec := { name := "recordOther", fn := fun _ => fun
  | [d1, d2, d3, d4, d5, d6] => { results := [.lit (.bool true)], args := [d1, d2, d3, d4, d5, d6] }
  | _ => none }
def recordOtherRow : OpenClaim := { program := "ytdchdmbkojnmcaa", sum := "fc3e1b7b8be620b42dab55e195f5cb1a8c489f303d366817f74d2e43e7559b22", func := "braidwork/braidworklaw08.RecordOther", spec := "recordOther", apart := false }
def RecordOtherSaid : Prop := recordOtherRow.holds Try.pinned (OpenSpec.ofChange recordOtherSpec)

/-- ITS FALSE NEIGHBOUR: 'it returns false'. Refute it at one input. -/
def recordOtherWrong : ChangeSpec := { name := "recordOther", fn := fun _ => fun
  | [d1, d2, d3, d4, d5, d6] => { results := [.lit (.bool false)], args := [d1, d2, d3, d4, d5, d6] }
  | _ => none }
def RecordOtherWrongFalsely : Prop := recordOtherRow.holds Try.pinned (OpenSpec.ofChange recordOtherWrong)

/-- 'braidworklaw08.RecordNone': WHATEVER THE INPUT: true; the input reads as it did. -/
def recordNoneSpec : ChangeSpec := { name := "recordNone", fn := fun _ => fun
  | [d1, d2, d3, d4] => { results := [.lit (.bool true)], args := [d1, d2, d3, d4] }
  | _ => none }
def recordNoneRow : OpenClaim := { program := "ytdchdmbkojnmcaa", sum := "fc3e1b7b8be620b42dab55e195f5cb1a8c489f303d366817f74d2e43e7559b22", func := "braidwork/braidworklaw08.RecordNone", spec := "recordNone", apart := false }
def RecordNoneSaid : Prop := recordNoneRow.holds Try.pinned (OpenSpec.ofChange recordNoneSpec)

/-- ITS FALSE NEIGHBOUR: 'it returns false'. Refute it at one input. -/
def recordNoneWrong : ChangeSpec := { name := "recordNone", fn := fun _ => fun
  | [d1, d2, d3, d4] => { results := [.lit (.bool false)], args := [d1, d2, d3, d4] }
  | _ => none }
def RecordNoneWrongFalsely : Prop := recordNoneRow.holds Try.pinned (OpenSpec.ofChange recordNoneWrong)

/-- 'braidworklaw08.RecordSays': WHATEVER THE INPUT: true; the input reads as it did. -/
def recordSaysSpec : ChangeSpec := { name := "recordSays", fn := fun _ => fun
  | [d1, d2, d3] => { results := [.lit (.bool true)], args := [d1, d2, d3] }
  | _ => none }
def recordSaysRow : OpenClaim := { program := "ytdchdmbkojnmcaa", sum := "fc3e1b7b8be620b42dab55e195f5cb1a8c489f303d366817f74d2e43e7559b22", func := "braidwork/braidworklaw08.RecordSays", spec := "recordSays", apart := false }
def RecordSaysSaid : Prop := recordSaysRow.holds Try.pinned (OpenSpec.ofChange recordSaysSpec)

/-- ITS FALSE NEIGHBOUR: 'it returns false'. Refute it at one input. -/
def recordSaysWrong : ChangeSpec := { name := "recordSays", fn := fun _ => fun
  | [d1, d2, d3] => { results := [.lit (.bool false)], args := [d1, d2, d3] }
  | _ => none }
def RecordSaysWrongFalsely : Prop := recordSaysRow.holds Try.pinned (OpenSpec.ofChange recordSaysWrong)

/-- 'braidworklaw08.RecordCount': WHATEVER THE INPUT: true; the input reads as it did. -/
def recordCountSpec : ChangeSpec := { name := "recordCount", fn := fun _ => fun
  | [d] => { results := [.lit (.bool true)], args := [d] }
  | _ => none }
def recordCountRow : OpenClaim := { program := "ytdchdmbkojnmcaa", sum := "fc3e1b7b8be620b42dab55e195f5cb1a8c489f303d366817f74d2e43e7559b22", func := "braidwork/braidworklaw08.RecordCount", spec := "recordCount", apart := false }
def RecordCountSaid : Prop := recordCountRow.holds Try.pinned (OpenSpec.ofChange recordCountSpec)

/-- ITS FALSE NEIGHBOUR: 'it returns false'. Refute it at one input. -/
def recordCountWrong : ChangeSpec := { name := "recordCount", fn := fun _ => fun
  | [d] => { results := [.lit (.bool false)], args := [d] }
  | _ => none }
def RecordCountWrongFalsely : Prop := recordCountRow.holds Try.pinned (OpenSpec.ofChange recordCountWrong)

/- THE SECOND FORM. 'bulk': how many values and letters a reading holds, each counted each time it is reached (what is shared counts as often as it is met; a slice's spare places count too). A statement '..UptoSaid' is the law's where the arguments, and the package variables that the reading takes, are together of bulk at most 1048576: NARROWER than '..Said'. Prove '..Said' where nothing that the law and all that it calls make is longer than what came in: it says more and counts as full. Else prove '..UptoSaid'. A law counts once. -/
mutual
def uptoBulk {H : Type} : DataW H → Nat
  | .lit (.string bytes) => bytes.length + 1
  | .lit _ => 1
  | .nil => 1
  | .ptr d => uptoBulk d + 1
  | .slice elems spare => uptoBulkAll elems + uptoBulkAll spare + 1
  | .agg parts => uptoBulkAll parts + 1
  | .iface _ d => uptoBulk d + 1
  | .map entries => uptoBulkEntries entries + 1
  | .held _ => 1
def uptoBulkAll {H : Type} : List (DataW H) → Nat
  | [] => 0
  | d :: r => uptoBulk d + uptoBulkAll r
def uptoBulkEntries {H : Type} : List (Lit × DataW H) → Nat
  | [] => 0
  | x :: r => uptoBulkEntry x + uptoBulkEntries r
def uptoBulkEntry {H : Type} : Lit × DataW H → Nat
  | (.string bytes, d) => bytes.length + uptoBulk d + 1
  | (_, d) => uptoBulk d + 1
 end
def uptoSmall : (H : Type) → List (DataW H) → Bool := fun _ ds => decide (uptoBulkAll ds ≤ 1048576)
def OpenSpec.upto (s : _root_.Go.ChangeSpec) : _root_.Go.OpenSpec := { _root_.Go.OpenSpec.ofChange s with cond := some uptoSmall }

/-- 'braidworklaw08.RecordSplits', WHERE WHAT IT READS IS OF BULK AT MOST 1048576: true; the input reads as it did. -/
def recordSplitsUptoRow : OpenClaim := { program := "ytdchdmbkojnmcaa", sum := "fc3e1b7b8be620b42dab55e195f5cb1a8c489f303d366817f74d2e43e7559b22", func := "braidwork/braidworklaw08.RecordSplits", spec := "recordSplits", apart := false, narrowed := true }
def RecordSplitsUptoSaid : Prop := recordSplitsUptoRow.holds Try.pinned (OpenSpec.upto recordSplitsSpec)

/-- 'braidworklaw08.RecordTags', WHERE WHAT IT READS IS OF BULK AT MOST 1048576: true; the input reads as it did. -/
def recordTagsUptoRow : OpenClaim := { program := "ytdchdmbkojnmcaa", sum := "fc3e1b7b8be620b42dab55e195f5cb1a8c489f303d366817f74d2e43e7559b22", func := "braidwork/braidworklaw08.RecordTags", spec := "recordTags", apart := false, narrowed := true }
def RecordTagsUptoSaid : Prop := recordTagsUptoRow.holds Try.pinned (OpenSpec.upto recordTagsSpec)

/-- 'braidworklaw08.RecordBack', WHERE WHAT IT READS IS OF BULK AT MOST 1048576: true; the input reads as it did. -/
def recordBackUptoRow : OpenClaim := { program := "ytdchdmbkojnmcaa", sum := "fc3e1b7b8be620b42dab55e195f5cb1a8c489f303d366817f74d2e43e7559b22", func := "braidwork/braidworklaw08.RecordBack", spec := "recordBack", apart := false, narrowed := true }
def RecordBackUptoSaid : Prop := recordBackUptoRow.holds Try.pinned (OpenSpec.upto recordBackSpec)

/-- 'braidworklaw08.RecordOther', WHERE WHAT IT READS IS OF BULK AT MOST 1048576: true; the input reads as it did. -/
def recordOtherUptoRow : OpenClaim := { program := "ytdchdmbkojnmcaa", sum := "fc3e1b7b8be620b42dab55e195f5cb1a8c489f303d366817f74d2e43e7559b22", func := "braidwork/braidworklaw08.RecordOther", spec := "recordOther", apart := false, narrowed := true }
def RecordOtherUptoSaid : Prop := recordOtherUptoRow.holds Try.pinned (OpenSpec.upto recordOtherSpec)

/-- 'braidworklaw08.RecordNone', WHERE WHAT IT READS IS OF BULK AT MOST 1048576: true; the input reads as it did. -/
def recordNoneUptoRow : OpenClaim := { program := "ytdchdmbkojnmcaa", sum := "fc3e1b7b8be620b42dab55e195f5cb1a8c489f303d366817f74d2e43e7559b22", func := "braidwork/braidworklaw08.RecordNone", spec := "recordNone", apart := false, narrowed := true }
def RecordNoneUptoSaid : Prop := recordNoneUptoRow.holds Try.pinned (OpenSpec.upto recordNoneSpec)

/-- 'braidworklaw08.RecordSays', WHERE WHAT IT READS IS OF BULK AT MOST 1048576: true; the input reads as it did. -/
def recordSaysUptoRow : OpenClaim := { program := "ytdchdmbkojnmcaa", sum := "fc3e1b7b8be620b42dab55e195f5cb1a8c489f303d366817f74d2e43e7559b22", func := "braidwork/braidworklaw08.RecordSays", spec := "recordSays", apart := false, narrowed := true }
def RecordSaysUptoSaid : Prop := recordSaysUptoRow.holds Try.pinned (OpenSpec.upto recordSaysSpec)

/-- 'braidworklaw08.RecordCount', WHERE WHAT IT READS IS OF BULK AT MOST 1048576: true; the input reads as it did. -/
def recordCountUptoRow : OpenClaim := { program := "ytdchdmbkojnmcaa", sum := "fc3e1b7b8be620b42dab55e195f5cb1a8c489f303d366817f74d2e43e7559b22", func := "braidwork/braidworklaw08.RecordCount", spec := "recordCount", apart := false, narrowed := true }
def RecordCountUptoSaid : Prop := recordCountUptoRow.holds Try.pinned (OpenSpec.upto recordCountSpec)

end Rows
end Go.Proofs.Ytdchdmbkojnmcaa
