/- What an argument of a law is told as: a slice of numbers that came in reads as a list, nil let in. -/
import Derived.Test.YtmjjnbabfldbcaaGreatMem
import Derived.Test.YtmjjnbabfldbcaaGreatChecked
import Derived.ProofKit
import Derived.OpenShut
import Derived.ShutString
import Derived.ChangeOld
namespace Go.Proofs.YtmjjnbabfldbcaaGreat
open Go.ChangeShapes Go.WideShapes Go.ChangeAt Go.RowKit

theorem own : ownKnob Tryz.prog.godebug = none := by kernel_rfl
theorem laidOut : laidOutB Tryz.prog = true := by kernel_rfl

end Go.Proofs.YtmjjnbabfldbcaaGreat
