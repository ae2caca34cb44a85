/- 'make([]T, n)' of arrays or structs: the new block's cells as a list. No program is named here. -/
import Derived.Test.YtmjjnbabfldbcaaGreatBlk
import Derived.Laws.MakeOwn
namespace Go.Proofs.YtmjjnbabfldbcaaGreat
open Go.RowKit

section
variable {P : Program}
end
end Go.Proofs.YtmjjnbabfldbcaaGreat
