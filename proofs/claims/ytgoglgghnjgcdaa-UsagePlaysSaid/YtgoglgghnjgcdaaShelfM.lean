/- The library's maps.Clone at the three maps of a table, laid at this program's numbers. Filled by name. -/
import Derived.Shelf.SlMaps.Clone
import Derived.Test.YtgoglgghnjgcdaaChecked
namespace Go.Proofs.Ytgoglgghnjgcdaa
open Go.Shelf
def lay_mcG_ren : Go.Shelf.Ren := ⟨fun | 5 => 29 | 7 => 50 | n => n, fun | 23 => 52 | 25 => 3 | 3 => 63 | 4 => 4 | 20 => 20 | n => n, fun | n => n⟩
theorem lay_mcG : Go.Proofs.SlLaysW.n5 Try.prog lay_mcG_ren := {
  mixed := by kernel_rfl
  f5 := ⟨Try.f29.name, by decide, Try.func29.trans (congrArg some (by kernel_rfl))⟩
  f7 := Try.func50.trans (congrArg some (by kernel_rfl))
  t4 := Try.underlying4
  a4 := Try.isAgg4
  z4 := Try.sizeOf4
  v4 := Try.zeroValue4
  t20 := Try.underlying20
  a20 := Try.isAgg20
  z20 := Try.sizeOf20
  v20 := Try.zeroValue20
  t23 := Try.underlying52
  a23 := Try.isAgg52
  z23 := Try.sizeOf52
  v23 := Try.zeroValue52 }
def lay_mcB_ren : Go.Shelf.Ren := ⟨fun | 5 => 30 | 7 => 50 | n => n, fun | 23 => 53 | 25 => 66 | 3 => 3 | 4 => 4 | 20 => 20 | n => n, fun | n => n⟩
theorem lay_mcB : Go.Proofs.SlLaysW.n5 Try.prog lay_mcB_ren := {
  mixed := by kernel_rfl
  f5 := ⟨Try.f30.name, by decide, Try.func30.trans (congrArg some (by kernel_rfl))⟩
  f7 := Try.func50.trans (congrArg some (by kernel_rfl))
  t4 := Try.underlying4
  a4 := Try.isAgg4
  z4 := Try.sizeOf4
  v4 := Try.zeroValue4
  t20 := Try.underlying20
  a20 := Try.isAgg20
  z20 := Try.sizeOf20
  v20 := Try.zeroValue20
  t23 := Try.underlying53
  a23 := Try.isAgg53
  z23 := Try.sizeOf53
  v23 := Try.zeroValue53 }
def lay_mcP_ren : Go.Shelf.Ren := ⟨fun | 5 => 31 | 7 => 50 | n => n, fun | 23 => 54 | 25 => 3 | 3 => 66 | 4 => 4 | 20 => 20 | n => n, fun | n => n⟩
theorem lay_mcP : Go.Proofs.SlLaysW.n5 Try.prog lay_mcP_ren := {
  mixed := by kernel_rfl
  f5 := ⟨Try.f31.name, by decide, Try.func31.trans (congrArg some (by kernel_rfl))⟩
  f7 := Try.func50.trans (congrArg some (by kernel_rfl))
  t4 := Try.underlying4
  a4 := Try.isAgg4
  z4 := Try.sizeOf4
  v4 := Try.zeroValue4
  t20 := Try.underlying20
  a20 := Try.isAgg20
  z20 := Try.sizeOf20
  v20 := Try.zeroValue20
  t23 := Try.underlying54
  a23 := Try.isAgg54
  z23 := Try.sizeOf54
  v23 := Try.zeroValue54 }
end Go.Proofs.Ytgoglgghnjgcdaa
