/- The library's contract on a map's copy, at this program: the kit's own theorem, laid by its tool at this program's numbers. -/
import Derived.Shelf.SlMaps.Clone
import Derived.Ground.SlmcProg
import Derived.Test.YtneelnfcjmbboaaProg
namespace Go.Proofs
open Go.Shelf
def Try.clone33_ren : Go.Shelf.Ren := ⟨fun | 5 => 33 | 7 => 53 | n => n, fun | 23 => 50 | 25 => 9 | 3 => 43 | 4 => 4 | 20 => 20 | n => n, fun | n => n⟩
theorem Try.clone33 : Go.Proofs.SlLaysW.n5 Try.prog Try.clone33_ren := {
  mixed := by kernel_rfl
  f5 := ⟨Try.f33.name, by decide, Try.func33.trans (congrArg some (by kernel_rfl))⟩
  f7 := Try.func53.trans (congrArg some (by kernel_rfl))
  t4 := Try.underlying4
  a4 := Try.isAgg4
  z4 := Try.sizeOf4
  v4 := Try.zeroValue4
  t20 := Try.underlying20
  a20 := Try.isAgg20
  z20 := Try.sizeOf20
  v20 := Try.zeroValue20
  t23 := Try.underlying50
  a23 := Try.isAgg50
  z23 := Try.sizeOf50
  v23 := Try.zeroValue50 }
end Go.Proofs
