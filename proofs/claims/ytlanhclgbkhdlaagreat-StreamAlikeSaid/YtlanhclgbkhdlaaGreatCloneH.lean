/- The library's maps.Clone at this program: the kit's own laying, by its tool, at this program's numbers. -/
import Derived.Shelf.SlMaps.Clone
import Derived.Ground.SlmcProg
import Derived.Test.YtlanhclgbkhdlaaGreatProg
namespace Go.Proofs
open Go.Shelf
def Tryz.clone71_ren : Go.Shelf.Ren := ⟨fun | 5 => 71 | 7 => 106 | n => n, fun | 23 => 119 | 25 => 135 | 3 => 2 | 4 => 4 | 20 => 20 | n => n, fun | n => n⟩
theorem Tryz.clone71 : Go.Proofs.SlLaysW.n5 Tryz.prog Tryz.clone71_ren := {
  mixed := by kernel_rfl
  f5 := ⟨Tryz.f71.name, by decide, Tryz.func71.trans (congrArg some (by kernel_rfl))⟩
  f7 := Tryz.func106.trans (congrArg some (by kernel_rfl))
  t4 := Tryz.underlying4
  a4 := Tryz.isAgg4
  z4 := Tryz.sizeOf4
  v4 := Tryz.zeroValue4
  t20 := Tryz.underlying20
  a20 := Tryz.isAgg20
  z20 := Tryz.sizeOf20
  v20 := Tryz.zeroValue20
  t23 := Tryz.underlying119
  a23 := Tryz.isAgg119
  z23 := Tryz.sizeOf119
  v23 := Tryz.zeroValue119 }
end Go.Proofs
