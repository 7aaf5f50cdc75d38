/- The library's maps.Clone at this program: the kit's own laying, by its tool, at this program's numbers. -/
import Derived.Shelf.SlMaps.Clone
import Derived.Ground.SlmcProg
import Derived.Test.YtjbeaoabhhaiiaaGreatProg
namespace Go.Proofs
open Go.Shelf
def Tryz.clone87_ren : Go.Shelf.Ren := ⟨fun | 5 => 87 | 7 => 133 | n => n, fun | 23 => 136 | 25 => 162 | 3 => 2 | 4 => 4 | 20 => 20 | n => n, fun | n => n⟩
theorem Tryz.clone87 : Go.Proofs.SlLaysW.n5 Tryz.prog Tryz.clone87_ren := {
  mixed := by kernel_rfl
  f5 := ⟨Tryz.f87.name, by decide, Tryz.func87.trans (congrArg some (by kernel_rfl))⟩
  f7 := Tryz.func133.trans (congrArg some (by kernel_rfl))
  t4 := Tryz.underlying4
  a4 := Tryz.isAgg4
  z4 := Tryz.sizeOf4
  v4 := Tryz.zeroValue4
  t20 := Tryz.underlying20
  a20 := Tryz.isAgg20
  z20 := Tryz.sizeOf20
  v20 := Tryz.zeroValue20
  t23 := Tryz.underlying136
  a23 := Tryz.isAgg136
  z23 := Tryz.sizeOf136
  v23 := Tryz.zeroValue136 }
end Go.Proofs
