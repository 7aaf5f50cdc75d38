/- The library's maps.Clone at this program: the kit's own laying, by its tool, at this program's numbers. -/
import Derived.Shelf.SlMaps.Clone
import Derived.Ground.SlmcProg
import Derived.Test.YtgklifbfbjdobaaGreatProg
namespace Go.Proofs
open Go.Shelf
def Tryz.clone30_ren : Go.Shelf.Ren := ⟨fun | 5 => 30 | 7 => 44 | n => n, fun | 23 => 71 | 25 => 77 | 3 => 2 | 4 => 4 | 20 => 20 | n => n, fun | n => n⟩
theorem Tryz.clone30 : Go.Proofs.SlLaysW.n5 Tryz.prog Tryz.clone30_ren := {
  mixed := by kernel_rfl
  f5 := ⟨Tryz.f30.name, by decide, Tryz.func30.trans (congrArg some (by kernel_rfl))⟩
  f7 := Tryz.func44.trans (congrArg some (by kernel_rfl))
  t4 := Tryz.underlying4
  a4 := Tryz.isAgg4
  z4 := Tryz.sizeOf4
  v4 := Tryz.zeroValue4
  t20 := Tryz.underlying20
  a20 := Tryz.isAgg20
  z20 := Tryz.sizeOf20
  v20 := Tryz.zeroValue20
  t23 := Tryz.underlying71
  a23 := Tryz.isAgg71
  z23 := Tryz.sizeOf71
  v23 := Tryz.zeroValue71 }
end Go.Proofs
