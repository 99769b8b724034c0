/- The contracts of the library that this program uses, laid for it (the library compares each body). -/
import Derived.Shelf.SlMaps.Copy
import Derived.Shelf.SlMaps.Clone
import Derived.Test.YtlcjkbhcbiggcaaGreatDoorProg
namespace Go.Proofs
open Go.Shelf
def Tryz.mcopy_ren : Go.Shelf.Ren := ⟨fun | 5 => 242 | n => n, fun | 23 => 96 | 24 => 96 | 26 => 3 | 27 => 39 | 0 => 0 | 4 => 4 | n => n, fun | n => n⟩
theorem Tryz.mcopy : Go.Proofs.SlLaysX.n5 Tryz.prog Tryz.mcopy_ren := {
  mixed := by kernel_rfl
  f5 := ⟨Tryz.f242.name, by decide, Tryz.func242.trans (congrArg some (by kernel_rfl))⟩
  t0 := Tryz.underlying0
  a0 := Tryz.isAgg0
  z0 := Tryz.sizeOf0
  v0 := Tryz.zeroValue0
  t4 := Tryz.underlying4
  a4 := Tryz.isAgg4
  z4 := Tryz.sizeOf4
  v4 := Tryz.zeroValue4
  t23 := Tryz.underlying96
  a23 := Tryz.isAgg96
  z23 := Tryz.sizeOf96
  v23 := Tryz.zeroValue96
  t24 := Tryz.underlying96
  a24 := Tryz.isAgg96
  z24 := Tryz.sizeOf96
  v24 := Tryz.zeroValue96
  a26 := Tryz.isAgg3
  z26 := Tryz.sizeOf3
  a27 := Tryz.isAgg39
  z27 := Tryz.sizeOf39 }
def Tryz.mclone_ren : Go.Shelf.Ren := ⟨fun | 5 => 52 | 7 => 108 | n => n, fun | 23 => 96 | 25 => 3 | 3 => 39 | 4 => 4 | 20 => 20 | n => n, fun | n => n⟩
theorem Tryz.mclone : Go.Proofs.SlLaysW.n5 Tryz.prog Tryz.mclone_ren := {
  mixed := by kernel_rfl
  f5 := ⟨Tryz.f52.name, by decide, Tryz.func52.trans (congrArg some (by kernel_rfl))⟩
  f7 := Tryz.func108.trans (congrArg some (by kernel_rfl))
  t4 := Tryz.underlying4
  a4 := Tryz.isAgg4
  z4 := Tryz.sizeOf4
  v4 := Tryz.zeroValue4
  t20 := Tryz.underlying20
  a20 := Tryz.isAgg20
  z20 := Tryz.sizeOf20
  v20 := Tryz.zeroValue20
  t23 := Tryz.underlying96
  a23 := Tryz.isAgg96
  z23 := Tryz.sizeOf96
  v23 := Tryz.zeroValue96 }
end Go.Proofs
