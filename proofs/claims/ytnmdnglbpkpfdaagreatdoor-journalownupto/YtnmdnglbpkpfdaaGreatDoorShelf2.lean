/- The contracts of the library that this program uses, laid for it (the library compares each body). -/
import Derived.Shelf.SlMaps.Copy
import Derived.Shelf.SlMaps.Clone
import Derived.Test.YtnmdnglbpkpfdaaGreatDoorProg
namespace Go.Proofs
open Go.Shelf
def Tryz.mcopy_ren : Go.Shelf.Ren := ⟨fun | 5 => 115 | n => n, fun | 23 => 99 | 24 => 99 | 26 => 3 | 27 => 56 | 0 => 0 | 4 => 4 | n => n, fun | n => n⟩
theorem Tryz.mcopy : Go.Proofs.SlLaysX.n5 Tryz.prog Tryz.mcopy_ren := {
  mixed := by kernel_rfl
  f5 := ⟨Tryz.f115.name, by decide, Tryz.func115.trans (congrArg some (by kernel_rfl))⟩
  t0 := Tryz.underlying0
  a0 := Tryz.isAgg0
  z0 := Tryz.sizeOf0
  v0 := Tryz.zeroValue0
  t4 := Tryz.underlying4
  a4 := Tryz.isAgg4
  z4 := Tryz.sizeOf4
  v4 := Tryz.zeroValue4
  t23 := Tryz.underlying99
  a23 := Tryz.isAgg99
  z23 := Tryz.sizeOf99
  v23 := Tryz.zeroValue99
  t24 := Tryz.underlying99
  a24 := Tryz.isAgg99
  z24 := Tryz.sizeOf99
  v24 := Tryz.zeroValue99
  a26 := Tryz.isAgg3
  z26 := Tryz.sizeOf3
  a27 := Tryz.isAgg56
  z27 := Tryz.sizeOf56 }
def Tryz.mclone_ren : Go.Shelf.Ren := ⟨fun | 5 => 64 | 7 => 100 | n => n, fun | 23 => 99 | 25 => 3 | 3 => 56 | 4 => 4 | 20 => 20 | n => n, fun | n => n⟩
theorem Tryz.mclone : Go.Proofs.SlLaysW.n5 Tryz.prog Tryz.mclone_ren := {
  mixed := by kernel_rfl
  f5 := ⟨Tryz.f64.name, by decide, Tryz.func64.trans (congrArg some (by kernel_rfl))⟩
  f7 := Tryz.func100.trans (congrArg some (by kernel_rfl))
  t4 := Tryz.underlying4
  a4 := Tryz.isAgg4
  z4 := Tryz.sizeOf4
  v4 := Tryz.zeroValue4
  t20 := Tryz.underlying20
  a20 := Tryz.isAgg20
  z20 := Tryz.sizeOf20
  v20 := Tryz.zeroValue20
  t23 := Tryz.underlying99
  a23 := Tryz.isAgg99
  z23 := Tryz.sizeOf99
  v23 := Tryz.zeroValue99 }
end Go.Proofs
