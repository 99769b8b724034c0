/- The numbers under which this dump holds sync.Mutex's functions and types, and that it holds them. -/
import Derived.Test.YtkffnbcfmaoldabProg
import Derived.Conc.MuLone
import Derived.Conc.MuData
import Derived.KernelRfl
namespace Go.Proofs.Ytkffnbcfmaoldab
abbrev muLink : Go.Conc.Locks.MuLink := { lock := 37, unlock := 38, ilock := 66, iunlock := 67, lockSlow := 75, unlockSlow := 78, disable := 71, enable := 73, acquire := 74, relMerge := 76, cas32 := 72, add32 := 77, tMutex := 87, tIMutex := 85, tPMutex := 111, tPIMutex := 114, tPI32 := 116, tUP := 118, tNoCopy := 82, tU32 := 83 }
theorem muLib : Go.Conc.Locks.MuLib Try.prog muLink :=
  ⟨Try.func37, Try.func38, Try.func66, Try.func67, Try.func71, Try.func73, Try.func74, Try.func76, Try.func72, Try.func77, Try.underlying85, Try.runUnderlying85, Try.sizeOf85, Try.isAgg85, Try.zeroValue85, Try.underlying87, Try.runUnderlying87, Try.sizeOf87, Try.isAgg87, Try.zeroValue87, Try.underlying111, Try.runUnderlying111, Try.sizeOf111, Try.isAgg111, Try.zeroValue111, Try.underlying114, Try.runUnderlying114, Try.sizeOf114, Try.isAgg114, Try.zeroValue114, Try.underlying116, Try.runUnderlying116, Try.sizeOf116, Try.isAgg116, Try.zeroValue116, Try.underlying118, Try.runUnderlying118, Try.sizeOf118, Try.isAgg118, Try.zeroValue118, Try.underlying82, Try.runUnderlying82, Try.sizeOf82, Try.isAgg82, Try.zeroValue82, Try.underlying21, Try.runUnderlying21, Try.sizeOf21, Try.isAgg21, Try.zeroValue21, (by kernel_rfl)⟩
end Go.Proofs.Ytkffnbcfmaoldab
