/- The numbers under which this dump holds sync.Mutex's functions and types, and that it holds them. -/
import Derived.Test.YtejfbjjhnhlagaaProg
import Derived.Conc.MuLone
import Derived.Conc.MuData
import Derived.KernelRfl
namespace Go.Proofs.Ytejfbjjhnhlagaa
abbrev muLink : Go.Conc.Locks.MuLink := { lock := 42, unlock := 43, ilock := 55, iunlock := 56, lockSlow := 61, unlockSlow := 64, disable := 57, enable := 59, acquire := 60, relMerge := 62, cas32 := 58, add32 := 63, tMutex := 83, tIMutex := 81, tPMutex := 93, tPIMutex := 94, tPI32 := 96, tUP := 98, tNoCopy := 78, tU32 := 79 }
theorem muLib : Go.Conc.Locks.MuLib Try.prog muLink :=
  ⟨Try.func42, Try.func43, Try.func55, Try.func56, Try.func57, Try.func59, Try.func60, Try.func62, Try.func58, Try.func63, Try.underlying81, Try.runUnderlying81, Try.sizeOf81, Try.isAgg81, Try.zeroValue81, Try.underlying83, Try.runUnderlying83, Try.sizeOf83, Try.isAgg83, Try.zeroValue83, Try.underlying93, Try.runUnderlying93, Try.sizeOf93, Try.isAgg93, Try.zeroValue93, Try.underlying94, Try.runUnderlying94, Try.sizeOf94, Try.isAgg94, Try.zeroValue94, Try.underlying96, Try.runUnderlying96, Try.sizeOf96, Try.isAgg96, Try.zeroValue96, Try.underlying98, Try.runUnderlying98, Try.sizeOf98, Try.isAgg98, Try.zeroValue98, Try.underlying78, Try.runUnderlying78, Try.sizeOf78, Try.isAgg78, Try.zeroValue78, Try.underlying21, Try.runUnderlying21, Try.sizeOf21, Try.isAgg21, Try.zeroValue21, (by kernel_rfl)⟩
end Go.Proofs.Ytejfbjjhnhlagaa
