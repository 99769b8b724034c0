/- AlarmForgets, walked, whatever the lists. -/
import Derived.Test.YtbopghpfghaoeaaAFLL
import Derived.Test.YtbopghpfghaoeaaAFLG
import Derived.Test.YtbopghpfghaoeaaAFGL
import Derived.Test.YtbopghpfghaoeaaAFGG
namespace Go.Proofs.Ytbopghpfghaoeaa
open Go.RowKit Go.Maps
theorem forgets_any (ao : Option Addr) (n c : Nat) (es : List (Int × Int)) (ao2 : Option Addr) (n2 c2 : Nat) (ks : List (Int × Int)) (now : Int) (w : World) (hn : n ≤ 140737488355328) (h : PLies w ao n es) (hn2 : n2 ≤ 140737488355328) (h2 : PLies w ao2 n2 ks) :
    Calls Try.prog 3 #[.slice ao n c, .slice ao2 n2 c2, .int .i64 now] w fun e w' => e = .returned (.bool true) ∧ Below w.heap.size w w' := by
  by_cases q : n ≤ 300
  · by_cases r : n2 ≤ 300
    · exact forgets_LL ao n c es ao2 n2 c2 ks now w hn h hn2 h2 q r
    · exact forgets_LG ao n c es ao2 n2 c2 ks now w hn h hn2 h2 q (by omega)
  · by_cases r : n2 ≤ 300
    · exact forgets_GL ao n c es ao2 n2 c2 ks now w hn h hn2 h2 (by omega) r
    · exact forgets_GG ao n c es ao2 n2 c2 ks now w hn h hn2 h2 (by omega) (by omega)
end Go.Proofs.Ytbopghpfghaoeaa
