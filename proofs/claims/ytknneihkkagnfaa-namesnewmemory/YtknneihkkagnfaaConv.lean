/- A text of one byte out of a list of one byte. -/
import Derived.Test.YtknneihkkagnfaaFirst
import Derived.Laws.BytesArg
namespace Go.Proofs.Ytknneihkkagnfaa
open Go.RowKit

theorem conv_one (w : World) (z : Int) : ∃ X : ByteArray, X.size = 1 ∧ (convert 41 9 (.slice (some ⟨w.heap.size, 0, none⟩) 1 1)).run Try.prog (w.alloc (.cells #[.int .u8 z] 5)) = .ok (.string X) (w.alloc (.cells #[.int .u8 z] 5)) := by
  refine ⟨strOfNums [z], by simp [strOfNums, size_bs], ?_⟩
  refine run_convert_bytes_arg _ 41 5 Try.underlying41 Try.underlying5 _ 0 1 1 [z] rfl (fun i hi => ?_) 9 Try.underlying9
  obtain rfl : i = 0 := by omega
  exact cell_one_new w (.int .u8 z) 5 0 _ rfl
end Go.Proofs.Ytknneihkkagnfaa
