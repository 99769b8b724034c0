/- An element of the table of bounds; of eight numbers. -/
import Derived.Test.YtgpeefedboomoabDoorP2
namespace Go.Proofs.YtgpeefedboomoabDoor
open Go.RowKit
set_option maxRecDepth 100000

theorem ix_bd0 (w : World) : (Instr.index 88 (.agg #[.int .i64 1, .int .i64 8, .int .i64 1, .int .i64 8, .int .i64 1, .int .i64 8, .int .i64 1, .int .i64 64, .int .i64 2, .int .i64 256, .int .i64 0, .int .i64 524288, .int .i64 1, .int .i64 4096, .int .i64 27, .int .i64 512]) (.int .i64 0)).run Tryd.prog w = .ok (.agg #[.int .i64 1, .int .i64 8]) w := by
  simp [Instr.index, asIntOf, run_underlying Tryd.underlying88, go_sem, part]
theorem ix_bd1 (w : World) : (Instr.index 88 (.agg #[.int .i64 1, .int .i64 8, .int .i64 1, .int .i64 8, .int .i64 1, .int .i64 8, .int .i64 1, .int .i64 64, .int .i64 2, .int .i64 256, .int .i64 0, .int .i64 524288, .int .i64 1, .int .i64 4096, .int .i64 27, .int .i64 512]) (.int .i64 1)).run Tryd.prog w = .ok (.agg #[.int .i64 1, .int .i64 8]) w := by
  simp [Instr.index, asIntOf, run_underlying Tryd.underlying88, go_sem, part]
theorem ix_bd2 (w : World) : (Instr.index 88 (.agg #[.int .i64 1, .int .i64 8, .int .i64 1, .int .i64 8, .int .i64 1, .int .i64 8, .int .i64 1, .int .i64 64, .int .i64 2, .int .i64 256, .int .i64 0, .int .i64 524288, .int .i64 1, .int .i64 4096, .int .i64 27, .int .i64 512]) (.int .i64 2)).run Tryd.prog w = .ok (.agg #[.int .i64 1, .int .i64 8]) w := by
  simp [Instr.index, asIntOf, run_underlying Tryd.underlying88, go_sem, part]
theorem ix_bd3 (w : World) : (Instr.index 88 (.agg #[.int .i64 1, .int .i64 8, .int .i64 1, .int .i64 8, .int .i64 1, .int .i64 8, .int .i64 1, .int .i64 64, .int .i64 2, .int .i64 256, .int .i64 0, .int .i64 524288, .int .i64 1, .int .i64 4096, .int .i64 27, .int .i64 512]) (.int .i64 3)).run Tryd.prog w = .ok (.agg #[.int .i64 1, .int .i64 64]) w := by
  simp [Instr.index, asIntOf, run_underlying Tryd.underlying88, go_sem, part]
theorem ix_bd4 (w : World) : (Instr.index 88 (.agg #[.int .i64 1, .int .i64 8, .int .i64 1, .int .i64 8, .int .i64 1, .int .i64 8, .int .i64 1, .int .i64 64, .int .i64 2, .int .i64 256, .int .i64 0, .int .i64 524288, .int .i64 1, .int .i64 4096, .int .i64 27, .int .i64 512]) (.int .i64 4)).run Tryd.prog w = .ok (.agg #[.int .i64 2, .int .i64 256]) w := by
  simp [Instr.index, asIntOf, run_underlying Tryd.underlying88, go_sem, part]
theorem ix_bd5 (w : World) : (Instr.index 88 (.agg #[.int .i64 1, .int .i64 8, .int .i64 1, .int .i64 8, .int .i64 1, .int .i64 8, .int .i64 1, .int .i64 64, .int .i64 2, .int .i64 256, .int .i64 0, .int .i64 524288, .int .i64 1, .int .i64 4096, .int .i64 27, .int .i64 512]) (.int .i64 5)).run Tryd.prog w = .ok (.agg #[.int .i64 0, .int .i64 524288]) w := by
  simp [Instr.index, asIntOf, run_underlying Tryd.underlying88, go_sem, part]
theorem ix_bd6 (w : World) : (Instr.index 88 (.agg #[.int .i64 1, .int .i64 8, .int .i64 1, .int .i64 8, .int .i64 1, .int .i64 8, .int .i64 1, .int .i64 64, .int .i64 2, .int .i64 256, .int .i64 0, .int .i64 524288, .int .i64 1, .int .i64 4096, .int .i64 27, .int .i64 512]) (.int .i64 6)).run Tryd.prog w = .ok (.agg #[.int .i64 1, .int .i64 4096]) w := by
  simp [Instr.index, asIntOf, run_underlying Tryd.underlying88, go_sem, part]
theorem ix_bd7 (w : World) : (Instr.index 88 (.agg #[.int .i64 1, .int .i64 8, .int .i64 1, .int .i64 8, .int .i64 1, .int .i64 8, .int .i64 1, .int .i64 64, .int .i64 2, .int .i64 256, .int .i64 0, .int .i64 524288, .int .i64 1, .int .i64 4096, .int .i64 27, .int .i64 512]) (.int .i64 7)).run Tryd.prog w = .ok (.agg #[.int .i64 27, .int .i64 512]) w := by
  simp [Instr.index, asIntOf, run_underlying Tryd.underlying88, go_sem, part]
theorem ix_nu0 (x0 x1 x2 x3 x4 x5 x6 x7 : Int) (w : World) : (Instr.index 76 (.agg #[.int .i64 x0, .int .i64 x1, .int .i64 x2, .int .i64 x3, .int .i64 x4, .int .i64 x5, .int .i64 x6, .int .i64 x7]) (.int .i64 0)).run Tryd.prog w = .ok (.int .i64 x0) w := by
  simp [Instr.index, asIntOf, run_underlying Tryd.underlying76, go_sem, part]
theorem ix_nu1 (x0 x1 x2 x3 x4 x5 x6 x7 : Int) (w : World) : (Instr.index 76 (.agg #[.int .i64 x0, .int .i64 x1, .int .i64 x2, .int .i64 x3, .int .i64 x4, .int .i64 x5, .int .i64 x6, .int .i64 x7]) (.int .i64 1)).run Tryd.prog w = .ok (.int .i64 x1) w := by
  simp [Instr.index, asIntOf, run_underlying Tryd.underlying76, go_sem, part]
theorem ix_nu2 (x0 x1 x2 x3 x4 x5 x6 x7 : Int) (w : World) : (Instr.index 76 (.agg #[.int .i64 x0, .int .i64 x1, .int .i64 x2, .int .i64 x3, .int .i64 x4, .int .i64 x5, .int .i64 x6, .int .i64 x7]) (.int .i64 2)).run Tryd.prog w = .ok (.int .i64 x2) w := by
  simp [Instr.index, asIntOf, run_underlying Tryd.underlying76, go_sem, part]
theorem ix_nu3 (x0 x1 x2 x3 x4 x5 x6 x7 : Int) (w : World) : (Instr.index 76 (.agg #[.int .i64 x0, .int .i64 x1, .int .i64 x2, .int .i64 x3, .int .i64 x4, .int .i64 x5, .int .i64 x6, .int .i64 x7]) (.int .i64 3)).run Tryd.prog w = .ok (.int .i64 x3) w := by
  simp [Instr.index, asIntOf, run_underlying Tryd.underlying76, go_sem, part]
theorem ix_nu4 (x0 x1 x2 x3 x4 x5 x6 x7 : Int) (w : World) : (Instr.index 76 (.agg #[.int .i64 x0, .int .i64 x1, .int .i64 x2, .int .i64 x3, .int .i64 x4, .int .i64 x5, .int .i64 x6, .int .i64 x7]) (.int .i64 4)).run Tryd.prog w = .ok (.int .i64 x4) w := by
  simp [Instr.index, asIntOf, run_underlying Tryd.underlying76, go_sem, part]
theorem ix_nu5 (x0 x1 x2 x3 x4 x5 x6 x7 : Int) (w : World) : (Instr.index 76 (.agg #[.int .i64 x0, .int .i64 x1, .int .i64 x2, .int .i64 x3, .int .i64 x4, .int .i64 x5, .int .i64 x6, .int .i64 x7]) (.int .i64 5)).run Tryd.prog w = .ok (.int .i64 x5) w := by
  simp [Instr.index, asIntOf, run_underlying Tryd.underlying76, go_sem, part]
theorem ix_nu6 (x0 x1 x2 x3 x4 x5 x6 x7 : Int) (w : World) : (Instr.index 76 (.agg #[.int .i64 x0, .int .i64 x1, .int .i64 x2, .int .i64 x3, .int .i64 x4, .int .i64 x5, .int .i64 x6, .int .i64 x7]) (.int .i64 6)).run Tryd.prog w = .ok (.int .i64 x6) w := by
  simp [Instr.index, asIntOf, run_underlying Tryd.underlying76, go_sem, part]
theorem ix_nu7 (x0 x1 x2 x3 x4 x5 x6 x7 : Int) (w : World) : (Instr.index 76 (.agg #[.int .i64 x0, .int .i64 x1, .int .i64 x2, .int .i64 x3, .int .i64 x4, .int .i64 x5, .int .i64 x6, .int .i64 x7]) (.int .i64 7)).run Tryd.prog w = .ok (.int .i64 x7) w := by
  simp [Instr.index, asIntOf, run_underlying Tryd.underlying76, go_sem, part]
end Go.Proofs.YtgpeefedboomoabDoor
