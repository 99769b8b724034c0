/- A shape laid into a box in one step. -/
import Derived.Test.YtgpeefedboomoabDoorP2s
namespace Go.Proofs.YtgpeefedboomoabDoor
open Go.RowKit
set_option maxRecDepth 100000

theorem sh_size : (Tryd.prog.info? 33).map (·.size) = some 8 := by kernel_rfl
/-- A shape's store, its operands evaluated. -/
def ShStore (p v : Value) (o : Oper) (a : Act) (w : World) (next : Act → World → Prop) (Q : Exit → Act → World → Prop) : Prop :=
  Oper.wp Tryd.prog { o with op := .store 33 (.const p) (.const v) } a w next Q
theorem sh_store (d : Option Tmp) (x y : Operand) (t : TypeId) (p : String) (f : Array Edge) (g : Option (Nat × Bool)) (a : Act) (w : World) (next : Act → World → Prop) (Q : Exit → Act → World → Prop) :
    Oper.wp Tryd.prog ⟨d, .store 33 x y, t, p, f, g⟩ a w next Q = ShStore (a.eval x) (a.eval y) ⟨d, .assign x, t, p, f, g⟩ a w next Q := rfl
theorem ShStore.row {w : World} {b : Nat} {cs : Array Value} (h : w.heap[b]? = some (.cells cs 33 (0, 0))) (hs : cs.size = 8) (x0 x1 x2 x3 x4 x5 x6 x7 : Int) (o : Oper) (a : Act) (next : Act → World → Prop) (Q : Exit → Act → World → Prop) :
    ShStore (.pointer (some ⟨b, 0, none⟩)) (.agg #[.int .i64 x0, .int .i64 x1, .int .i64 x2, .int .i64 x3, .int .i64 x4, .int .i64 x5, .int .i64 x6, .int .i64 x7]) o a w next Q = next (a.put o.dst undef) (w.setRow b #[.int .i64 x0, .int .i64 x1, .int .i64 x2, .int .i64 x3, .int .i64 x4, .int .i64 x5, .int .i64 x6, .int .i64 x7]) := by
  have e : (Instr.storeAt 33 (.pointer (some ⟨b, 0, none⟩)) (.agg #[.int .i64 x0, .int .i64 x1, .int .i64 x2, .int .i64 x3, .int .i64 x4, .int .i64 x5, .int .i64 x6, .int .i64 x7])).run Tryd.prog w = .ok () (w.setRow b #[.int .i64 x0, .int .i64 x1, .int .i64 x2, .int .i64 x3, .int .i64 x4, .int .i64 x5, .int .i64 x6, .int .i64 x7]) := by
    simp only [Instr.storeAt, Instr.sureAddr, Sem.run_bind, Sem.run_pure, Result.andThen]
    exact run_storeVar_row w b 33 33 cs #[.int .i64 x0, .int .i64 x1, .int .i64 x2, .int .i64 x3, .int .i64 x4, .int .i64 x5, .int .i64 x6, .int .i64 x7] h sh_size hs (by simp [Value.oneCell'])
  unfold ShStore Oper.wp execOp
  simp only [Act.eval, Sem.run_bind, e, Result.andThen_ok, Sem.run_pure]
  rfl
theorem ShStore.new (x0 x1 x2 x3 x4 x5 x6 x7 : Int) (o : Oper) (a : Act) (w : World) (next : Act → World → Prop) (Q : Exit → Act → World → Prop) :
    ShStore (.pointer (some ⟨w.heap.size, 0, none⟩)) (.agg #[.int .i64 x0, .int .i64 x1, .int .i64 x2, .int .i64 x3, .int .i64 x4, .int .i64 x5, .int .i64 x6, .int .i64 x7]) o a (w.alloc (.cells #[.int .i64 0, .int .i64 0, .int .i64 0, .int .i64 0, .int .i64 0, .int .i64 0, .int .i64 0, .int .i64 0] 33)) next Q = next (a.put o.dst undef) (w.alloc (.cells #[.int .i64 x0, .int .i64 x1, .int .i64 x2, .int .i64 x3, .int .i64 x4, .int .i64 x5, .int .i64 x6, .int .i64 x7] 33)) := by
  rw [ShStore.row (heap_alloc_last w _) rfl, World.setRow_alloc_new]
end Go.Proofs.YtgpeefedboomoabDoor
