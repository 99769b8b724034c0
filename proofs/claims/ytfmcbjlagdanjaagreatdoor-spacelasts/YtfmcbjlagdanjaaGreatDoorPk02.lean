/- A layout laid into a new box, and read out of it, in one step. -/
import Derived.Test.YtfmcbjlagdanjaaGreatDoorPk01
import Derived.Deep.WholeRow
import Derived.Laws.CopyOwn
namespace Go.Proofs.YtfmcbjlagdanjaaGreatDoor
open Go.RowKit
set_option maxRecDepth 100000

theorem ly_size : (Tryz.prog.info? 29).map (·.size) = some 20 := by kernel_rfl
theorem st_new (w : World) (x0 x1 x2 x3 x4 x5 x6 x7 x8 x9 x10 x11 x12 x13 x14 x15 x16 x17 x18 x19 : Int) : (Instr.storeAt 29 (.pointer (some ⟨w.heap.size, 0, none⟩)) (.agg #[.int .i64 x0, .int .i64 x1, .int .i64 x2, .int .i64 x3, .int .i64 x4, .int .i64 x5, .int .i64 x6, .int .i64 x7, .int .i64 x8, .int .i64 x9, .int .i64 x10, .int .i64 x11, .int .i64 x12, .int .i64 x13, .int .i64 x14, .int .i64 x15, .int .i64 x16, .int .i64 x17, .int .i64 x18, .int .i64 x19])).run Tryz.prog (w.alloc (.cells #[.int .i64 0, .int .i64 0, .int .i64 0, .int .i64 0, .int .i64 0, .int .i64 0, .int .i64 0, .int .i64 0, .int .i64 0, .int .i64 0, .int .i64 0, .int .i64 0, .int .i64 0, .int .i64 0, .int .i64 0, .int .i64 0, .int .i64 0, .int .i64 0, .int .i64 0, .int .i64 0] 29)) = .ok () (w.alloc (.cells #[.int .i64 x0, .int .i64 x1, .int .i64 x2, .int .i64 x3, .int .i64 x4, .int .i64 x5, .int .i64 x6, .int .i64 x7, .int .i64 x8, .int .i64 x9, .int .i64 x10, .int .i64 x11, .int .i64 x12, .int .i64 x13, .int .i64 x14, .int .i64 x15, .int .i64 x16, .int .i64 x17, .int .i64 x18, .int .i64 x19] 29)) :=
  run_storeAt_new w 29 _ _ ly_size rfl (by simp [Value.oneCell'])
theorem st_drew (w : World) (x0 x1 x2 x3 x4 x5 x6 x7 x8 x9 x10 x11 x12 x13 x14 x15 x16 x17 x18 x19 : Int) : (Instr.storeAt 29 (.pointer (some ⟨w.heap.size, 0, none⟩)) (.agg #[.int .i64 x0, .int .i64 x1, .int .i64 x2, .int .i64 x3, .int .i64 x4, .int .i64 x5, .int .i64 x6, .int .i64 x7, .int .i64 x8, .int .i64 x9, .int .i64 x10, .int .i64 x11, .int .i64 x12, .int .i64 x13, .int .i64 x14, .int .i64 x15, .int .i64 x16, .int .i64 x17, .int .i64 x18, .int .i64 x19])).run Tryz.prog (w.alloc (.cells #[.int .i64 0, .int .i64 0, .int .i64 0, .int .i64 0, .int .i64 0, .int .i64 0, .int .i64 0, .int .i64 0, .int .i64 0, .int .i64 0, .int .i64 0, .int .i64 0, .int .i64 0, .int .i64 0, .int .i64 0, .int .i64 0, .int .i64 0, .int .i64 0, .int .i64 0, .int .i64 0] 29)).drew = .ok () (w.alloc (.cells #[.int .i64 x0, .int .i64 x1, .int .i64 x2, .int .i64 x3, .int .i64 x4, .int .i64 x5, .int .i64 x6, .int .i64 x7, .int .i64 x8, .int .i64 x9, .int .i64 x10, .int .i64 x11, .int .i64 x12, .int .i64 x13, .int .i64 x14, .int .i64 x15, .int .i64 x16, .int .i64 x17, .int .i64 x18, .int .i64 x19] 29)).drew :=
  run_storeAt_new w.drew 29 _ _ ly_size rfl (by simp [Value.oneCell'])
theorem ld_row (w : World) (b : Nat) (cs : Array Value) (hs : cs.size = 20) (h : w.heap[b]? = some (.cells cs 29 (0, 0))) : (Instr.loadAt 29 (.pointer (some ⟨b, 0, none⟩))).run Tryz.prog w = .ok (.agg cs) w := by
  simp only [Instr.loadAt, Instr.sureAddr, Sem.run_bind, Sem.run_pure, Result.andThen]
  exact run_loadVar_row w b 29 29 cs (0, 0) _ h Tryz.underlying29 rfl (by rw [hs]; exact ly_size)
theorem ld_new (w : World) (x0 x1 x2 x3 x4 x5 x6 x7 x8 x9 x10 x11 x12 x13 x14 x15 x16 x17 x18 x19 : Int) : (Instr.loadAt 29 (.pointer (some ⟨w.heap.size, 0, none⟩))).run Tryz.prog (w.alloc (.cells #[.int .i64 x0, .int .i64 x1, .int .i64 x2, .int .i64 x3, .int .i64 x4, .int .i64 x5, .int .i64 x6, .int .i64 x7, .int .i64 x8, .int .i64 x9, .int .i64 x10, .int .i64 x11, .int .i64 x12, .int .i64 x13, .int .i64 x14, .int .i64 x15, .int .i64 x16, .int .i64 x17, .int .i64 x18, .int .i64 x19] 29)) = .ok (.agg #[.int .i64 x0, .int .i64 x1, .int .i64 x2, .int .i64 x3, .int .i64 x4, .int .i64 x5, .int .i64 x6, .int .i64 x7, .int .i64 x8, .int .i64 x9, .int .i64 x10, .int .i64 x11, .int .i64 x12, .int .i64 x13, .int .i64 x14, .int .i64 x15, .int .i64 x16, .int .i64 x17, .int .i64 x18, .int .i64 x19]) (w.alloc (.cells #[.int .i64 x0, .int .i64 x1, .int .i64 x2, .int .i64 x3, .int .i64 x4, .int .i64 x5, .int .i64 x6, .int .i64 x7, .int .i64 x8, .int .i64 x9, .int .i64 x10, .int .i64 x11, .int .i64 x12, .int .i64 x13, .int .i64 x14, .int .i64 x15, .int .i64 x16, .int .i64 x17, .int .i64 x18, .int .i64 x19] 29)) :=
  ld_row _ _ _ rfl (heap_alloc_last w _)
theorem ld_drew (w : World) (x0 x1 x2 x3 x4 x5 x6 x7 x8 x9 x10 x11 x12 x13 x14 x15 x16 x17 x18 x19 : Int) : (Instr.loadAt 29 (.pointer (some ⟨w.heap.size, 0, none⟩))).run Tryz.prog (w.alloc (.cells #[.int .i64 x0, .int .i64 x1, .int .i64 x2, .int .i64 x3, .int .i64 x4, .int .i64 x5, .int .i64 x6, .int .i64 x7, .int .i64 x8, .int .i64 x9, .int .i64 x10, .int .i64 x11, .int .i64 x12, .int .i64 x13, .int .i64 x14, .int .i64 x15, .int .i64 x16, .int .i64 x17, .int .i64 x18, .int .i64 x19] 29)).drew = .ok (.agg #[.int .i64 x0, .int .i64 x1, .int .i64 x2, .int .i64 x3, .int .i64 x4, .int .i64 x5, .int .i64 x6, .int .i64 x7, .int .i64 x8, .int .i64 x9, .int .i64 x10, .int .i64 x11, .int .i64 x12, .int .i64 x13, .int .i64 x14, .int .i64 x15, .int .i64 x16, .int .i64 x17, .int .i64 x18, .int .i64 x19]) (w.alloc (.cells #[.int .i64 x0, .int .i64 x1, .int .i64 x2, .int .i64 x3, .int .i64 x4, .int .i64 x5, .int .i64 x6, .int .i64 x7, .int .i64 x8, .int .i64 x9, .int .i64 x10, .int .i64 x11, .int .i64 x12, .int .i64 x13, .int .i64 x14, .int .i64 x15, .int .i64 x16, .int .i64 x17, .int .i64 x18, .int .i64 x19] 29)).drew :=
  ld_row _ _ _ rfl (heap_alloc_last w _)
/-- A layout's store, its operands evaluated. -/
def LyStore (p v : Value) (o : Oper) (a : Act) (w : World) (next : Act → World → Prop) (Q : Exit → Act → World → Prop) : Prop :=
  Oper.wp Tryz.prog { o with op := .store 29 (.const p) (.const v) } a w next Q
theorem ly_store (d : Option Tmp) (x y : Operand) (t : TypeId) (p : String) (f : Array Edge) (g : Option (Nat × Bool)) (a : Act) (w : World) (next : Act → World → Prop) (Q : Exit → Act → World → Prop) :
    Oper.wp Tryz.prog ⟨d, .store 29 x y, t, p, f, g⟩ a w next Q = LyStore (a.eval x) (a.eval y) ⟨d, .assign x, t, p, f, g⟩ a w next Q := rfl
theorem LyStore.new (x0 x1 x2 x3 x4 x5 x6 x7 x8 x9 x10 x11 x12 x13 x14 x15 x16 x17 x18 x19 : Int) (o : Oper) (a : Act) (w : World) (next : Act → World → Prop) (Q : Exit → Act → World → Prop) :
    LyStore (.pointer (some ⟨w.heap.size, 0, none⟩)) (.agg #[.int .i64 x0, .int .i64 x1, .int .i64 x2, .int .i64 x3, .int .i64 x4, .int .i64 x5, .int .i64 x6, .int .i64 x7, .int .i64 x8, .int .i64 x9, .int .i64 x10, .int .i64 x11, .int .i64 x12, .int .i64 x13, .int .i64 x14, .int .i64 x15, .int .i64 x16, .int .i64 x17, .int .i64 x18, .int .i64 x19]) o a (w.alloc (.cells #[.int .i64 0, .int .i64 0, .int .i64 0, .int .i64 0, .int .i64 0, .int .i64 0, .int .i64 0, .int .i64 0, .int .i64 0, .int .i64 0, .int .i64 0, .int .i64 0, .int .i64 0, .int .i64 0, .int .i64 0, .int .i64 0, .int .i64 0, .int .i64 0, .int .i64 0, .int .i64 0] 29)) next Q = next (a.put o.dst undef) (w.alloc (.cells #[.int .i64 x0, .int .i64 x1, .int .i64 x2, .int .i64 x3, .int .i64 x4, .int .i64 x5, .int .i64 x6, .int .i64 x7, .int .i64 x8, .int .i64 x9, .int .i64 x10, .int .i64 x11, .int .i64 x12, .int .i64 x13, .int .i64 x14, .int .i64 x15, .int .i64 x16, .int .i64 x17, .int .i64 x18, .int .i64 x19] 29)) := by
  unfold LyStore Oper.wp execOp
  simp only [Act.eval, Sem.run_bind, st_new, Result.andThen_ok, Sem.run_pure]
  rfl
theorem LyStore.drew (x0 x1 x2 x3 x4 x5 x6 x7 x8 x9 x10 x11 x12 x13 x14 x15 x16 x17 x18 x19 : Int) (o : Oper) (a : Act) (w : World) (next : Act → World → Prop) (Q : Exit → Act → World → Prop) :
    LyStore (.pointer (some ⟨w.heap.size, 0, none⟩)) (.agg #[.int .i64 x0, .int .i64 x1, .int .i64 x2, .int .i64 x3, .int .i64 x4, .int .i64 x5, .int .i64 x6, .int .i64 x7, .int .i64 x8, .int .i64 x9, .int .i64 x10, .int .i64 x11, .int .i64 x12, .int .i64 x13, .int .i64 x14, .int .i64 x15, .int .i64 x16, .int .i64 x17, .int .i64 x18, .int .i64 x19]) o a (w.alloc (.cells #[.int .i64 0, .int .i64 0, .int .i64 0, .int .i64 0, .int .i64 0, .int .i64 0, .int .i64 0, .int .i64 0, .int .i64 0, .int .i64 0, .int .i64 0, .int .i64 0, .int .i64 0, .int .i64 0, .int .i64 0, .int .i64 0, .int .i64 0, .int .i64 0, .int .i64 0, .int .i64 0] 29)).drew next Q = next (a.put o.dst undef) (w.alloc (.cells #[.int .i64 x0, .int .i64 x1, .int .i64 x2, .int .i64 x3, .int .i64 x4, .int .i64 x5, .int .i64 x6, .int .i64 x7, .int .i64 x8, .int .i64 x9, .int .i64 x10, .int .i64 x11, .int .i64 x12, .int .i64 x13, .int .i64 x14, .int .i64 x15, .int .i64 x16, .int .i64 x17, .int .i64 x18, .int .i64 x19] 29)).drew := by
  unfold LyStore Oper.wp execOp
  simp only [Act.eval, Sem.run_bind, st_drew, Result.andThen_ok, Sem.run_pure]
  rfl
theorem LyStore.row {w : World} {b : Nat} {cs : Array Value} (h : w.heap[b]? = some (.cells cs 29 (0, 0))) (hs : cs.size = 20) (x0 x1 x2 x3 x4 x5 x6 x7 x8 x9 x10 x11 x12 x13 x14 x15 x16 x17 x18 x19 : Int) (o : Oper) (a : Act) (next : Act → World → Prop) (Q : Exit → Act → World → Prop) :
    LyStore (.pointer (some ⟨b, 0, none⟩)) (.agg #[.int .i64 x0, .int .i64 x1, .int .i64 x2, .int .i64 x3, .int .i64 x4, .int .i64 x5, .int .i64 x6, .int .i64 x7, .int .i64 x8, .int .i64 x9, .int .i64 x10, .int .i64 x11, .int .i64 x12, .int .i64 x13, .int .i64 x14, .int .i64 x15, .int .i64 x16, .int .i64 x17, .int .i64 x18, .int .i64 x19]) o a w next Q = next (a.put o.dst undef) (w.setRow b #[.int .i64 x0, .int .i64 x1, .int .i64 x2, .int .i64 x3, .int .i64 x4, .int .i64 x5, .int .i64 x6, .int .i64 x7, .int .i64 x8, .int .i64 x9, .int .i64 x10, .int .i64 x11, .int .i64 x12, .int .i64 x13, .int .i64 x14, .int .i64 x15, .int .i64 x16, .int .i64 x17, .int .i64 x18, .int .i64 x19]) := by
  have e : (Instr.storeAt 29 (.pointer (some ⟨b, 0, none⟩)) (.agg #[.int .i64 x0, .int .i64 x1, .int .i64 x2, .int .i64 x3, .int .i64 x4, .int .i64 x5, .int .i64 x6, .int .i64 x7, .int .i64 x8, .int .i64 x9, .int .i64 x10, .int .i64 x11, .int .i64 x12, .int .i64 x13, .int .i64 x14, .int .i64 x15, .int .i64 x16, .int .i64 x17, .int .i64 x18, .int .i64 x19])).run Tryz.prog w = .ok () (w.setRow b #[.int .i64 x0, .int .i64 x1, .int .i64 x2, .int .i64 x3, .int .i64 x4, .int .i64 x5, .int .i64 x6, .int .i64 x7, .int .i64 x8, .int .i64 x9, .int .i64 x10, .int .i64 x11, .int .i64 x12, .int .i64 x13, .int .i64 x14, .int .i64 x15, .int .i64 x16, .int .i64 x17, .int .i64 x18, .int .i64 x19]) := by
    simp only [Instr.storeAt, Instr.sureAddr, Sem.run_bind, Sem.run_pure, Result.andThen]
    exact run_storeVar_row w b 29 29 cs #[.int .i64 x0, .int .i64 x1, .int .i64 x2, .int .i64 x3, .int .i64 x4, .int .i64 x5, .int .i64 x6, .int .i64 x7, .int .i64 x8, .int .i64 x9, .int .i64 x10, .int .i64 x11, .int .i64 x12, .int .i64 x13, .int .i64 x14, .int .i64 x15, .int .i64 x16, .int .i64 x17, .int .i64 x18, .int .i64 x19] h ly_size hs (by simp [Value.oneCell'])
  unfold LyStore Oper.wp execOp
  simp only [Act.eval, Sem.run_bind, e, Result.andThen_ok, Sem.run_pure]
  rfl
/-- A layout's load, its operand evaluated. -/
def LyLoad (p : Value) (o : Oper) (a : Act) (w : World) (next : Act → World → Prop) (Q : Exit → Act → World → Prop) : Prop :=
  Oper.wp Tryz.prog { o with op := .load 29 (.const p) } a w next Q
theorem ly_load (d : Option Tmp) (x : Operand) (t : TypeId) (p : String) (f : Array Edge) (g : Option (Nat × Bool)) (a : Act) (w : World) (next : Act → World → Prop) (Q : Exit → Act → World → Prop) :
    Oper.wp Tryz.prog ⟨d, .load 29 x, t, p, f, g⟩ a w next Q = LyLoad (a.eval x) ⟨d, .assign x, t, p, f, g⟩ a w next Q := rfl
theorem LyLoad.row {w : World} {b : Nat} {cs : Array Value} (h : w.heap[b]? = some (.cells cs 29 (0, 0))) (hs : cs.size = 20) (o : Oper) (a : Act) (next : Act → World → Prop) (Q : Exit → Act → World → Prop) :
    LyLoad (.pointer (some ⟨b, 0, none⟩)) o a w next Q = next (a.put o.dst (.agg cs)) w := by
  unfold LyLoad Oper.wp execOp
  simp only [Act.eval, Sem.run_bind, ld_row w b cs hs h, Result.andThen_ok, Sem.run_pure]
  rfl
theorem LyLoad.new (x0 x1 x2 x3 x4 x5 x6 x7 x8 x9 x10 x11 x12 x13 x14 x15 x16 x17 x18 x19 : Int) (o : Oper) (a : Act) (w : World) (next : Act → World → Prop) (Q : Exit → Act → World → Prop) :
    LyLoad (.pointer (some ⟨w.heap.size, 0, none⟩)) o a (w.alloc (.cells #[.int .i64 x0, .int .i64 x1, .int .i64 x2, .int .i64 x3, .int .i64 x4, .int .i64 x5, .int .i64 x6, .int .i64 x7, .int .i64 x8, .int .i64 x9, .int .i64 x10, .int .i64 x11, .int .i64 x12, .int .i64 x13, .int .i64 x14, .int .i64 x15, .int .i64 x16, .int .i64 x17, .int .i64 x18, .int .i64 x19] 29)) next Q = next (a.put o.dst (.agg #[.int .i64 x0, .int .i64 x1, .int .i64 x2, .int .i64 x3, .int .i64 x4, .int .i64 x5, .int .i64 x6, .int .i64 x7, .int .i64 x8, .int .i64 x9, .int .i64 x10, .int .i64 x11, .int .i64 x12, .int .i64 x13, .int .i64 x14, .int .i64 x15, .int .i64 x16, .int .i64 x17, .int .i64 x18, .int .i64 x19])) (w.alloc (.cells #[.int .i64 x0, .int .i64 x1, .int .i64 x2, .int .i64 x3, .int .i64 x4, .int .i64 x5, .int .i64 x6, .int .i64 x7, .int .i64 x8, .int .i64 x9, .int .i64 x10, .int .i64 x11, .int .i64 x12, .int .i64 x13, .int .i64 x14, .int .i64 x15, .int .i64 x16, .int .i64 x17, .int .i64 x18, .int .i64 x19] 29)) :=
  LyLoad.row (heap_alloc_last w _) rfl o a next Q
theorem LyLoad.drew (x0 x1 x2 x3 x4 x5 x6 x7 x8 x9 x10 x11 x12 x13 x14 x15 x16 x17 x18 x19 : Int) (o : Oper) (a : Act) (w : World) (next : Act → World → Prop) (Q : Exit → Act → World → Prop) :
    LyLoad (.pointer (some ⟨w.heap.size, 0, none⟩)) o a (w.alloc (.cells #[.int .i64 x0, .int .i64 x1, .int .i64 x2, .int .i64 x3, .int .i64 x4, .int .i64 x5, .int .i64 x6, .int .i64 x7, .int .i64 x8, .int .i64 x9, .int .i64 x10, .int .i64 x11, .int .i64 x12, .int .i64 x13, .int .i64 x14, .int .i64 x15, .int .i64 x16, .int .i64 x17, .int .i64 x18, .int .i64 x19] 29)).drew next Q = next (a.put o.dst (.agg #[.int .i64 x0, .int .i64 x1, .int .i64 x2, .int .i64 x3, .int .i64 x4, .int .i64 x5, .int .i64 x6, .int .i64 x7, .int .i64 x8, .int .i64 x9, .int .i64 x10, .int .i64 x11, .int .i64 x12, .int .i64 x13, .int .i64 x14, .int .i64 x15, .int .i64 x16, .int .i64 x17, .int .i64 x18, .int .i64 x19])) (w.alloc (.cells #[.int .i64 x0, .int .i64 x1, .int .i64 x2, .int .i64 x3, .int .i64 x4, .int .i64 x5, .int .i64 x6, .int .i64 x7, .int .i64 x8, .int .i64 x9, .int .i64 x10, .int .i64 x11, .int .i64 x12, .int .i64 x13, .int .i64 x14, .int .i64 x15, .int .i64 x16, .int .i64 x17, .int .i64 x18, .int .i64 x19] 29)).drew :=
  LyLoad.row (w := (w.alloc _).drew) (heap_alloc_last w _) rfl o a next Q
end Go.Proofs.YtfmcbjlagdanjaaGreatDoor

/- layOut by its contract. -/
namespace Go.Proofs.YtfmcbjlagdanjaaGreatDoor
open Go.RowKit
set_option maxRecDepth 100000
attribute [local go_sem ↓ 100000] ly_store ly_load
attribute [local go_sem] LyStore.new LyStore.drew LyLoad.new LyLoad.drew

theorem parts_four (n : Int) (w : World) (hn : 0 ≤ n) (hn1 : n ≤ 1000000) :
    Calls Tryz.prog 142 #[.int .i64 n, .int .i64 4] w fun e w' => e = .returned (.int .i64 ((n + 3) / 4)) ∧ w' = w := by
  have h := parts_any n 4 w hn (by omega) hn1 (by omega)
  rwa [show n + 4 - 1 = n + 3 by omega] at h

set_option maxHeartbeats 2000000 in
theorem layOut_any (s : Shp) (h : InB s) (w : World) :
    Calls Tryz.prog 93 #[shV s] w fun e w' => e = .returned (lyV (layOf s)) ∧ Below w.heap.size w w' := by
  have j0 := h.jo0
  have j1 := h.jo1
  have c0 := h.ca0
  have c1 := h.ca1
  have i0 := h.ino0
  have i1 := h.ino1
  have da0 := h.da0
  have da1 := h.da1
  have d0 : 0 ≤ (s.ino + 3) / 4 := by omega
  have d1 : (s.ino + 3) / 4 ≤ 100 := by omega
  clear h
  go_enter Tryz.func93, Tryz.ntmps93
  go_wp2
  have hB0 : ShBox ((w.alloc (.cells #[.int .i64 s.cl, .int .i64 s.wi, .int .i64 s.pl, .int .i64 s.ca, .int .i64 s.ino, .int .i64 s.qu, .int .i64 s.da, .int .i64 s.jo] 27)).alloc (.cells #[.int .i64 0, .int .i64 0, .int .i64 0, .int .i64 0, .int .i64 0, .int .i64 0, .int .i64 0, .int .i64 0, .int .i64 0, .int .i64 0, .int .i64 0, .int .i64 0, .int .i64 0, .int .i64 0, .int .i64 0, .int .i64 0, .int .i64 0, .int .i64 0, .int .i64 0, .int .i64 0] 29)) w.heap.size s := (ShBox.new w s).later (newBox _ _) (by simp)
  have hZ0 : ((w.alloc (.cells #[.int .i64 s.cl, .int .i64 s.wi, .int .i64 s.pl, .int .i64 s.ca, .int .i64 s.ino, .int .i64 s.qu, .int .i64 s.da, .int .i64 s.jo] 27)).alloc (.cells #[.int .i64 0, .int .i64 0, .int .i64 0, .int .i64 0, .int .i64 0, .int .i64 0, .int .i64 0, .int .i64 0, .int .i64 0, .int .i64 0, .int .i64 0, .int .i64 0, .int .i64 0, .int .i64 0, .int .i64 0, .int .i64 0, .int .i64 0, .int .i64 0, .int .i64 0, .int .i64 0] 29)).heap[w.heap.size + 1]? = some (.cells #[.int .i64 0, .int .i64 0, .int .i64 0, .int .i64 0, .int .i64 0, .int .i64 0, .int .i64 0, .int .i64 0, .int .i64 0, .int .i64 0, .int .i64 0, .int .i64 0, .int .i64 0, .int .i64 0, .int .i64 0, .int .i64 0, .int .i64 0, .int .i64 0, .int .i64 0, .int .i64 0] 29 (0, 0)) := heap_new2 w _ _
  have hb0 : Below w.heap.size w ((w.alloc (.cells #[.int .i64 s.cl, .int .i64 s.wi, .int .i64 s.pl, .int .i64 s.ca, .int .i64 s.ino, .int .i64 s.qu, .int .i64 s.da, .int .i64 s.jo] 27)).alloc (.cells #[.int .i64 0, .int .i64 0, .int .i64 0, .int .i64 0, .int .i64 0, .int .i64 0, .int .i64 0, .int .i64 0, .int .i64 0, .int .i64 0, .int .i64 0, .int .i64 0, .int .i64 0, .int .i64 0, .int .i64 0, .int .i64 0, .int .i64 0, .int .i64 0, .int .i64 0, .int .i64 0] 29)) := (newBox w _).trans ((newBox _ _).mono (by simp))
  have hs0 : w.heap.size < ((w.alloc (.cells #[.int .i64 s.cl, .int .i64 s.wi, .int .i64 s.pl, .int .i64 s.ca, .int .i64 s.ino, .int .i64 s.qu, .int .i64 s.da, .int .i64 s.jo] 27)).alloc (.cells #[.int .i64 0, .int .i64 0, .int .i64 0, .int .i64 0, .int .i64 0, .int .i64 0, .int .i64 0, .int .i64 0, .int .i64 0, .int .i64 0, .int .i64 0, .int .i64 0, .int .i64 0, .int .i64 0, .int .i64 0, .int .i64 0, .int .i64 0, .int .i64 0, .int .i64 0, .int .i64 0] 29)).heap.size := by simp; omega
  generalize ((w.alloc (.cells #[.int .i64 s.cl, .int .i64 s.wi, .int .i64 s.pl, .int .i64 s.ca, .int .i64 s.ino, .int .i64 s.qu, .int .i64 s.da, .int .i64 s.jo] 27)).alloc (.cells #[.int .i64 0, .int .i64 0, .int .i64 0, .int .i64 0, .int .i64 0, .int .i64 0, .int .i64 0, .int .i64 0, .int .i64 0, .int .i64 0, .int .i64 0, .int .i64 0, .int .i64 0, .int .i64 0, .int .i64 0, .int .i64 0, .int .i64 0, .int .i64 0, .int .i64 0, .int .i64 0] 29)) = w0 at *
  have hB1 : ShBox w0.drew w.heap.size s := hB0.later (Below.refl w0.heap.size w0).drew hs0
  go_region_held3 (fun w' => w'.cell? ⟨w.heap.size, 0, none⟩ = some (.int .i64 s.cl) ∧ w'.cell? ⟨w.heap.size, 1, none⟩ = some (.int .i64 s.wi) ∧ w'.cell? ⟨w.heap.size, 2, none⟩ = some (.int .i64 s.pl) ∧ w'.cell? ⟨w.heap.size, 3, none⟩ = some (.int .i64 s.ca) ∧ w'.cell? ⟨w.heap.size, 4, none⟩ = some (.int .i64 s.ino) ∧ w'.cell? ⟨w.heap.size, 5, none⟩ = some (.int .i64 s.qu) ∧ w'.cell? ⟨w.heap.size, 6, none⟩ = some (.int .i64 s.da) ∧ w'.cell? ⟨w.heap.size, 7, none⟩ = some (.int .i64 s.jo))
    (first | with_reducible exact hB1.all | with_reducible exact hB0.all | with_reducible exact (hB0.later (newBox _ _).drew hs0).all | with_reducible exact (hB0.later (newBox _ _) hs0).all)
    (first
      | (go_at_call 142; refine (parts_four s.ino _ (by omega) (by omega)).mono ?_; rintro e wq ⟨rfl, hq⟩; subst wq))
  all_goals
    have hst : ∀ (u : Obj) (x0 x1 x2 x3 x4 x5 x6 x7 x8 x9 x10 x11 x12 x13 x14 x15 x16 x17 x18 x19 : Int) (o : Oper) (a : Act) (next : Act → World → Prop) (Q : Exit → Act → World → Prop), LyStore (.pointer (some ⟨w.heap.size + 1, 0, none⟩)) (.agg #[.int .i64 x0, .int .i64 x1, .int .i64 x2, .int .i64 x3, .int .i64 x4, .int .i64 x5, .int .i64 x6, .int .i64 x7, .int .i64 x8, .int .i64 x9, .int .i64 x10, .int .i64 x11, .int .i64 x12, .int .i64 x13, .int .i64 x14, .int .i64 x15, .int .i64 x16, .int .i64 x17, .int .i64 x18, .int .i64 x19]) o a (w0.alloc u).drew next Q = next (a.put o.dst undef) ((w0.alloc u).drew.setRow (w.heap.size + 1) #[.int .i64 x0, .int .i64 x1, .int .i64 x2, .int .i64 x3, .int .i64 x4, .int .i64 x5, .int .i64 x6, .int .i64 x7, .int .i64 x8, .int .i64 x9, .int .i64 x10, .int .i64 x11, .int .i64 x12, .int .i64 x13, .int .i64 x14, .int .i64 x15, .int .i64 x16, .int .i64 x17, .int .i64 x18, .int .i64 x19]) := fun u => LyStore.row (((newBox w0 u).block _ (lt_of_block hZ0)).trans hZ0) rfl
    go_wp2
    refine bodyPost_ret (results_cell_row rfl _ _ (w.heap.size + 1) 29 _ (0, 0) _ rfl (setRow_heap _ _ _ _ _ _ (((newBox w0 _).block _ (lt_of_block hZ0)).trans hZ0)) Tryz.underlying29 rfl ly_size) rfl ?_
    exact ⟨rfl, below_setRow (hb0.trans ((newBox w0 _).mono hb0.size)).drew (by omega) _⟩
end Go.Proofs.YtfmcbjlagdanjaaGreatDoor

/- An element of the table of bounds; of eight numbers. -/
namespace Go.Proofs.YtfmcbjlagdanjaaGreatDoor
open Go.RowKit
set_option maxRecDepth 100000

theorem ix_bd0 (w : World) : (Instr.index 207 (.agg #[.int .i64 1, .int .i64 8, .int .i64 1, .int .i64 8, .int .i64 1, .int .i64 8, .int .i64 1, .int .i64 64, .int .i64 2, .int .i64 256, .int .i64 0, .int .i64 524288, .int .i64 1, .int .i64 4096, .int .i64 27, .int .i64 512]) (.int .i64 0)).run Tryz.prog w = .ok (.agg #[.int .i64 1, .int .i64 8]) w := by
  simp [Instr.index, asIntOf, run_underlying Tryz.underlying207, go_sem, part]
theorem ix_bd1 (w : World) : (Instr.index 207 (.agg #[.int .i64 1, .int .i64 8, .int .i64 1, .int .i64 8, .int .i64 1, .int .i64 8, .int .i64 1, .int .i64 64, .int .i64 2, .int .i64 256, .int .i64 0, .int .i64 524288, .int .i64 1, .int .i64 4096, .int .i64 27, .int .i64 512]) (.int .i64 1)).run Tryz.prog w = .ok (.agg #[.int .i64 1, .int .i64 8]) w := by
  simp [Instr.index, asIntOf, run_underlying Tryz.underlying207, go_sem, part]
theorem ix_bd2 (w : World) : (Instr.index 207 (.agg #[.int .i64 1, .int .i64 8, .int .i64 1, .int .i64 8, .int .i64 1, .int .i64 8, .int .i64 1, .int .i64 64, .int .i64 2, .int .i64 256, .int .i64 0, .int .i64 524288, .int .i64 1, .int .i64 4096, .int .i64 27, .int .i64 512]) (.int .i64 2)).run Tryz.prog w = .ok (.agg #[.int .i64 1, .int .i64 8]) w := by
  simp [Instr.index, asIntOf, run_underlying Tryz.underlying207, go_sem, part]
theorem ix_bd3 (w : World) : (Instr.index 207 (.agg #[.int .i64 1, .int .i64 8, .int .i64 1, .int .i64 8, .int .i64 1, .int .i64 8, .int .i64 1, .int .i64 64, .int .i64 2, .int .i64 256, .int .i64 0, .int .i64 524288, .int .i64 1, .int .i64 4096, .int .i64 27, .int .i64 512]) (.int .i64 3)).run Tryz.prog w = .ok (.agg #[.int .i64 1, .int .i64 64]) w := by
  simp [Instr.index, asIntOf, run_underlying Tryz.underlying207, go_sem, part]
theorem ix_bd4 (w : World) : (Instr.index 207 (.agg #[.int .i64 1, .int .i64 8, .int .i64 1, .int .i64 8, .int .i64 1, .int .i64 8, .int .i64 1, .int .i64 64, .int .i64 2, .int .i64 256, .int .i64 0, .int .i64 524288, .int .i64 1, .int .i64 4096, .int .i64 27, .int .i64 512]) (.int .i64 4)).run Tryz.prog w = .ok (.agg #[.int .i64 2, .int .i64 256]) w := by
  simp [Instr.index, asIntOf, run_underlying Tryz.underlying207, go_sem, part]
theorem ix_bd5 (w : World) : (Instr.index 207 (.agg #[.int .i64 1, .int .i64 8, .int .i64 1, .int .i64 8, .int .i64 1, .int .i64 8, .int .i64 1, .int .i64 64, .int .i64 2, .int .i64 256, .int .i64 0, .int .i64 524288, .int .i64 1, .int .i64 4096, .int .i64 27, .int .i64 512]) (.int .i64 5)).run Tryz.prog w = .ok (.agg #[.int .i64 0, .int .i64 524288]) w := by
  simp [Instr.index, asIntOf, run_underlying Tryz.underlying207, go_sem, part]
theorem ix_bd6 (w : World) : (Instr.index 207 (.agg #[.int .i64 1, .int .i64 8, .int .i64 1, .int .i64 8, .int .i64 1, .int .i64 8, .int .i64 1, .int .i64 64, .int .i64 2, .int .i64 256, .int .i64 0, .int .i64 524288, .int .i64 1, .int .i64 4096, .int .i64 27, .int .i64 512]) (.int .i64 6)).run Tryz.prog w = .ok (.agg #[.int .i64 1, .int .i64 4096]) w := by
  simp [Instr.index, asIntOf, run_underlying Tryz.underlying207, go_sem, part]
theorem ix_bd7 (w : World) : (Instr.index 207 (.agg #[.int .i64 1, .int .i64 8, .int .i64 1, .int .i64 8, .int .i64 1, .int .i64 8, .int .i64 1, .int .i64 64, .int .i64 2, .int .i64 256, .int .i64 0, .int .i64 524288, .int .i64 1, .int .i64 4096, .int .i64 27, .int .i64 512]) (.int .i64 7)).run Tryz.prog w = .ok (.agg #[.int .i64 27, .int .i64 512]) w := by
  simp [Instr.index, asIntOf, run_underlying Tryz.underlying207, go_sem, part]
theorem ix_nu0 (x0 x1 x2 x3 x4 x5 x6 x7 : Int) (w : World) : (Instr.index 203 (.agg #[.int .i64 x0, .int .i64 x1, .int .i64 x2, .int .i64 x3, .int .i64 x4, .int .i64 x5, .int .i64 x6, .int .i64 x7]) (.int .i64 0)).run Tryz.prog w = .ok (.int .i64 x0) w := by
  simp [Instr.index, asIntOf, run_underlying Tryz.underlying203, go_sem, part]
theorem ix_nu1 (x0 x1 x2 x3 x4 x5 x6 x7 : Int) (w : World) : (Instr.index 203 (.agg #[.int .i64 x0, .int .i64 x1, .int .i64 x2, .int .i64 x3, .int .i64 x4, .int .i64 x5, .int .i64 x6, .int .i64 x7]) (.int .i64 1)).run Tryz.prog w = .ok (.int .i64 x1) w := by
  simp [Instr.index, asIntOf, run_underlying Tryz.underlying203, go_sem, part]
theorem ix_nu2 (x0 x1 x2 x3 x4 x5 x6 x7 : Int) (w : World) : (Instr.index 203 (.agg #[.int .i64 x0, .int .i64 x1, .int .i64 x2, .int .i64 x3, .int .i64 x4, .int .i64 x5, .int .i64 x6, .int .i64 x7]) (.int .i64 2)).run Tryz.prog w = .ok (.int .i64 x2) w := by
  simp [Instr.index, asIntOf, run_underlying Tryz.underlying203, go_sem, part]
theorem ix_nu3 (x0 x1 x2 x3 x4 x5 x6 x7 : Int) (w : World) : (Instr.index 203 (.agg #[.int .i64 x0, .int .i64 x1, .int .i64 x2, .int .i64 x3, .int .i64 x4, .int .i64 x5, .int .i64 x6, .int .i64 x7]) (.int .i64 3)).run Tryz.prog w = .ok (.int .i64 x3) w := by
  simp [Instr.index, asIntOf, run_underlying Tryz.underlying203, go_sem, part]
theorem ix_nu4 (x0 x1 x2 x3 x4 x5 x6 x7 : Int) (w : World) : (Instr.index 203 (.agg #[.int .i64 x0, .int .i64 x1, .int .i64 x2, .int .i64 x3, .int .i64 x4, .int .i64 x5, .int .i64 x6, .int .i64 x7]) (.int .i64 4)).run Tryz.prog w = .ok (.int .i64 x4) w := by
  simp [Instr.index, asIntOf, run_underlying Tryz.underlying203, go_sem, part]
theorem ix_nu5 (x0 x1 x2 x3 x4 x5 x6 x7 : Int) (w : World) : (Instr.index 203 (.agg #[.int .i64 x0, .int .i64 x1, .int .i64 x2, .int .i64 x3, .int .i64 x4, .int .i64 x5, .int .i64 x6, .int .i64 x7]) (.int .i64 5)).run Tryz.prog w = .ok (.int .i64 x5) w := by
  simp [Instr.index, asIntOf, run_underlying Tryz.underlying203, go_sem, part]
theorem ix_nu6 (x0 x1 x2 x3 x4 x5 x6 x7 : Int) (w : World) : (Instr.index 203 (.agg #[.int .i64 x0, .int .i64 x1, .int .i64 x2, .int .i64 x3, .int .i64 x4, .int .i64 x5, .int .i64 x6, .int .i64 x7]) (.int .i64 6)).run Tryz.prog w = .ok (.int .i64 x6) w := by
  simp [Instr.index, asIntOf, run_underlying Tryz.underlying203, go_sem, part]
theorem ix_nu7 (x0 x1 x2 x3 x4 x5 x6 x7 : Int) (w : World) : (Instr.index 203 (.agg #[.int .i64 x0, .int .i64 x1, .int .i64 x2, .int .i64 x3, .int .i64 x4, .int .i64 x5, .int .i64 x6, .int .i64 x7]) (.int .i64 7)).run Tryz.prog w = .ok (.int .i64 x7) w := by
  simp [Instr.index, asIntOf, run_underlying Tryz.underlying203, go_sem, part]
end Go.Proofs.YtfmcbjlagdanjaaGreatDoor
