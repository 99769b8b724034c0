/- Inodes, slots, records laid into a box and read out of it in one step. -/
import Derived.Test.YtlcjkbhcbiggcaaGreatDoorPk01
import Derived.Deep.MidRow
import Derived.Laws.Tables
import Derived.Test.YtlcjkbhcbiggcaaGreatDoorProg
import Derived.Conc.MuLone
import Derived.Conc.MuData
import Derived.KernelRfl
import Derived.Deep.OwnRows
namespace Go.Proofs.YtlcjkbhcbiggcaaGreatDoor
open Go.RowKit
set_option maxRecDepth 100000

theorem in_size : (Tryz.prog.info? 38).map (·.size) = some 13 := by kernel_rfl
def InStore (p v : Value) (o : Oper) (a : Act) (w : World) (next : Act → World → Prop) (Q : Exit → Act → World → Prop) : Prop :=
  Oper.wp Tryz.prog { o with op := .store 38 (.const p) (.const v) } a w next Q
theorem in_store (d : Option Tmp) (x y : Operand) (t : TypeId) (p : String) (f : Array Edge) (g : Option (Nat × Bool)) (a : Act) (w : World) (next : Act → World → Prop) (Q : Exit → Act → World → Prop) :
    Oper.wp Tryz.prog ⟨d, .store 38 x y, t, p, f, g⟩ a w next Q = InStore (a.eval x) (a.eval y) ⟨d, .assign x, t, p, f, g⟩ a w next Q := rfl
theorem InStore.row {w : World} {b t : Nat} {old cs : Array Value} (h : w.heap[b]? = some (.cells old t (0, 0))) (hs : old.size = 13) (hc : cs.size = 13) (h1 : cs.all (·.oneCell') = true) (o : Oper) (a : Act) (next : Act → World → Prop) (Q : Exit → Act → World → Prop) :
    InStore (.pointer (some ⟨b, 0, none⟩)) (.agg cs) o a w next Q = next (a.put o.dst undef) (w.setRow b cs) := by
  have e : (Instr.storeAt 38 (.pointer (some ⟨b, 0, none⟩)) (.agg cs)).run Tryz.prog w = .ok () (w.setRow b cs) := by
    simp only [Instr.storeAt, Instr.sureAddr, Sem.run_bind, Sem.run_pure, Result.andThen]
    exact run_storeVar_row w b t 38 old cs h (by rw [hc]; exact in_size) (by rw [hs, hc]) h1
  unfold InStore Oper.wp execOp
  simp only [Act.eval, Sem.run_bind, e, Result.andThen_ok, Sem.run_pure]
  rfl
theorem InStore.new (cs C : Array Value) (t : Nat) (hC : C.size = 13) (hc : cs.size = 13) (h1 : cs.all (·.oneCell') = true) (w : World) (o : Oper) (a : Act) (next : Act → World → Prop) (Q : Exit → Act → World → Prop) :
    InStore (.pointer (some ⟨w.heap.size, 0, none⟩)) (.agg cs) o a (w.alloc (.cells C t)) next Q = next (a.put o.dst undef) (w.alloc (.cells cs t)) := by
  rw [InStore.row (heap_alloc_last w _) hC hc h1, World.setRow_alloc_new]
theorem InStore.mid {w : World} {b k : Nat} {cs : Array Value} (h : w.there b k 13) (hc : cs.size = 13) (h1 : cs.all (·.oneCell') = true) (o : Oper) (a : Act) (next : Act → World → Prop) (Q : Exit → Act → World → Prop) :
    InStore (.pointer (some ⟨b, k, none⟩)) (.agg cs) o a w next Q = next (a.put o.dst undef) (w.setCells b k cs.toList) := by
  have e := run_storeAt_mid (P := Tryz.prog) w b k 38 cs (by rw [hc]; exact h) (by rw [hc]; exact in_size) h1
  unfold InStore Oper.wp execOp
  simp only [Act.eval, Sem.run_bind, e, Result.andThen_ok, Sem.run_pure]
  rfl
def InLoad (p : Value) (o : Oper) (a : Act) (w : World) (next : Act → World → Prop) (Q : Exit → Act → World → Prop) : Prop :=
  Oper.wp Tryz.prog { o with op := .load 38 (.const p) } a w next Q
theorem in_load (d : Option Tmp) (x : Operand) (t : TypeId) (p : String) (f : Array Edge) (g : Option (Nat × Bool)) (a : Act) (w : World) (next : Act → World → Prop) (Q : Exit → Act → World → Prop) :
    Oper.wp Tryz.prog ⟨d, .load 38 x, t, p, f, g⟩ a w next Q = InLoad (a.eval x) ⟨d, .assign x, t, p, f, g⟩ a w next Q := rfl
theorem in_ld {w : World} {b k : Nat} {cs : List Value} (h : w.rangeAt b k cs) (hs : cs.length = 13) : (Instr.loadAt 38 (.pointer (some ⟨b, k, none⟩))).run Tryz.prog w = .ok (.agg cs.toArray) w :=
  run_loadAt_mid w b k 38 cs _ h Tryz.underlying38 rfl (by rw [hs]; exact in_size)
theorem InLoad.mid {w : World} {b k : Nat} {cs : List Value} (h : w.rangeAt b k cs) (hs : cs.length = 13) (o : Oper) (a : Act) (next : Act → World → Prop) (Q : Exit → Act → World → Prop) :
    InLoad (.pointer (some ⟨b, k, none⟩)) o a w next Q = next (a.put o.dst (.agg cs.toArray)) w := by
  unfold InLoad Oper.wp execOp
  simp only [Act.eval, Sem.run_bind, in_ld h hs, Result.andThen_ok, Sem.run_pure]
  rfl
theorem InLoad.row {w : World} {b t : Nat} {cs : Array Value} (h : w.heap[b]? = some (.cells cs t (0, 0))) (hs : cs.size = 13) (o : Oper) (a : Act) (next : Act → World → Prop) (Q : Exit → Act → World → Prop) :
    InLoad (.pointer (some ⟨b, 0, none⟩)) o a w next Q = next (a.put o.dst (.agg cs)) w :=
  InLoad.mid (cs := cs.toList) (fun j v hv => by rw [Nat.zero_add]; simpa [World.cell?, h] using hv) (by simpa using hs) o a next Q
def InEx (p : Value) : Sem Next := do pure (.value (← Instr.loadAt 38 p))
theorem in_ex (ev : Operand → Value) (d : Option Tmp) (x : Operand) (t : TypeId) (p : String) (f : Array Edge) (g : Option (Nat × Bool)) : execOp ev ⟨d, .load 38 x, t, p, f, g⟩ = InEx (ev x) := rfl
theorem InEx.mid {w : World} {b k : Nat} {cs : List Value} (h : w.rangeAt b k cs) (hs : cs.length = 13) : (InEx (.pointer (some ⟨b, k, none⟩))).run Tryz.prog w = .ok (.value (.agg cs.toArray)) w := by
  unfold InEx
  simp only [Sem.run_bind, in_ld h hs, Result.andThen_ok, Sem.run_pure]
theorem InEx.row {w : World} {b t : Nat} {cs : Array Value} (h : w.heap[b]? = some (.cells cs t (0, 0))) (hs : cs.size = 13) : (InEx (.pointer (some ⟨b, 0, none⟩))).run Tryz.prog w = .ok (.value (.agg cs)) w :=
  InEx.mid (cs := cs.toList) (fun j v hv => by rw [Nat.zero_add]; simpa [World.cell?, h] using hv) (by simpa using hs)

theorem sl_size : (Tryz.prog.info? 142).map (·.size) = some 18 := by kernel_rfl
def SlStore (p v : Value) (o : Oper) (a : Act) (w : World) (next : Act → World → Prop) (Q : Exit → Act → World → Prop) : Prop :=
  Oper.wp Tryz.prog { o with op := .store 142 (.const p) (.const v) } a w next Q
theorem sl_store (d : Option Tmp) (x y : Operand) (t : TypeId) (p : String) (f : Array Edge) (g : Option (Nat × Bool)) (a : Act) (w : World) (next : Act → World → Prop) (Q : Exit → Act → World → Prop) :
    Oper.wp Tryz.prog ⟨d, .store 142 x y, t, p, f, g⟩ a w next Q = SlStore (a.eval x) (a.eval y) ⟨d, .assign x, t, p, f, g⟩ a w next Q := rfl
theorem SlStore.row {w : World} {b t : Nat} {old cs : Array Value} (h : w.heap[b]? = some (.cells old t (0, 0))) (hs : old.size = 18) (hc : cs.size = 18) (h1 : cs.all (·.oneCell') = true) (o : Oper) (a : Act) (next : Act → World → Prop) (Q : Exit → Act → World → Prop) :
    SlStore (.pointer (some ⟨b, 0, none⟩)) (.agg cs) o a w next Q = next (a.put o.dst undef) (w.setRow b cs) := by
  have e : (Instr.storeAt 142 (.pointer (some ⟨b, 0, none⟩)) (.agg cs)).run Tryz.prog w = .ok () (w.setRow b cs) := by
    simp only [Instr.storeAt, Instr.sureAddr, Sem.run_bind, Sem.run_pure, Result.andThen]
    exact run_storeVar_row w b t 142 old cs h (by rw [hc]; exact sl_size) (by rw [hs, hc]) h1
  unfold SlStore Oper.wp execOp
  simp only [Act.eval, Sem.run_bind, e, Result.andThen_ok, Sem.run_pure]
  rfl
theorem SlStore.new (cs C : Array Value) (t : Nat) (hC : C.size = 18) (hc : cs.size = 18) (h1 : cs.all (·.oneCell') = true) (w : World) (o : Oper) (a : Act) (next : Act → World → Prop) (Q : Exit → Act → World → Prop) :
    SlStore (.pointer (some ⟨w.heap.size, 0, none⟩)) (.agg cs) o a (w.alloc (.cells C t)) next Q = next (a.put o.dst undef) (w.alloc (.cells cs t)) := by
  rw [SlStore.row (heap_alloc_last w _) hC hc h1, World.setRow_alloc_new]
theorem SlStore.mid {w : World} {b k : Nat} {cs : Array Value} (h : w.there b k 18) (hc : cs.size = 18) (h1 : cs.all (·.oneCell') = true) (o : Oper) (a : Act) (next : Act → World → Prop) (Q : Exit → Act → World → Prop) :
    SlStore (.pointer (some ⟨b, k, none⟩)) (.agg cs) o a w next Q = next (a.put o.dst undef) (w.setCells b k cs.toList) := by
  have e := run_storeAt_mid (P := Tryz.prog) w b k 142 cs (by rw [hc]; exact h) (by rw [hc]; exact sl_size) h1
  unfold SlStore Oper.wp execOp
  simp only [Act.eval, Sem.run_bind, e, Result.andThen_ok, Sem.run_pure]
  rfl
def SlLoad (p : Value) (o : Oper) (a : Act) (w : World) (next : Act → World → Prop) (Q : Exit → Act → World → Prop) : Prop :=
  Oper.wp Tryz.prog { o with op := .load 142 (.const p) } a w next Q
theorem sl_load (d : Option Tmp) (x : Operand) (t : TypeId) (p : String) (f : Array Edge) (g : Option (Nat × Bool)) (a : Act) (w : World) (next : Act → World → Prop) (Q : Exit → Act → World → Prop) :
    Oper.wp Tryz.prog ⟨d, .load 142 x, t, p, f, g⟩ a w next Q = SlLoad (a.eval x) ⟨d, .assign x, t, p, f, g⟩ a w next Q := rfl
theorem sl_ld {w : World} {b k : Nat} {cs : List Value} (h : w.rangeAt b k cs) (hs : cs.length = 18) : (Instr.loadAt 142 (.pointer (some ⟨b, k, none⟩))).run Tryz.prog w = .ok (.agg cs.toArray) w :=
  run_loadAt_mid w b k 142 cs _ h Tryz.underlying142 rfl (by rw [hs]; exact sl_size)
theorem SlLoad.mid {w : World} {b k : Nat} {cs : List Value} (h : w.rangeAt b k cs) (hs : cs.length = 18) (o : Oper) (a : Act) (next : Act → World → Prop) (Q : Exit → Act → World → Prop) :
    SlLoad (.pointer (some ⟨b, k, none⟩)) o a w next Q = next (a.put o.dst (.agg cs.toArray)) w := by
  unfold SlLoad Oper.wp execOp
  simp only [Act.eval, Sem.run_bind, sl_ld h hs, Result.andThen_ok, Sem.run_pure]
  rfl
theorem SlLoad.row {w : World} {b t : Nat} {cs : Array Value} (h : w.heap[b]? = some (.cells cs t (0, 0))) (hs : cs.size = 18) (o : Oper) (a : Act) (next : Act → World → Prop) (Q : Exit → Act → World → Prop) :
    SlLoad (.pointer (some ⟨b, 0, none⟩)) o a w next Q = next (a.put o.dst (.agg cs)) w :=
  SlLoad.mid (cs := cs.toList) (fun j v hv => by rw [Nat.zero_add]; simpa [World.cell?, h] using hv) (by simpa using hs) o a next Q
def SlEx (p : Value) : Sem Next := do pure (.value (← Instr.loadAt 142 p))
theorem sl_ex (ev : Operand → Value) (d : Option Tmp) (x : Operand) (t : TypeId) (p : String) (f : Array Edge) (g : Option (Nat × Bool)) : execOp ev ⟨d, .load 142 x, t, p, f, g⟩ = SlEx (ev x) := rfl
theorem SlEx.mid {w : World} {b k : Nat} {cs : List Value} (h : w.rangeAt b k cs) (hs : cs.length = 18) : (SlEx (.pointer (some ⟨b, k, none⟩))).run Tryz.prog w = .ok (.value (.agg cs.toArray)) w := by
  unfold SlEx
  simp only [Sem.run_bind, sl_ld h hs, Result.andThen_ok, Sem.run_pure]
theorem SlEx.row {w : World} {b t : Nat} {cs : Array Value} (h : w.heap[b]? = some (.cells cs t (0, 0))) (hs : cs.size = 18) : (SlEx (.pointer (some ⟨b, 0, none⟩))).run Tryz.prog w = .ok (.value (.agg cs)) w :=
  SlEx.mid (cs := cs.toList) (fun j v hv => by rw [Nat.zero_add]; simpa [World.cell?, h] using hv) (by simpa using hs)

theorem rc_size : (Tryz.prog.info? 165).map (·.size) = some 128 := by kernel_rfl
def RcStore (p v : Value) (o : Oper) (a : Act) (w : World) (next : Act → World → Prop) (Q : Exit → Act → World → Prop) : Prop :=
  Oper.wp Tryz.prog { o with op := .store 165 (.const p) (.const v) } a w next Q
theorem rc_store (d : Option Tmp) (x y : Operand) (t : TypeId) (p : String) (f : Array Edge) (g : Option (Nat × Bool)) (a : Act) (w : World) (next : Act → World → Prop) (Q : Exit → Act → World → Prop) :
    Oper.wp Tryz.prog ⟨d, .store 165 x y, t, p, f, g⟩ a w next Q = RcStore (a.eval x) (a.eval y) ⟨d, .assign x, t, p, f, g⟩ a w next Q := rfl
theorem RcStore.row {w : World} {b t : Nat} {old cs : Array Value} (h : w.heap[b]? = some (.cells old t (0, 0))) (hs : old.size = 128) (hc : cs.size = 128) (h1 : cs.all (·.oneCell') = true) (o : Oper) (a : Act) (next : Act → World → Prop) (Q : Exit → Act → World → Prop) :
    RcStore (.pointer (some ⟨b, 0, none⟩)) (.agg cs) o a w next Q = next (a.put o.dst undef) (w.setRow b cs) := by
  have e : (Instr.storeAt 165 (.pointer (some ⟨b, 0, none⟩)) (.agg cs)).run Tryz.prog w = .ok () (w.setRow b cs) := by
    simp only [Instr.storeAt, Instr.sureAddr, Sem.run_bind, Sem.run_pure, Result.andThen]
    exact run_storeVar_row w b t 165 old cs h (by rw [hc]; exact rc_size) (by rw [hs, hc]) h1
  unfold RcStore Oper.wp execOp
  simp only [Act.eval, Sem.run_bind, e, Result.andThen_ok, Sem.run_pure]
  rfl
theorem RcStore.new (cs C : Array Value) (t : Nat) (hC : C.size = 128) (hc : cs.size = 128) (h1 : cs.all (·.oneCell') = true) (w : World) (o : Oper) (a : Act) (next : Act → World → Prop) (Q : Exit → Act → World → Prop) :
    RcStore (.pointer (some ⟨w.heap.size, 0, none⟩)) (.agg cs) o a (w.alloc (.cells C t)) next Q = next (a.put o.dst undef) (w.alloc (.cells cs t)) := by
  rw [RcStore.row (heap_alloc_last w _) hC hc h1, World.setRow_alloc_new]
theorem RcStore.mid {w : World} {b k : Nat} {cs : Array Value} (h : w.there b k 128) (hc : cs.size = 128) (h1 : cs.all (·.oneCell') = true) (o : Oper) (a : Act) (next : Act → World → Prop) (Q : Exit → Act → World → Prop) :
    RcStore (.pointer (some ⟨b, k, none⟩)) (.agg cs) o a w next Q = next (a.put o.dst undef) (w.setCells b k cs.toList) := by
  have e := run_storeAt_mid (P := Tryz.prog) w b k 165 cs (by rw [hc]; exact h) (by rw [hc]; exact rc_size) h1
  unfold RcStore Oper.wp execOp
  simp only [Act.eval, Sem.run_bind, e, Result.andThen_ok, Sem.run_pure]
  rfl
def RcLoad (p : Value) (o : Oper) (a : Act) (w : World) (next : Act → World → Prop) (Q : Exit → Act → World → Prop) : Prop :=
  Oper.wp Tryz.prog { o with op := .load 165 (.const p) } a w next Q
theorem rc_load (d : Option Tmp) (x : Operand) (t : TypeId) (p : String) (f : Array Edge) (g : Option (Nat × Bool)) (a : Act) (w : World) (next : Act → World → Prop) (Q : Exit → Act → World → Prop) :
    Oper.wp Tryz.prog ⟨d, .load 165 x, t, p, f, g⟩ a w next Q = RcLoad (a.eval x) ⟨d, .assign x, t, p, f, g⟩ a w next Q := rfl
theorem rc_ld {w : World} {b k : Nat} {cs : List Value} (h : w.rangeAt b k cs) (hs : cs.length = 128) : (Instr.loadAt 165 (.pointer (some ⟨b, k, none⟩))).run Tryz.prog w = .ok (.agg cs.toArray) w :=
  run_loadAt_mid w b k 165 cs _ h Tryz.underlying165 rfl (by rw [hs]; exact rc_size)
theorem RcLoad.mid {w : World} {b k : Nat} {cs : List Value} (h : w.rangeAt b k cs) (hs : cs.length = 128) (o : Oper) (a : Act) (next : Act → World → Prop) (Q : Exit → Act → World → Prop) :
    RcLoad (.pointer (some ⟨b, k, none⟩)) o a w next Q = next (a.put o.dst (.agg cs.toArray)) w := by
  unfold RcLoad Oper.wp execOp
  simp only [Act.eval, Sem.run_bind, rc_ld h hs, Result.andThen_ok, Sem.run_pure]
  rfl
theorem RcLoad.row {w : World} {b t : Nat} {cs : Array Value} (h : w.heap[b]? = some (.cells cs t (0, 0))) (hs : cs.size = 128) (o : Oper) (a : Act) (next : Act → World → Prop) (Q : Exit → Act → World → Prop) :
    RcLoad (.pointer (some ⟨b, 0, none⟩)) o a w next Q = next (a.put o.dst (.agg cs)) w :=
  RcLoad.mid (cs := cs.toList) (fun j v hv => by rw [Nat.zero_add]; simpa [World.cell?, h] using hv) (by simpa using hs) o a next Q
def RcEx (p : Value) : Sem Next := do pure (.value (← Instr.loadAt 165 p))
theorem rc_ex (ev : Operand → Value) (d : Option Tmp) (x : Operand) (t : TypeId) (p : String) (f : Array Edge) (g : Option (Nat × Bool)) : execOp ev ⟨d, .load 165 x, t, p, f, g⟩ = RcEx (ev x) := rfl
theorem RcEx.mid {w : World} {b k : Nat} {cs : List Value} (h : w.rangeAt b k cs) (hs : cs.length = 128) : (RcEx (.pointer (some ⟨b, k, none⟩))).run Tryz.prog w = .ok (.value (.agg cs.toArray)) w := by
  unfold RcEx
  simp only [Sem.run_bind, rc_ld h hs, Result.andThen_ok, Sem.run_pure]
theorem RcEx.row {w : World} {b t : Nat} {cs : Array Value} (h : w.heap[b]? = some (.cells cs t (0, 0))) (hs : cs.size = 128) : (RcEx (.pointer (some ⟨b, 0, none⟩))).run Tryz.prog w = .ok (.value (.agg cs)) w :=
  RcEx.mid (cs := cs.toList) (fun j v hv => by rw [Nat.zero_add]; simpa [World.cell?, h] using hv) (by simpa using hs)

theorem r6_size : (Tryz.prog.info? 247).map (·.size) = some 68 := by kernel_rfl
def R6Store (p v : Value) (o : Oper) (a : Act) (w : World) (next : Act → World → Prop) (Q : Exit → Act → World → Prop) : Prop :=
  Oper.wp Tryz.prog { o with op := .store 247 (.const p) (.const v) } a w next Q
theorem r6_store (d : Option Tmp) (x y : Operand) (t : TypeId) (p : String) (f : Array Edge) (g : Option (Nat × Bool)) (a : Act) (w : World) (next : Act → World → Prop) (Q : Exit → Act → World → Prop) :
    Oper.wp Tryz.prog ⟨d, .store 247 x y, t, p, f, g⟩ a w next Q = R6Store (a.eval x) (a.eval y) ⟨d, .assign x, t, p, f, g⟩ a w next Q := rfl
theorem R6Store.row {w : World} {b t : Nat} {old cs : Array Value} (h : w.heap[b]? = some (.cells old t (0, 0))) (hs : old.size = 68) (hc : cs.size = 68) (h1 : cs.all (·.oneCell') = true) (o : Oper) (a : Act) (next : Act → World → Prop) (Q : Exit → Act → World → Prop) :
    R6Store (.pointer (some ⟨b, 0, none⟩)) (.agg cs) o a w next Q = next (a.put o.dst undef) (w.setRow b cs) := by
  have e : (Instr.storeAt 247 (.pointer (some ⟨b, 0, none⟩)) (.agg cs)).run Tryz.prog w = .ok () (w.setRow b cs) := by
    simp only [Instr.storeAt, Instr.sureAddr, Sem.run_bind, Sem.run_pure, Result.andThen]
    exact run_storeVar_row w b t 247 old cs h (by rw [hc]; exact r6_size) (by rw [hs, hc]) h1
  unfold R6Store Oper.wp execOp
  simp only [Act.eval, Sem.run_bind, e, Result.andThen_ok, Sem.run_pure]
  rfl
theorem R6Store.new (cs C : Array Value) (t : Nat) (hC : C.size = 68) (hc : cs.size = 68) (h1 : cs.all (·.oneCell') = true) (w : World) (o : Oper) (a : Act) (next : Act → World → Prop) (Q : Exit → Act → World → Prop) :
    R6Store (.pointer (some ⟨w.heap.size, 0, none⟩)) (.agg cs) o a (w.alloc (.cells C t)) next Q = next (a.put o.dst undef) (w.alloc (.cells cs t)) := by
  rw [R6Store.row (heap_alloc_last w _) hC hc h1, World.setRow_alloc_new]
theorem R6Store.mid {w : World} {b k : Nat} {cs : Array Value} (h : w.there b k 68) (hc : cs.size = 68) (h1 : cs.all (·.oneCell') = true) (o : Oper) (a : Act) (next : Act → World → Prop) (Q : Exit → Act → World → Prop) :
    R6Store (.pointer (some ⟨b, k, none⟩)) (.agg cs) o a w next Q = next (a.put o.dst undef) (w.setCells b k cs.toList) := by
  have e := run_storeAt_mid (P := Tryz.prog) w b k 247 cs (by rw [hc]; exact h) (by rw [hc]; exact r6_size) h1
  unfold R6Store Oper.wp execOp
  simp only [Act.eval, Sem.run_bind, e, Result.andThen_ok, Sem.run_pure]
  rfl
def R6Load (p : Value) (o : Oper) (a : Act) (w : World) (next : Act → World → Prop) (Q : Exit → Act → World → Prop) : Prop :=
  Oper.wp Tryz.prog { o with op := .load 247 (.const p) } a w next Q
theorem r6_load (d : Option Tmp) (x : Operand) (t : TypeId) (p : String) (f : Array Edge) (g : Option (Nat × Bool)) (a : Act) (w : World) (next : Act → World → Prop) (Q : Exit → Act → World → Prop) :
    Oper.wp Tryz.prog ⟨d, .load 247 x, t, p, f, g⟩ a w next Q = R6Load (a.eval x) ⟨d, .assign x, t, p, f, g⟩ a w next Q := rfl
theorem r6_ld {w : World} {b k : Nat} {cs : List Value} (h : w.rangeAt b k cs) (hs : cs.length = 68) : (Instr.loadAt 247 (.pointer (some ⟨b, k, none⟩))).run Tryz.prog w = .ok (.agg cs.toArray) w :=
  run_loadAt_mid w b k 247 cs _ h Tryz.underlying247 rfl (by rw [hs]; exact r6_size)
theorem R6Load.mid {w : World} {b k : Nat} {cs : List Value} (h : w.rangeAt b k cs) (hs : cs.length = 68) (o : Oper) (a : Act) (next : Act → World → Prop) (Q : Exit → Act → World → Prop) :
    R6Load (.pointer (some ⟨b, k, none⟩)) o a w next Q = next (a.put o.dst (.agg cs.toArray)) w := by
  unfold R6Load Oper.wp execOp
  simp only [Act.eval, Sem.run_bind, r6_ld h hs, Result.andThen_ok, Sem.run_pure]
  rfl
theorem R6Load.row {w : World} {b t : Nat} {cs : Array Value} (h : w.heap[b]? = some (.cells cs t (0, 0))) (hs : cs.size = 68) (o : Oper) (a : Act) (next : Act → World → Prop) (Q : Exit → Act → World → Prop) :
    R6Load (.pointer (some ⟨b, 0, none⟩)) o a w next Q = next (a.put o.dst (.agg cs)) w :=
  R6Load.mid (cs := cs.toList) (fun j v hv => by rw [Nat.zero_add]; simpa [World.cell?, h] using hv) (by simpa using hs) o a next Q
def R6Ex (p : Value) : Sem Next := do pure (.value (← Instr.loadAt 247 p))
theorem r6_ex (ev : Operand → Value) (d : Option Tmp) (x : Operand) (t : TypeId) (p : String) (f : Array Edge) (g : Option (Nat × Bool)) : execOp ev ⟨d, .load 247 x, t, p, f, g⟩ = R6Ex (ev x) := rfl
theorem R6Ex.mid {w : World} {b k : Nat} {cs : List Value} (h : w.rangeAt b k cs) (hs : cs.length = 68) : (R6Ex (.pointer (some ⟨b, k, none⟩))).run Tryz.prog w = .ok (.value (.agg cs.toArray)) w := by
  unfold R6Ex
  simp only [Sem.run_bind, r6_ld h hs, Result.andThen_ok, Sem.run_pure]
theorem R6Ex.row {w : World} {b t : Nat} {cs : Array Value} (h : w.heap[b]? = some (.cells cs t (0, 0))) (hs : cs.size = 68) : (R6Ex (.pointer (some ⟨b, 0, none⟩))).run Tryz.prog w = .ok (.value (.agg cs)) w :=
  R6Ex.mid (cs := cs.toList) (fun j v hv => by rw [Nat.zero_add]; simpa [World.cell?, h] using hv) (by simpa using hs)

theorem d8_size : (Tryz.prog.info? 36).map (·.size) = some 8 := by kernel_rfl
def D8Store (p v : Value) (o : Oper) (a : Act) (w : World) (next : Act → World → Prop) (Q : Exit → Act → World → Prop) : Prop :=
  Oper.wp Tryz.prog { o with op := .store 36 (.const p) (.const v) } a w next Q
theorem d8_store (d : Option Tmp) (x y : Operand) (t : TypeId) (p : String) (f : Array Edge) (g : Option (Nat × Bool)) (a : Act) (w : World) (next : Act → World → Prop) (Q : Exit → Act → World → Prop) :
    Oper.wp Tryz.prog ⟨d, .store 36 x y, t, p, f, g⟩ a w next Q = D8Store (a.eval x) (a.eval y) ⟨d, .assign x, t, p, f, g⟩ a w next Q := rfl
theorem D8Store.row {w : World} {b t : Nat} {old cs : Array Value} (h : w.heap[b]? = some (.cells old t (0, 0))) (hs : old.size = 8) (hc : cs.size = 8) (h1 : cs.all (·.oneCell') = true) (o : Oper) (a : Act) (next : Act → World → Prop) (Q : Exit → Act → World → Prop) :
    D8Store (.pointer (some ⟨b, 0, none⟩)) (.agg cs) o a w next Q = next (a.put o.dst undef) (w.setRow b cs) := by
  have e : (Instr.storeAt 36 (.pointer (some ⟨b, 0, none⟩)) (.agg cs)).run Tryz.prog w = .ok () (w.setRow b cs) := by
    simp only [Instr.storeAt, Instr.sureAddr, Sem.run_bind, Sem.run_pure, Result.andThen]
    exact run_storeVar_row w b t 36 old cs h (by rw [hc]; exact d8_size) (by rw [hs, hc]) h1
  unfold D8Store Oper.wp execOp
  simp only [Act.eval, Sem.run_bind, e, Result.andThen_ok, Sem.run_pure]
  rfl
theorem D8Store.new (cs C : Array Value) (t : Nat) (hC : C.size = 8) (hc : cs.size = 8) (h1 : cs.all (·.oneCell') = true) (w : World) (o : Oper) (a : Act) (next : Act → World → Prop) (Q : Exit → Act → World → Prop) :
    D8Store (.pointer (some ⟨w.heap.size, 0, none⟩)) (.agg cs) o a (w.alloc (.cells C t)) next Q = next (a.put o.dst undef) (w.alloc (.cells cs t)) := by
  rw [D8Store.row (heap_alloc_last w _) hC hc h1, World.setRow_alloc_new]
theorem D8Store.mid {w : World} {b k : Nat} {cs : Array Value} (h : w.there b k 8) (hc : cs.size = 8) (h1 : cs.all (·.oneCell') = true) (o : Oper) (a : Act) (next : Act → World → Prop) (Q : Exit → Act → World → Prop) :
    D8Store (.pointer (some ⟨b, k, none⟩)) (.agg cs) o a w next Q = next (a.put o.dst undef) (w.setCells b k cs.toList) := by
  have e := run_storeAt_mid (P := Tryz.prog) w b k 36 cs (by rw [hc]; exact h) (by rw [hc]; exact d8_size) h1
  unfold D8Store Oper.wp execOp
  simp only [Act.eval, Sem.run_bind, e, Result.andThen_ok, Sem.run_pure]
  rfl
def D8Load (p : Value) (o : Oper) (a : Act) (w : World) (next : Act → World → Prop) (Q : Exit → Act → World → Prop) : Prop :=
  Oper.wp Tryz.prog { o with op := .load 36 (.const p) } a w next Q
theorem d8_load (d : Option Tmp) (x : Operand) (t : TypeId) (p : String) (f : Array Edge) (g : Option (Nat × Bool)) (a : Act) (w : World) (next : Act → World → Prop) (Q : Exit → Act → World → Prop) :
    Oper.wp Tryz.prog ⟨d, .load 36 x, t, p, f, g⟩ a w next Q = D8Load (a.eval x) ⟨d, .assign x, t, p, f, g⟩ a w next Q := rfl
theorem d8_ld {w : World} {b k : Nat} {cs : List Value} (h : w.rangeAt b k cs) (hs : cs.length = 8) : (Instr.loadAt 36 (.pointer (some ⟨b, k, none⟩))).run Tryz.prog w = .ok (.agg cs.toArray) w :=
  run_loadAt_mid w b k 36 cs _ h Tryz.underlying36 rfl (by rw [hs]; exact d8_size)
theorem D8Load.mid {w : World} {b k : Nat} {cs : List Value} (h : w.rangeAt b k cs) (hs : cs.length = 8) (o : Oper) (a : Act) (next : Act → World → Prop) (Q : Exit → Act → World → Prop) :
    D8Load (.pointer (some ⟨b, k, none⟩)) o a w next Q = next (a.put o.dst (.agg cs.toArray)) w := by
  unfold D8Load Oper.wp execOp
  simp only [Act.eval, Sem.run_bind, d8_ld h hs, Result.andThen_ok, Sem.run_pure]
  rfl
theorem D8Load.row {w : World} {b t : Nat} {cs : Array Value} (h : w.heap[b]? = some (.cells cs t (0, 0))) (hs : cs.size = 8) (o : Oper) (a : Act) (next : Act → World → Prop) (Q : Exit → Act → World → Prop) :
    D8Load (.pointer (some ⟨b, 0, none⟩)) o a w next Q = next (a.put o.dst (.agg cs)) w :=
  D8Load.mid (cs := cs.toList) (fun j v hv => by rw [Nat.zero_add]; simpa [World.cell?, h] using hv) (by simpa using hs) o a next Q
def D8Ex (p : Value) : Sem Next := do pure (.value (← Instr.loadAt 36 p))
theorem d8_ex (ev : Operand → Value) (d : Option Tmp) (x : Operand) (t : TypeId) (p : String) (f : Array Edge) (g : Option (Nat × Bool)) : execOp ev ⟨d, .load 36 x, t, p, f, g⟩ = D8Ex (ev x) := rfl
theorem D8Ex.mid {w : World} {b k : Nat} {cs : List Value} (h : w.rangeAt b k cs) (hs : cs.length = 8) : (D8Ex (.pointer (some ⟨b, k, none⟩))).run Tryz.prog w = .ok (.value (.agg cs.toArray)) w := by
  unfold D8Ex
  simp only [Sem.run_bind, d8_ld h hs, Result.andThen_ok, Sem.run_pure]
theorem D8Ex.row {w : World} {b t : Nat} {cs : Array Value} (h : w.heap[b]? = some (.cells cs t (0, 0))) (hs : cs.size = 8) : (D8Ex (.pointer (some ⟨b, 0, none⟩))).run Tryz.prog w = .ok (.value (.agg cs)) w :=
  D8Ex.mid (cs := cs.toList) (fun j v hv => by rw [Nat.zero_add]; simpa [World.cell?, h] using hv) (by simpa using hs)

theorem InStore.new13 (x0 x1 x2 x3 x4 x5 x6 x7 x8 x9 x10 x11 x12 y0 y1 y2 y3 y4 y5 y6 y7 y8 y9 y10 y11 y12 : Int) (o : Oper) (a : Act) (w : World) (next : Act → World → Prop) (Q : Exit → Act → World → Prop) :
    InStore (.pointer (some ⟨w.heap.size, 0, none⟩)) (.agg #[.int .i64 x0, .int .i64 x1, .int .i64 x2, .int .i64 x3, .int .i64 x4, .int .i64 x5, .int .i64 x6, .int .i64 x7, .int .i64 x8, .int .i64 x9, .int .i64 x10, .int .i64 x11, .int .i64 x12]) o a (w.alloc (.cells #[.int .i64 y0, .int .i64 y1, .int .i64 y2, .int .i64 y3, .int .i64 y4, .int .i64 y5, .int .i64 y6, .int .i64 y7, .int .i64 y8, .int .i64 y9, .int .i64 y10, .int .i64 y11, .int .i64 y12] 38)) next Q = next (a.put o.dst undef) (w.alloc (.cells #[.int .i64 x0, .int .i64 x1, .int .i64 x2, .int .i64 x3, .int .i64 x4, .int .i64 x5, .int .i64 x6, .int .i64 x7, .int .i64 x8, .int .i64 x9, .int .i64 x10, .int .i64 x11, .int .i64 x12] 38)) :=
  InStore.new _ _ _ rfl rfl (by simp [Value.oneCell']) w o a next Q
theorem results_c {fn : Func} {p : Tmp} {ty : TypeId} (h : fn.results = #[.cell p ty]) (tmps : Array Value) (P : Program) (w : World) :
    (results fn tmps).run P w = ((asAddr (tmps.getD p undef)).run P w).andThen fun a w₁ => (loadVar ty a).run P w₁ := by
  simp only [results, h]
  simp [Sem.run_bind, Result.andThen]
theorem res1 {P : Program} {fn : Func} {p : Tmp} {ty : TypeId} (h : fn.results = #[.cell p ty]) (tmps : Array Value) (w : World) (g : Nat) (t : TypeId) (cs : Array Value) (fr : Nat × Nat) (d : TypeDesc)
    (hp : tmps.getD p undef = .pointer (some ⟨g, 0, none⟩)) (hg : w.heap[g]? = some (.cells cs t fr))
    (hu : P.underlying ty = some d) (hd : (match d with | .struct _ | .array _ _ => true | _ => false) = true) (hi : (P.info? ty).map (·.size) = some cs.size) :
    (results fn tmps).run P w = .ok (.agg cs) w := by
  rw [results_c h, hp]
  simp [asAddr, run_loadVar_row w g t ty cs fr d hg hu hd hi, Result.andThen]
theorem results_tct {fn : Func} {p u v : Tmp} {ty : TypeId} (h : fn.results = #[.tmp u, .cell p ty, .tmp v]) (tmps : Array Value) (P : Program) (w : World) :
    (results fn tmps).run P w = ((asAddr (tmps.getD p undef)).run P w).andThen fun a w₁ => ((loadVar ty a).run P w₁).andThen fun x w₂ => .ok (.tuple #[tmps.getD u undef, x, tmps.getD v undef]) w₂ := by
  simp only [results, h]
  simp [Sem.run_bind, Result.andThen]
theorem resT {P : Program} {fn : Func} {p u v : Tmp} {ty : TypeId} (h : fn.results = #[.tmp u, .cell p ty, .tmp v]) (tmps : Array Value) (w : World) (g : Nat) (t : TypeId) (cs : Array Value) (fr : Nat × Nat) (d : TypeDesc)
    (hp : tmps.getD p undef = .pointer (some ⟨g, 0, none⟩)) (hg : w.heap[g]? = some (.cells cs t fr))
    (hu : P.underlying ty = some d) (hd : (match d with | .struct _ | .array _ _ => true | _ => false) = true) (hi : (P.info? ty).map (·.size) = some cs.size) :
    (results fn tmps).run P w = .ok (.tuple #[tmps.getD u undef, .agg cs, tmps.getD v undef]) w := by
  rw [results_tct h, hp]
  simp [asAddr, run_loadVar_row w g t ty cs fr d hg hu hd hi, Result.andThen]
/-- A layout's load as the regions meet it. -/
def LyEx (p : Value) : Sem Next := do pure (.value (← Instr.loadAt 60 p))
theorem ly_ex (ev : Operand → Value) (d : Option Tmp) (x : Operand) (t : TypeId) (p : String) (f : Array Edge) (g : Option (Nat × Bool)) : execOp ev ⟨d, .load 60 x, t, p, f, g⟩ = LyEx (ev x) := rfl
theorem LyEx.row {w : World} {b : Nat} {cs : Array Value} (h : w.heap[b]? = some (.cells cs 60 (0, 0))) (hs : cs.size = 20) : (LyEx (.pointer (some ⟨b, 0, none⟩))).run Tryz.prog w = .ok (.value (.agg cs)) w := by
  unfold LyEx
  simp only [Sem.run_bind, ld_row w b cs hs h, Result.andThen_ok, Sem.run_pure]
theorem ly_mid {w : World} {b k : Nat} {cs : List Value} (h : w.rangeAt b k cs) (hs : cs.length = 20) : (Instr.loadAt 60 (.pointer (some ⟨b, k, none⟩))).run Tryz.prog w = .ok (.agg cs.toArray) w :=
  run_loadAt_mid w b k 60 cs _ h Tryz.underlying60 rfl (by rw [hs]; exact ly_size)
theorem LyEx.mid {w : World} {b k : Nat} {cs : List Value} (h : w.rangeAt b k cs) (hs : cs.length = 20) : (LyEx (.pointer (some ⟨b, k, none⟩))).run Tryz.prog w = .ok (.value (.agg cs.toArray)) w := by
  unfold LyEx
  simp only [Sem.run_bind, ly_mid h hs, Result.andThen_ok, Sem.run_pure]
theorem LyLoad.mid {w : World} {b k : Nat} {cs : List Value} (h : w.rangeAt b k cs) (hs : cs.length = 20) (o : Oper) (a : Act) (next : Act → World → Prop) (Q : Exit → Act → World → Prop) :
    LyLoad (.pointer (some ⟨b, k, none⟩)) o a w next Q = next (a.put o.dst (.agg cs.toArray)) w := by
  unfold LyLoad Oper.wp execOp
  simp only [Act.eval, Sem.run_bind, ly_mid h hs, Result.andThen_ok, Sem.run_pure]
  rfl
theorem LyStore.newA (cs C : Array Value) (hC : C.size = 20) (hc : cs.size = 20) (h1 : cs.all (·.oneCell') = true) (w : World) (o : Oper) (a : Act) (next : Act → World → Prop) (Q : Exit → Act → World → Prop) :
    LyStore (.pointer (some ⟨w.heap.size, 0, none⟩)) (.agg cs) o a (w.alloc (.cells C 60)) next Q = next (a.put o.dst undef) (w.alloc (.cells cs 60)) := by
  have e : (Instr.storeAt 60 (.pointer (some ⟨w.heap.size, 0, none⟩)) (.agg cs)).run Tryz.prog (w.alloc (.cells C 60)) = .ok () (w.alloc (.cells cs 60)) :=
    run_storeAt_new w _ _ _ (by rw [hc]; exact ly_size) (by rw [hC, hc]) h1
  unfold LyStore Oper.wp execOp
  simp only [Act.eval, Sem.run_bind, e, Result.andThen_ok, Sem.run_pure]
  rfl
end Go.Proofs.YtlcjkbhcbiggcaaGreatDoor

/- What a device holds, in plain mathematics. -/
namespace Go.Proofs.YtlcjkbhcbiggcaaGreatDoor
open Go.RowKit
set_option maxRecDepth 100000

/-- What a device holds: the lasting bytes; what pends; the fuse; whether the power is off. -/
structure DevS where
  last : List Int
  pend : List (Nat × List Int)
  fuse : Nat
  off : Bool
/-- A write is laid over the lasting bytes. -/
def layB (l : List Int) (p : Nat × List Int) : List Int := splice l (512 * p.1) p.2
def layAll (l : List Int) (ps : List (Nat × List Int)) : List Int := ps.foldl layB l
/-- The last write that pends for a block. -/
def newest (ps : List (Nat × List Int)) (b : Nat) : Option (List Int) := (ps.reverse.find? (fun p => p.1 == b)).map (·.2)
/-- What Read tells. -/
def rdB (S : DevS) (b : Nat) : List Int := (newest S.pend b).getD ((S.last.drop (512 * b)).take 512)
/-- A Write or a Flush is counted. -/
def burnt (S : DevS) : DevS := if S.fuse = 0 then S else { S with fuse := S.fuse - 1, off := S.off || decide (S.fuse = 1) }
def wrote (S : DevS) (b : Nat) (d : List Int) : DevS := { S with pend := S.pend ++ [(b, d)] }
def flushed (S : DevS) : DevS := { S with last := layAll S.last S.pend, pend := [] }
/-- The survivors. -/
def kept : List (Nat × List Int) → List Bool → List (Nat × List Int)
  | p :: ps, k :: ks => if k then p :: kept ps ks else kept ps ks
  | _, _ => []
def crashed (S : DevS) (ks : List Bool) : DevS := { last := layAll S.last (kept S.pend ks), pend := [], fuse := 0, off := false }
/-- A new device. -/
def fresh (bs : List Int) : DevS := { last := bs, pend := [], fuse := 0, off := false }

/-- A device that can be. -/
structure Good (S : DevS) (k : Nat) : Prop where
  len : S.last.length = 512 * k
  pos : 1 ≤ k
  top : k ≤ 4096
  by_ : ∀ x ∈ S.last, 0 ≤ x ∧ x ≤ 255
  pend : ∀ p ∈ S.pend, p.1 < k ∧ p.2.length = 512 ∧ ∀ x ∈ p.2, 0 ≤ x ∧ x ≤ 255
  fuse : S.fuse ≤ 9223372036854775807

theorem lay_len {l : List Int} {p : Nat × List Int} {k : Nat} (hl : l.length = 512 * k) (hp : p.1 < k) (hd : p.2.length = 512) : (layB l p).length = 512 * k := by
  unfold layB
  rw [length_splice _ _ _ (by omega), hl]
theorem splice_mem {l d : List Int} {o : Nat} {x : Int} (h : x ∈ splice l o d) : x ∈ l ∨ x ∈ d := by
  unfold splice at h
  simp only [List.mem_append] at h
  rcases h with h | h | h
  · exact Or.inl (List.mem_of_mem_take h)
  · exact Or.inr h
  · exact Or.inl (List.mem_of_mem_drop h)
theorem layAll_good {k : Nat} : ∀ (ps : List (Nat × List Int)) (l : List Int), l.length = 512 * k → (∀ x ∈ l, 0 ≤ x ∧ x ≤ 255) → (∀ p ∈ ps, p.1 < k ∧ p.2.length = 512 ∧ ∀ x ∈ p.2, 0 ≤ x ∧ x ≤ 255) → (layAll l ps).length = 512 * k ∧ ∀ x ∈ layAll l ps, 0 ≤ x ∧ x ≤ 255
  | [], l, h1, h2, _ => ⟨h1, h2⟩
  | p :: ps, l, h1, h2, h3 => by
    have hp := h3 p (by simp)
    refine layAll_good ps (layB l p) (lay_len h1 hp.1 hp.2.1) (fun x hx => ?_) (fun q hq => h3 q (by simp [hq]))
    rcases splice_mem hx with h | h
    · exact h2 x h
    · exact hp.2.2 x h
theorem kept_mem : ∀ {ps : List (Nat × List Int)} {ks : List Bool} {p : Nat × List Int}, p ∈ kept ps ks → p ∈ ps
  | [], _, p, h => by cases h
  | q :: ps, [], p, h => by cases h
  | q :: ps, k :: ks, p, h => by
    unfold kept at h
    split at h
    · rcases List.mem_cons.1 h with rfl | h
      · simp
      · exact List.mem_cons_of_mem _ (kept_mem h)
    · exact List.mem_cons_of_mem _ (kept_mem h)
theorem Good.fresh {bs : List Int} {k : Nat} (hl : bs.length = 512 * k) (h1 : 1 ≤ k) (h2 : k ≤ 4096) (hb : ∀ x ∈ bs, 0 ≤ x ∧ x ≤ 255) : Good (fresh bs) k :=
  ⟨hl, h1, h2, hb, (fun p hp => by cases hp), Nat.zero_le _⟩
theorem Good.burnt {S : DevS} {k : Nat} (h : Good S k) : Good (burnt S) k := by
  unfold Go.Proofs.YtlcjkbhcbiggcaaGreatDoor.burnt
  split
  · exact h
  · exact ⟨h.len, h.pos, h.top, h.by_, h.pend, by have := h.fuse; simp; omega⟩
theorem Good.wrote {S : DevS} {k : Nat} (h : Good S k) {b : Nat} {d : List Int} (hb : b < k) (hd : d.length = 512) (hy : ∀ x ∈ d, 0 ≤ x ∧ x ≤ 255) : Good (wrote S b d) k :=
  ⟨h.len, h.pos, h.top, h.by_, fun p hp => by
    rcases List.mem_append.1 hp with hp | hp
    · exact h.pend p hp
    · obtain rfl := List.mem_singleton.1 hp; exact ⟨hb, hd, hy⟩, h.fuse⟩
theorem Good.flushed {S : DevS} {k : Nat} (h : Good S k) : Good (flushed S) k := by
  obtain ⟨a, b⟩ := layAll_good S.pend S.last h.len h.by_ h.pend
  exact ⟨a, h.pos, h.top, b, (fun p hp => by cases hp), h.fuse⟩
theorem Good.crashed {S : DevS} {k : Nat} (h : Good S k) (ks : List Bool) : Good (crashed S ks) k := by
  obtain ⟨a, b⟩ := layAll_good (kept S.pend ks) S.last h.len h.by_ (fun p hp => h.pend p (kept_mem hp))
  exact ⟨a, h.pos, h.top, b, (fun p hp => by cases hp), Nat.zero_le _⟩
theorem newest_snoc (ps : List (Nat × List Int)) (b : Nat) (d : List Int) (x : Nat) : newest (ps ++ [(b, d)]) x = if b = x then some d else newest ps x := by
  unfold newest
  rw [List.reverse_append]
  by_cases h : b = x
  · simp [h]
  · simp [h]
end Go.Proofs.YtlcjkbhcbiggcaaGreatDoor

/- A device in memory. -/
namespace Go.Proofs.YtlcjkbhcbiggcaaGreatDoor
open Go.RowKit
set_option maxRecDepth 100000

/-- The slice of a block's bytes. -/
abbrev hv (g : Nat) : Value := .slice (some ⟨g, 0, none⟩) 512 512
/-- The cells of the writes that pend. -/
def pc : List (Nat × List Int) → List Nat → List Value
  | p :: ps, g :: gs => .int .i64 p.1 :: hv g :: pc ps gs
  | _, _ => []
theorem pc_len : ∀ (ps : List (Nat × List Int)) (gs : List Nat), gs.length = ps.length → (pc ps gs).length = ps.length * 2
  | [], _, _ => by simp [pc]
  | p :: ps, [], h => by cases h
  | p :: ps, g :: gs, h => by
    have := pc_len ps gs (by simpa using h)
    simp [pc, this]; omega
theorem pc_snoc : ∀ (ps : List (Nat × List Int)) (gs : List Nat) (b : Nat) (d : List Int) (g : Nat), gs.length = ps.length → pc (ps ++ [(b, d)]) (gs ++ [g]) = pc ps gs ++ [.int .i64 b, hv g]
  | [], [], _, _, _, _ => rfl
  | [], g :: gs, _, _, _, h => by cases h
  | p :: ps, [], _, _, _, h => by cases h
  | p :: ps, g :: gs, b, d, g', h => by
    have := pc_snoc ps gs b d g' (by simpa using h)
    simp [pc, this]
theorem pc_at : ∀ (ps : List (Nat × List Int)) (gs : List Nat) (i : Nat) (p : Nat × List Int) (g : Nat), ps[i]? = some p → gs[i]? = some g → (pc ps gs)[i * 2]? = some (.int .i64 p.1) ∧ (pc ps gs)[i * 2 + 1]? = some (hv g)
  | [], _, _, _, _, h, _ => by simp at h
  | p :: ps, [], _, _, _, _, h => by simp at h
  | p :: ps, g :: gs, 0, _, _, h1, h2 => by
    simp at h1 h2; subst h1; subst h2
    simp [pc]
  | p :: ps, g :: gs, i + 1, p', g', h1, h2 => by
    have := pc_at ps gs i p' g' (by simpa using h1) (by simpa using h2)
    rw [show (i + 1) * 2 = i * 2 + 1 + 1 by omega]
    simpa [pc] using this
/-- The block of the last write that pends for a block. -/
def newestG (ps : List (Nat × List Int)) (gs : List Nat) (b : Nat) : Option Nat := ((ps.zip gs).reverse.find? (fun t => t.1.1 == b)).map (·.2)
theorem newestG_snoc (ps : List (Nat × List Int)) (gs : List Nat) (b : Nat) (d : List Int) (g x : Nat) (h : gs.length = ps.length) : newestG (ps ++ [(b, d)]) (gs ++ [g]) x = if b = x then some g else newestG ps gs x := by
  unfold newestG
  rw [List.zip_append h.symm, List.reverse_append]
  by_cases e : b = x
  · simp [e]
  · simp [e]
/-- A map's element is held as it is. -/
abbrev RV (v : Value) : Option (DataW Value × List MemPlace) := some (.held v, [])

/-- A device in memory, with all its parts. -/
structure DevX (w : World) (db : Nat) (st : Int) (S : DevS) (k N gl bm : Nat) (q : Int) (pv : Value) (gs : List Nat) (Dm : DataW Value) : Prop where
  good : Good S k
  blk : w.heap[db]? = some (.cells #[.int .i32 st, .int .u32 q, .slice (some ⟨gl, 0, none⟩) (512 * k) (512 * k), pv, .map (some bm), .int .i64 S.fuse, .bool S.off] 160 (0, 0))
  lst : w.heap[gl]? = some (bl S.last)
  row : w.ownsRow 0 186 2 pv S.pend.length (pc S.pend gs)
  gsl : gs.length = S.pend.length
  pn : S.pend.length ≤ N
  dat : ∀ (i : Nat) p g, S.pend[i]? = some p → gs[i]? = some g → w.heap[g]? = some (bl p.2)
  map : w.ownsMap Tryz.prog 3 RV bm N Dm
  at_ : ∀ b : Nat, b < 4096 → Maps.has Dm (.int .i64 b) = (newestG S.pend gs b).isSome ∧ ∀ zd, Dm.atKey (.int .i64 b) zd = ((newestG S.pend gs b).map (fun g => DataW.held (hv g))).getD zd
  a1 : db ≠ gl
  a2 : db ∉ gs
  a3 : gl ∉ gs
  a4 : pv.ownBlock ≠ some db
  a5 : pv.ownBlock ≠ some gl
  a6 : ∀ g ∈ gs, pv.ownBlock ≠ some g
/-- All blocks of a device. -/
structure Foot (F : Nat → Prop) (db gl bm : Nat) (pv : Value) (gs : List Nat) : Prop where
  f1 : F db
  f2 : F gl
  f3 : F bm
  f4 : ∀ b, pv.ownBlock = some b → F b
  f5 : ∀ g ∈ gs, F g
/-- A device in memory: its lock's state, what it holds, how many blocks; at most N entries of its map; its blocks lie in F. -/
def Dev (w : World) (db : Nat) (st : Int) (S : DevS) (k N : Nat) (F : Nat → Prop) : Prop := ∃ gl bm q pv gs Dm, DevX w db st S k N gl bm q pv gs Dm ∧ Foot F db gl bm pv gs ∧ ∀ i, F i → i < w.heap.size
/-- The old blocks, and all that are new. -/
def grow (F : Nat → Prop) (w w' : World) : Nat → Prop := fun i => F i ∨ (w.heap.size ≤ i ∧ i < w'.heap.size)
theorem grow_old {F : Nat → Prop} {w w' : World} : ∀ i, i < w.heap.size → grow F w w' i → F i := fun i hi h => h.elim id (fun h => by omega)

theorem dat_turns {F : Nat → Prop} {w w' : World} {ps : List (Nat × List Int)} {gs : List Nat} (h : ∀ (i : Nat) p g, ps[i]? = some p → gs[i]? = some g → w.heap[g]? = some (bl p.2)) (ht : Turns F w w') (hF : ∀ g ∈ gs, ¬ F g) :
    ∀ (i : Nat) p g, ps[i]? = some p → gs[i]? = some g → w'.heap[g]? = some (bl p.2) := fun i p g h1 h2 => by
  have hb := h i p g h1 h2
  exact (ht.block g (heap_lt hb) (hF g (List.mem_of_getElem? h2))).trans hb
theorem DevX.turns {G : Nat → Prop} {w w' : World} {db : Nat} {st : Int} {S : DevS} {k N gl bm : Nat} {q : Int} {pv : Value} {gs : List Nat} {Dm : DataW Value} (h : DevX w db st S k N gl bm q pv gs Dm) (ht : Turns G w w')
    (h1 : ¬ G db) (h2 : ¬ G gl) (h3 : ¬ G bm) (h4 : ∀ b, pv.ownBlock = some b → ¬ G b) (h5 : ∀ g ∈ gs, ¬ G g) : DevX w' db st S k N gl bm q pv gs Dm :=
  { h with
    blk := (ht.block db (heap_lt h.blk) h1).trans h.blk
    lst := (ht.block gl (heap_lt h.lst) h2).trans h.lst
    row := own_turns h.row ht h4
    dat := dat_turns h.dat ht h5
    map := map_turns h.map ht h3 }
theorem Dev.turns {F G : Nat → Prop} {w w' : World} {db : Nat} {st : Int} {S : DevS} {k N : Nat} (h : Dev w db st S k N F) (ht : Turns G w w') (hG : ∀ i, F i → ¬ G i) : Dev w' db st S k N F := by
  obtain ⟨gl, bm, q, pv, gs, Dm, h, f, hl⟩ := h
  exact ⟨gl, bm, q, pv, gs, Dm, h.turns ht (hG _ f.f1) (hG _ f.f2) (hG _ f.f3) (fun b hb => hG _ (f.f4 b hb)) (fun g hg => hG _ (f.f5 g hg)), f, fun i hi => Nat.lt_of_lt_of_le (hl i hi) ht.size⟩
theorem Dev.below {F : Nat → Prop} {w w' : World} {db : Nat} {st : Int} {S : DevS} {k N : Nat} (h : Dev w db st S k N F) (hb : Below w.heap.size w w') : Dev w' db st S k N F :=
  h.turns (Below.turns hb (fun _ => False)) (fun _ _ => id)
theorem Dev.foot {F G : Nat → Prop} {w : World} {db : Nat} {st : Int} {S : DevS} {k N : Nat} (h : Dev w db st S k N F) (hG : ∀ i, F i → G i) (hl : ∀ i, G i → i < w.heap.size) : Dev w db st S k N G := by
  obtain ⟨gl, bm, q, pv, gs, Dm, h, f, _⟩ := h
  exact ⟨gl, bm, q, pv, gs, Dm, h, ⟨hG _ f.f1, hG _ f.f2, hG _ f.f3, fun b hb => hG _ (f.f4 b hb), fun g hg => hG _ (f.f5 g hg)⟩, hl⟩
theorem Dev.lt {F : Nat → Prop} {w : World} {db : Nat} {st : Int} {S : DevS} {k N : Nat} (h : Dev w db st S k N F) : ∀ i, F i → i < w.heap.size := by
  obtain ⟨gl, bm, q, pv, gs, Dm, h, f, hl⟩ := h
  exact hl
theorem Dev.good {F : Nat → Prop} {w : World} {db : Nat} {st : Int} {S : DevS} {k N : Nat} (h : Dev w db st S k N F) : Good S k := by
  obtain ⟨gl, bm, q, pv, gs, Dm, h, f, hl⟩ := h
  exact h.good
theorem DevX.mdb {w : World} {db : Nat} {st : Int} {S : DevS} {k N gl bm : Nat} {q : Int} {pv : Value} {gs : List Nat} {Dm : DataW Value} (h : DevX w db st S k N gl bm q pv gs Dm) : bm ≠ db := fun e => by
  obtain ⟨es, cl, hb, _⟩ := h.map
  rw [e, h.blk] at hb; cases hb
theorem DevX.mgl {w : World} {db : Nat} {st : Int} {S : DevS} {k N gl bm : Nat} {q : Int} {pv : Value} {gs : List Nat} {Dm : DataW Value} (h : DevX w db st S k N gl bm q pv gs Dm) : bm ≠ gl := fun e => by
  obtain ⟨es, cl, hb, _⟩ := h.map
  rw [e, h.lst] at hb; cases hb
theorem DevX.mgs {w : World} {db : Nat} {st : Int} {S : DevS} {k N gl bm : Nat} {q : Int} {pv : Value} {gs : List Nat} {Dm : DataW Value} (h : DevX w db st S k N gl bm q pv gs Dm) : bm ∉ gs := fun e => by
  obtain ⟨i, hi⟩ := List.mem_iff_getElem?.1 e
  have hlt : i < S.pend.length := by rw [← h.gsl]; exact (List.getElem?_eq_some_iff.1 hi).1
  obtain ⟨es, cl, hb, _⟩ := h.map
  rw [h.dat i _ _ (List.getElem?_eq_getElem hlt) hi] at hb; cases hb
theorem DevX.mpv {w : World} {db : Nat} {st : Int} {S : DevS} {k N gl bm : Nat} {q : Int} {pv : Value} {gs : List Nat} {Dm : DataW Value} (h : DevX w db st S k N gl bm q pv gs Dm) : pv.ownBlock ≠ some bm := fun e => by
  obtain ⟨es, cl, hb, _⟩ := h.map
  rcases h.row.2 with ⟨hv, _⟩ | ⟨g, cap, cur, hv, _, hg, _⟩
  · subst hv; cases e
  · subst hv
    obtain rfl : g = bm := by simpa [Value.ownBlock] using e
    rw [hg] at hb; cases hb

/-- One cell of the device's own block is written. -/
theorem DevX.db {w : World} {db : Nat} {st st' : Int} {S S' : DevS} {k N gl bm : Nat} {q : Int} {pv : Value} {gs : List Nat} {Dm : DataW Value} (h : DevX w db st S k N gl bm q pv gs Dm) (j : Nat) (v : Value)
    (hS : S'.last = S.last ∧ S'.pend = S.pend ∧ S'.fuse ≤ 9223372036854775807)
    (hb : (#[.int .i32 st, .int .u32 q, .slice (some ⟨gl, 0, none⟩) (512 * k) (512 * k), pv, .map (some bm), .int .i64 S.fuse, .bool S.off] : Array Value).setIfInBounds j v = #[.int .i32 st', .int .u32 q, .slice (some ⟨gl, 0, none⟩) (512 * k) (512 * k), pv, .map (some bm), .int .i64 S'.fuse, .bool S'.off]) :
    DevX (w.setCell ⟨db, j, none⟩ v) db st' S' k N gl bm q pv gs Dm := by
  have ht : Turns (fun i => i = db) w (w.setCell ⟨db, j, none⟩ v) := Turns.setCell w j v rfl
  have hx := h.turns (G := fun i => i = db) (w' := w.setCell ⟨db, j, none⟩ v)
  obtain ⟨e1, e2, e3⟩ := hS
  refine ⟨⟨by rw [e1]; exact h.good.len, h.good.pos, h.good.top, by rw [e1]; exact h.good.by_, by rw [e2]; exact h.good.pend, e3⟩, ?_, ?_, ?_, by rw [e2]; exact h.gsl, by rw [e2]; exact h.pn, ?_, ?_, by rw [e2]; exact h.at_, h.a1, h.a2, h.a3, h.a4, h.a5, h.a6⟩
  · rw [heap_setCell_same _ _ _ _ _ _ h.blk, hb]
  · rw [e1]; exact (ht.block gl (heap_lt h.lst) (fun e => h.a1 e.symm)).trans h.lst
  · rw [e2]; exact own_turns h.row ht (fun b hb e => h.a4 (by rw [hb, e]))
  · rw [e2]; exact dat_turns h.dat ht (fun g hg e => h.a2 (by rw [← e]; exact hg))
  · exact map_turns h.map ht h.mdb
/-- The cells of the device's own block. -/
theorem DevX.cells {w : World} {db : Nat} {st : Int} {S : DevS} {k N gl bm : Nat} {q : Int} {pv : Value} {gs : List Nat} {Dm : DataW Value} (h : DevX w db st S k N gl bm q pv gs Dm) :
    w.cell? ⟨db, 0, none⟩ = some (.int .i32 st) ∧ w.cell? ⟨db, 2, none⟩ = some (.slice (some ⟨gl, 0, none⟩) (512 * k) (512 * k)) ∧ w.cell? ⟨db, 3, none⟩ = some pv ∧ w.cell? ⟨db, 4, none⟩ = some (.map (some bm)) ∧ w.cell? ⟨db, 5, none⟩ = some (.int .i64 S.fuse) ∧ w.cell? ⟨db, 6, none⟩ = some (.bool S.off) ∧ ∀ j, w.frozen? ⟨db, j, none⟩ = false := by
  refine ⟨?_, ?_, ?_, ?_, ?_, ?_, fun j => ?_⟩ <;> simp [World.cell?, World.frozen?, h.blk]
end Go.Proofs.YtlcjkbhcbiggcaaGreatDoor

/- The numbers under which this dump holds sync.Mutex's functions and types, and that it holds them. -/
namespace Go.Proofs.YtlcjkbhcbiggcaaGreatDoor
abbrev muLink : Go.Conc.Locks.MuLink := { lock := 97, unlock := 98, ilock := 155, iunlock := 156, lockSlow := 210, unlockSlow := 213, disable := 206, enable := 208, acquire := 209, relMerge := 211, cas32 := 207, add32 := 212, tMutex := 158, tIMutex := 156, tPMutex := 213, tPIMutex := 252, tPI32 := 254, tUP := 222, tNoCopy := 153, tU32 := 154 }
theorem muLib : Go.Conc.Locks.MuLib Tryz.prog muLink :=
  ⟨Tryz.func97, Tryz.func98, Tryz.func155, Tryz.func156, Tryz.func206, Tryz.func208, Tryz.func209, Tryz.func211, Tryz.func207, Tryz.func212, Tryz.underlying156, Tryz.runUnderlying156, Tryz.sizeOf156, Tryz.isAgg156, Tryz.zeroValue156, Tryz.underlying158, Tryz.runUnderlying158, Tryz.sizeOf158, Tryz.isAgg158, Tryz.zeroValue158, Tryz.underlying213, Tryz.runUnderlying213, Tryz.sizeOf213, Tryz.isAgg213, Tryz.zeroValue213, Tryz.underlying252, Tryz.runUnderlying252, Tryz.sizeOf252, Tryz.isAgg252, Tryz.zeroValue252, Tryz.underlying254, Tryz.runUnderlying254, Tryz.sizeOf254, Tryz.isAgg254, Tryz.zeroValue254, Tryz.underlying222, Tryz.runUnderlying222, Tryz.sizeOf222, Tryz.isAgg222, Tryz.zeroValue222, Tryz.underlying153, Tryz.runUnderlying153, Tryz.sizeOf153, Tryz.isAgg153, Tryz.zeroValue153, Tryz.underlying21, Tryz.runUnderlying21, Tryz.sizeOf21, Tryz.isAgg21, Tryz.zeroValue21, (by kernel_rfl)⟩
end Go.Proofs.YtlcjkbhcbiggcaaGreatDoor

/- The device's small functions by their contracts: copied, canBe, blocks, has, block, burn; the lock. -/
namespace Go.Proofs.YtlcjkbhcbiggcaaGreatDoor
open Go.RowKit
open Go.MuLone
set_option maxRecDepth 100000

theorem made_row (w : World) (n : Nat) : (w.alloc (.cells (madeCells #[.int .u8 0] n) 5)).heap[w.heap.size]? = some (.cells (List.replicate n (Value.int .u8 0)).toArray 5 (0, 0)) := by
  have e : madeCells #[Value.int .u8 0] n = (List.replicate n (Value.int .u8 0)).toArray := by
    rw [← toList_madeCells_one]
  rw [e]
  exact (MapKept.heap_alloc w _).1
theorem splice_whole {α : Type} (L cs : List α) (h : cs.length = L.length) : splice L 0 cs = cs := by
  simp [splice, h]

set_option maxHeartbeats 1000000 in
theorem copied_any (ao : Option Addr) (n c : Nat) (bs : List Int) (w : World) (hn : n ≤ 140737488355328) (hL : Lies w ao n c bs) :
    Calls Tryz.prog 174 #[.slice ao n c] w fun e w' => ∃ g, e = .returned (.slice (some ⟨g, 0, none⟩) n n) ∧ w.heap.size ≤ g ∧ w'.heap[g]? = some (bl bs) ∧ Below w.heap.size w w' := by
  obtain ⟨i0, hi, hz0, hz1, hz2⟩ := info_parts Tryz.info5
  have hni : (n : Int) ≤ 140737488355328 := by omega
  have hlen := hL.hlen
  have hsz : (Tryz.prog.info? 5).map (·.size) = some 1 := by rw [hi]; simp [hz1]
  have hL1 : Lies (w.alloc (.cells (madeCells #[.int .u8 0] n) 5)) ao n c bs := hL.below ((Below.refl _ w).alloc (Nat.le_refl _) _) (Nat.le_refl _)
  have hpos : 0 < (bs.map (Value.int .u8)).length → (some ⟨w.heap.size, 0, none⟩ : Option Addr) = some ⟨w.heap.size, 0, none⟩ ∧ ∃ ad, ao = some ad ∧ ∀ j v, (bs.map (Value.int .u8))[j]? = some v → (w.alloc (.cells (madeCells #[.int .u8 0] n) 5)).cell? (ad.add j) = some v := fun hp => by
    cases hao : ao with
    | none => have := (hL.hnone hao).1; simp at hp; omega
    | some ad => exact ⟨rfl, ad, rfl, hL1.hcells ad hao⟩
  have hrow := made_row w n
  have hbel : Below w.heap.size w (w.alloc (.cells (madeCells #[.int .u8 0] n) 5)) := (Below.refl _ w).alloc (Nat.le_refl _) _
  go_enter Tryz.func174, Tryz.ntmps174
  go_wp2_with (first
    | (at_make; (refine wpList_make_row _ rfl _ _ 39 rfl 5 i0 (.int .u8 0) Tryz.underlying39 hi hz0 hz1 rfl _ _ n rfl rfl (by rw [hz2]; omega) (by omega) ?_))
    | (refine wpList_copy_splice rfl _ _ 39 39 rfl 5 Tryz.underlying39 hsz _ _ _ _ _ _ rfl rfl w.heap.size 0 (List.replicate n (Value.int .u8 0)) 5 hrow (bs.map (Value.int .u8)) (by simp [hlen]) hpos (by simp [hlen]) (ints_oneCell _ _) w.heap.size w hbel (Nat.le_refl _) ?_; intro w2 HG2 hB2))
  go_ret
  refine ⟨_, rfl, Nat.le_refl _, ?_, hB2⟩
  rw [HG2.out, splice_whole _ _ (by simp [hlen])]

theorem canBe_any (n : Int) (w : World) : Calls Tryz.prog 65 #[.int .i64 n] w fun e w' => e = .returned (.bool (decide (1 ≤ n ∧ n ≤ 4096))) ∧ w' = w := by
  go_enter Tryz.func65, Tryz.ntmps65
  go_wp2
  all_goals go_ret
  all_goals refine ⟨?_, rfl⟩
  all_goals (try simp)
  all_goals (try omega)

theorem blocks_any (db : Nat) (k : Nat) (gl : Option Addr) (w : World) (hk : k ≤ 4096) (c2 : w.cell? ⟨db, 2, none⟩ = some (.slice gl (512 * k) (512 * k))) :
    Calls Tryz.prog 170 #[.pointer (some ⟨db, 0, none⟩)] w fun e w' => e = .returned (.int .i64 k) ∧ w' = w := by
  go_enter Tryz.func170, Tryz.ntmps170
  go_wp2
  go_ret
  refine ⟨?_, rfl⟩
  congr 2

theorem has_any (db : Nat) (k : Nat) (gl : Option Addr) (b : Int) (w : World) (hk : k ≤ 4096) (c2 : w.cell? ⟨db, 2, none⟩ = some (.slice gl (512 * k) (512 * k))) :
    Calls Tryz.prog 171 #[.pointer (some ⟨db, 0, none⟩), .int .i64 b] w fun e w' => e = .returned (.bool (decide (0 ≤ b ∧ b < k))) ∧ w' = w := by
  go_enter Tryz.func171, Tryz.ntmps171
  go_wp2_with (go_at_call 170; refine (blocks_any db k gl _ hk c2).mono ?_; rintro e wn ⟨rfl, hwn⟩; subst wn)
  all_goals go_ret
  all_goals refine ⟨?_, rfl⟩
  all_goals (try simp)
  all_goals (try omega)

theorem block_any (db : Nat) (k gl : Nat) (b : Nat) (w : World) (hb : b < k) (hk : k ≤ 4096) (c2 : w.cell? ⟨db, 2, none⟩ = some (.slice (some ⟨gl, 0, none⟩) (512 * k) (512 * k))) :
    Calls Tryz.prog 214 #[.pointer (some ⟨db, 0, none⟩), .int .i64 b] w fun e w' => e = .returned (.slice (some ⟨gl, 512 * b, none⟩) 512 (512 * k - 512 * b)) ∧ w' = w := by
  have h1 : (b : Int) < k := by omega
  have h2 : (k : Int) ≤ 4096 := by omega
  go_enter Tryz.func214, Tryz.ntmps214
  go_wp2
  go_ret
  refine ⟨?_, rfl⟩
  have e1 : b * 512 = 512 * b := by omega
  have e2 : (b + 1) * 512 - b * 512 = 512 := by omega
  show Ending.returned (.slice (some ⟨gl, b * 512, none⟩) ((b + 1) * 512 - b * 512) (512 * k - b * 512)) = _
  rw [e2, e1]

/-- The lock is taken. -/
theorem lock_dev {w : World} {db : Nat} {S : DevS} {k N gl bm : Nat} {q : Int} {pv : Value} {gs : List Nat} {Dm : DataW Value} (h : DevX w db 0 S k N gl bm q pv gs Dm) :
    Calls Tryz.prog 97 #[.pointer (some ⟨db, 0, none⟩)] w fun e w' => e = .returned (.tuple #[]) ∧ DevX w' db 1 S k N gl bm q pv gs Dm ∧ Turns (fun i => i = db) w w' := by
  refine (lock_free muLib ⟨db, 0, none⟩ w h.cells.1 (h.cells.2.2.2.2.2.2 0)).mono ?_
  rintro e w' ⟨rfl, rfl⟩
  exact ⟨rfl, h.db 0 _ ⟨rfl, rfl, h.good.fuse⟩ rfl, Turns.cell w db 0 _⟩
/-- The lock is let go, by a deferred call. -/
theorem unlock_dev {w : World} {db : Nat} {S : DevS} {k N gl bm : Nat} {q : Int} {pv : Value} {gs : List Nat} {Dm : DataW Value} (u : FrameMode) (h : DevX w db 1 S k N gl bm q pv gs Dm) :
    CallsD Tryz.prog 98 #[.pointer (some ⟨db, 0, none⟩)] u w fun e u' w' => u' = u ∧ e = .returned (.tuple #[]) ∧ DevX w' db 0 S k N gl bm q pv gs Dm ∧ Turns (fun i => i = db) w w' := by
  refine (unlock_deferred muLib ⟨db, 0, none⟩ u w h.cells.1 (h.cells.2.2.2.2.2.2 0)).mono ?_
  rintro e u' w' ⟨rfl, rfl, rfl⟩
  exact ⟨rfl, rfl, h.db 0 _ ⟨rfl, rfl, h.good.fuse⟩ rfl, Turns.cell w db 0 _⟩

set_option maxHeartbeats 1000000 in
theorem burn_any {w : World} {db : Nat} {st : Int} {S : DevS} {k N gl bm : Nat} {q : Int} {pv : Value} {gs : List Nat} {Dm : DataW Value} (h : DevX w db st S k N gl bm q pv gs Dm) :
    Calls Tryz.prog 172 #[.pointer (some ⟨db, 0, none⟩)] w fun e w' => e = .returned (.tuple #[]) ∧ DevX w' db st (burnt S) k N gl bm q pv gs Dm ∧ Turns (fun i => i = db) w w' := by
  obtain ⟨c0, c2, c3, c4, c5, c6, fz⟩ := h.cells
  have f5 := fz 5
  have f6 := fz 6
  have hfu := h.good.fuse
  by_cases h0 : S.fuse = 0
  · have e0 : burnt S = S := by unfold burnt; rw [if_pos h0]
    rw [e0]
    rw [h0] at c5
    have HX : Hid (DevX w db st S k N gl bm q pv gs Dm) := h
    clear h fz
    go_enter Tryz.func172, Tryz.ntmps172
    go_wp2
    (first | go_end0 | refine bodyPost_ret (results_none rfl _ _ _) rfl ?_)
    exact ⟨rfl, HX.out, Turns.refl _ _⟩
  · obtain ⟨f, hf⟩ : ∃ f, S.fuse = f + 1 := ⟨S.fuse - 1, by omega⟩
    have hs := h.db (S' := { S with fuse := f }) (st' := st) 5 (.int .i64 f) ⟨rfl, rfl, by simp; omega⟩ rfl
    have HX : Hid _ := hs
    by_cases h1 : f = 0
    · have e0 : burnt S = { S with fuse := f, off := true } := by unfold burnt; rw [if_neg h0, hf, h1]; simp
      have hs2 := hs.db (S' := { S with fuse := f, off := true }) (st' := st) 6 (.bool true) ⟨rfl, rfl, by simp; omega⟩ rfl
      have HX2 : Hid _ := hs2
      rw [e0]
      have hfi : (S.fuse : Int) = 1 := by omega
      subst h1
      rw [hfi] at c5
      clear h fz hs hs2
      go_enter Tryz.func172, Tryz.ntmps172
      go_wp2
      (first | go_end0 | refine bodyPost_ret (results_none rfl _ _ _) rfl ?_)
      exact ⟨rfl, HX2.out, (Turns.cell w db 5 _).trans (Turns.cell _ db 6 _) (fun _ _ h => h)⟩
    · have e0 : burnt S = { S with fuse := f } := by unfold burnt; rw [if_neg h0, hf, decide_eq_false (by omega)]; simp
      rw [e0]
      have hfi : (S.fuse : Int) = f + 1 := by omega
      have hne : ((f : Int) == 0) = false := by simp; omega
      have hfb : (f : Int) ≤ 9223372036854775806 := by omega
      rw [hfi] at c5
      clear h fz hs
      go_enter Tryz.func172, Tryz.ntmps172
      go_wp2
      (first | go_end0 | refine bodyPost_ret (results_none rfl _ _ _) rfl ?_)
      exact ⟨rfl, HX.out, Turns.cell w db 5 _⟩
end Go.Proofs.YtlcjkbhcbiggcaaGreatDoor
